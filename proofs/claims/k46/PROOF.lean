import PyProof.Rows.All
import Wide.All
import OpenK.AllK
import Wide.FinOn
import Lean
import PyProof.EqAt
import PyProof.EqKinds
import PyProof.TupleCall
import PyProof.NeKinds
import PyProof.ZipIter
import PyProof.Draws
import PyProof.FactsAll.zip
import KE.KSortTup
import KE.KDictSum
import PyProof.TupleOfSeq
import PyProof.StrWalks
import PyProof.Rows.SetFrom
import KE.KRevIter
import PyProof.Rows.Range3
import KE.KTryMore
import KE.KIsNot
import PyProof.ExcArgsOwn
import PyProof.ExcAttrAll.ValueError
import PyProof.ExcBaseAll.ValueError
import PyProof.NsDelKeeps
import PyProof.Rows.CallKwBuiltin
import PyProof.WalkInts
import PyProof.Rows.Catch
import KE.KLam
import KE.KNestM
import PyProof.FactsAll.list_3
import KE.KDictList
import PyProof.Rows.CountFlat
import KE.KDictOf
import PyProof.AttrMissHeap
import PyProof.DictFindH
import PySem.Challenge.RW_twoglass_k46_whole_nested_and_back
set_option Elab.async false
set_option linter.all false
set_option maxRecDepth 100000
open List renaming filterMap_cons→QM,mem_cons_self→QN,mem_cons_of_mem→QO,mem_append_left→QP,getElem?_set_self→QQ,getElem?_set_ne→QR,mem_append_right→QU,size_toArray→QX,length_cons→QZ,map_cons→Q0,length_map→Q1,append_nil→Q4,of_mem_zip→Q6,length_take→Q7,getElem?_append_right→Q8,getElem?_replicate→Q9,getElem?_append_left→Ra,getElem?_map→Rb,take_sublist→Rc,mem_of_getElem?→Rf,length_append→Rg,length_drop→Ri,length_singleton→Rm,map_nil→Ro,find?_cons→Rp,any_cons→Rq,length_nil→Rr,nodup_nil→Rv,lookup_cons→Rw,forIn_cons→Rx,cons_append→RA,take_zero→RB,take_nil→RC,take_succ_cons→RD,drop_zero→RE,drop_succ_cons→RF,all_cons→RG,range_succ_eq_map→RH,getElem?_eq_getElem→RJ,getElem_of_mem→RN,nil_append→RO,map_congr_left→RP,map_append→RQ,take_add_one→RT,length_range→RU,take_length→RV,getElem?_range→RX,drop_eq_getElem_cons→RY,append_assoc→R0,drop_length→R1,mem_cons→R3,not_mem_nil→R4,getElem?_cons_zero→R5,getElem?_cons_succ→R6,zip_cons_cons→Sb,contains_cons→Sd,nodup_append→Sf,replicate_zero→Si,any_map→Sj,zip_nil_right→Sl,replicate_succ→Sn,foldl_cons→Sq,not_lt_nil→Sr,nil_lt_cons→Ss,cons_lt_cons_iff→Su,pairwise_singleton→Sv,filter_cons_of_pos→Sw,filter_cons_of_neg→Sx,getElem_mem→Sy,pairwise_map→Sz,getD_eq_getElem?_getD→SA,map_map→SD,mem_nil_iff→SE,toList_toArray→SF,getElem?_eq_none→SH,take_of_length_le→SJ,mem_singleton→SK,find?_cons_of_pos→SR,find?_cons_of_neg→SU,set_cons_zero→SV,set_cons_succ→SW,getElem_map→S0,foldl_append→S5,take_take→S6,getLast?_append→S7,getLast?_eq_getLast→S8,getLast_mem→S9,dropLast_concat_getLast→Ta,flatMap_cons→Tb,flatMap_append→Tc,flatMap_singleton→Td,map_singleton→Te,take_append_drop→Tf,map_id→Tg,take_succ_eq_append_getElem→Th,getElem_append_right→Ti,take_left→Tj,mem_of_mem_take→To,mem_of_mem_drop→Tp,map_take→Tq
open Int renaming natCast_nonneg→QV,fdiv_eq_ediv_of_nonneg→QW,toNat_natCast→Rh,emod_nonneg→S3,emod_lt_of_pos→S4,toNat_of_nonneg→Tn
open Nat renaming lt_of_lt_of_le→QH,lt_irrefl→QI,ne_of_lt→QJ,le_trans→QK,le_of_lt→QL,ne_of_gt→QS,le_refl→QT,le_of_eq→Q2,zero_le→Q3,le_succ→Q5,lt_trans→Ru,lt_succ_of_lt→Rz,min_self→RK,sub_zero→RW,lt_of_le_of_lt→RZ,le_add_right→R7,add_lt_add_left→R8,lt_add_of_pos_right→R9,zero_add→Sa,sub_self→Sg,lt_or_ge→SG,le_total→SL,min_eq_left→SM,min_eq_right→SN
open Bool renaming false_ne_true→QY,and_eq_true→Rj,and_false→Rn,false_eq_true→Ry,and_true→RL,or_eq_true→RM,or_eq_false_iff→Se,not_true→SY,not_false→SZ
open Option renaming getD_none→Rl,isSome_map→Rt
open PySem renaming Value→UJ,World→UK,Program→UL,Addr→UM,Paired→UN,Heap→UO,sizeLine→UP,mainGlobals→UR,builtinsNs→UT,bootBuiltins→UU,Around→UV,Shared→UW,Scope→UX,wpAny→UY,Expr→UZ,starEach→U0,Stmt→U1,wpAny_mono→U2,wpAny_Name→U3,wpAny_truthy_bool→U4,wpAny_execs_nil→U5,wpAny_pure→U6,wpAny_bind→U7,IsRangeIter→U8,wpAny_pyIter_list→U9,PassesOwn→Va,foldedSetIterable→Vb,wpAny_passesOwn→Vc,binaryOp→Vd,compareOp→Ve,CmpOp→Vf,behindInMarks→Vg,sizeLine_eq→Vh,Result→Vi,codeAny→Vj,attributeBase→Vk,callWith→Vl,keywordEach→Vm,recursionLimit→Vn,cLine→Vo,FuncData→Vp,BindsTo→Vq,wpAny_call→Vr,codeAny_mono→Vs,wpAny_Call_Name_kw→Vt,Keyword→Vu,wpAny_standAt→Vv,NameKind→Vw,Arguments→Vx,concat_meets→Vy,noFill_tuple_add→Vz,seq_tuple_add→VA,IsPart→VB,wpAny_field→VC,wpAny_holding→VD,wpAny_callSpecial?_slot→VE,wpAny_call_entry→VF,wpAny_typeOf→VG,wpAny_newObj_type→VH,evalPart_none→VI,tupleKind_room_in1→VL,wpAny_comprehension_free→VM,wpAny_rule→VN,wpAny_getItem_str_slice→VO,post_val_or_str→VP,wpAny_seqItems→VQ,wpAny_setField→VR,wpAny_of_eq→VS,wpAny_handled→VU,IsZip→VV,IsPair→VW,wpAny_setField_rec→VX,wpAny_onRaise→VY,wpAny_updateSeq_pair→VZ,wpAny_letGo→V0,wpAny_newTuple→V2,wpAny_attempt→V3,wpAny_isInstance→V4,isSubtype_stop→V5,wpAny_newList→Wb,wpAny_collect_seq→Wc,codeAny_builtin→Wd,wpAny_tryCatch→We,wpAny_updateSeq→Wf,plainId_quiet→Wg,wpAny_notOrdered_dict→Wi,wpAny_dictEntries→Wj,DictEntry→Wk,wpAny_dictEpoch→Wl,IsItemIter→Wm,IsItemIterOut→Wn,wpAny_typeNameOfWhole_itemiter→Wo,wpAny_typeNameOf_itemiter→Wp,wpAny_fieldsOf→Wq,wpAny_isOneOf_itemiter→Wr,wpAny_typeNameOfWhole_keyiter→Wt,wpAny_typeNameOf_keyiter→Wu
open PySem.W renaming instObj→Tr,methodObj→Ts,Frag→Tt,lookIn→Tu,plainGet→Tv,hasDictIn→Tw,findIn→Tx,handedIn→Tz,plainGet_of→TB,isFn→TC,plainOver→TF,takerIn→TH,makesIn→TJ,emptyDict→TK,keepIn→TL,callWith_K→TN,cellsFrom_some→TQ,fnOf→TR,codeIn→TU,nsIn→TV,kitOne→TY,kia_one→TZ,BoolBack→T2,tabObj→T3,kla_fn→T5,OpenLaw→T6,kdl_call→T7,codeHdIn→T8,mg_of→T9,mg_none_of→Ua,kas_ask→V7,kla_obj→Wh
open PySem.Heap renaming lt_size→Ub,get?_none_of_le→Uc,SameBut→Ud,get?_push_of_some→Ue,get?_push_size→Ug,size_push→Uh,get?_update_other→Ui,get?_update_self→Uj,ExtBut→Uk,get?_push_ne→Ul,size_update→Um,get?_update_ne→Uo
open PyProof.Rows renaming callWith_type1→Uq,slot_tuple_getitem→Ur,envOfC→Us,IsTup→Ut,Call_→Uu,callWith_kw→Uv,boot_str→Uw,boot_bool→Ux,boot_int→Uy,boot_tuple→Uz,boot_dict→UA,boot_list→UB,boot_max→UC,IsTup→UQ,Subscript_→VJ,SortKind→V6,listUpdate_at→V8,get?_update_seq→V9,seqEpoch_at→Wa
open PySem.F renaming slot_tuple_add→UD,entry_tuple_add→UE,args_tuple_add_2→UG,slot_list_append→UH,type_list_append→UI
set_option maxHeartbeats 1000000
local macro_rules | `(‹1›)=>`(by first | exact Or.inl rfl | exact Or.inr rfl)
local macro_rules | `(‹2›)=>`(⟨rfl, rfl, rfl, by decide +kernel, rfl, by decide +kernel, by decide +kernel⟩)
local macro_rules | `(‹0›)=>`(by omega)
namespace L2
open PySem PySem.Spec PyProof.Rows
abbrev Key:=Sum Int Str
def sd:Key->UJ->Bool
 |.inl k,v=>Value.isInt k v
 |.inr x,v=>Value.isStrOf x v
def Og(w:UK):Key->Int
 |.inl k=>hashInt k
 |.inr x=>hashStr w x
def dq:∀{k:Key}{v:UJ},sd k v=true->(∃i t,k=Sum.inl i/\v=Value.int i t)\/(∃x t,k=Sum.inr x/\v=Value.str x t)
 |.inl i,v,h=>by
  obtain⟨t,e⟩:=Value.isInt_shape (k:=i) (v:=v) h;exact .inl ⟨i,t,rfl,e⟩
 |.inr x,v,h=>by
  obtain⟨t,e⟩:=Value.isStrOf_shape (x:=x) (v:=v) h;exact .inr ⟨x,t,rfl,e⟩
def C1(i:Int)(t:Tok):sd (.inl i) (.int i t)=true:=by simp[sd,Value.isInt]
def Do(x:Str)(t:Tok):sd (.inr x) (.str x t)=true:=by simp[sd,Value.isStrOf]
def J2(a b:Int):decide ((Sum.inl a:Key)=Sum.inl b)=(a==b):=by
 by_cases e:a=b
 ·subst e;simp
 ·have h:¬(Sum.inl a:Key)=Sum.inl b:=λq=>e (Sum.inl.inj q);rw[decide_eq_false h];exact(beq_eq_false_iff_ne.mpr e).symm
def Lj(a b:Str):decide ((Sum.inr a:Key)=Sum.inr b)=decide (a=b):=by
 by_cases e:a=b
 ·subst e;simp
 ·have h:¬(Sum.inr a:Key)=Sum.inr b:=λq=>e (Sum.inr.inj q);rw[decide_eq_false h,decide_eq_false e]
def Ki(a:Int)(b:Str):decide ((Sum.inl a:Key)=Sum.inr b)=false:=decide_eq_false (λq=>nomatch q)
def La(a:Str)(b:Int):decide ((Sum.inr a:Key)=Sum.inl b)=false:=decide_eq_false (λq=>nomatch q)
def bY(prog:UL)(w:UK):PySem.KeyKind prog w Key where
 is:=sd
 hash:=Og w
 inj:=λv a b ha hb=>by
  rcases dq ha with⟨i,t,rfl,rfl⟩|⟨x,t,rfl,rfl⟩
  ·rcases dq hb with⟨j,u,rfl,e⟩|⟨y,u,rfl,e⟩
   ·injection e with e1 _;rw[e1]
   ·exact nomatch e
  ·rcases dq hb with⟨j,u,rfl,e⟩|⟨y,u,rfl,e⟩
   ·exact nomatch e
   ·injection e with e1 _;rw[e1]
 byValue:=λk v h=>by
  rcases dq h with⟨i,t,rfl,rfl⟩|⟨x,t,rfl,rfl⟩<;>rfl
 pyHash:=λhv h=>by
  rcases dq hv with⟨i,t,rfl,rfl⟩|⟨x,t,rfl,rfl⟩
  ·exact wpAny_pyHash_int h
  ·exact wpAny_pyHash_str h
 eqBool:=λhu hv h=>by
  rcases dq hu with⟨i,t,rfl,rfl⟩|⟨x,t,rfl,rfl⟩
  ·rcases dq hv with⟨j,u,rfl,rfl⟩|⟨y,u,rfl,rfl⟩
   ·rw[J2]at h;exact wpAny_eqBool_int h
   ·rw[Ki]at h;exact SeqAt.EqAt.int_str i t y u _ _ _ _ h
  ·rcases dq hv with⟨j,u,rfl,rfl⟩|⟨y,u,rfl,rfl⟩
   ·rw[La]at h;exact SeqAt.EqAt.str_int x t j u _ _ _ _ h
   ·rw[Lj]at h;exact wpAny_eqBool_str h
 «strs»:=λk x t v h=>by
  rcases dq h with⟨i,u,rfl,e⟩|⟨y,u,rfl,e⟩
  ·exact nomatch e
  ·injection e with e1 _;subst e1;cases v<;>rfl
theorem Bj(prog:UL)(w:UK)(k:Key)(v:UJ):(bY prog w).is k v=sd k v:=rfl
def yf(prog:UL)(w:UK)(i:Int)(t:Tok):(bY prog w).is (.inl i) (.int i t)=true:=C1 i t
def zM(prog:UL)(w:UK)(x:Str)(t:Tok):(bY prog w).is (.inr x) (.str x t)=true:=Do x t
inductive V where
 |non|bl (b:Bool)|int (i:Int)|str (x:Str)|byt (b:Array UInt8)|flt (b:UInt64)|ref (a:UM)|ty (n:String)
 deriving DecidableEq
def RelV:V->UJ->Prop
 |.non,u=>u=Value.none
 |.bl b,u=>u=Value.bool b
 |.int i,u=>∃t,u=Value.int i t
 |.str x,u=>∃t,u=Value.str x t
 |.byt b,u=>∃t,u=Value.bytes b t
 |.flt b,u=>∃t,u=Value.float b t
 |.ref a,u=>u=Value.ref a
 |.ty n,u=>u=Value.type n
abbrev Vals:List V->List UJ->Prop:=UN RelV
def Vals.length{xs:List V}{us:List UJ}(r:Vals xs us):xs.length=us.length:=Paired.length r
def Vals.get:∀{xs:List V}{us:List UJ}{i:Nat}{x:V},Vals xs us->xs[i]?=some x->∃u,us[i]?=some u/\RelV x u
 |_,_,_,_,.nil,e=>by simp at e
 |_,_,0,_,.cons r _,e=>by simp at e;subst e;exact⟨_,rfl,r⟩
 |_,_,i+1,x,.cons _ t,e=>by
  obtain⟨u,h1,h2⟩:=Vals.get (i:=i) (x:=x) t (by simpa using e);exact⟨u,by simpa using h1,h2⟩
def Vals.append:∀{xs ys:List V}{us ws:List UJ},Vals xs us->Vals ys ws->Vals (xs++ys) (us++ws)
 |_,_,_,_,.nil,s=>s
 |_,_,_,_,.cons r t,s=>.cons r (Vals.append t s)
def Vals.take:∀{xs:List V}{us:List UJ}(n:Nat),Vals xs us->Vals (xs.take n) (us.take n)
 |_,_,0,_=>.nil
 |_,_,_+1,.nil=>.nil
 |_,_,n+1,.cons r t=>.cons r (Vals.take n t)
def Vals.drop:∀{xs:List V}{us:List UJ}(n:Nat),Vals xs us->Vals (xs.drop n) (us.drop n)
 |_,_,0,r=>r
 |_,_,_+1,.nil=>.nil
 |_,_,n+1,.cons _ t=>Vals.drop n t
def ua:Option V->Option UJ->Prop
 |some v,some u=>RelV v u
 |none,none=>True
 |_,_=>False
def KV{κ:Type}:List (κ×V)->List (κ×UJ)->Prop:=UN λ(p:κ×V)(q:κ×UJ)=>p.1=q.1/\RelV p.2 q.2
def kV:Key->V
 |.inl i=>.int i
 |.inr x=>.str x
inductive HO where
  |lst (xs:List V)
  |tup (xs:List V)
  |dK (kvs:List (Key×V))|dT (kvs:List (List Key×V))
  |set (S:Int->Bool) (n:Nat)
  |ins (C dx:UM) (fs:List (Str×V))
  |own (x:UM)
  |xd (fs:List (Str×V))
  |met (f x:UM)
  |rng (lo hi:Int)
  |frz (o:Obj) (u:HO)
  |tbl (ps:Array UJ)
  |ext (φ:(UM->Prop)->UO->Prop)
abbrev Hp:=UM->Option HO
def upd(H:Hp)(a:UM)(o:HO):Hp:=λb=>if b=a then some o else H b
def aX{H:Hp}{a:UM}{o:HO}:upd H a o a=some o:=by unfold upd;rw[if_pos rfl]
def aD{H:Hp}{a b:UM}{o:HO}(h:b≠a):upd H a o b=H b:=by unfold upd;rw[if_neg h]
def Hz{H:Hp}{a:UM}{o u:HO}:upd (upd H a o) a u=upd H a u:=by
 funext b;unfold upd;split<;>rfl
def E6{H:Hp}{a b:UM}{o u:HO}(h:H a=some o)(h':H b=some u)(d:o≠u):a≠b:=by
 intro e;subst e;rw[h]at h';exact d (Option.some.inj h')
def bc{H:Hp}{a b:UM}{o:HO}(h:H a=some o)(h':H b=none):a≠b:=by
 intro e;subst e;rw[h]at h';cases h'
section
variable(P:UL)(w:UK)
def cH(H:Hp)(h:UO)(a:UM):HO->Prop
 |.lst xs=>xs.length<=UP/\∃(its:List UJ)(n:Nat),Vals xs its/\h.get? a=some {cls:=.type "list",data:=.seq its.toArray n}
 |.tup xs=>xs.length<=UP/\∃its:List UJ,Vals xs its/\UQ h a its.toArray
 |.dK kvs=>kvs.length<=UP/\(a==sysModules)=false/\∃vs,KV kvs vs/\h.DictOf (bY P w) a vs
 |.dT kvs=>kvs.length<=UP/\(a==sysModules)=false/\∃xs:List (List Key×UM×UJ),
   UN (λ(p:List Key×V)(q:List Key×UM×UJ)=>p.1=q.1/\H q.2.1=some (.tup (p.1.map kV))/\RelV p.2 q.2.2) kvs xs/\
   ∃o es ep,h.get? a=some o/\o.ExactDict/\o.data=.dict es ep/\es.toList=xs.map (entryOfKey (tupleKind (bY P w)))/\(xs.map (·.1)).Nodup
 |.set S n=>h.SetOf (intKind P w) a S n
 |.ins C dx fs=>H dx=some (.own a)/\fs.length<=1000/\dx≠a/\h.get? a=some (Tr C dx)/\
   ∃mA,h.Ns1 dx mA/\(∀f,ua (fs.lookup f) (mA f))/\PySem.Within mA (fs.map (·.1))
 |.own _=>∃o,h.get? a=some o
 |.xd fs=>∃mA,h.Ns1 a mA/\∀f,ua (fs.lookup f) (mA f)
 |.rng lo hi=>∃t u v,h.get? a=some {cls:=.type "range",data:=.fields #[.int lo t,.int hi u,.int 1 v]}
 |.frz o u=>h.get? a=some o/\cH H h a u
 |.tbl ps=>h.get? a=some {cls:=.none,data:=.fields ps}
 |.met f x=>h.get? a=some (Ts (.ref f) (.ref x))
 |.ext φ=>φ (λb=>H b=some (.own a)) h/\(∃o,h.get? a=some o)/\∀(S1 S2:UM->Prop)(h1 h2:UO),φ S1 h1->(∀b,S1 b->S2 b)->(∀b o,(b=a\/S1 b)->h1.get? b=some o->h2.get? b=some o)->φ S2 h2
def qq(H:Hp)(h:UO):Prop:=∀a o,H a=some o->cH P w H h a o
end
section
variable{P:UL}{w:UK}{H H':Hp}{h h':UO}{a:UM}{o:HO}
def cH.lt(x:cH P w H h a o):a<h.objs.size:=by
 cases o with
 |lst xs=>obtain⟨_,_,_,_,e⟩:=x;exact Ub e
 |tup xs=>obtain⟨_,_,_,p⟩:=x;exact p.lt
 |dK kvs=>obtain⟨_,_,_,_,o,_,_,e,_⟩:=x;exact Ub e
 |dT kvs=>obtain⟨_,_,_,_,o,_,_,e,_⟩:=x;exact Ub e
 |set S n=>obtain⟨o,_,_,_,e,_⟩:=x;exact Ub e
 |ins C dx fs=>obtain⟨_,_,_,e,_⟩:=x;exact Ub e
 |own y=>obtain⟨_,e⟩:=x;exact Ub e
 |xd fs=>obtain⟨_,⟨_,_,_,e,_⟩,_⟩:=x;exact Ub e
 |rng lo hi=>obtain⟨_,_,_,e⟩:=x;exact Ub e
 |frz ob u=>obtain⟨e,_⟩:=x;exact Ub e
 |tbl ps=>exact Ub (show h.get? a=some _ from x)
 |met f y=>exact Ub (show h.get? a=some _ from x)
 |ext φ=>obtain⟨_,⟨_,e⟩,_⟩:=x;exact Ub e
def Paired.mapP{α β:Type}{F G:α->β->Prop}:∀{l₁:List α}{l₂:List β},UN F l₁ l₂->(∀a b,F a b->G a b)->UN G l₁ l₂
 |_,_,.nil,_=>.nil
 |_,_,.cons r t,f=>.cons (f _ _ r) (Paired.mapP t f)
def cH.stay(x:cH P w H h a o)(k:∀b u,(b=a\/H b=some (.own a))->h.get? b=some u->h'.get? b=some u)
  (ho:∀b,H b=some (.own a)->H' b=some (.own a)) (ht:∀b xs,H b=some (.tup xs)->H' b=some (.tup xs)):cH P w H' h' a o:=by
 induction o with
 |lst xs=>obtain⟨z,its,n,r,e⟩:=x;exact⟨z,its,n,r,k _ _ (.inl rfl) e⟩
 |tup xs=>obtain⟨z,its,r,ob,e,c⟩:=x;exact⟨z,its,r,ob,k _ _ (.inl rfl) e,c⟩
 |dK kvs=>obtain⟨z,y,vs,r,ob,es,ep,e,c⟩:=x;exact⟨z,y,vs,r,ob,es,ep,k _ _ (.inl rfl) e,c⟩
 |dT kvs=>
  obtain⟨z,y,xs,r,ob,es,ep,e,c⟩:=x;exact⟨z,y,xs,Paired.mapP r λp q z=>⟨z.1,ht _ _ z.2.1,z.2.2⟩,ob,es,ep,k _ _ (.inl rfl) e,c⟩
 |set S n=>obtain⟨ob,es,ep,t,e,c⟩:=x;exact⟨ob,es,ep,t,k _ _ (.inl rfl) e,c⟩
 |ins C dx fs=>
  obtain⟨d,z,ne,e,mA,⟨od,es,ep,e2,c⟩,r⟩:=x;exact⟨ho _ d,z,ne,k _ _ (.inl rfl) e,mA,⟨od,es,ep,k _ _ (.inr d) e2,c⟩,r⟩
 |own y=>obtain⟨ob,e⟩:=x;exact⟨ob,k _ _ (.inl rfl) e⟩
 |xd fs=>obtain⟨mA,⟨od,es,ep,e,c⟩,r⟩:=x;exact⟨mA,⟨od,es,ep,k _ _ (.inl rfl) e,c⟩,r⟩
 |rng lo hi=>obtain⟨t,u,v,e⟩:=x;exact⟨t,u,v,k _ _ (.inl rfl) e⟩
 |frz ob u ih=>obtain⟨e,q⟩:=x;exact⟨k _ _ (.inl rfl) e,ih q⟩
 |tbl ps=>
  have e:h.get? a=some {cls:=.none,data:=.fields ps}:=x;show h'.get? a=some {cls:=.none,data:=.fields ps};exact k a _ (.inl rfl) e
 |met f y=>
  have e:h.get? a=some (Ts (.ref f) (.ref y)):=x;show h'.get? a=some (Ts (.ref f) (.ref y));exact k a _ (.inl rfl) e
 |ext φ=>obtain⟨p,⟨o,e⟩,st⟩:=x;exact⟨st _ _ _ _ p ho k,⟨o,k _ _ (.inl rfl) e⟩,st⟩
def qq.lt(x:qq P w H h)(e:H a=some o):a<h.objs.size:=(x a o e).lt
def qq.fresh(x:qq P w H h)(e:h.objs.size<=a):H a=none:=by
 cases q:H a with
 |none=>rfl
 |some u=>exact absurd (QH (x.lt q) e) (QI _)
def qq.kept(x:qq P w H h)(k:∀b u,h.get? b=some u->h'.get? b=some u):qq P w H h':=λa o e=>
 (x a o e).stay (λb u _ q=>k b u q) (λ_ q=>q) λ_ _ q=>q
def qq.laid(x:qq P w H h)(k:∀b u,h.get? b=some u->h'.get? b=some u)(hp:h.objs.size<=a)(new:cH P w (upd H a o) h' a o):qq P w (upd H a o) h':=λb u e=>by
 have hn:=x.fresh hp;by_cases hb:b=a
 ·subst hb;rw[aX]at e;cases e;exact new
 ·rw[aD hb]at e;exact(x b u e).stay (λc v _ q=>k c v q) (λc q=>by rw[aD (bc q hn)];exact q) λc xs q=>by rw[aD (bc q hn)];exact q
end
def Rd(H:Hp)(a:UM)(u:HO):Prop:=H a=some u\/∃o,H a=some (.frz o u)
def Rd.ok{P:UL}{w:UK}{H:Hp}{h:UO}{a:UM}{u:HO}(r:Rd H a u)(x:qq P w H h):cH P w H h a u:=by
 rcases r with r|⟨o,r⟩
 ·exact x a u r
 ·obtain⟨_,q⟩:=x a _ r;exact q
def Ng:Option HO->Prop
 |some (.lst _)=>True
 |some (.dK _)=>True
 |some (.dT _)=>True
 |some (.set _ _)=>True
 |some (.ins _ _ _)=>True
 |some (.ext _)=>True
 |_=>False
section
variable{P:UL}{w:UK}{H:Hp}{h h':UO}{x e:UM}{o':HO}
def qq.write(ok:qq P w H h)(mu:Ng (H x))(he:e=x\/H e=some (.own x))(k:∀b u,b≠e->h.get? b=some u->h'.get? b=some u)(heo:∃u,h'.get? e=some u)
  (new:cH P w (upd H x o') h' x o'):qq P w (upd H x o') h':=λb u q=>by
 have nown:∀c y,H c=some (.own y)->c≠x:=λc y r z=>by subst z;rw[r]at mu;exact mu
 have ntup:∀c xs,H c=some (.tup xs)->c≠x:=λc xs r z=>by subst z;rw[r]at mu;exact mu
 by_cases hb:b=x
 ·subst hb;rw[aX]at q;cases q;exact new
 ·rw[aD hb]at q;by_cases hbe:b=e
  ·have q':H b=some (.own x):=by
    rcases he with z|z
    ·exact absurd (hbe.trans z) hb
    ·rw[hbe];exact z
   rw[q]at q';cases q';obtain⟨v,hv⟩:=heo;exact⟨v,by rw[hbe];exact hv⟩
  ·refine(ok b u q).stay (λc v hc r=>k c v ?_ r) (λc r=>by rw[aD (nown c b r)];exact r) λc xs r=>by rw[aD (ntup c xs r)];exact r
   rcases hc with rfl|hc
   ·exact hbe
   ·rintro rfl;rcases he with z|z
    ·exact nown c b hc z
    ·rw[hc]at z;cases z;exact hb rfl
end
structure Un(fs ex:List UM)(H H':Hp)(h h':UO):Prop where
 keep:∀b o,h.get? b=some o->H b=none->b∉fs->b∉ex->h'.get? b=some o
 slot:∀b o,h.get? b=some o->H b=none->b∈fs->b∉ex->∃sl,h'.get? b=some {o with slots:=sl}
 free:∀b o,h.get? b=some o->H b=none->b∉ex->H' b=none
 there:∀b o,h.get? b=some o->b∉ex->∃o',h'.get? b=some o'
 tups:∀b xs,H b=some (.tup xs)->H' b=some (.tup xs)
 frzs:∀b o u,H b=some (.frz o u)->H' b=some (.frz o u)
 tbls:∀b ps,H b=some (.tbl ps)->∃more,H' b=some (.tbl (ps++more))
section
variable{fs fs' ex ex':List UM}{H H1 H2:Hp}{h h1 h2 h':UO}{a x e:UM}{o:HO}
def Un.any(u:Un fs ex H H1 h h1){b:UM}{ob:Obj}(q:h.get? b=some ob)(n:H b=none)(hx:b∉ex):∃sl,h1.get? b=some {ob with slots:=sl}:=by
 by_cases hb:b∈fs
 ·exact u.slot b ob q n hb hx
 ·exact⟨ob.slots,u.keep b ob q n hb hx⟩
def Un.kept(k:∀b u,h.get? b=some u->h'.get? b=some u):Un fs ex H H h h':=
 ⟨λb ob q _ _ _=>k b ob q,λb ob q _ _ _=>⟨ob.slots,k b ob q⟩,λ_ _ _ n _=>n,λb ob q _=>⟨ob,k b ob q⟩,λ_ _ q=>q,λ_ _ _ q=>q,λ_ ps q=>⟨#[],by rw[q];simp⟩⟩
def Un.refl:Un fs ex H H h h:=Un.kept λ_ _ q=>q
def Un.laid(k:∀b u,h.get? b=some u->h'.get? b=some u)(hp:h.objs.size<=a)(hn:H a=none):Un fs ex H (upd H a o) h h' where
 keep:=λb u q _ _ _=>k b u q
 slot:=λb u q _ _ _=>⟨u.slots,k b u q⟩
 free:=λb u q n _=>by rw[aD (QJ (QH (Ub q) hp))];exact n
 there:=λb u q _=>⟨u,k b u q⟩
 tups:=λb xs q=>by rw[aD (bc q hn)];exact q
 frzs:=λb u xs q=>by rw[aD (bc q hn)];exact q
 tbls:=λb ps q=>⟨#[],by rw[aD (bc q hn),q];simp⟩
def Un.write(mu:Ng (H x))(he:e=x\/H e=some (.own x))(k:∀b u,b≠e->h.get? b=some u->h'.get? b=some u)(heo:∃u,h'.get? e=some u):Un fs ex H (upd H x o) h h':=by
 have hx:∀b,H b=none->b≠x:=λb n z=>by subst z;rw[n]at mu;exact mu
 have hb:∀b,H b=none->b≠e:=λb n z=>by
  subst z;rcases he with r|r
  ·exact hx b n r
  ·rw[n]at r;cases r
 have hm:∀b u,H b=some u->¬Ng (some u)->b≠x:=λb u q nm z=>by subst z;rw[q]at mu;exact nm mu
 refine⟨λb u q n _ _=>k b u (hb b n) q,λb u q n _ _=>⟨u.slots,k b u (hb b n) q⟩,λb u q n _=>by rw[aD (hx b n)];exact n,λb u q _=>?_,
  λb xs q=>by rw[aD (hm b _ q λz=>z)];exact q,λb u xs q=>by rw[aD (hm b _ q λz=>z)];exact q,λb ps q=>⟨#[],by rw[aD (hm b _ q λz=>z),q];simp⟩⟩
 by_cases hbe:b=e
 ·subst hbe;exact heo
 ·exact⟨u,k b u hbe q⟩
end
def NT(h:UO)(H:Hp):List UM:=(List.range h.objs.size).filter λa=>(H a).isSome
def xn(h:UO)(H:Hp):UO:=PySem.W.hideAll h (NT h H)
def CL(h:UO)(H:Hp):(xn h H).objs.size=h.objs.size:=PySem.W.hideAll_size _ _
def uk{h:UO}{H:Hp}{b:UM}{o:Obj}(e:h.get? b=some o)(n:H b=none):(xn h H).get? b=some o:=
 PySem.W.hideAll_get _ e λhm=>by
  have q:(H b).isSome=true:=(List.mem_filter.mp hm).2;rw[n]at q;simp at q
def IL{h:UO}{H:Hp}{b:UM}{o:Obj}(e:(xn h H).get? b=some o):h.get? b=some o/\H b=none:=by
 have e':h.get? b=some o:=PySem.W.of_hideAll (NT h H) e;refine⟨e',?_⟩;cases q:H b with
 |none=>rfl
 |some x=>
  have hm:b∈NT h H:=List.mem_filter.mpr ⟨List.mem_range.mpr (Ub e'),by simp[q]⟩;have z:(xn h H).get? b=none:=PySem.W.hideAll_none (NT h H) hm;rw[z]at e;cases e
def IZ(g h:UO)(L:UM):List (UM×Obj):=(List.range h.objs.size).filterMap λa=>if a=L\/(g.get? a).isSome=true then none else(h.get? a).map λo=>(a,o)
def rest(g h:UO)(L d:UM):List (UM×Obj):=(IZ g h L).filter λp=>decide (p.1≠d)
structure Mod(K:Tt)(mg:Str->Option UJ)(base:UO):Prop where
 kin:K.In base
 glob:base.Ns UR mg
 blt:∃mb,base.Ns UT mb/\∀x:Str,x≠"__name__"->mb x=UU x
 nolimit:base.NoLimit
structure Cx where
 prog:UL
 w:UK
 K:Tt
 mg:Str->Option UJ
 base:UO
 A:UV
 N:List Str
 s₀:UW
 H₀:Hp
 env:Env
 outer:List Env
 stack:List Env
 ex:List UM
 fn:Str->Bool
 calm:Bool
 pn:List (UM×Obj)
 xe:UJ->UW->Prop
def frs(l:List Env):List UM:=l.filterMap (·.frame)
abbrev Cx.fs(X:Cx):List UM:=frs X.outer
def Lh(sc:UX)(x:Str):Prop:=sc.names.lookup x=some .local\/sc.names.lookup x=some .cell\/sc.names.lookup x=some .free
def Loc(sc:UX)(x:Str):Prop:=sc.names.lookup x=some .local\/sc.names.lookup x=some .cell
def Look(env:Env)(h:UO)(m:Str->Option UJ)(x:Str)(u:UJ):Prop:=
 (env.kindOf x=some .local/\m x=some u)\/((env.kindOf x=some .cell\/env.kindOf x=some .free)/\∃c,env.cells.lookup x=some c/\h.IsCell c (some u))
structure Cx.Ok(X:Cx):Prop where
 mod:Mod X.K X.mg X.base
 kind:X.env.scope.kind=.function
 glob:X.env.globals=UR
 blt:X.env.builtins=UT
 above:X.s₀.heap.objs.size<=X.env.locals
 inj:∀x y c,X.env.cells.lookup x=some c->X.env.cells.lookup y=some c->x=y
 has:∀x,(X.env.kindOf x=some .cell\/X.env.kindOf x=some .free)->∃c,X.env.cells.lookup x=some c
 cab:∀x c,X.fn x=true->X.env.cells.lookup x=some c->X.s₀.heap.objs.size<=c
 hd:X.calm=true->X.A.handled=none
 frames:X.A.frames=some X.stack
 stk:X.stack=X.outer\/(X.stack=X.env::X.outer/\X.env.frame=some X.env.locals)
 exf:∀b∈X.ex,b≠X.env.locals/\∀x c,X.env.cells.lookup x=some c->c≠b
 bs:∀b o,X.base.get? b=some o->X.s₀.heap.get? b=some o/\X.H₀ b=none
 bsz:X.base.objs.size<=X.s₀.heap.objs.size
 noex:∀b o,X.base.get? b=some o->b∉X.ex
 exfs:∀b∈X.ex,b∉X.fs
 funs:X.s₀.heap.FunFrames X.base X.outer
 frf:∀b∈X.fs,X.H₀ b=none
structure Inv(X:Cx)(pins:List (UM×Obj))(σ:List (Option V))(H:Hp)(s:UW):Prop where
 ok:X.Ok
 os:s.os=X.s₀.os
 bare:AllBare s.gens
 base:Un X.fs X.ex X.H₀ H X.s₀.heap s.heap
 loc:∃m,s.heap.Ns X.env.locals m/\∀(i:Nat)(x:Str)(v:V),X.N[i]?=some x->σ[i]?=some (some v)->Lh X.env.scope x->∃u,RelV v u/\Look X.env s.heap m x u
 cell:∀x c,X.env.cells.lookup x=some c->∃v,s.heap.IsCell c v
 free:H X.env.locals=none
 freeC:∀x c,X.env.cells.lookup x=some c->H c=none
 pin:∀p∈X.pn++pins,s.heap.get? p.1=some p.2/\H p.1=none/\p.1≠X.env.locals/\p.1∉X.fs/\∀v,p.2.data≠.cell v
 hok:qq X.prog X.w H s.heap
 len:σ.length=X.N.length
section
variable{X:Cx}{pins:List (UM×Obj)}{σ:List (Option V)}{H H':Hp}{s:UW}{h':UO}
def Cx.Ok.nofr(ok:X.Ok){b:UM}{o:Obj}(e:X.base.get? b=some o):b∉X.fs:=λhb=>by
 have:=(ok.funs.mem hb).1
 rw[e]at this;cases this
def Inv.bs(I:Inv X pins σ H s):∀b o,X.base.get? b=some o->s.heap.get? b=some o/\H b=none:=λb o e=>
 ⟨I.base.keep b o (I.ok.bs b o e).1 (I.ok.bs b o e).2 (I.ok.nofr e) (I.ok.noex b o e),I.base.free b o (I.ok.bs b o e).1 (I.ok.bs b o e).2 (I.ok.noex b o e)⟩
def Inv.bk(I:Inv X pins σ H s):∀b o,X.base.get? b=some o->s.heap.get? b=some o:=λb o e=>(I.bs b o e).1
def Inv.mod(I:Inv X pins σ H s):Mod X.K X.mg X.base:=I.ok.mod
def Inv.kIn(I:Inv X pins σ H s):X.K.In s.heap:=I.ok.mod.kin.keeps I.bk
def Inv.nolimit(I:Inv X pins σ H s):s.heap.NoLimit:=I.ok.mod.nolimit.keeps I.bk
def Inv.lt(I:Inv X pins σ H s):X.env.locals<s.heap.objs.size:=let ⟨_,hn,_⟩:=I.loc;hn.lt
def Inv.sz(I:Inv X pins σ H s):X.s₀.heap.objs.size<=s.heap.objs.size:=QK I.ok.above (QL I.lt)
def Inv.nofs(I:Inv X pins σ H s){a:UM}(h:s.heap.objs.size<=a):a∉X.fs:=λhb=>by
 obtain⟨_,o,ho,_⟩:=I.ok.funs.mem hb;exact absurd (QH (Ub ho) (QK I.sz h)) (QI _)
def Inv.cne(I:Inv X pins σ H s):∀x c,X.env.cells.lookup x=some c->c≠X.env.locals:=λx c e z=>by
 obtain⟨v,o,ho,hd⟩:=I.cell x c e;obtain⟨m,⟨o',es,ep,ho',hd',_⟩,_⟩:=I.loc;rw[z,ho']at ho;cases ho;rw[hd']at hd;cases hd
def Inv.funs(I:Inv X pins σ H s):s.heap.FunFrames X.base X.outer:=by
 have all:∀(l:List Env),(∀b∈frs l,b∈X.fs)->X.s₀.heap.FunFrames X.base l->s.heap.FunFrames X.base l:=by
  intro l
  induction l with
  |nil=>intro _ _;trivial
  |cons env r ih=>
   intro hs hl;obtain⟨hk,⟨L,o,hf,hn,ho,hd⟩,hr⟩:=hl;have hL:L∈X.fs:=hs L (by unfold frs;rw[QM,hf];exact QN);obtain⟨sl,e⟩:=I.base.slot L o ho (I.ok.frf L hL) hL λz=>I.ok.exfs L z hL;exact⟨hk,⟨L,_,hf,hn,e,hd⟩,ih (λb hb=>hs b (by unfold frs;rw[QM,hf];exact QO _ hb)) hr⟩
 exact all X.outer (λ_ hb=>hb) I.ok.funs
def Inv.stack(I:Inv X pins σ H s):s.heap.FunFrames X.base X.stack:=by
 rcases I.ok.stk with e|⟨e,hf⟩
 ·rw[e];exact I.funs
 ·rw[e];obtain⟨m,hn,_⟩:=I.loc;refine .cons (by rw[I.ok.kind];decide) hf hn ?_ I.funs;exact Uc (QK I.ok.bsz I.ok.above)
def Inv.stkSub(I:Inv X pins σ H s):∀b∈frs X.stack,b∈X.env.locals::X.fs:=λb hb=>by
 rcases I.ok.stk with e|⟨e,hf⟩
 ·rw[e]at hb;exact QO _ hb
 ·rw[e]at hb;unfold frs at hb;rw[QM,hf]at hb;exact hb
def Inv.stkFree(I:Inv X pins σ H s):∀b∈frs X.stack,H b=none:=λb hb=>by
 rcases List.mem_cons.mp (I.stkSub b hb)with e|hb
 ·rw[e];exact I.free
 ·obtain⟨_,o,ho,_⟩:=I.ok.funs.mem hb;exact I.base.free b o ho (I.ok.frf b hb) λz=>I.ok.exfs b z hb
def Inv.step{g':Array GenState}{t':Nat}{d':Drawn}{ch:List UM}(I:Inv X pins σ H s)
  (hch:∀b∈ch,(b∈X.ex\/X.s₀.heap.objs.size<=b)/\b≠X.env.locals/\(∀x c,X.env.cells.lookup x=some c->c≠b)/\∀p∈X.pn++pins,p.1≠b)
  (keep:∀b o,b≠X.env.locals->b∉X.fs->b∉ch->s.heap.get? b=some o->H b=none->h'.get? b=some o)
  (slot:∀b o,b≠X.env.locals->b∈X.fs->b∉ch->s.heap.get? b=some o->H b=none->∃sl,h'.get? b=some {o with slots:=sl}) (free:∀b o,b∉ch->s.heap.get? b=some o->H b=none->H' b=none)
  (there:∀b o,b∉ch->s.heap.get? b=some o->∃o',h'.get? b=some o')
  (tups:∀b xs,H b=some (.tup xs)->H' b=some (.tup xs)) (frzs:∀b o u,H b=some (.frz o u)->H' b=some (.frz o u)) (tbls:∀b ps,H b=some (.tbl ps)->∃more,H' b=some (.tbl (ps++more)))
  (ns:∀m,s.heap.Ns X.env.locals m->h'.Ns X.env.locals m) (hok:qq X.prog X.w H' h') (hg:AllBare g'):
  Inv X pins σ H' {s with heap:=h',gens:=g',drawn:=d',toks:=t'}:=by
 have neL:∀b o,X.s₀.heap.get? b=some o->b≠X.env.locals:=λb o e=>QJ (QH (Ub e) I.ok.above);have neC:∀b o,X.s₀.heap.get? b=some o->b∉X.ex->b∉ch:=λb o e hx hb=>by
  rcases(hch b hb).1 with z|z
  ·exact hx z
  ·exact absurd (QH (Ub e) z) (QI _)
 have cellK:∀x c,X.env.cells.lookup x=some c->∀v,s.heap.IsCell c v->h'.IsCell c v:=λx c e v ⟨o,ho,hd⟩=>by
  have nch:c∉ch:=λz=>(hch c z).2.2.1 x c e rfl;by_cases hc:c∈X.fs
  ·obtain⟨sl,q⟩:=slot c o (I.cne x c e) hc nch ho (I.freeC x c e);exact⟨_,q,hd⟩
  ·exact⟨o,keep c o (I.cne x c e) hc nch ho (I.freeC x c e),hd⟩
 refine⟨I.ok,I.os,hg,⟨λb o e n hb hx=>?_,λb o e n hb hx=>?_,λb o e n hx=>?_,λb o e hx=>?_,λb xs e=>tups b xs (I.base.tups b xs e),λb o xs e=>frzs b o xs (I.base.frzs b o xs e),λb ps e=>?_⟩,?_,λx c e=>?_,?_,λx c e=>?_,λp hp=>?_,hok,I.len⟩
 ·exact keep b o (neL b o e) hb (neC b o e hx) (I.base.keep b o e n hb hx) (I.base.free b o e n hx)
 ·obtain⟨sl,e1⟩:=I.base.slot b o e n hb hx;obtain⟨sl',e2⟩:=slot b _ (neL b o e) hb (neC b o e hx) e1 (I.base.free b o e n hx);exact⟨sl',e2⟩
 ·obtain⟨o',e1⟩:=I.base.there b o e hx;exact free b o' (neC b o e hx) e1 (I.base.free b o e n hx)
 ·obtain⟨o',e1⟩:=I.base.there b o e hx;exact there b o' (neC b o e hx) e1
 ·obtain⟨m1,e1⟩:=I.base.tbls b ps e;obtain⟨m2,e2⟩:=tbls b _ e1;exact⟨m1++m2,by rw[e2,Array.append_assoc]⟩
 ·obtain⟨m,hn,hl⟩:=I.loc;refine⟨m,ns m hn,λi x v e1 e2 e3=>?_⟩;obtain⟨u,r,l⟩:=hl i x v e1 e2 e3;refine⟨u,r,?_⟩;rcases l with l|⟨k,c,e,z⟩
  ·exact .inl l
  ·exact .inr ⟨k,c,e,cellK x c e _ z⟩
 ·obtain⟨v,z⟩:=I.cell x c e;exact⟨v,cellK x c e v z⟩
 ·obtain⟨m,⟨o,_,_,ho,_⟩,_⟩:=I.loc;exact free _ o (λz=>(hch _ z).2.1 rfl) ho I.free
 ·obtain⟨v,o,ho,hd⟩:=I.cell x c e;exact free c o (λz=>(hch c z).2.2.1 x c e rfl) ho (I.freeC x c e)
 ·obtain⟨e,n,ne,nf,d⟩:=I.pin p hp;have nch:p.1∉ch:=λz=>(hch p.1 z).2.2.2 p hp rfl;exact⟨keep p.1 p.2 ne nf nch e n,free p.1 p.2 nch e n,ne,nf,d⟩
def Inv.un{t':Nat}(I:Inv X pins σ H s)(u:Un X.fs [] H H' s.heap h')(hok:qq X.prog X.w H' h'):Inv X pins σ H' {s with heap:=h',toks:=t'}:=by
 obtain⟨m,⟨o,es,ep,ho,r⟩,_⟩:=id I.loc;obtain⟨sl,hL⟩:=u.any ho I.free (by simp);exact I.step (g':=s.gens) (d':=s.drawn) (ch:=[]) (λ_ z=>nomatch z) (λb o _ hb _ e n=>u.keep b o e n hb (by simp)) (λb o _ hb _ e n=>u.slot b o e n hb (by simp)) (λb o _ e n=>u.free b o e n (by simp)) (λb o _ e=>u.there b o e (by simp)) u.tups u.frzs u.tbls (λm' hm=>by
  obtain⟨o',es',ep',ho',r'⟩:=hm;rw[ho]at ho';cases ho';exact⟨_,es',ep',hL,r'⟩) hok I.bare
def Inv.call{g':Array GenState}{t':Nat}{d':Drawn}{ch:List UM}(I:Inv X pins σ H s)(u:Un (frs X.stack) ch H H' s.heap h')(hok:qq X.prog X.w H' h')(hg:AllBare g')
  (hch:∀b∈ch,(b∈X.ex\/X.s₀.heap.objs.size<=b)/\b≠X.env.locals/\(∀x c,X.env.cells.lookup x=some c->c≠b)/\∀p∈X.pn++pins,p.1≠b):
  Inv X pins σ H' {s with heap:=h',gens:=g',drawn:=d',toks:=t'}:=by
 obtain⟨m,⟨o,es,ep,ho,r⟩,_⟩:=id I.loc;obtain⟨sl,hL⟩:=u.any ho I.free λz=>(hch _ z).2.1 rfl;exact I.step (ch:=ch) hch (λb o hL hb hc e n=>u.keep b o e n (λz=>(List.mem_cons.mp (I.stkSub b z)).elim hL hb) hc) (λb o _ _ hc e n=>u.any e n hc) (λb o hc e n=>u.free b o e n hc) (λb o hc e=>u.there b o e hc) u.tups u.frzs u.tbls (λm' hm=>by
  obtain⟨o',es',ep',ho',r'⟩:=hm;rw[ho]at ho';cases ho';exact⟨_,es',ep',hL,r'⟩) hok hg
def Inv.turned{t':Nat}{it:UM}(I:Inv X pins σ H s)(k:∀b o,b≠it->s.heap.get? b=some o->h'.get? b=some o)(hn:H it=none)(hL:it≠X.env.locals)
  (h1:it∈X.ex\/X.s₀.heap.objs.size<=it) (h2:∀x c,X.env.cells.lookup x=some c->c≠it) (h3:∀p∈X.pn++pins,p.1≠it):Inv X pins σ H {s with heap:=h',toks:=t'}:=by
 have nit:∀b u,H b=some u->b≠it:=λb u e z=>by rw[z,hn]at e;cases e
 refine I.step (g':=s.gens) (d':=s.drawn) (ch:=[it]) (λb hb=>?_) (λb o _ _ hc e _=>k b o (λz=>hc (by simp[z])) e) (λb o _ _ hc e _=>⟨o.slots,k b o (λz=>hc (by simp[z])) e⟩) (λ_ _ _ _ n=>n)
  (λb o hc e=>⟨o,k b o (λz=>hc (by simp[z])) e⟩) (λ_ _ e=>e) (λ_ _ _ e=>e) (λb ps e=>⟨#[],by rw[e];simp⟩) (λm hm=>?_) (λb u e=>?_) I.bare
 ·have e:b=it:=by simpa using hb
  subst e;exact⟨h1,hL,h2,h3⟩
 ·obtain⟨o,es,ep,ho,r⟩:=hm;exact⟨o,es,ep,k _ o (Ne.symm hL) ho,r⟩
 ·refine(I.hok b u e).stay (λc v hc q=>k c v ?_ q) (λ_ q=>q) λ_ _ q=>q;rcases hc with z|z
  ·rw[z];exact nit b u e
  ·exact nit c _ z
def Inv.tok(I:Inv X pins σ H s)(t:Nat):Inv X pins σ H {s with toks:=t}:=I.un (h':=s.heap) (t':=t) Un.refl I.hok
def Inv.kept{t':Nat}(I:Inv X pins σ H s)(k:∀b u,s.heap.get? b=some u->h'.get? b=some u):Inv X pins σ H {s with heap:=h',toks:=t'}:=I.un (Un.kept k) (I.hok.kept k)
def Inv.laid{a:UM}{o:HO}{t':Nat}(I:Inv X pins σ H s)(k:∀b u,s.heap.get? b=some u->h'.get? b=some u)(hp:s.heap.objs.size<=a)(new:cH X.prog X.w (upd H a o) h' a o):
  Inv X pins σ (upd H a o) {s with heap:=h',toks:=t'}:=I.un (Un.laid k hp (I.hok.fresh hp)) (I.hok.laid k hp new)
def Inv.write{x e:UM}{o:HO}{t':Nat}(I:Inv X pins σ H s)(mu:Ng (H x))(he:e=x\/H e=some (.own x))(k:∀b u,b≠e->s.heap.get? b=some u->h'.get? b=some u)(heo:∃u,h'.get? e=some u)
  (new:cH X.prog X.w (upd H x o) h' x o):Inv X pins σ (upd H x o) {s with heap:=h',toks:=t'}:=I.un (Un.write mu he k heo) (I.hok.write mu he k heo new)
def Inv.pins_of{pins':List (UM×Obj)}(I:Inv X pins σ H s)(h:∀p∈pins',s.heap.get? p.1=some p.2/\H p.1=none/\p.1≠X.env.locals/\p.1∉X.fs/\∀v,p.2.data≠.cell v):Inv X pins' σ H s:=
 ⟨I.ok,I.os,I.bare,I.base,I.loc,I.cell,I.free,I.freeC,λp hp=>(List.mem_append.mp hp).elim (λz=>I.pin p (QP _ z)) (h p),I.hok,I.len⟩
def zf{N:List Str}(hN:N.Nodup){i j:Nat}{x:Str}(a:N[i]?=some x)(b:N[j]?=some x):i=j:=by
 obtain⟨h1,e1⟩:=List.getElem?_eq_some_iff.mp a;obtain⟨h2,e2⟩:=List.getElem?_eq_some_iff.mp b;exact(List.getElem_inj hN).mp (e1.trans e2.symm)
def vT{M:Model}{A:UV}{E:UJ->UW->Prop}{i:Nat}{x:Str}{v:V}{u:UJ}{Q:Unit->UW->Prop}(I:Inv X pins σ H s)(hN:X.N.Nodup)(hi:X.N[i]?=some x)(hx:Loc X.env.scope x)(r:RelV v u)
  (h:∀s',Inv X pins (σ.set i (some v)) H s'->(∃a,Ud a s.heap s'.heap/\(a=X.env.locals\/X.env.cells.lookup x=some a))->Q () s') (hf:X.fn x=true\/X.env.scope.names.lookup x=some .local:=by first|exact .inl rfl|exact .inr rfl|assumption):UY M A (storeName X.env x u) Q E s:=by
 obtain⟨m,hn,hl⟩:=id I.loc;have hcls:(X.env.scope.kind==.class||(X.env.scope.kind==.module&&X.env.locals !=X.env.globals))=false:=by rw[I.ok.kind];rfl
 have hiσ:i<σ.length:=by rw[I.len];exact(List.getElem?_eq_some_iff.mp hi).1
 have cne:=I.cne;have tracked:∀{a:UM}{h':UO},(∃o,s.heap.get? a=some o/\H a=none)->Ud a s.heap h'->qq X.prog X.w H h':=λ{a h'} ha hs b ob e=>by
  obtain⟨_,_,hfree⟩:=ha;refine(I.hok b ob e).stay (λc w' hc q=>(hs.2 c ?_).trans q) (λ_ q=>q) λ_ _ q=>q;rintro rfl;rcases hc with rfl|hc
  ·rw[hfree]at e;cases e
  ·rw[hfree]at hc;cases hc
 rcases hx with hk|hk
 ·refine wpAny_storeName_local hk hn (λh' hn' hs=>?_) hcls;obtain⟨oL,_,_,hoL,_⟩:=id hn;refine h _ ⟨I.ok,I.os,I.bare,⟨λb o e n hb hx=>?_,λb o e n hb hx=>?_,I.base.free,λb o e hx=>?_,I.base.tups,I.base.frzs,I.base.tbls⟩,⟨_,hn',λj y v' e1 e2 e3=>?_⟩,λy c e=>?_,I.free,I.freeC,λp hp=>?_,tracked ⟨oL,hoL,I.free⟩ hs,by simpa using I.len⟩ ⟨_,hs,.inl rfl⟩
  ·exact(hs.2 b (QJ (QH (Ub e) I.ok.above))).trans (I.base.keep b o e n hb hx)
  ·obtain⟨sl,e1⟩:=I.base.slot b o e n hb hx;exact⟨sl,(hs.2 b (QJ (QH (Ub e) I.ok.above))).trans e1⟩
  ·obtain⟨o',e1⟩:=I.base.there b o e hx;exact⟨o',(hs.2 b (QJ (QH (Ub e) I.ok.above))).trans e1⟩
  ·by_cases hj:j=i
   ·subst hj;rw[hi]at e1;cases e1;rw[QQ hiσ]at e2;cases e2;exact⟨u,r,.inl ⟨hk,by simp⟩⟩
   ·rw[QR (Ne.symm hj)]at e2;obtain⟨u',r',q⟩:=hl j y v' e1 e2 e3;refine⟨u',r',?_⟩;rcases q with⟨k,e⟩|⟨k,c,e,z⟩
    ·refine .inl ⟨k,?_⟩
     have:y≠x:=λe=>hj (zf hN e1 (e ▸ hi))
     simp[this,e]
    ·exact .inr ⟨k,c,e,z.sameBut hs (cne y c e)⟩
  ·obtain⟨w',z⟩:=I.cell y c e;exact⟨w',z.sameBut hs (cne y c e)⟩
  ·obtain⟨e,n,ne,nf,d⟩:=I.pin p hp;exact⟨(hs.2 p.1 ne).trans e,n,ne,nf,d⟩
 ·have hfn:X.fn x=true:=by
   rcases hf with z|z
   ·exact z
   ·rw[z]at hk;cases hk
  obtain⟨c,hc⟩:=I.ok.has x (.inl hk);obtain⟨w',z⟩:=I.cell x c hc;refine wpAny_storeName_cell I.ok.kind hk hc z (λh' hc' hs=>?_);obtain⟨oc,hoc,hocd⟩:=id z;refine h {s with heap:=h'} ⟨I.ok,I.os,I.bare,⟨λb o e n hb hx=>?_,λb o e n hb hx=>?_,I.base.free,λb o e hx=>?_,I.base.tups,I.base.frzs,I.base.tbls⟩,⟨m,hn.sameBut hs (Ne.symm (cne x c hc)),λj y v' e1 e2 e3=>?_⟩,λy c' e=>?_,I.free,I.freeC,λp hp=>?_,tracked ⟨oc,hoc,I.freeC x c hc⟩ hs,by simpa using I.len⟩ ⟨c,hs,.inr hc⟩
  ·exact(hs.2 b (QJ (QH (Ub e) (I.ok.cab x c hfn hc)))).trans (I.base.keep b o e n hb hx)
  ·obtain⟨sl,e1⟩:=I.base.slot b o e n hb hx;exact⟨sl,(hs.2 b (QJ (QH (Ub e) (I.ok.cab x c hfn hc)))).trans e1⟩
  ·obtain⟨o',e1⟩:=I.base.there b o e hx;exact⟨o',(hs.2 b (QJ (QH (Ub e) (I.ok.cab x c hfn hc)))).trans e1⟩
  ·by_cases hj:j=i
   ·subst hj;rw[hi]at e1;cases e1;rw[QQ hiσ]at e2;cases e2;exact⟨u,r,.inr ⟨.inl hk,c,hc,hc'⟩⟩
   ·rw[QR (Ne.symm hj)]at e2;obtain⟨u',r',q⟩:=hl j y v' e1 e2 e3;refine⟨u',r',?_⟩;rcases q with q|⟨k,c',e,z'⟩
    ·exact .inl q
    ·refine .inr ⟨k,c',e,z'.sameBut hs ?_⟩;rintro rfl;exact hj (zf hN e1 (I.ok.inj _ _ _ e hc ▸ hi))
  ·by_cases hcc:c'=c
   ·subst hcc;exact⟨_,hc'⟩
   ·obtain⟨w2,z2⟩:=I.cell y c' e;exact⟨w2,z2.sameBut hs hcc⟩
  ·obtain⟨e,n,ne,nf,d⟩:=I.pin p hp;refine⟨(hs.2 p.1 ?_).trans e,n,ne,nf,d⟩;intro q;rw[q,hoc]at e;have q':oc=p.2:=Option.some.inj e;exact d w' (by rw[<-q'];exact hocd)
def yW{M:Model}{A:UV}{E:UJ->UW->Prop}{i:Nat}{x:Str}{v:V}{u:UJ}{Q:Unit->UW->Prop}(I:Inv X pins σ H s)(hN:X.N.Nodup)(hi:X.N[i]?=some x)(hx:Loc X.env.scope x)(r:RelV v u)
  (h:∀s',Inv X pins (σ.set i (some v)) H s'->Q () s') (hf:X.fn x=true\/X.env.scope.names.lookup x=some .local:=by first|exact .inl rfl|exact .inr rfl|assumption):UY M A (storeName X.env x u) Q E s:=
 vT I hN hi hx r (λs' I' _=>h s' I') hf
def Inv.call'{s':UW}{ch:List UM}(I:Inv X pins σ H s)(ho:s'.os=s.os)(u:Un (frs X.stack) ch H H' s.heap s'.heap)(hok:qq X.prog X.w H' s'.heap)(hg:AllBare s'.gens)
  (hch:∀b∈ch,(b∈X.ex\/X.s₀.heap.objs.size<=b)/\b≠X.env.locals/\(∀x c,X.env.cells.lookup x=some c->c≠b)/\∀p∈X.pn++pins,p.1≠b):Inv X pins σ H' s':=by
 obtain⟨h',g',d',t',o'⟩:=s';have e:o'=s.os:=ho;subst e;exact I.call (g':=g') (t':=t') (d':=d') u hok hg hch
end
abbrev XK:=UJ->Option UM->Hp->Prop
abbrev St:=List (Option V)
abbrev VK:=V->Hp->Prop
abbrev TE:=St->Hp->VK->Prop
abbrev TT:=St->Hp->(Bool->Hp->Prop)->Prop
abbrev TA:=St->Hp->(List V->Hp->Prop)->Prop
structure Ends where
 nx:St->Hp->Prop
 rt:VK
 bk:St->Hp->Prop:=λ_ _=>False
 ct:St->Hp->Prop:=λ_ _=>False
abbrev TS:=Ends->St->Hp->Prop
def EP(X:Cx)(pins:List (UM×Obj))(σ:St)(Q:VK)(u:UJ)(s':UW):Prop:=∃v H',Inv X pins σ H' s'/\RelV v u/\Q v H'
def TP(X:Cx)(pins:List (UM×Obj))(σ:St)(Q:Bool->Hp->Prop)(b:Bool)(s':UW):Prop:=∃H',Inv X pins σ H' s'/\Q b H'
def AP(X:Cx)(pins:List (UM×Obj))(σ:St)(Q:List V->Hp->Prop)(us:List UJ)(s':UW):Prop:=∃vs H',Inv X pins σ H' s'/\Vals vs us/\Q vs H'
def SP(X:Cx)(pins:List (UM×Obj))(D:Ends)(f:Flow)(s':UW):Prop:=
 match f with
 |.next=>∃σ' H',Inv X pins σ' H' s'/\D.nx σ' H'
 |.brk=>∃σ' H',Inv X pins σ' H' s'/\D.bk σ' H'
 |.cont=>∃σ' H',Inv X pins σ' H' s'/\D.ct σ' H'
 |.ret u=>∃v σ' H',Inv X pins σ' H' s'/\RelV v u/\D.rt v H'
def PE(X:Cx)(e:UZ)(t:TE):Prop:=
 ∀(pins:List (UM×Obj))(s:UW)(σ:St)(H:Hp)(Q:VK),Inv X pins σ H s->t σ H Q->UY (model X.prog X.w) X.A (eval e X.env) (EP X pins σ Q) X.xe s
def PT(X:Cx)(e:UZ)(t:TT):Prop:=
 ∀(pins:List (UM×Obj))(s:UW)(σ:St)(H:Hp)(Q:Bool->Hp->Prop),Inv X pins σ H s->t σ H Q->UY (model X.prog X.w) X.A (isTrue e X.env (eval e X.env)) (TP X pins σ Q) X.xe s
def PW(X:Cx)(e:UZ)(t:TT):Prop:=
 ∀(whole:Sem UJ)(pins:List (UM×Obj))(s:UW)(σ:St)(H:Hp)(Q:Bool->Hp->Prop),Inv X pins σ H s->t σ H Q->UY (model X.prog X.w) X.A (isTrue e X.env whole) (TP X pins σ Q) X.xe s
def PW.pt{X:Cx}{e:UZ}{t:TT}(h:PW X e t):PT X e t:=h _
def PA(X:Cx)(es:List UZ)(t:TA):Prop:=
 ∀(pos:Pos)(pins:List (UM×Obj))(s:UW)(σ:St)(H:Hp)(Q:List V->Hp->Prop),Inv X pins σ H s->t σ H Q->UY (model X.prog X.w) X.A (spliced (backTo pos (U0 es X.env))) (AP X pins σ Q) X.xe s
def PS(X:Cx)(st:U1)(t:TS):Prop:=
 ∀(pins:List (UM×Obj))(s:UW)(σ:St)(H:Hp)(D:Ends),Inv X pins σ H s->t D σ H->UY (model X.prog X.w) X.A (exec st X.env) (SP X pins D) X.xe s
def yN(X:Cx)(st:List U1)(t:TS):Prop:=
 ∀(pins:List (UM×Obj))(s:UW)(σ:St)(H:Hp)(D:Ends),Inv X pins σ H s->t D σ H->UY (model X.prog X.w) X.A (execs st X.env) (SP X pins D) X.xe s
def dM{α:Type}{t:Sem α}{Q Q':α->UW->Prop}{M:Model}{A:UV}{E:UJ->UW->Prop}{s:UW}(h:UY M A t Q E s)(hQ:∀a s,Q a s->Q' a s):UY M A t Q' E s:=U2 h hQ λ_ _ x=>x
section
variable{X:Cx}
def qF(i:Nat):TE:=λσ H Q=>∃v,σ[i]?=some (some v)/\Q v H
def tC(v:V):TE:=λ_ H Q=>Q v H
def Ka{i:Nat}{x:Str}{pos:Pos}(hN:X.N[i]?=some x)(hv:Lh X.env.scope x)(hd:(x==("__debug__":Str))=false:=by decide)(hcd:(x==("__classdict__":Str))=false:=by decide):PE X (.Name x pos) (qF i):=by
 intro pins s σ H Q I h;obtain⟨v,e,h⟩:=h;obtain⟨m,hn,hl⟩:=I.loc;obtain⟨u,r,l⟩:=hl i x v hN e hv;have fin:EP X pins σ Q u s:=⟨v,H,I,r,h⟩
 rcases l with⟨hk,hm⟩|⟨hk,c,hc,hcell⟩
 ·exact U3 (wpAny_loadName_local I.ok.kind hk hn hm fin) hd
 ·rcases hk with hk|hk
  ·exact U3 (wpAny_loadName_cell I.ok.kind hk hc hcell fin) hd
  ·exact U3 (wpAny_loadName_free I.ok.kind hk hc hcell fin hcd) hd
def ER{i j pos}:PE X (.Constant (.int i) j pos) (tC (.int i)):=λ_ _ _ H _ I h=>wpAny_Constant_int ⟨.int i,H,I.tok _,⟨_,rfl⟩,h⟩
def MH{b j pos}:PE X (.Constant (.bool b) j pos) (tC (.bl b)):=λ_ _ _ H _ I h=>Constant_bool ⟨.bl b,H,I,rfl,h⟩
def KI{x j pos}:PE X (.Constant (.str x) j pos) (tC (.str x)):=λ_ _ _ H _ I h=>Calls.Constant_str ⟨.str x,H,I.tok _,⟨_,rfl⟩,h⟩
def Gl(X:Cx)(x:Str):Prop:=X.env.kindOf x=some .globalImplicit
def xY{E:UJ->UW->Prop}{pins:List (UM×Obj)}{s:UW}{σ:St}{H:Hp}{x:Str}{u:UJ}{pos:Pos}{Q:UJ->UW->Prop}(I:Inv X pins σ H s)(hg:Gl X x)(hm:X.mg x=some u)(h:Q u s)
  (hd:(x==("__debug__":Str))=false:=by decide):UY (model X.prog X.w) X.A (eval (.Name x pos) X.env) Q E s:=
 Calls.Name_function_global I.ok.kind hg (Calls.loadGlobal_global (by rw[I.ok.glob];exact I.mod.glob.keeps I.bk) hm h) hd
def kF{E:UJ->UW->Prop}{pins:List (UM×Obj)}{s:UW}{σ:St}{H:Hp}{x:Str}{u:UJ}{pos:Pos}{Q:UJ->UW->Prop}(I:Inv X pins σ H s)(hg:Gl X x)(hm:X.mg x=none)(hv:UU x=some u)(h:Q u s)
  (hn:x≠"__name__":=by decide) (hd:(x==("__debug__":Str))=false:=by decide):UY (model X.prog X.w) X.A (eval (.Name x pos) X.env) Q E s:=by
 obtain⟨mb,h1,h2⟩:=I.mod.blt;exact Calls.Name_function_global I.ok.kind hg (Calls.loadGlobal_builtin (by rw[I.ok.glob];exact I.mod.glob.keeps I.bk) hm (by rw[I.ok.blt];exact h1.keeps I.bk) ((h2 x hn).trans hv) h) hd
def HQ{x:Str}{v:V}{u:UJ}{pos:Pos}(hg:Gl X x)(hm:X.mg x=some u)(r:RelV v u)(hd:(x==("__debug__":Str))=false:=by decide):PE X (.Name x pos) (tC v):=
 λ_ _ _ H _ I h=>xY I hg hm ⟨v,H,I,r,h⟩ hd
def Ig{x:Str}{v:V}{u:UJ}{pos:Pos}(hg:Gl X x)(hm:X.mg x=none)(hv:UU x=some u)(r:RelV v u)(hn:x≠"__name__":=by decide)(hd:(x==("__debug__":Str))=false:=by decide):PE X (.Name x pos) (tC v):=
 λ_ _ _ H _ I h=>kF I hg hm hv ⟨v,H,I,r,h⟩ hn hd
variable{a b:UZ}{ta tb:TE}{pos:Pos}
variable{tA tB':TT}{rest:List UZ}
def P0(t u:TT):TT:=λσ H Q=>t σ H λc H1=>if c=true then u σ H1 Q else Q false H1
def QC(t u:TT):TT:=λσ H Q=>t σ H λc H1=>if c=true then Q true H1 else u σ H1 Q
def N5(t:TT):TT:=λσ H Q=>t σ H λc H1=>Q (!c) H1
def HG(ha:PT X a tA):PW X (.BoolOp .And [a] pos) tA:=by
 intro wh pins s σ H Q I h;refine isTrue_and (dM (ha pins s σ H Q I h) λc s1 e=>?_);cases c with
 |true=>exact isTrue_and_nil e
 |false=>exact e
def Kl(ha:PT X a tA):PW X (.BoolOp .Or [a] pos) tA:=by
 intro wh pins s σ H Q I h;refine isTrue_or (dM (ha pins s σ H Q I h) λc s1 e=>?_);cases c with
 |false=>exact isTrue_or_nil e
 |true=>exact e
def Kx(ha:PT X a tA)(hb:PW X (.BoolOp .And (b::rest) pos) tB'):PW X (.BoolOp .And (a::b::rest) pos) (P0 tA tB'):=by
 intro wh pins s σ H Q I h;refine isTrue_and (dM (ha pins s σ H _ I h) λc s1 ⟨H1,I1,q1⟩=>?_);cases c with
 |true=>exact hb wh pins s1 σ H1 Q I1 q1
 |false=>exact⟨H1,I1,q1⟩
def LZ(ha:PT X a tA)(hb:PW X (.BoolOp .Or (b::rest) pos) tB'):PW X (.BoolOp .Or (a::b::rest) pos) (QC tA tB'):=by
 intro wh pins s σ H Q I h;refine isTrue_or (dM (ha pins s σ H _ I h) λc s1 ⟨H1,I1,q1⟩=>?_);cases c with
 |true=>exact⟨H1,I1,q1⟩
 |false=>exact hb wh pins s1 σ H1 Q I1 q1
def JP(ha:PT X a tA):PT X (.UnaryOp .Not a pos) (N5 tA):=by
 intro pins s σ H Q I h;exact isTrue_not (ha pins s σ H (λc H1=>Q (!c) H1) I h)
def Mb(ta tb:TE):TE:=λσ H Q=>ta σ H λx H1=>∃c,x=.bl c/\if c=true then tb σ H1 Q else Q (.bl false) H1
def MK(ta:TE):TE:=λσ H Q=>ta σ H λx H1=>∃c,x=.bl c/\Q (.bl (!c)) H1
def Kp{op}{t:TE}(h:PE X a t):PE X (.BoolOp op [a] pos) t:=λpins s σ H Q I hw=>BoolOp_one (h pins s σ H Q I hw)
def Kt(ha:PE X a ta)(hb:PE X (.BoolOp .And (b::rest) pos) tb):PE X (.BoolOp .And (a::b::rest) pos) (Mb ta tb):=by
 intro pins s σ H Q I h;refine BoolOp_and (dM (ha pins s σ H _ I h) λv s1 ⟨x,H1,I1,r1,q1⟩=>?_);obtain⟨c,rfl,q1⟩:=q1;cases r1;refine U4 ?_;cases c with
 |true=>exact hb pins s1 σ H1 Q I1 q1
 |false=>exact⟨.bl false,H1,I1,rfl,q1⟩
def J6(ha:PE X a ta):PE X (.UnaryOp .Not a pos) (MK ta):=by
 intro pins s σ H Q I h;refine UnaryOp_ (dM (ha pins s σ H _ I h) λv s1 ⟨x,H1,I1,r1,q1⟩=>?_);obtain⟨c,rfl,q1⟩:=q1;cases r1;exact not_of (U4 ⟨.bl (!c),H1,I1,rfl,q1⟩)
end
def pH(K:Tt)(H:Hp)(a:UM)(xs:List V):Prop:=
 Rd H a (.lst xs) \/
  ∃(o:Obj)(its:Array UJ)(n:Nat),K.lookup a=some o/\o.cls=.type "list"/\o.dict=none/\o.data=.seq its n/\its.size<=UP/\Vals xs its.toList
def rk(K:Tt)(H:Hp)(a:UM)(xs:List V):Prop:=
 Rd H a (.tup xs) \/
  ∃(o:Obj)(its:Array UJ)(n:Nat),K.lookup a=some o/\o.cls=.type "tuple"/\o.data=.seq its n/\its.size<=UP/\Vals xs its.toList
def OI:UJ->Option V
 |.none=>some .non
 |.bool b=>some (.bl b)
 |.int i _=>some (.int i)
 |.str x _=>some (.str x)
 |.bytes b _=>some (.byt b)
 |.float b _=>some (.flt b)
 |.ref a=>some (.ref a)
 |.type n=>some (.ty n)
 |_=>none
def RelV.abs{x:V}{u:UJ}(r:RelV x u):OI u=some x:=by
 cases x with
 |non=>cases r;rfl
 |bl _=>cases r;rfl
 |int _=>obtain⟨t,rfl⟩:=r;rfl
 |str _=>obtain⟨t,rfl⟩:=r;rfl
 |byt _=>obtain⟨t,rfl⟩:=r;rfl
 |flt _=>obtain⟨t,rfl⟩:=r;rfl
 |ref _=>cases r;rfl
 |ty _=>cases r;rfl
def RelV.inj{x y:V}{u:UJ}(r:RelV x u)(q:RelV y u):x=y:=Option.some.inj (r.abs.symm.trans q.abs)
def Vals.inj:∀{xs ys:List V}{us:List UJ},Vals xs us->Vals ys us->xs=ys
 |_,_,_,.nil,.nil=>rfl
 |_,_,_,.cons r t,.cons r' t'=>by rw[r.inj r',Vals.inj t t']
section
variable{X:Cx}{pins:List (UM×Obj)}{σ:St}{H:Hp}{s:UW}{a:UM}{xs ys:List V}
def pH.of{K:Tt}(h:H a=some (.lst xs)):pH K H a xs:=.inl (.inl h)
def rk.of{K:Tt}(h:H a=some (.tup xs)):rk K H a xs:=.inl (.inl h)
def Inv.list(I:Inv X pins σ H s)(h:pH X.K H a xs):∃its:List UJ,Vals xs its/\PlainL s.heap a its.toArray/\xs.length<=UP:=by
 rcases h with h|⟨o,its,n,hk,hc,hd,hs,hz,r⟩
 ·obtain⟨z,its,n,r,e⟩:=h.ok I.hok;exact⟨its,r,⟨_,n,e,rfl,rfl,rfl⟩,z⟩
 ·refine⟨its.toList,r,⟨o,n,I.kIn a o hk,hc,hd,by simpa using hs⟩,?_⟩;have e:=r.length;simp only[Array.length_toList]at e;omega
def Inv.tuple(I:Inv X pins σ H s)(h:rk X.K H a xs):∃its:List UJ,Vals xs its/\UQ s.heap a its.toArray/\xs.length<=UP:=by
 rcases h with h|⟨o,its,n,hk,hc,hs,hz,r⟩
 ·obtain⟨z,its,r,p⟩:=h.ok I.hok;exact⟨its,r,p,z⟩
 ·refine⟨its.toList,r,⟨o,I.kIn a o hk,hc,n,by simpa using hs⟩,?_⟩;have e:=r.length;simp only[Array.length_toList]at e;omega
def Inv.list_inj(I:Inv X pins σ H s)(h:pH X.K H a xs)(h':pH X.K H a ys):xs=ys:=by
 obtain⟨its,r,⟨o,n,e,_,_,d⟩,_⟩:=I.list h;obtain⟨its',r',⟨o',n',e',_,_,d'⟩,_⟩:=I.list h';rw[e]at e';cases e';rw[d]at d';injection d' with d1 _
 have:its=its':=by simpa using congrArg Array.toList d1
 subst this;exact r.inj r'
def Inv.tuple_inj(I:Inv X pins σ H s)(h:rk X.K H a xs)(h':rk X.K H a ys):xs=ys:=by
 obtain⟨its,r,⟨o,e,_,n,d⟩,_⟩:=I.tuple h;obtain⟨its',r',⟨o',e',_,n',d'⟩,_⟩:=I.tuple h';rw[e]at e';cases e';rw[d]at d';injection d' with d1 _
 have:its=its':=by simpa using congrArg Array.toList d1
 subst this;exact r.inj r'
end
abbrev Cx.wish(X:Cx)(E:UJ->UW->Prop):Cx:={X with xe:=E}
abbrev Cx.nox(X:Cx):Cx:=X.wish λ_ _=>False
def Cx.Ok.wish{X:Cx}(ok:X.Ok)(E:UJ->UW->Prop):(X.wish E).Ok:=
 ⟨ok.mod,ok.kind,ok.glob,ok.blt,ok.above,ok.inj,ok.has,ok.cab,ok.hd,ok.frames,ok.stk,ok.exf,ok.bs,ok.bsz,ok.noex,ok.exfs,ok.funs,ok.frf⟩
def Cx.Ok.unwish{X:Cx}{E:UJ->UW->Prop}(ok:(X.wish E).Ok):X.Ok:=
 ⟨ok.mod,ok.kind,ok.glob,ok.blt,ok.above,ok.inj,ok.has,ok.cab,ok.hd,ok.frames,ok.stk,ok.exf,ok.bs,ok.bsz,ok.noex,ok.exfs,ok.funs,ok.frf⟩
section
variable{X:Cx}{pins:List (UM×Obj)}{σ:St}{H:Hp}{s:UW}{E:UJ->UW->Prop}
def Inv.wish(I:Inv X pins σ H s)(E:UJ->UW->Prop):Inv (X.wish E) pins σ H s:=⟨I.ok.wish E,I.os,I.bare,I.base,I.loc,I.cell,I.free,I.freeC,I.pin,I.hok,I.len⟩
def Inv.unwish(I:Inv (X.wish E) pins σ H s):Inv X pins σ H s:=⟨I.ok.unwish,I.os,I.bare,I.base,I.loc,I.cell,I.free,I.freeC,I.pin,I.hok,I.len⟩
def SP.unwish{D:Ends}{f:Flow}{s':UW}(h:SP (X.wish E) pins D f s'):SP X pins D f s':=by
 cases f with
 |next=>obtain⟨σ',H',I,q⟩:=h;exact⟨σ',H',I.unwish,q⟩
 |brk=>obtain⟨σ',H',I,q⟩:=h;exact⟨σ',H',I.unwish,q⟩
 |cont=>obtain⟨σ',H',I,q⟩:=h;exact⟨σ',H',I.unwish,q⟩
 |ret u=>obtain⟨v,σ',H',I,r,q⟩:=h;exact⟨v,σ',H',I.unwish,r,q⟩
def yN.nox{st:List U1}{t:TS}(h:yN X.nox st t):yN X st t:=λpins s σ H D I hw=>
 U2 (h pins s σ H D (I.wish _) hw) (λ_ _ q=>q.unwish) λ_ _ z=>False.elim z
end
section
variable{X:Cx}{st:U1}{rest:List U1}{t u:TS}{e:UZ}{te:TE}{pos:Pos}
def MX:TS:=λD σ H=>D.nx σ H
def O8(t u:TS):TS:=λD σ H=>t {D with nx:=u D} σ H
def IE:yN X [] MX:=λ_ _ σ H _ I h=>U5 ⟨σ,H,I,h⟩
def yY(h1:PS X st t)(h2:yN X rest u):yN X (st::rest) (O8 t u):=by
 intro pins s σ H D I h;refine wpAny_execs_cons (dM (h1 pins s σ H {D with nx:=u D} I h) λf s1 q=>?_);cases f with
 |next=>
  obtain⟨σ',H',I',q⟩:=q;exact h2 pins s1 σ' H' D I' q
 |ret v=>exact q
 |brk=>exact q
 |cont=>exact q
def BR(h1:PS X st t):yN X [st] t:=by
 intro pins s σ H D I h;refine wpAny_execs_cons (dM (h1 pins s σ H D I h) λf s1 q=>?_);cases f with
 |next=>exact U5 q
 |ret v=>exact q
 |brk=>exact q
 |cont=>exact q
def Inv.quiet{pins:List (UM×Obj)}{σ:St}{H:Hp}{s:UW}(I:Inv X pins σ H s):interactive X.env=false:=by simp[interactive,I.ok.kind]
def Mr(te:TE):TS:=λD σ H=>te σ H λ_ H1=>D.nx σ H1
def xr(he:PE X e te)(hs:swapsWith e none pos.line X.env=pure false:=by rfl):PS X (.Expr e pos) (Mr te):=by
 intro pins s σ H D I h;exact wpAny_Expr_any (dM (he pins s σ H _ I h) λv s1 ⟨x,H1,I1,r1,q1⟩=>⟨σ,H1,I1,q1⟩) I.quiet hs
def OO(te:TE):TS:=λD σ H=>te σ H D.rt
def K2(he:PE X e te):PS X (.Return (some e) pos) (OO te):=by
 intro pins s σ H D I h;exact wpAny_Return_some (dM (he pins s σ H _ I h) λv s1 ⟨x,H1,I1,r1,q1⟩=>⟨x,σ,H1,I1,r1,q1⟩)
def PQ(c:TT)(t u:TS):TS:=λD σ H=>c σ H λb H1=>if b=true then t D σ H1 else u D σ H1
def Mv{c:UZ}{a b:List U1}{tc:TT}(hc:PT X c tc)(ha:yN X a t)(hb:yN X b u):PS X (.If c a b pos) (PQ tc t u):=by
 intro pins s σ H D I h;refine wpAny_If (dM (hc pins s σ H _ I h) λd s1 ⟨H1,I1,q1⟩=>?_);cases d with
 |true=>exact ha pins s1 σ H1 D I1 q1
 |false=>exact hb pins s1 σ H1 D I1 q1
end
abbrev TG:=V->St->Hp->(St->Hp->Prop)->Prop
abbrev Jn:=List V->St->Hp->(St->Hp->Prop)->Prop
def PG(X:Cx)(target:UZ)(t:TG):Prop:=
 ∀(pins:List (UM×Obj))(s:UW)(σ:St)(H:Hp)(v:V)(u:UJ)(Q:St->Hp->Prop),Inv X pins σ H s->RelV v u->t v σ H Q->
  UY (model X.prog X.w) X.A (assign target X.env u) (λ_ s'=>∃σ' H',Inv X pins σ' H' s'/\Q σ' H') X.xe s
def MG(X:Cx)(ts:List UZ)(t:Jn):Prop:=
 ∀(pins:List (UM×Obj))(s:UW)(σ:St)(H:Hp)(vs:List V)(us:List UJ)(Q:St->Hp->Prop),Inv X pins σ H s->Vals vs us->t vs σ H Q->
  UY (model X.prog X.w) X.A (assignInOrder ((assignEach ts X.env).map (·.2)) us) (λ_ s'=>∃σ' H',Inv X pins σ' H' s'/\Q σ' H') X.xe s
section
variable{X:Cx}{pos:Pos}
def vS(i:Nat):TG:=λv σ H Q=>Q (σ.set i (some v)) H
def HH{i:Nat}{x:Str}(hN:X.N.Nodup)(hi:X.N[i]?=some x)(hx:Loc X.env.scope x)(hf:X.fn x=true\/X.env.scope.names.lookup x=some .local:=by first|exact .inl rfl|exact .inr rfl|assumption):PG X (.Name x pos) (vS i):=by
 intro pins s σ H v u Q I r h;exact wpAny_assign_Name (yW I hN hi hx r (λs' I'=>⟨_,H,I',h⟩) hf)
def Pp:Jn:=λvs σ H Q=>vs=[]/\Q σ H
def Mw(t:TG)(u:Jn):Jn:=λvs σ H Q=>∃v r,vs=v::r/\t v σ H λσ' H'=>u r σ' H' Q
def Ja:MG X [] Pp:=by
 intro pins s σ H vs us Q I r h;obtain⟨e,h⟩:=h;subst e;cases r;exact assignInOrder_nil ⟨σ,H,I,h⟩
def E9{e:UZ}{es:List UZ}{t:TG}{u:Jn}(h1:PG X e t)(h2:MG X es u)
  (hs:(assignEach (e::es) X.env).map (·.2)=assign e X.env::(assignEach es X.env).map (·.2):=by rfl):MG X (e::es) (Mw t u):=by
 intro pins s σ H vs us Q I r h;obtain⟨v,vr,e1,h⟩:=h;subst e1;cases r with
 |cons r rr=>
  rw[hs];refine assignInOrder_cons (dM (h1 pins s σ H _ _ _ I r h) λ_ s1 ⟨σ1,H1,I1,q1⟩=>?_);exact h2 pins s1 σ1 H1 _ _ Q I1 rr q1
def OZ(K:Tt)(n:Nat)(t:Jn):TG:=λv σ H Q=>∃a xs,v=.ref a/\rk K H a xs/\xs.length=n/\t xs σ H Q
def Kz{es:List UZ}{k:Nat}{t:Jn}{n:Nat}(hc:X.calm=true)(h:MG X es t)
  (hn:(assignEach es X.env).length=n:=by rfl) (hst:(assignEach es X.env).findIdx? (·.1)=none:=by rfl):PG X (.Tuple es k pos) (OZ X.K n t):=by
 intro pins s σ H v u Q I r hw;obtain⟨a,xs,e1,hq,hl,hw⟩:=hw;subst e1;cases r;obtain⟨its,rv,ht,hz⟩:=I.tuple hq;refine assign_Tuple_tuple (I.ok.hd hc) ht (by simp[hn,<-hl,rv.length]) hst λh' hx=>?_;have I1:Inv X pins σ H {s with heap:=h'}:=I.kept (t':=s.toks) λb o e=>hx b o (QJ (Ub e)) e;exact h pins _ σ H xs _ Q I1 (by simpa using rv) hw
def Fd(te:TE)(g:TG):TS:=λD σ H=>te σ H λx H1=>g x σ H1 D.nx
def JR{tg e:UZ}{te:TE}{g:TG}(he:PE X e te)(hg:PG X tg g)(hs:swapsWithSole [tg] e pos.line X.env=pure false:=by rfl)(hw:swappedStores [tg] e X.env=pure none:=by rfl)
  (h1:(assignEach [tg] X.env).map (·.2)=[assign tg X.env]:=by rfl):PS X (.Assign [tg] e pos) (Fd te g):=by
 intro pins s σ H D I h;refine wpAny_Assign_stores (dM (he pins s σ H _ I h) λv s1 ⟨x,H1,I1,r1,q1⟩=>?_) hs hw;rw[h1];exact dM (hg pins s1 σ H1 x v _ I1 r1 q1) λ_ s2 q=>q
def A3{i:Nat}{x:Str}{e:UZ}{te:TE}{pos':Pos}(hN:X.N.Nodup)(hi:X.N[i]?=some x)(hx:Loc X.env.scope x)(he:PE X e te)(hs:swapsWith e (some (.Name x pos')) pos.line X.env=pure false:=by rfl)(hf:X.fn x=true\/X.env.scope.names.lookup x=some .local:=by first|exact .inl rfl|exact .inr rfl|assumption):
  PS X (.Assign [.Name x pos'] e pos) (Fd te (vS i)):=by
 intro pins s σ H D I h;refine wpAny_Assign_Name (dM (he pins s σ H _ I h) λv s1 ⟨y,H1,I1,r1,q1⟩=>?_) hs;exact yW I1 hN hi hx r1 (λs2 I2=>⟨_,H1,I2,q1⟩) hf
end
structure It where
 go:Nat->Hp->Prop
 yld:Nat->Hp->V->Hp->Prop
 stop:Nat->Hp->Prop
def vc(X:Cx)(pins:List (UM×Obj))(H:Hp)(b:UM):Prop:=
 H b=none/\b≠X.env.locals/\b∉X.fs/\(b∈X.ex\/X.s₀.heap.objs.size<=b)/\(∀x c,X.env.cells.lookup x=some c->c≠b)/\∀p∈X.pn++pins,p.1≠b
def Inv.fpOk{X:Cx}{pins:List (UM×Obj)}{σ:St}{H H':Hp}{s:UW}{b:UM}(I:Inv X pins σ H s)(hb:s.heap.objs.size<=b)(hn:H' b=none):vc X pins H' b:=by
 refine⟨hn,QS (QH I.lt hb),I.nofs hb,.inr (QK I.sz hb),λx c e z=>?_,λp hp z=>?_⟩
 ·obtain⟨v,q⟩:=I.cell x c e;exact absurd (QH q.lt (by rw[z];exact hb)) (QI _)
 ·exact absurd (QH (Ub (I.pin p hp).1) (by rw[z];exact hb)) (QI _)
structure Turn(P:UL)(w:UK)(K:Tt)(tg:UZ)(J:It)(fp:List UM)(it:UM)(tn:Nat->UO->Prop):Prop where
 mem:it∈fp
 obj:∀i h,tn i h->∀b∈fp,∃o,h.get? b=some o/\∀v,o.data≠.cell v
 keep:∀i h h',tn i h->(∀b∈fp,∀o,h.get? b=some o->h'.get? b=some o)->tn i h'
 item:∀(X:Cx),X.prog=P->X.w=w->X.K=K->X.calm=true->∀(i:Nat)(pins:List (UM×Obj))(s:UW)(σ:St)(H:Hp)(E:UJ->UW->Prop),Inv X pins σ H s->(∀b∈fp,vc X pins H b)->tn i s.heap->J.go i H->
  UY (model P w) X.A (pyNext (.ref it)) (λr s1=>∃u,r=some u/\
   UY (model P w) X.A (letOwnedTupleGo tg (.ref it) u) (λ_ s2=>∃x H',Inv X pins σ H' s2/\RelV x u/\J.yld i H x H'/\tn (i+1) s2.heap/\∀b∈fp,H' b=none) E s1) E s
 done:∀(X:Cx),X.prog=P->X.w=w->X.K=K->X.calm=true->∀(i:Nat)(pins:List (UM×Obj))(s:UW)(σ:St)(H:Hp)(E:UJ->UW->Prop),Inv X pins σ H s->(∀b∈fp,vc X pins H b)->tn i s.heap->J.stop i H->
  UY (model P w) X.A (pyNext (.ref it)) (λr s1=>r=none/\Inv X pins σ H s1) E s
 self:∀(A:UV)(i:Nat)(s:UW)(Q:UJ->UW->Prop)(E:UJ->UW->Prop),tn i s.heap->Q (.ref it) s->UY (model P w) A (pyIter (.ref it)) Q E s
abbrev TI:=St->Hp->(It->Hp->Prop)->Prop
def PIE(X:Cx)(pins:List (UM×Obj))(σ:St)(tg:UZ)(R:It->Hp->Prop)(itv:UJ)(s2:UW):Prop:=
 ∃(it:UM)(fp:List UM)(tn:Nat->UO->Prop)(J:It)(H':Hp),itv=.ref it/\Inv X pins σ H' s2/\Turn X.prog X.w X.K tg J fp it tn/\tn 0 s2.heap/\(∀b∈fp,vc X pins H' b)/\R J H'
def PI(X:Cx)(tg iter:UZ)(wi:TI):Prop:=
 ∀(pins:List (UM×Obj))(s:UW)(σ:St)(H:Hp)(R:It->Hp->Prop),Inv X pins σ H s->wi σ H R->
  UY (model X.prog X.w) X.A (eval iter X.env) (λv s1=>UY (model X.prog X.w) X.A (pyIter v) (PIE X pins σ tg R) X.xe s1) X.xe s
def B6{M:Model}{A:UV}{E:UJ->UW->Prop}{s:UW}{tg:UZ}{it:UM}{u:UJ}{o:Obj}{n:String}{vs:Array UJ}{Q:Unit->UW->Prop}(ho:s.heap.get? it=some o)(hc:o.cls=.type n)(hd:o.data=.fields vs)
    (hn:["enumerate","zip","dict_itemiterator","dict_reverseitemiterator","odict_iterator","itertools.zip_longest","itertools.pairwise"].contains n=false) (hQ:Q () s):UY M A (letOwnedTupleGo tg (.ref it) u) Q E s:=by
  unfold letOwnedTupleGo;cases tg<;>first
    |exact U6 hQ
    | (cases u <;> first
        |exact U6 hQ
        | (refine U7 (wpAny_load ho ?_)
           rw[hc,hd];show UY M A (if(["enumerate","zip","dict_itemiterator","dict_reverseitemiterator","odict_iterator","itertools.zip_longest","itertools.pairwise"].contains n&&vs[0]?==some (rawInt _))=true then _ else _) Q E s;rw[if_neg (by intro h;rw[hn,Bool.false_and]at h;cases h)];exact U6 hQ))
def O3(K:Tt)(a:UM):It:=
 ⟨λi H=>∃xs x,pH K H a xs/\xs[i]?=some x,λi H x H'=>H'=H/\∀xs,pH K H a xs->xs[i]?=some x,λi H=>∃xs,pH K H a xs/\xs.length<=i⟩
def Ol(K:Tt)(a:UM):It:=
 ⟨λi H=>∃xs x,rk K H a xs/\xs[i]?=some x,λi H x H'=>H'=H/\∀xs,rk K H a xs->xs[i]?=some x,λi H=>∃xs,rk K H a xs/\xs.length<=i⟩
def L3(lo:Int)(n:Nat):It:=⟨λi _=>i<n,λi H x H'=>H'=H/\x=.int (lo+i),λi _=>n<=i⟩
def D4{P:UL}{w:UK}{K:Tt}{tg:UZ}(a it:UM):Turn P w K tg (O3 K a) [it] it (λi h=>h.IsListIter it a i)where
 mem:=by simp
 obj:=λi h st b hb=>by
  have e:b=it:=by simpa using hb
  subst e;obtain⟨o,e,c,d⟩:=st;exact⟨o,e,λv z=>by rw[d]at z;cases z⟩
 keep:=λi h h' st k=>st.at λo e=>k it (by simp) o e
 item:=by
  intro X hP hw hK hc i pins s σ H E I hf st hg;subst hP hw hK;obtain⟨xs,x,hq,hx⟩:=hg;obtain⟨its,rv,p,hz⟩:=I.list hq;obtain⟨u,hu,ru⟩:=rv.get hx;obtain⟨f0,f1,f2,f3,f4,f5⟩:=hf it (by simp);refine wpAny_pyNext_list_item st p.isList (x:=u) (by simpa using hu) λh' st' sb=>?_;have I1:Inv X pins σ H {s with heap:=h'}:=I.turned (t':=s.toks) (λb o hb e=>(sb.2 b hb).trans e) f0 f1 f3 f4 f5;obtain⟨o,e,c,d⟩:=id st';exact⟨u,rfl,B6 (s:={s with heap:=h'}) e c d (by decide) ⟨x,H,I1,ru,⟨rfl,λys hy=>by rw[I.list_inj hy hq];exact hx⟩,st',λb hb=>(hf b hb).1⟩⟩
 done:=by
  intro X hP hw hK hc i pins s σ H E I hf st hg;subst hP hw hK;obtain⟨xs,hq,hx⟩:=hg;obtain⟨its,rv,p,hz⟩:=I.list hq;obtain⟨f0,f1,f2,f3,f4,f5⟩:=hf it (by simp);have hl:=rv.length;exact wpAny_pyNext_list_end (I.ok.hd hc) st p.isList (by simp;omega) λh' eb=>⟨rfl,I.turned (t':=s.toks) (λb o hb e=>eb b o hb e) f0 f1 f3 f4 f5⟩
 self:=λ_ _ _ _ _ st h=>wpAny_pyIter_listiter st h
def AC{P:UL}{w:UK}{K:Tt}{tg:UZ}(a it:UM):Turn P w K tg (Ol K a) [it] it (λi h=>h.IsTupleIter it a i)where
 mem:=by simp
 obj:=λi h st b hb=>by
  have e:b=it:=by simpa using hb
  subst e;obtain⟨o,e,c,d⟩:=st;exact⟨o,e,λv z=>by rw[d]at z;cases z⟩
 keep:=λi h h' st k=>st.at λo e=>k it (by simp) o e
 item:=by
  intro X hP hw hK hc i pins s σ H E I hf st hg;subst hP hw hK;obtain⟨xs,x,hq,hx⟩:=hg;obtain⟨its,rv,p,hz⟩:=I.tuple hq;obtain⟨u,hu,ru⟩:=rv.get hx;obtain⟨f0,f1,f2,f3,f4,f5⟩:=hf it (by simp);refine wpAny_pyNext_tuple_item st (show s.heap.IsTuple a its.toArray from p) (x:=u) (by simpa using hu) λh' st' sb=>?_;have I1:Inv X pins σ H {s with heap:=h'}:=I.turned (t':=s.toks) (λb o hb e=>(sb.2 b hb).trans e) f0 f1 f3 f4 f5;obtain⟨o,e,c,d⟩:=id st';exact⟨u,rfl,B6 (s:={s with heap:=h'}) e c d (by decide) ⟨x,H,I1,ru,⟨rfl,λys hy=>by rw[I.tuple_inj hy hq];exact hx⟩,st',λb hb=>(hf b hb).1⟩⟩
 done:=by
  intro X hP hw hK hc i pins s σ H E I hf st hg;subst hP hw hK;obtain⟨xs,hq,hx⟩:=hg;obtain⟨its,rv,p,hz⟩:=I.tuple hq;obtain⟨f0,f1,f2,f3,f4,f5⟩:=hf it (by simp);have hl:=rv.length;exact wpAny_pyNext_tuple_end (I.ok.hd hc) st (show s.heap.IsTuple a its.toArray from p) (by simp;omega) λh' eb=>⟨rfl,I.turned (t':=s.toks) (λb o hb e=>eb b o hb e) f0 f1 f3 f4 f5⟩
 self:=λ_ _ _ _ _ st h=>wpAny_pyIter_tupleiter st h
def AY{P:UL}{w:UK}{K:Tt}{tg:UZ}(it:UM)(lo:Int)(n:Nat):Turn P w K tg (L3 lo n) [it] it (λi h=>U8 h it (lo+(i:Nat)*1) ((n:Int)-(i:Nat)) 1)where
 mem:=by simp
 obj:=λi h st b hb=>by
  have e:b=it:=by simpa using hb
  subst e;exact⟨_,st,λv z=>by
   have z':Data.fields _=Data.cell v:=z;cases z'⟩
 keep:=λi h h' st k=>k it (by simp) _ st
 item:=by
  intro X hP hw hK hc i pins s σ H E I hf st hg;subst hP hw hK;obtain⟨f0,f1,f2,f3,f4,f5⟩:=hf it (by simp);have W:=Walks.range (prog:=X.prog) (w:=X.w) (I.ok.hd hc) it lo 1 n;refine W.item i s _ _ hg st λv h' tk hv st' kk=>?_;obtain⟨t,rfl⟩:=hv;have I1:Inv X pins σ H {s with heap:=h',toks:=tk}:=I.turned (λb o hb e=>kk b o (by simpa using hb) e) f0 f1 f3 f4 f5;refine⟨_,rfl,B6 (s:={s with heap:=h',toks:=tk}) (n:="range_iterator") st' rfl rfl (by decide) ⟨.int (lo+i),H,I1,⟨t,?_⟩,⟨rfl,rfl⟩,st',λb hb=>(hf b hb).1⟩⟩;rw[Int.mul_one]
 done:=by
  intro X hP hw hK hc i pins s σ H E I hf st hg;subst hP hw hK;obtain⟨f0,f1,f2,f3,f4,f5⟩:=hf it (by simp);exact wpAny_pyNext_range_end (I.ok.hd hc) st (by have:n<=i:=hg;omega) λh' eb=>⟨rfl,I.turned (t':=s.toks) (λb o hb e=>eb b o hb e) f0 f1 f3 f4 f5⟩
 self:=λ_ _ _ _ _ st h=>wpAny_pyIter_rangeiter st h
section
variable{X:Cx}{tg:UZ}
def L8(K:Tt)(tl:TE):TI:=λσ H R=>tl σ H λx H1=>∃a,x=.ref a/\(∃xs,pH K H1 a xs)/\R (O3 K a) H1
def N2(K:Tt)(tl:TE):TI:=λσ H R=>tl σ H λx H1=>∃a,x=.ref a/\(∃xs,rk K H1 a xs)/\R (Ol K a) H1
def BE{l:UZ}{tl:TE}(hl:PE X l tl):PI X tg l (L8 X.K tl):=by
 intro pins s σ H R I h;refine dM (hl pins s σ H _ I h) λv s1 ⟨x,H1,I1,r1,q1⟩=>?_;obtain⟨a,e,⟨xs,hq⟩,q⟩:=q1;subst e;cases r1;obtain⟨its,rv,p,hz⟩:=I1.list hq;refine U9 p.isList ?_;refine⟨s1.heap.objs.size,[s1.heap.objs.size],_,_,H1,rfl,I1.kept (t':=s1.toks) λb o e=>Ue _ e,D4 a _,⟨_,Ug _ rfl,rfl,rfl⟩,λb hb=>?_,q⟩;have e:b=s1.heap.objs.size:=by simpa using hb
 subst e;exact I1.fpOk (QT _) (I1.hok.fresh (QT _))
def Kr{l:UZ}{tl:TE}(hl:PE X l tl):PI X tg l (N2 X.K tl):=by
 intro pins s σ H R I h;refine dM (hl pins s σ H _ I h) λv s1 ⟨x,H1,I1,r1,q1⟩=>?_;obtain⟨a,e,⟨xs,hq⟩,q⟩:=q1;subst e;cases r1;obtain⟨its,rv,p,hz⟩:=I1.tuple hq;refine wpAny_pyIter_tuple (show s1.heap.IsTuple a its.toArray from p) ?_;refine⟨s1.heap.objs.size,[s1.heap.objs.size],_,_,H1,rfl,I1.kept (t':=s1.toks) λb o e=>Ue _ e,AC a _,⟨_,Ug _ rfl,rfl,rfl⟩,λb hb=>?_,q⟩;have e:b=s1.heap.objs.size:=by simpa using hb
 subst e;exact I1.fpOk (QT _) (I1.hok.fresh (QT _))
def yF{pins:List (UM×Obj)}{σ:St}{H:Hp}{s:UW}{R:It->Hp->Prop}{E:UJ->UW->Prop}{lo hi:Int}{t u v:Tok}{tk:Nat}(I:Inv X pins σ H s)(h1:-(2^62)<=lo)(h2:lo<2^62)(h3:-(2^62)<=hi)(h4:hi<2^62)
  (q:R (L3 lo (hi-lo).toNat) H):UY (model X.prog X.w) X.A (pyIter (.ref s.heap.objs.size)) (PIE X pins σ tg R) E {s with heap:=s.heap.push {cls:=.type "range",data:=.fields #[.int lo t,.int hi u,.int 1 v]},toks:=tk}:=by
 refine wpAny_pyIter_range (IsRange.new ..) (small_one h1 h2 h3 h4) ?_;have I1:Inv X pins σ H {s with heap:=s.heap.push {cls:=.type "range",data:=.fields #[.int lo t,.int hi u,.int 1 v]},toks:=tk}:=I.kept λb o e=>Ue _ e;refine⟨(s.heap.push {cls:=.type "range",data:=.fields #[.int lo t,.int hi u,.int 1 v]}).objs.size,[(s.heap.push {cls:=.type "range",data:=.fields #[.int lo t,.int hi u,.int 1 v]}).objs.size],_,_,H,rfl,
  I1.kept (t':=tk) λb o e=>Ue _ e,AY _ lo (hi-lo).toNat,?_,λb hb=>?_,q⟩
 ·have e1:lo+((0:Nat):Int)*1=lo:=by simp
  have e2:(((hi-lo).toNat:Nat):Int)-((0:Nat):Int)=Builtin.Range.rangeSize lo hi 1:=by rw[rangeSize_one];split<;>omega
  show U8 _ _ (lo+((0:Nat):Int)*1) ((((hi-lo).toNat:Nat):Int)-((0:Nat):Int)) 1;rw[e1,e2];exact Ug _ rfl
 ·have e:b=(s.heap.push {cls:=.type "range",data:=.fields #[.int lo t,.int hi u,.int 1 v]}).objs.size:=by simpa using hb
  subst e;exact I1.fpOk (QT _) (I1.hok.fresh (QT _))
def LD(ta:TA):TI:=λσ H R=>ta σ H λvs H1=>∃j:Int,vs=[.int j]/\-(2^62)<=j/\j<2^62/\R (L3 0 j.toNat) H1
def MF(ta:TA):TI:=λσ H R=>ta σ H λvs H1=>∃i j:Int,vs=[.int i,.int j]/\(-(2^62)<=i/\i<2^62/\-(2^62)<=j/\j<2^62)/\R (L3 i (j-i).toNat) H1
def Dw{a:UZ}{ta:TA}{p pos:Pos}(hg:Gl X "range")(hm:X.mg "range"=none)(ha:PA X [a] ta)(hs:U0 [a] X.env=[(false,eval a X.env)]:=by rfl):PI X tg (.Call (.Name "range" p) [a] [] pos) (LD ta):=by
 intro pins s σ H R I h;refine Call_ (kF I hg hm boot_range (Uq (dM (ha pos pins s σ H _ I h) λus s1 ⟨vs,H1,I1,r1,q1⟩=>?_) hs rfl));obtain⟨j,e,q1,q2,q⟩:=q1;subst e;cases r1 with
 |cons r rr=>
  cases rr;obtain⟨t,rfl⟩:=r;exact call_range_1 (yF I1 ‹0› ‹0› q1 q2 (by simpa using q))
def D6{a b:UZ}{ta:TA}{p pos:Pos}(hg:Gl X "range")(hm:X.mg "range"=none)(ha:PA X [a,b] ta)(hs:U0 [a,b] X.env=[(false,eval a X.env),(false,eval b X.env)]:=by rfl)(hs2:U0 [b] X.env=[(false,eval b X.env)]:=by rfl):
  PI X tg (.Call (.Name "range" p) [a,b] [] pos) (MF ta):=by
 intro pins s σ H R I h;refine Call_ (kF I hg hm boot_range (Uq (dM (ha pos pins s σ H _ I h) λus s1 ⟨vs,H1,I1,r1,q1⟩=>?_) (by rw[hs,hs2]) (by rw[hs2];rfl)));obtain⟨i,j,e,⟨q1,q2,q3,q4⟩,q⟩:=q1;subst e;cases r1 with
 |cons r rr=>
  cases rr with
  |cons r' rr=>
   cases rr;obtain⟨t,rfl⟩:=r;obtain⟨t',rfl⟩:=r';exact call_range_2 (yF I1 q1 q2 q3 q4 q)
def Pq(wi:TI)(g:TG)(tb:TS):TS:=λD σ H=>wi σ H λJ H1=>∃W:Nat->Nat->St->Hp->Prop,(∃m,W 0 m σ H1)/\∀i m σ H,W i m σ H->
 (J.stop i H/\D.nx σ H)\/(J.go i H/\∃N:St->Hp->Prop,(∀σ' H',N σ' H'->∃m',m'<m/\W (i+1) m' σ' H')/\∀x H',J.yld i H x H'->g x σ H' λσ2 H2=>tb {D with nx:=N,ct:=N,bk:=D.nx} σ2 H2)
def t9(fp:List UM)(h:UO):List (UM×Obj):=fp.filterMap λb=>(h.get? b).map λo=>(b,o)
def lV{fp:List UM}{h:UO}{b:UM}{o:Obj}(hb:b∈fp)(e:h.get? b=some o):(b,o)∈t9 fp h:=List.mem_filterMap.mpr ⟨b,hb,by rw[e];rfl⟩
def Ee{fp:List UM}{h:UO}{p:UM×Obj}(hp:p∈t9 fp h):p.1∈fp/\h.get? p.1=some p.2:=by
 obtain⟨b,hb,e⟩:=List.mem_filterMap.mp hp;cases q:h.get? b with
 |none=>rw[q]at e;cases e
 |some o=>
  rw[q]at e;have e':(b,o)=p:=Option.some.inj e;subst e';exact⟨hb,q⟩
def Inv.pinned{pins:List (UM×Obj)}{σ:St}{H:Hp}{s:UW}{fp:List UM}(I:Inv X pins σ H s)(hf:∀b∈fp,vc X pins H b)(ho:∀b∈fp,∃o,s.heap.get? b=some o/\∀v,o.data≠.cell v):Inv X (pins++t9 fp s.heap) σ H s:=
 I.pins_of λp hp=>(List.mem_append.mp hp).elim (λz=>I.pin p (QU _ z)) λz=>by
  obtain⟨hb,e⟩:=Ee z;obtain⟨f0,f1,f2,_⟩:=hf p.1 hb;obtain⟨o,e',d⟩:=ho p.1 hb;rw[e]at e';cases e';exact⟨e,f0,f1,f2,d⟩
def Inv.unpinned{pins pl:List (UM×Obj)}{σ:St}{H:Hp}{s:UW}(I:Inv X (pins++pl) σ H s):Inv X pins σ H s:=I.pins_of λp hp=>I.pin p (QU _ (QP _ hp))
def K7{iter:UZ}{body:List U1}{wi:TI}{g:TG}{tb:TS}{pos:Pos}(hp:Va (model X.prog X.w) X.A X.env X.xe)(hc:X.calm=true)(hi:PI X tg iter wi)(hg:PG X tg g)(hb:yN X body tb)
  (hs:∀x,Vb iter X.env x=pure x:=by intro _;rfl):PS X (.For tg iter body [] pos) (Pq wi g tb):=by
 intro pins s σ H D I h;refine wpAny_For (dM (hi pins s σ H _ I h) λv s1 h1=>dM h1 λitv s2 h2=>?_) hs;obtain⟨it,fp,tn,J,H2,e,I2,T,st2,f2,W,⟨m0,w0⟩,turn⟩:=h2;subst e;have stat:∀{H':Hp},(∀b∈fp,H' b=none)->∀b∈fp,vc X pins H' b:=λhn b hb=>⟨hn b hb,(f2 b hb).2⟩
 refine codeAny_forLoop_any (λn s'=>∃i σ' H',Inv X pins σ' H' s'/\tn i s'.heap/\(∀b∈fp,H' b=none)/\W i n σ' H') ?_ m0 ⟨0,σ,H2,I2,st2,λb hb=>(f2 b hb).1,w0⟩;rintro n s3 ⟨i,σ3,H3,I3,st3,fr3,w3⟩;rcases turn i n σ3 H3 w3 with⟨stop,qn⟩|⟨go,N,hN,step⟩
 ·refine Vc hp (dM (T.done X rfl rfl rfl hc i pins s3 σ3 H3 X.xe I3 (stat fr3) st3 stop) λr s4 ⟨hr,I4⟩=>?_);subst hr;exact U5 ⟨σ3,H3,I4,qn⟩
 ·refine Vc hp (dM (T.item X rfl rfl rfl hc i pins s3 σ3 H3 X.xe I3 (stat fr3) st3 go) λr s4 ⟨u,hr,h4⟩=>?_);subst hr;refine Vc hp (dM h4 λ_ s5 ⟨x,H5,I5,r5,y5,st5,fr5⟩=>?_);have I5':=I5.pinned (stat fr5) (T.obj _ _ st5);refine Vc hp (dM (hg _ s5 σ3 H5 x u _ I5' r5 (step x H5 y5)) λ_ s6 ⟨σ6,H6,I6,q6⟩=>?_);refine Vc hp (dM (hb _ s6 σ6 H6 _ I6 q6) λf s7 q7=>?_);have again:∀{σ7:St}{H7:Hp},Inv X (pins++t9 fp s5.heap) σ7 H7 s7->N σ7 H7->∃m,m<n/\∃i σ' H',Inv X pins σ' H' s7/\tn i s7.heap/\(∀b∈fp,H' b=none)/\W i m σ' H':=λ{σ7 H7} I7 n7=>by
   obtain⟨m',hm,w7⟩:=hN σ7 H7 n7;refine⟨m',hm,i+1,σ7,H7,I7.unpinned,T.keep _ _ _ st5 λb hb o e=>(I7.pin (b,o) (QU _ (QU _ (lV hb e)))).1,λb hb=>?_,w7⟩;obtain⟨o,e,d⟩:=T.obj _ _ st5 b hb;exact(I7.pin (b,o) (QU _ (QU _ (lV hb e)))).2.1
  cases f with
  |next=>obtain⟨σ7,H7,I7,n7⟩:=q7;exact again I7 n7
  |cont=>obtain⟨σ7,H7,I7,n7⟩:=q7;exact again I7 n7
  |brk=>obtain⟨σ7,H7,I7,q7⟩:=q7;exact⟨σ7,H7,I7.unpinned,q7⟩
  |ret v=>obtain⟨x7,σ7,H7,I7,r7,q7⟩:=q7;exact⟨x7,σ7,H7,I7.unpinned,r7,q7⟩
end
abbrev R2:=V->V->Hp->VK->Prop
def kn(X:Cx)(f:UJ->UJ->Sem UJ)(r:R2):Prop:=
 ∀(pins:List (UM×Obj))(s:UW)(σ:St)(H:Hp)(x y:V)(v u:UJ)(Q:VK),Inv X pins σ H s->RelV x v->RelV y u->r x y H Q->
  UY (model X.prog X.w) X.A (f v u) (EP X pins σ Q) X.xe s
def O1(X:Cx)(f:UJ->Sem UJ)(r:V->Hp->VK->Prop):Prop:=
 ∀(pins:List (UM×Obj))(s:UW)(σ:St)(H:Hp)(x:V)(v:UJ)(Q:VK),Inv X pins σ H s->RelV x v->r x H Q->
  UY (model X.prog X.w) X.A (f v) (EP X pins σ Q) X.xe s
def dY(X:Cx)(f:UJ)(r:List V->Hp->VK->Prop):Prop:=
 ∀(pins:List (UM×Obj))(s:UW)(σ:St)(H:Hp)(xs:List V)(us:List UJ)(Q:VK),Inv X pins σ H s->Vals xs us->r xs H Q->
  UY (model X.prog X.w) X.A (call f us) (EP X pins σ Q) X.xe s
def Ph(X:Cx)(r:V->Hp->(Bool->Hp->Prop)->Prop):Prop:=
 ∀(pins:List (UM×Obj))(s:UW)(σ:St)(H:Hp)(x:V)(v:UJ)(Q:Bool->Hp->Prop),Inv X pins σ H s->RelV x v->r x H Q->
  UY (model X.prog X.w) X.A (truthy v) (TP X pins σ Q) X.xe s
def Mm(r:R2)(ta tb:TE):TE:=λσ H Q=>ta σ H λx H1=>tb σ H1 λy H2=>r x y H2 Q
def Qq(r:V->Hp->VK->Prop)(ta:TE):TE:=λσ H Q=>ta σ H λx H1=>r x H1 Q
def rI(C:Int->Int->Prop)(g:Int->Int->V):R2:=λx y H Q=>∃i j,x=.int i/\y=.int j/\C i j/\Q (g i j) H
def Df(g:Int->Int->V):R2:=λx y H Q=>∃i j,x=.int i/\y=.int j/\Q (g i j) H
def rU(g:Int->V):V->Hp->VK->Prop:=λx H Q=>∃i,x=.int i/\Q (g i) H
section
variable{X:Cx}{a b c:UZ}{ta tb tc:TE}{pos:Pos}
def KS(ha:PE X a ta)(hb:PE X b tb){pins:List (UM×Obj)}{s:UW}{σ:St}{H:Hp}{R:V->V->Hp->Prop}(I:Inv X pins σ H s)
  (h:ta σ H λx H1=>tb σ H1 λy H2=>R x y H2) {Q:UJ->UW->Prop} {f:UJ->UJ->Sem UJ}
  (hf:∀v u s2 x y H2,Inv X pins σ H2 s2->RelV x v->RelV y u->R x y H2->UY (model X.prog X.w) X.A (f v u) Q X.xe s2):
  UY (model X.prog X.w) X.A (eval a X.env) (λv s₁=>UY (model X.prog X.w) X.A (eval b X.env) (λu s₂=>UY (model X.prog X.w) X.A (f v u) Q X.xe s₂) X.xe s₁) X.xe s:=by
 refine dM (ha pins s σ H _ I h) λv s1 ⟨x,H1,I1,r1,q1⟩=>?_;refine dM (hb pins s1 σ H1 _ I1 q1) λu s2 ⟨y,H2,I2,r2,q2⟩=>?_;exact hf v u s2 x y H2 I2 r1 r2 q2
def M7{op:Operator}{r:R2}(ho:kn X (Vd op) r)(ha:PE X a ta)(hb:PE X b tb):PE X (.BinOp a op b pos) (Mm r ta tb):=by
 intro pins s σ H Q I h;exact wpAny_BinOp (KS ha hb I h λv u s2 x y H2 I2 rx ry q=>ho pins s2 σ H2 x y v u Q I2 rx ry q)
def Mu{op:UnaryOp}{r:V->Hp->VK->Prop}(ho:O1 X (unaryOp op) r)(ha:PE X a ta):PE X (.UnaryOp op a pos) (Qq r ta):=by
 intro pins s σ H Q I h;exact UnaryOp_ (dM (ha pins s σ H _ I h) λv s1 ⟨x,H1,I1,r1,q1⟩=>ho pins s1 σ H1 x v Q I1 r1 q1)
def MN{f:UJ->UJ->Sem UJ}{C:Int->Int->Prop}{g:Int->Int->Int}
  (rule:∀(i j:Int)(t u:Tok)(s:UW)(Q:UJ->UW->Prop)(E:UJ->UW->Prop),C i j->Q (.int (g i j) s.toks) {s with toks:=s.toks+1}->UY (model X.prog X.w) X.A (f (.int i t) (.int j u)) Q E s):
  kn X f (rI C λi j=>.int (g i j)):=by
 intro pins s σ H x y v u Q I rx ry h;obtain⟨i,j,rfl,rfl,hc,q⟩:=h;obtain⟨t,rfl⟩:=rx;obtain⟨t',rfl⟩:=ry;exact rule i j t t' s _ _ hc ⟨.int (g i j),H,I.tok _,⟨_,rfl⟩,q⟩
def K5{f:UJ->UJ->Sem UJ}{g:Int->Int->Int}
  (rule:∀(i j:Int)(t u:Tok)(s:UW)(Q:UJ->UW->Prop)(E:UJ->UW->Prop),Q (.int (g i j) s.toks) {s with toks:=s.toks+1}->UY (model X.prog X.w) X.A (f (.int i t) (.int j u)) Q E s):
  kn X f (Df λi j=>.int (g i j)):=by
 intro pins s σ H x y v u Q I rx ry h;obtain⟨i,j,rfl,rfl,q⟩:=h;obtain⟨t,rfl⟩:=rx;obtain⟨t',rfl⟩:=ry;exact rule i j t t' s _ _ ⟨.int (g i j),H,I.tok _,⟨_,rfl⟩,q⟩
def HY{f:UJ->UJ->Sem UJ}{g:Int->Int->Bool}
  (rule:∀(i j:Int)(t u:Tok)(s:UW)(Q:UJ->UW->Prop)(E:UJ->UW->Prop),Q (.bool (g i j)) s->UY (model X.prog X.w) X.A (f (.int i t) (.int j u)) Q E s):
  kn X f (Df λi j=>.bl (g i j)):=by
 intro pins s σ H x y v u Q I rx ry h;obtain⟨i,j,rfl,rfl,q⟩:=h;obtain⟨t,rfl⟩:=rx;obtain⟨t',rfl⟩:=ry;exact rule i j t t' s _ _ ⟨.bl (g i j),H,I,rfl,q⟩
def LI(i j:Int):Prop:=0<=j/\j<=1000000/\i.natAbs<2^64
def Kc(i j:Int):Prop:=(-(2^64)<i/\i<2^64)\/(-(2^64)<j/\j<2^64)
def Kc.ok{i j:Int}(h:Kc i j):IntMulOk i j:=by
 rcases h with⟨h1,h2⟩|⟨h1,h2⟩
 ·exact .of_left (intBits_le_64 h1 h2)
 ·exact .of_right (intBits_le_64 h1 h2)
def Ah(k:Nat):(0:Int)<=2^k:=by
 rw[two_pow_cast];exact QV _
def K3:kn X (Vd .Add) (Df λi j=>.int (i+j)):=K5 λ_ _ _ _ _ _ _ q=>add_int q
def nN:kn X (Vd .Sub) (Df λi j=>.int (i-j)):=K5 λ_ _ _ _ _ _ _ q=>sub_int q
def kG:kn X (Vd .Mult) (rI Kc λi j=>.int (i*j)):=MN λ_ _ _ _ _ _ _ hc q=>mul_int q hc.ok
def bz:kn X (Vd .Mod) (rI (λ_ j=>0<j) λi j=>.int (i%j)):=MN λi j _ _ _ _ _ hc q=>by
 have h1:(0:Int)<j:=hc;exact mod_int' ‹0› (by rw[Int.fmod_eq_emod_of_nonneg i ‹0›];exact q)
def qI:kn X (Vd .Pow) (rI LI λi j=>.int (i^j.toNat)):=MN λ_ _ _ _ _ _ _ hc q=>pow_int_small hc.1 hc.2.1 hc.2.2 q
def AI:kn X (Vd .RShift) (rI (λ_ j=>0<=j) λi j=>.int (i/2^j.toNat)):=MN λi j _ _ _ _ _ hc q=>
 rshift_int hc (by rw[QW i (Ah _)];exact q)
def AH:kn X (Vd .BitAnd) (Df λi j=>.int (Builtin.bitAnd i j)):=K5 λ_ _ _ _ _ _ _ q=>and_int q
def QB{f:UJ->Sem UJ}{g:Int->Int}
  (rule:∀(i:Int)(t:Tok)(s:UW)(Q:UJ->UW->Prop)(E:UJ->UW->Prop),Q (.int (g i) s.toks) {s with toks:=s.toks+1}->UY (model X.prog X.w) X.A (f (.int i t)) Q E s):
  O1 X f (rU λi=>.int (g i)):=by
 intro pins s σ H x v Q I rx h;obtain⟨i,rfl,q⟩:=h;obtain⟨t,rfl⟩:=rx;exact rule i t s _ _ ⟨.int (g i),H,I.tok _,⟨_,rfl⟩,q⟩
def J5:O1 X (unaryOp .USub) (rU λi=>.int (-i)):=QB λ_ _ _ _ _ q=>neg_int q
end
section
variable{X:Cx}{a b c:UZ}{ta tb tc:TE}{pos:Pos}
def Gg{pins:List (UM×Obj)}{σ:St}{H:Hp}{s:UW}{Q:VK}{k k':Bool}(I:Inv X pins σ H s)(q:Q (.bl k) H)(e:k=k'):EP X pins σ Q (.bool k') s:=by
 subst e;exact⟨.bl k,H,I,rfl,q⟩
def Mf:kn X (Ve .Lt) (Df λi j=>.bl (decide (i<j))):=HY λ_ _ _ _ _ _ _ q=>lt_int q
def Mx:kn X (Ve .LtE) (Df λi j=>.bl (decide (i<=j))):=HY λ_ _ _ _ _ _ _ q=>le_int q
def JO:kn X (Ve .Gt) (Df λi j=>.bl (decide (j<i))):=HY λ_ _ _ _ _ _ _ q=>gt_int q
def M5:kn X (Ve .GtE) (Df λi j=>.bl (decide (j<=i))):=HY λ_ _ _ _ _ _ _ q=>ge_int q
def Dc:kn X (Ve .Lt) (λx y H Q=>∃i j,x=.str i/\y=.str j/\Q (.bl (decide (i.cps.toList<j.cps.toList))) H):=by
 intro pins s σ H x y v u Q I rx ry h;obtain⟨i,j,rfl,rfl,q⟩:=h;obtain⟨t,rfl⟩:=rx;obtain⟨t',rfl⟩:=ry;exact lt_str (Gg I q rfl)
def cj(b:UZ){op:Vf}(h:op≠.In:=by decide)(h2:op≠.NotIn:=by decide):Vg op b=false:=by
 have e1:(op==CmpOp.In)=false:=by cases op<;>first|rfl|exact absurd rfl h
 have e2:(op==CmpOp.NotIn)=false:=by cases op<;>first|rfl|exact absurd rfl h2
 cases b<;>simp[Vg,e1,e2]
def Ho{op:Vf}{r:R2}(ho:kn X (Ve op) r)(ha:PE X a ta)(hb:PE X b tb)(hm:Vg op b=false):PE X (.Compare a [op] [b] pos) (Mm r ta tb):=by
 intro pins s σ H Q I h;exact wpAny_Compare1 (KS ha hb I h λv u s2 x y H2 I2 rx ry q=>ho pins s2 σ H2 x y v u Q I2 rx ry q) hm
def Gj(t:TE):TT:=λσ H Q=>t σ H λx H'=>∃k,x=.bl k/\Q k H'
def HJ{op:Vf}{r:R2}(ho:kn X (Ve op) r)(ha:PE X a ta)(hb:PE X b tb)(hm:Vg op b=false):PT X (.Compare a [op] [b] pos) (Gj (Mm r ta tb)):=by
 intro pins s σ H Q I h;refine wpAny_isTrue_Compare1 (dM (ha pins s σ H _ I h) λv s1 ⟨x,H1,I1,r1,q1⟩=>dM (hb pins s1 σ H1 _ I1 q1) λu s2 ⟨y,H2,I2,r2,q2⟩=>
  dM (ho pins s2 σ H2 x y v u _ I2 r1 r2 q2) λc s3 ⟨z,H3,I3,r3,k,e,q3⟩=>?_) hm
 subst e;cases r3;exact U4 ⟨H3,I3,q3⟩
def GO(r r':R2)(ta tb tc:TE):TE:=λσ H Q=>ta σ H λx H1=>tb σ H1 λy H2=>r x y H2 λz H3=>∃k,z=.bl k/\
 (if k=true then tc σ H3 λw' H4=>r' y w' H4 Q else Q (.bl false) H3)
def Ga{op op':Vf}{r r':R2}(ho:kn X (Ve op) r)(ho':kn X (Ve op') r')(ha:PE X a ta)(hb:PE X b tb)(hc:PE X c tc)
  (hm:lastMarks [op,op'] [b,c]=false:=by with_unfolding_all rfl):PT X (.Compare a [op,op'] [b,c] pos) (Gj (GO r r' ta tb tc)):=by
 intro pins s σ H Q I h;refine isTrue_chain (dM (ha pins s σ H _ I h) λv s1 ⟨x,H1,I1,r1,q1⟩=>test_link (dM (hb pins s1 σ H1 _ I1 q1) λu s2 ⟨y,H2,I2,r2,q2⟩=>
  dM (ho pins s2 σ H2 x y v u _ I2 r1 r2 q2) λd s3 ⟨z,H3,I3,r3,k,e,q3⟩=>?_)) hm
 subst e;cases r3;refine U4 ?_;cases k with
 |false=>
  obtain⟨k',e',q'⟩:=q3;cases e';exact ite_ff ⟨H3,I3,q'⟩
 |true=>
  refine ite_tt (test_last (dM (hc pins s3 σ H3 _ I3 q3) λw' s4 ⟨z',H4,I4,r4,q4⟩=>dM (ho' pins s4 σ H4 y z' u w' _ I4 r2 r4 q4) λd' s5 ⟨z2,H5,I5,r5,k2,e2,q5⟩=>?_));subst e2;cases r5;exact U4 ⟨H5,I5,q5⟩
def L9(K:Tt)(x:V)(H:Hp)(k:Bool):Prop:=
 match x with
 |.non=>k=false
 |.bl b=>k=b
 |.int i=>k=(i !=0)
 |.str y=>y.length<=UP/\k=((y.length:Int) !=0)
 |.byt y=>y.size<=UP/\k=((y.size:Int) !=0)
 |.ref p=>(∃xs,pH K H p xs/\k=!xs.isEmpty)\/(∃xs,rk K H p xs/\k=!xs.isEmpty)\/∃kvs,H p=some (.dK kvs)/\k=!kvs.isEmpty
 |_=>False
def A2{κ:Type}{kvs:List (κ×V)}{vs:List (κ×UJ)}(r:KV kvs vs):(!vs.isEmpty)=!kvs.isEmpty:=by
 cases r<;>rfl
def tG{xs:List V}{its:List UJ}(r:Vals xs its):(!its.toArray.isEmpty)=!xs.isEmpty:=by
 cases r<;>simp
def qL:(UP:Nat)<2^63:=by rw[Vh];decide
def JZ:Ph X (λx H Q=>∃k,L9 X.K x H k/\Q k H):=by
 intro pins s σ H x v Q I rx h;obtain⟨k,e,q⟩:=h;have hl:=qL;have hs:UP=16777216:=Vh;cases x with
 |non=>
  cases rx;have e':k=false:=e;subst e';exact truthy_none ⟨H,I,q⟩
 |bl b=>
  cases rx;have e':k=b:=e;subst e';exact U4 ⟨H,I,q⟩
 |int i=>
  obtain⟨t,rfl⟩:=rx;have e':k=(i !=0):=e;subst e';exact PySem.P.truthy_int ⟨H,I,q⟩
 |str y=>
  obtain⟨t,rfl⟩:=rx;obtain⟨hy,e'⟩:y.length<=UP/\k=((y.length:Int) !=0):=e;subst e';exact PySem.P.truthy_str ‹0› ⟨H,I.tok _,q⟩
 |byt y=>
  obtain⟨t,rfl⟩:=rx;obtain⟨hy,e'⟩:y.size<=UP/\k=((y.size:Int) !=0):=e;subst e';exact PySem.W.truthy_bytes ‹0› ⟨H,I.tok _,q⟩
 |ref p=>
  cases rx;have e':(∃xs,pH X.K H p xs/\k=!xs.isEmpty)\/(∃xs,rk X.K H p xs/\k=!xs.isEmpty)\/∃kvs,H p=some (.dK kvs)/\k=!kvs.isEmpty:=e;rcases e' with⟨xs,hx,e'⟩|⟨xs,hx,e'⟩|⟨kvs,hx,e'⟩
  ·subst e';obtain⟨its,r,pl,hz⟩:=I.list hx;have hlen:=r.length;exact wpAny_truthy_list pl.isList (by simp only[QX];omega) ⟨H,I.tok _,by rw[tG r];exact q⟩
  ·subst e';obtain⟨its,r,pl,hz⟩:=I.tuple hx;have hlen:=r.length;exact truthy_tuple pl (by simp only[QX];omega) ⟨H,I.tok _,by rw[tG r];exact q⟩
  ·subst e';obtain⟨hz,hS,vs,r,m⟩:kvs.length<=UP/\(p==sysModules)=false/\∃vs,KV kvs vs/\s.heap.DictOf (bY X.prog X.w) p vs:=I.hok p _ hx;have hlen:kvs.length=vs.length:=Paired.length r;exact wpAny_truthy_dict hS m ‹0› ⟨H,I.tok _,by rw[A2 r];exact q⟩
 |_=>exact(show False from e).elim
def G0(ha:PE X a ta)(he:∀whole,isTrue a X.env whole=(do let v<-whole;standAt a.pos;holding [v] (truthy v))):
  PT X a (λσ H Q=>ta σ H λx H'=>∃k,L9 X.K x H' k/\Q k H'):=by
 intro pins s σ H Q I h;exact isTrue_plain (dM (ha pins s σ H _ I h) λv s1 ⟨x,H1,I1,r1,q1⟩=>JZ pins s1 σ H1 x v Q I1 r1 q1) (he _)
def Ag:kn X (Vd .Add) (λx y H Q=>∃i j,x=.str i/\y=.str j/\i.length+j.length<=UP/\Q (.str (i++j)) H):=by
 intro pins s σ H x y v u Q I rx ry h;obtain⟨i,j,rfl,rfl,hz,q⟩:=h;obtain⟨t,rfl⟩:=rx;obtain⟨t',rfl⟩:=ry;exact add_str (λt' tk=>⟨.str (i++j),H,I.tok _,⟨_,rfl⟩,q⟩) hz
def vals1{x:V}{us:List UJ}(r:Vals [x] us):∃u,us=[u]/\RelV x u:=by
 cases r with
 |cons r1 r2=>cases r2;exact⟨_,rfl,r1⟩
def vals2{x y:V}{us:List UJ}(r:Vals [x,y] us):∃u w',us=[u,w']/\RelV x u/\RelV y w':=by
 cases r with
 |cons r1 r2=>
  cases r2 with
  |cons r3 r4=>cases r4;exact⟨_,_,rfl,r1,r3⟩
def D3(hc:X.calm=true):dY X (.builtin "max") (λxs H Q=>∃i j,xs=[.int i,.int j]/\Q (.int (if j>i then j else i)) H):=by
 intro pins s σ H xs us Q I r h;obtain⟨i,j,rfl,q⟩:=h;obtain⟨u,w',rfl,⟨t,rfl⟩,⟨t',rfl⟩⟩:=vals2 r;refine max_two_ints (I.ok.hd hc) λh' tk k=>⟨_,H,I.kept k,?_,q⟩
 by_cases hj:j>i
 ·rw[if_pos hj,if_pos hj];exact⟨_,rfl⟩
 ·rw[if_neg hj,if_neg hj];exact⟨_,rfl⟩
def Dq(hc:X.calm=true):dY X (.builtin "min") (λxs H Q=>∃i j,xs=[.int i,.int j]/\Q (.int (if j<i then j else i)) H):=by
 intro pins s σ H xs us Q I r h;obtain⟨i,j,rfl,q⟩:=h;obtain⟨u,w',rfl,⟨t,rfl⟩,⟨t',rfl⟩⟩:=vals2 r;refine min_two_ints (I.ok.hd hc) λh' tk k=>⟨_,H,I.kept k,?_,q⟩
 by_cases hj:j<i
 ·rw[if_pos hj,if_pos hj];exact⟨_,rfl⟩
 ·rw[if_neg hj,if_neg hj];exact⟨_,rfl⟩
def wV:dY X (.type "int") (λxs H Q=>(∃i,xs=[.int i]/\Q (.int i) H)\/∃k,xs=[.bl k]/\Q (.int (if k then 1 else 0)) H):=by
 intro pins s σ H xs us Q I r h;rcases h with⟨i,rfl,q⟩|⟨k,rfl,q⟩
 ·obtain⟨u,rfl,t,rfl⟩:=vals1 r;exact call_int_int ⟨.int i,H,I,⟨_,rfl⟩,q⟩
 ·obtain⟨u,rfl,r1⟩:=vals1 r;cases r1;exact call_int_bool ⟨.int (if k then 1 else 0),H,I.tok _,⟨_,rfl⟩,q⟩
end
structure DJ(h:UO)(x dx C:UM)(mA:Str->Option UJ):Prop where
 obj:h.get? x=some (Tr C dx)
 ns:h.Ns1 dx mA
 ne:dx≠x
def D5{h:UO}{dx:UM}{mA:Str->Option UJ}(n:h.Ns1 dx mA):∃od,h.get? dx=some od/\∀name,Tu name od=some (mA name):=by
 obtain⟨o,es,ep,ho,hd,hk,_,hm⟩:=n;refine⟨o,ho,λname=>?_⟩;have e:=hm name;unfold nsFind findBy at e;rw[<-Array.find?_toList]at e;unfold Tu;rw[hd];dsimp only;split
 ·rename_i y q;rw[q]at e;exact congrArg some e
 ·rename_i q;rw[q]at e;have a:es.toList.any (·.refKey)=false:=by
   rw[List.any_eq_false];intro y hy;obtain⟨z,t,hkey⟩:=hk y (Array.mem_toList_iff.mp hy);simp[DictEntry.refKey,hkey]
  have a':¬es.toList.any (·.refKey)=true:=by rw[a];exact QY
  rw[if_neg a'];exact congrArg some e
def DJ.look{h:UO}{x dx C:UM}{mA:Str->Option UJ}(I:DJ h x dx C mA):∃od,PySem.W.InstAt h x (Tr C dx) C (some od)/\∀name,Tu name od=some (mA name):=
 let ⟨od,ho,hl⟩:=D5 I.ns
 ⟨od,⟨I.obj,rfl,rfl,ho⟩,hl⟩
section
variable{prog:UL}{w:UK}{A:UV}{E:UJ->UW->Prop}{s:UW}{K:Tt}{x dx C f:UM}{mA:Str->Option UJ}{name:Str}{v:UJ}
def Jd{expr:Bool}{Q:UJ->UW->Prop}(X:K.In s.heap)(I:DJ s.heap x dx C mA)(hg:Tv K C name=true)(hh:Tw K C=true)
  (ha:Tx K (.ref C) name=some none) (hv:mA name=some v) (hv':Tz v=true) (h:Q v {s with toks:=s.toks+1}):
  UY (model prog w) A (getAttr (.ref x) name expr) Q E s:=by
 obtain⟨od,J,hl⟩:=I.look;exact PySem.W.get_value X J (TB hg).1 (PySem.W.findObj_own hh ha rfl (by rw[hl,hv])) hv' h
def Fw{pl:Sem Bool}{Q:UJ×List UJ->UW->Prop}(X:K.In s.heap)(I:DJ s.heap x dx C mA)(hg:Tv K C name=true)
  (hf:Tx K (.ref C) name=some (some (.ref f))) (ht:TC K (.ref f)=true) (hv:mA name=none) (h:Q (.ref f,[.ref x]) s):
  UY (model prog w) A (getMethod (.ref x) name pl) Q E s:=by
 obtain⟨od,J,hl⟩:=I.look;exact PySem.W.method_fn X J (TB hg).1 (TB hg).2 hf (beq_iff_eq.mp ht) (by show(Tu name od).map (·.isSome)=some false;rw[hl,hv];rfl) h
def HM{ns:List Str}{Q:Unit->UW->Prop}(X:K.In s.heap)(I:DJ s.heap x dx C mA)
  (hs:Tx K (.ref C) "__setattr__"=some (some (.builtin "object.__setattr__"))) (hp:TF K C=true) (ht:TH K C name=some none) (hh:Tw K C=true)
  (hw:PySem.Within mA ns) (hsz:ns.length<=UP)
  (h:∀h',DJ h' x dx C (λy=>if y=name then some v else mA y)->Ud dx s.heap h'->Q () {s with heap:=h',toks:=s.toks+2}):
  UY (model prog w) A (setAttr (.ref x) name v) Q E s:=by
 obtain⟨od,J,hl⟩:=I.look;refine PySem.W.set_plain X J hs (PySem.W.osa_open (s:={s with toks:=s.toks+1}) (r:=none) X J hp ht λb=>?_);obtain⟨cd,hc,hd'⟩:=PySem.W.any_some hh;have hx:s.heap.get? x=some ⟨.ref C,some dx,.plain,#[]⟩:=I.obj;refine U7 (U6 (U7 (U7 (wpAny_loadPart hx (U7 (PySem.W.Looks.here (s:={s with toks:=s.toks+1}) (PySem.W.looks_clsIn X hc) ?_))))));rw[hd'];refine U6 (a:=some dx) (U7 (U6 (U7 ?_)));refine wpAny_nsSet1 (s:={s with toks:=s.toks+1}) I.ns λh' hn2 hs2=>?_;obtain⟨oD,esD,epD,hoD,hdD,hcD⟩:=hn2.count (PySem.Within.cons name v hw);refine U7 (wpAny_lookBehind hoD (by rw[hdD];exact pastItsLine_dict (QK hcD (by rw[QZ];omega))) ?_);exact U6 (h _ ⟨(hs2.2 _ (Ne.symm I.ne)).trans I.obj,hn2,I.ne⟩ hs2)
def FY{R:Vi->UW->Prop}{vs:List UJ}{kw:List (Str×UJ)}(X:K.In s.heap)(hm:TJ K C=true)
  (hi:Tx K (.ref C) "__init__"=some (some (.ref f))) (hf:PySem.W.typeIn K (.ref f)=some (.type "function"))
  (h:Vj (model prog w) (A.under (.builtin "type.__call__" ⟨.ref C::vs,kw⟩)) (.call (.ref f) ⟨.ref (s.heap.objs.size+1)::vs,kw⟩) (PySem.W.InitBack (s.heap.objs.size+1) R)
   {s with heap:=(s.heap.push TK).push (Tr C s.heap.objs.size)}):
  Vj (model prog w) A (.call (.ref C) ⟨vs,kw⟩) R s:=by
 obtain⟨hh,g,d,t,os⟩:=s;exact PySem.W.make_core (PySem.W.makes_of X hm) (PySem.W.looks_findIn X hi) (λself=>PySem.W.bind_fn X self hf) (.inl rfl) h
end
def mL(f:Str)(v:V):List (Str×V)->List (Str×V)
 |[]=>[(f,v)]
 |(g,x)::r=>if g=f then(g,v)::r else(g,x)::mL f v r
def rZ(f g:Str)(v:V):∀fs:List (Str×V),(mL f v fs).lookup g=if g=f then some v else fs.lookup g
 |[]=>by
  show List.lookup g [(f,v)]=_;by_cases h:g=f
  ·have hb:(g==f)=true:=beq_iff_eq.mpr h;simp only[List.lookup,hb,if_pos h]
  ·have hb:(g==f)=false:=beq_eq_false_iff_ne.mpr h;simp only[List.lookup,hb,if_neg h]
 |(k,x)::r=>by
  have ih:=rZ f g v r;rw[show mL f v ((k,x)::r)=(if k=f then(k,v)::r else(k,x)::mL f v r)from rfl];by_cases hk:k=f
  ·rw[if_pos hk];by_cases h:g=k
   ·have hb:(g==k)=true:=beq_iff_eq.mpr h;simp only[List.lookup,hb,if_pos (h.trans hk)]
   ·have hb:(g==k)=false:=beq_eq_false_iff_ne.mpr h;simp only[List.lookup,hb,if_neg (λe:g=f=>h (e.trans hk.symm))]
  ·rw[if_neg hk];by_cases h:g=k
   ·have hb:(g==k)=true:=beq_iff_eq.mpr h;simp only[List.lookup,hb,if_neg (λe:g=f=>hk (h.symm.trans e))]
   ·have hb:(g==k)=false:=beq_eq_false_iff_ne.mpr h;simp only[List.lookup,hb];exact ih
def qU(f:Str)(v:V):∀fs:List (Str×V),f∈(mL f v fs).map (·.1)/\∀g,g∈fs.map (·.1)->g∈(mL f v fs).map (·.1)
 |[]=>⟨by simp[mL],λg h=>by simp at h⟩
 |(k,x)::r=>by
  obtain⟨i1,i2⟩:=qU f v r;rw[show mL f v ((k,x)::r)=(if k=f then(k,v)::r else(k,x)::mL f v r)from rfl];by_cases hk:k=f
  ·rw[if_pos hk];subst hk;exact⟨by simp,λg h=>by simpa using h⟩
  ·rw[if_neg hk];refine⟨?_,λg h=>?_⟩
   ·rw[Q0];exact QO _ i1
   ·rw[Q0]at h ⊢;rcases List.mem_cons.mp h with e|e
    ·exact List.mem_cons.mpr (.inl e)
    ·exact QO _ (i2 g e)
def rT(f:Str)(v:V):∀fs:List (Str×V),(mL f v fs).length<=fs.length+1
 |[]=>by simp[mL]
 |(k,x)::r=>by
  have ih:=rT f v r;rw[show mL f v ((k,x)::r)=(if k=f then(k,v)::r else(k,x)::mL f v r)from rfl];by_cases hk:k=f
  ·rw[if_pos hk,QZ,QZ];omega
  ·rw[if_neg hk,QZ,QZ];omega
def ua.some_of{v:V}{o:Option UJ}(r:ua (some v) o):∃u,o=some u/\RelV v u:=by
 cases o with
 |none=>exact(show False from r).elim
 |some u=>exact⟨u,rfl,r⟩
def ua.none_of{o:Option UJ}(r:ua none o):o=none:=by
 cases o with
 |none=>rfl
 |some u=>exact(show False from r).elim
def Dv{v:V}{u:UJ}(r:RelV v u):Tz u=true:=by
 cases v with
 |non=>cases(show u=Value.none from r);rfl
 |bl b=>cases(show u=Value.bool b from r);rfl
 |int i=>obtain⟨t,e⟩:=(show∃t,u=Value.int i t from r);cases e;rfl
 |str x=>obtain⟨t,e⟩:=(show∃t,u=Value.str x t from r);cases e;rfl
 |byt b=>obtain⟨t,e⟩:=(show∃t,u=Value.bytes b t from r);cases e;rfl
 |flt b=>obtain⟨t,e⟩:=(show∃t,u=Value.float b t from r);cases e;rfl
 |ref a=>cases(show u=Value.ref a from r);rfl
 |ty n=>cases(show u=Value.type n from r);rfl
section
variable{P:UL}{w:UK}{H H':Hp}{h h':UO}{a C dx:UM}{fs fs':List (Str×V)}
def xq(hok:qq P w H h)(e:H a=some (.ins C dx fs)):∃mA,DJ h a dx C mA/\(∀f,ua (fs.lookup f) (mA f))/\PySem.Within mA (fs.map (·.1))/\fs.length<=1000/\H dx=some (.own a):=by
 obtain⟨d,z,ne,ob,mA,n,r,q⟩:=(show cH P w H h a (.ins C dx fs)from hok a _ e)
 exact⟨mA,⟨ob,n,ne⟩,r,q,z,d⟩
end
structure yj(K:Tt)(C:UM):Prop where
 pg:Tv K C Str.empty=true
 hd:Tw K C=true
 po:TF K C=true
 sa:Tx K (.ref C) "__setattr__"=some (some (.builtin "object.__setattr__"))
def yj.get{K:Tt}{C:UM}(c:yj K C)(f:Str):Tv K C f=true:=c.pg
def kE(K:Tt)(C:UM)(f:Str):Prop:=Tx K (.ref C) f=some none
def kE.taker{K:Tt}{C:UM}{f:Str}(n:kE K C f):TH K C f=some none:=by
 unfold TH;rw[show Tx K (.ref C) f=some none from n];rfl
structure Meth(K:Tt)(C:UM)(m:Str)(f:UM):Prop where
 at_:Tx K (.ref C) m=some (some (.ref f))
 fn:TC K (.ref f)=true
 kp:TL K (.ref f)=true
section
variable{X:Cx}{pins:List (UM×Obj)}{σ:St}{H:Hp}{s:UW}{a C dx:UM}{fs:List (Str×V)}{f:Str}{v:V}{A:UV}{E:UJ->UW->Prop}
def A5{b:Bool}{Q:UJ->UW->Prop}(I:Inv X pins σ H s)(e:H a=some (.ins C dx fs))(c:yj X.K C)(n:kE X.K C f)(l:fs.lookup f=some v)
  (h:∀u s',Inv X pins σ H s'->RelV v u->Q u s'):UY (model X.prog X.w) A (getAttr (.ref a) f b) Q E s:=by
 obtain⟨mA,O,r,_,_,_⟩:=xq I.hok e;obtain⟨u,hu,ru⟩:=ua.some_of (v:=v) (o:=mA f) (by rw[<-l];exact r f);exact Jd I.kIn O (c.get f) c.hd n hu (Dv ru) (h u _ (I.tok _) ru)
def Bp{m:Str}{g:UM}{pl:Sem Bool}{Q:UJ×List UJ->UW->Prop}(I:Inv X pins σ H s)(e:H a=some (.ins C dx fs))(c:yj X.K C)(k:Meth X.K C m g)(l:fs.lookup m=none)
  (h:Q (.ref g,[.ref a]) s):UY (model X.prog X.w) A (getMethod (.ref a) m pl) Q E s:=by
 obtain⟨mA,O,r,_,_,_⟩:=xq I.hok e;have hn:mA m=none:=ua.none_of (by rw[<-l];exact r m);exact Fw I.kIn O (c.get m) k.at_ k.fn hn h
def AZ{y:V}{u:UJ}{Q:Unit->UW->Prop}(I:Inv X pins σ H s)(e:H a=some (.ins C dx fs))(c:yj X.K C)(n:kE X.K C f)(hl:fs.length<1000)(ry:RelV y u)
  (h:∀s',Inv X pins σ (upd H a (.ins C dx (mL f y fs))) s'->Q () s'):UY (model X.prog X.w) A (setAttr (.ref a) f u) Q E s:=by
 obtain⟨mA,O,r,wi,_,ho⟩:=xq I.hok e;have hz:(fs.map (·.1)).length<=UP:=by rw[Q1,Vh];omega
 refine HM I.kIn O c.sa c.po n.taker c.hd wi hz λh' O' sb=>h _ ?_;have hd:∃o,h'.get? dx=some o:=let ⟨o,_,_,e',_⟩:=O'.ns;⟨o,e'⟩
 refine I.write (x:=a) (e:=dx) (by rw[e];exact True.intro) (.inr ho) (λb q hb z=>(sb.2 b hb).trans z) hd ?_;refine⟨by rw[aD O.ne];exact ho,?_,O.ne,O'.obj,_,O'.ns,λg=>?_,λg hg=>?_⟩
 ·have:=rT f y fs;omega
 ·show ua ((mL f y fs).lookup g) (if g=f then some u else mA g);rw[rZ];by_cases q:g=f
  ·rw[if_pos q,if_pos q];exact ry
  ·rw[if_neg q,if_neg q];exact r g
 ·by_cases q:g=f
  ·rw[q];exact(qU f y fs).1
  ·refine(qU f y fs).2 g (wi g λz=>hg ?_);show(if g=f then some u else mA g)=none;rw[if_neg q];exact z
def Inv.made(I:Inv X pins σ H s):Inv X pins σ (upd (upd H s.heap.objs.size (.own (s.heap.objs.size+1))) (s.heap.objs.size+1) (.ins C s.heap.objs.size []))
  {s with heap:=(s.heap.push TK).push (Tr C s.heap.objs.size)}:=by
 have e1:(s.heap.push TK).get? s.heap.objs.size=some TK:=Ug s.heap rfl;have e2:((s.heap.push TK).push (Tr C s.heap.objs.size)).get? (s.heap.objs.size+1)=some (Tr C s.heap.objs.size):=by
  have:=Ug (s.heap.push TK) (o:=Tr C s.heap.objs.size) rfl
  rwa [Uh]at this
 have e3:(s.heap.push TK).Ns s.heap.objs.size (λ_=>none):=⟨TK,#[],_,e1,rfl,(λe he=>absurd he (by simp)),λ_=>rfl⟩
 have I1:=I.laid (a:=s.heap.objs.size) (o:=.own (s.heap.objs.size+1)) (h':=s.heap.push TK) (t':=s.toks) (λb u q=>Ue _ q) (QT _) ⟨_,e1⟩;refine I1.laid (a:=s.heap.objs.size+1) (o:=.ins C s.heap.objs.size []) (t':=s.toks) (λb u q=>Ue _ q) (Q2 (Uh _ _)) ?_;have ne:s.heap.objs.size≠s.heap.objs.size+1:=QJ (Nat.lt_succ_self _);refine⟨by rw[aD ne,aX],Q3 _,ne,e2,λ_=>none,(Heap.Ns1.of_empty e3).at λo q=>Ue _ q,λ_=>True.intro,λy hy=>absurd rfl hy⟩
def HU{prog:UL}{w:UK}{env:Env}{e:UZ}{f:Str}{pos:Pos}{s:UW}{Q:UJ->UW->Prop}(hb:Vk e f env (eval e env)=eval e env)
  (h:UY (model prog w) A (eval e env) (λo s₁=>UY (model prog w) A (getAttr o f true) Q E s₁) E s):UY (model prog w) A (eval (.Attribute e f pos) env) Q E s:=
 Attribute_any_ h (by rw[arm_eval_Attribute,hb])
end
def Oy(K:Tt)(ta:TE)(f:Str):TE:=λσ H Q=>ta σ H λx H1=>∃a C dx fs v,x=.ref a/\H1 a=some (.ins C dx fs)/\yj K C/\kE K C f/\fs.lookup f=some v/\Q v H1
def PN(K:Tt)(ta tv:TE)(f:Str):TS:=λD σ H=>tv σ H λy H1=>ta σ H1 λx H2=>∃a C dx fs,x=.ref a/\H2 a=some (.ins C dx fs)/\yj K C/\kE K C f/\fs.length<1000/\
 D.nx σ (upd H2 a (.ins C dx (mL f y fs)))
section
variable{X:Cx}{o e value:UZ}{f:Str}{pos pos' tpos:Pos}{ta tv:TE}
def JV(he:PE X e ta)(hb:Vk e f X.env (eval e X.env)=eval e X.env):PE X (.Attribute e f pos) (Oy X.K ta f):=by
 intro pins s σ H Q I h;refine HU hb (dM (he pins s σ H _ I h) λu s1 ⟨x,H1,I1,rx,a,C,dx,fs,v,ex,ea,c,n,l,q⟩=>?_);subst ex;obtain rfl:u=Value.ref a:=rx;exact A5 I1 ea c n l λu' s2 I2 ru=>⟨v,H1,I2,ru,q⟩
def FH(ha:PE X o ta)(hv:PE X value tv)(hs:swapsWith value (some (.Attribute o f pos')) pos.line X.env=pure false):PS X (.Assign [.Attribute o f pos'] value pos) (PN X.K ta tv f):=by
 intro pins s σ H D I h;refine plainObj_wpAny_Assign_Attribute (dM (hv pins s σ H _ I h) λu s1 ⟨y,H1,I1,ry,q⟩=>dM (ha pins s1 σ H1 _ I1 q) λov s2 ⟨x,H2,I2,rx,a,C,dx,fs,ex,ea,c,n,l,q2⟩=>?_) hs;subst ex;obtain rfl:ov=Value.ref a:=rx;exact AZ I2 ea c n l ry λs3 I3=>⟨σ,_,I3,q2⟩
def yO{pl:Sem Bool}{m:Str}{apos:Pos}{args:List UZ}{pins:List (UM×Obj)}{s:UW}{σ:St}{H:Hp}{Q:UJ->UW->Prop}{te:TE}(he:PE X e te)(I:Inv X pins σ H s)
  (h:te σ H fun x H1=>∃ a C dx fs g,x=.ref a/\H1 a=some (.ins C dx fs)/\yj X.K C/\Meth X.K C m g/\fs.lookup m=none /\
   ∀s1,Inv X pins σ H1 s1->UY (model X.prog X.w) X.A (Vl pos (.ref g) [.ref a] (backTo pos (U0 args X.env)) (backToKw pos (Vm [] X.env))) Q X.xe s1)
  (ht:eval (.Call (.Attribute e m apos) args [] pos) X.env=(do
   let ov<-eval e X.env
   standAt apos.atName
   let (f,first)<-holding [ov] (getMethod ov m pl)
   Vl pos f first (backTo pos (U0 args X.env)) (backToKw pos (Vm [] X.env)))):
  UY (model X.prog X.w) X.A (eval (.Call (.Attribute e m apos) args [] pos) X.env) Q X.xe s:=by
 refine PySem.W.methodCall_KW (pl:=pl) (dM (he pins s σ H _ I h) λu s1 ⟨x,H1,I1,rx,a,C,dx,fs,g,ex,ea,c,k,l,q⟩=>?_) ht;subst ex;obtain rfl:u=Value.ref a:=rx;exact Bp I1 ea c k l (q s1 I1)
end
structure fX(k:Nat)(A:UV):Prop where
 hd:A.handled=none
 dp:A.depth+3*k+5<Vn
 un:A.units+16*k+200<Vo
def fX.mono{j k:Nat}{A:UV}(r:fX k A)(h:j<=k):fX j A:=⟨r.hd,by have:=r.dp;omega,by have:=r.un;omega⟩
def fX.deeper{k:Nat}{A:UV}(r:fX (k+1) A)(env:Env):fX k (A.deeper env):=
 ⟨r.hd,by have:=r.dp;show A.depth+1+3*k+5<_;omega,by have:=r.un;show A.units+3+16*k+200<_;omega⟩
def Bm{A:UV}{C:UM}{us:List UJ}{kw:List (Str×UJ)}:(A.under (.builtin "type.__call__" ⟨.ref C::us,kw⟩)).depth=A.depth+1:=by
 first|rfl|simp[Around.under,Code.weight,Code.isCreation,Code.isGuard,Code.isCaller,Code.frames,Code.isFrame,guardIds]
def A4{A:UV}{C:UM}{us:List UJ}{kw:List (Str×UJ)}:(A.under (.builtin "type.__call__" ⟨.ref C::us,kw⟩)).units=A.units+1:=by
 first|rfl|simp[Around.under,Code.cUnits,Code.frames,Code.isFrame]
def fX.make{k:Nat}{A:UV}(r:fX (k+1) A)(C:UM)(us:List UJ)(kw:List (Str×UJ)):fX k (A.under (.builtin "type.__call__" ⟨.ref C::us,kw⟩)):=
 ⟨r.hd,by have:=r.dp;rw[Bm];omega,by have:=r.un;rw[A4];omega⟩
def fX.depth{k:Nat}{A:UV}(r:fX k A):A.depth<Vn:=by have:=r.dp;omega
def fX.units{k:Nat}{A:UV}(r:fX k A):A.units+64<Vo:=by have:=r.un;omega
def Mp:TA:=λ_ H Q=>Q [] H
def JK(ta:TE)(tr:TA):TA:=λσ H Q=>ta σ H λx H1=>tr σ H1 λxs H2=>Q (x::xs) H2
section
variable{X:Cx}{e:UZ}{es:List UZ}{te:TE}{t:TA}{pos:Pos}
def pD:PA X [] Mp:=λ_ _ _ _ H Q I h=>Calls.spliced_nil ⟨[],H,I,.nil,h⟩
def km(ha:PE X e te)(hr:PA X es t)(hs:U0 (e::es) X.env=(false,eval e X.env)::U0 es X.env:=by rfl):PA X (e::es) (JK te t):=by
 intro pos pins s σ H Q I h;rw[hs];show UY _ _ (spliced ((false,eval e X.env)::backTo pos (U0 es X.env))) _ _ s;refine Calls.spliced_cons (dM (ha pins s σ H _ I h) λu s1 ⟨x,H1,I1,r1,q1⟩=>?_);exact dM (hr pos pins s1 σ H1 _ I1 q1) λus s2 ⟨xs,H2,I2,r2,q2⟩=>⟨x::xs,H2,I2,.cons r1 r2,q2⟩
def OQ(t:TA):TE:=λσ H Q=>t σ H λxs H1=>xs.length<=UP/\∀p,H1 p=none->Q (.ref p) (upd H1 p (.tup xs))
def Ot(t:TA):TE:=λσ H Q=>t σ H λxs H1=>xs.length<=UP/\∀p,H1 p=none->Q (.ref p) (upd H1 p (.lst xs))
def JU{x1}(h:PA X es t):PE X (.Tuple es x1 pos) (OQ t):=by
 intro pins s σ H Q I hq;refine wpAny_Tuple_spliced (dM (h pos pins s σ H _ I hq) λus s1 ⟨xs,H1,I1,r,z,q⟩=>⟨by rw[<-r.length];exact z,?_⟩);have hf:H1 s1.heap.objs.size=none:=I1.hok.fresh (QT _);refine⟨.ref s1.heap.objs.size,upd H1 s1.heap.objs.size (.tup xs),I1.laid (t':=s1.toks) (λb u e=>Ue _ e) (QT _) ?_,rfl,q _ hf⟩;exact⟨z,us,r,⟨_,Ug _ rfl,rfl,_,rfl⟩⟩
def AA(h:PA X es t):PE X (.List es pos) (Ot t):=by
 intro pins s σ H Q I hq;refine wpAny_List_spliced (dM (h pos pins s σ H _ I hq) λus s1 ⟨xs,H1,I1,r,z,q⟩=>⟨by rw[<-r.length];exact z,?_⟩);have hf:H1 s1.heap.objs.size=none:=I1.hok.fresh (QT _);refine⟨.ref s1.heap.objs.size,upd H1 s1.heap.objs.size (.lst xs),I1.laid (t':=s1.toks) (λb u e=>Ue _ e) (QT _) ?_,rfl,q _ hf⟩;exact⟨z,us,0,r,Ug _ rfl⟩
end
abbrev Sp:=List V->Hp->VK->XK->Prop
abbrev Ae:=List Env->Hp->UW->XK->UJ->UW->Prop
structure DC(P:UL)(w:UK)(K:Tt)(mg:Str->Option UJ)(base:UO)(A:UV)(outer:List Env)(s:UW)(H:Hp):Prop where
 frames:A.frames=some outer
 mod:Mod K mg base
 bs:∀b o,base.get? b=some o->s.heap.get? b=some o/\H b=none
 bsz:base.objs.size<=s.heap.objs.size
 funs:s.heap.FunFrames base outer
 frf:∀b∈frs outer,H b=none
 hok:qq P w H s.heap
 bare:AllBare s.gens
def CE(outer:List Env)(P:UL)(w:UK)(H:Hp)(s:UW)(Q:VK)(u:UJ)(s':UW):Prop:=
 ∃v H',s'.os=s.os/\AllBare s'.gens/\Un (frs outer) [] H H' s.heap s'.heap/\qq P w H' s'.heap/\RelV v u/\Q v H'
def CR(CX:Ae)(outer:List Env)(P:UL)(w:UK)(H:Hp)(s:UW)(Q:VK)(E:XK)(r:Vi)(s':UW):Prop:=
 match r with
 |.ok (.ret u)=>CE outer P w H s Q u s'
 |.ok _=>False
 |.error e=>CX outer H s E e s'
structure jV(P:UL)(w:UK)(K:Tt)(mg:Str->Option UJ)(base:UO)(CX:Ae)(k:Nat)(f:UM)(fd:Vp)(ps:List Str)(sp:Sp):Prop where
 len:∀vs H Q E,sp vs H Q E->vs.length=ps.length
 run:∀(A:UV)(outer:List Env)(s:UW)(H:Hp)(args:Args)(us:List UJ)(vs:List V)(Q:VK)(E:XK),fX k A->DC P w K mg base A outer s H->Vq s fd args (ps.zip us)->Vals vs us->sp vs H Q E->
  Vj (model P w) A (.call (.ref f) args) (CR CX outer P w H s Q E) s
def jV.mono{P:UL}{w:UK}{K:Tt}{mg:Str->Option UJ}{base:UO}{CX:Ae}{j k:Nat}{f:UM}{fd:Vp}{ps:List Str}{sp:Sp}(F:jV P w K mg base CX j f fd ps sp)(h:j<=k):
  jV P w K mg base CX k f fd ps sp:=⟨F.len,λA outer s H args us vs Q E hr=>F.run A outer s H args us vs Q E (hr.mono h)⟩
def DC.make{P:UL}{w:UK}{K:Tt}{mg:Str->Option UJ}{base:UO}{A:UV}{outer:List Env}{s:UW}{H:Hp}(e:DC P w K mg base A outer s H)(C:UM)(us:List UJ)(kw:List (Str×UJ)):
  DC P w K mg base (A.under (.builtin "type.__call__" ⟨.ref C::us,kw⟩)) outer s H:=⟨by first|exact e.frames|(simpa [Around.under,Code.envs,Code.isFrame,pushEnvs]using e.frames),e.mod,e.bs,e.bsz,e.funs,e.frf,e.hok,e.bare⟩
section
variable{X:Cx}{pins:List (UM×Obj)}{σ:St}{H:Hp}{s s':UW}
def Inv.env0(I:Inv X pins σ H s):DC X.prog X.w X.K X.mg X.base X.A X.stack s H:=
 ⟨I.ok.frames,I.ok.mod,I.bs,QK I.ok.bsz I.sz,I.stack,I.stkFree,I.hok,I.bare⟩
def Inv.after{Q:VK}{u:UJ}(I:Inv X pins σ H s)(h:CE X.stack X.prog X.w H s Q u s'):EP X pins σ Q u s':=by
 obtain⟨v,H',os,bare,un,hok,r,q⟩:=h;obtain⟨hh,g,d,t,os'⟩:=s';obtain rfl:os'=s.os:=os;exact⟨v,H',I.call (h':=hh) (g':=g) (d':=d) (t':=t) (ch:=[]) un hok bare (λb z=>absurd z (by simp)),r,q⟩
end
def LO(C:UM)(sp:Sp)(dvs:List V)(E:XK)(t:TA):TE:=λσ H Q=>t σ H λvs H1=>∀x dx,H1 x=none->H1 dx=none->dx≠x->
 sp (.ref x::(vs++dvs)) (upd (upd H1 dx (.own x)) x (.ins C dx [])) (λv H2=>v=.non/\Q (.ref x) H2) E
def Binds(K:Tt)(fd:Vp)(ps:List Str)(ds:List UJ):Prop:=
 ∀(s:UW)(us:List UJ),K.In s.heap->(us++ds).length=ps.length->Vq s fd ⟨us,[]⟩ (ps.zip (us++ds))
def Binds.all{K:Tt}{fd:Vp}{ps:List Str}(h:∀us:List UJ,us.length=ps.length->bindArgs fd ⟨us,[]⟩=pure (ps.zip us)):Binds K fd ps []:=λs us _ hl=>by
 rw[Q4]at hl ⊢;exact .of_eq (h us hl)
def AF(CX:Ae)(X:Cx)(E:XK):Prop:=∀(pins:List (UM×Obj))(σ:St)(H:Hp)(s:UW)(e:UJ)(s':UW),Inv X pins σ H s->CX X.stack H s E e s'->X.xe e s'
section
variable{X:Cx}{CX:Ae}{k:Nat}{f C:UM}{fd:Vp}{ps:List Str}{sp:Sp}{dvs:List V}{ds:List UJ}{E:XK}{x m:Str}{p pos apos:Pos}{e o:UZ}{es:List UZ}{ta:TE}{t:TA}
structure Mk(K:Tt)(C f:UM):Prop where
 makes:TJ K C=true
 init:Tx K (.ref C) "__init__"=some (some (.ref f))
 fn:TC K (.ref f)=true
 kp:TL K (.ref C)=true
def Fp{pins:List (UM×Obj)}{σ:St}{H:Hp}{s:UW}{Q:VK}{us:List UJ}{vs:List V}(M:Mk X.K C f)(F:jV X.prog X.w X.K X.mg X.base CX k f fd ps sp)(hr:fX (k+1) X.A)(hb:Binds X.K fd ps ds)(hd:Vals dvs ds)
  (hx:AF CX X E) (I:Inv X pins σ H s) (r:Vals vs us)
  (h:∀x dx,H x=none->H dx=none->dx≠x->sp (.ref x::(vs++dvs)) (upd (upd H dx (.own x)) x (.ins C dx [])) (λv H2=>v=.non/\Q (.ref x) H2) E):
  UY (model X.prog X.w) X.A (call (.ref C) us) (EP X pins σ Q) X.xe s:=by
 have hq:=h (s.heap.objs.size+1) s.heap.objs.size (I.hok.fresh (Q5 _)) (I.hok.fresh (QT _)) (QJ (Nat.lt_succ_self _));have I2:=Inv.made (C:=C) I;have r2:Vals (V.ref (s.heap.objs.size+1)::(vs++dvs)) (Value.ref (s.heap.objs.size+1)::(us++ds)):=.cons rfl (r.append hd);have hl:(Value.ref (s.heap.objs.size+1)::us++ds).length=ps.length:=by
  have e:=r2.length;rw[F.len _ _ _ _ hq]at e;exact e.symm
 refine Vr (FY (f:=f) I.kIn M.makes M.init (beq_iff_eq.mp M.fn) (Vs (F.run _ X.stack _ _ ⟨Value.ref (s.heap.objs.size+1)::us,[]⟩ (Value.ref (s.heap.objs.size+1)::(us++ds)) _ _ E (hr.make C us [])
  (I2.env0.make C us []) (hb _ (Value.ref (s.heap.objs.size+1)::us) I2.kIn hl) r2 hq) λr s' hq'=>?_))
 cases r with
 |error e=>exact hx pins σ _ _ e s' I2 hq'
 |ok fl=>
  cases fl with
  |ret u=>
   obtain⟨v,H',I3,rv,ev,q3⟩:=I2.after hq';subst ev;exact⟨rv,⟨V.ref (s.heap.objs.size+1),H',I3,rfl,q3⟩⟩
  |next=>exact False.elim hq'
  |brk=>exact False.elim hq'
  |cont=>exact False.elim hq'
def Ie(M:Mk X.K C f)(F:jV X.prog X.w X.K X.mg X.base CX k f fd ps sp)(hr:fX (k+1) X.A)(hg:Gl X x)(hm:X.mg x=some (.ref C))(hb:Binds X.K fd ps ds)(hd:Vals dvs ds)(hx:AF CX X E)
  (ha:PA X (e::es) t) (hdb:(x==("__debug__":Str))=false:=by decide) (he:U0 (e::es) X.env=(false,eval e X.env)::U0 es X.env:=by rfl) (hpl:(backTo pos (U0 es X.env)).any (·.1)=false:=by rfl):
  PE X (.Call (.Name x p) (e::es) [] pos) (LO C sp dvs E t):=by
 intro pins s σ H Q I h;refine Vt (xY I hg hm ?_ hdb);refine TN (h₀:=X.base) I.ok.mod.kin M.kp (dM (ha pos pins s σ H _ I h) λus s1 ⟨vs,H1,I1,r,q⟩=>⟨I1.kIn,?_⟩) he hpl;exact Fp M F hr hb hd hx I1 r q
end
def PK(X:Cx)(kws:List Vu)(t:TA):Prop:=
 ∀(pos:Pos)(pins:List (UM×Obj))(s:UW)(σ:St)(H:Hp)(Q:List V->Hp->Prop),Inv X pins σ H s->t σ H Q->UY (model X.prog X.w) X.A (evalAll ((backToKw pos (Vm kws X.env)).map (·.2))) (AP X pins σ Q) X.xe s
section
variable{X:Cx}{CX:Ae}{k:Nat}{f C:UM}{fd:Vp}{ps ks:List Str}{sp:Sp}{E:XK}{x m:Str}{p pos apos kpos:Pos}{e o:UZ}{es:List UZ}{kws:List Vu}{te ta:TE}{t tk:TA}{nm:Option Str}
def KQ:PK X [] Mp:=λ_ _ _ _ H Q I h=>wpAny_evalAll_nil ⟨[],H,I,.nil,h⟩
def Hv(ha:PE X e te)(hr:PK X kws t):PK X (⟨nm,e,kpos⟩::kws) (JK te t):=by
 intro pos pins s σ H Q I h;show UY _ _ (evalAll ((do let v<-eval e X.env;standAt pos;pure v)::(backToKw pos (Vm kws X.env)).map (·.2))) _ _ s;refine wpAny_evalAll_cons (U7 (dM (ha pins s σ H _ I h) λu s1 ⟨x,H1,I1,r1,q1⟩=>U7 (Vv (U6 ?_))));exact dM (hr pos pins s1 σ H1 _ I1 q1) λus s2 ⟨xs,H2,I2,r2,q2⟩=>⟨x::xs,H2,I2,.cons r1 r2,q2⟩
variable{g:List UJ->List UJ->List UJ}{gV:List V->List V->List V}
end
structure aP(N P:List Str)(sc:UX):Prop where
 kind:sc.kind=.function
 co:sc.isCoroutine=false
 gen:sc.isGenerator=false
 nd:N.Nodup
 pre:N.take P.length=P
 par:∀x∈P,sc.names.lookup x=some .local\/sc.names.lookup x=some .cell
 nofree:∀y∈sc.names,y.2≠.free
def wm{kindOf:Str->Option Vw}{x:Str}:∀{binds:List (Str×UJ)}{m:Str->Option UJ},(∀v,(x,v)∉binds)->bindL kindOf binds m x=m x
 |[],_,_=>rfl
 |(n,v)::r,m,h=>by
  unfold bindL;rw[wm λw hw=>h w (QO _ hw)];split
  ·have:x≠n:=(by rintro rfl;exact h v QN);simp[this]
  ·rfl
def vY{kindOf:Str->Option Vw}{x:Str}:∀{binds:List (Str×UJ)}{m:Str->Option UJ},(∀v,(x,v)∉binds)->bindC kindOf binds m x=m x
 |[],_,_=>rfl
 |(n,v)::r,m,h=>by
  unfold bindC;rw[vY λw hw=>h w (QO _ hw)];split
  ·rfl
  ·have:x≠n:=(by rintro rfl;exact h v QN);simp[this]
def vG{kindOf:Str->Option Vw}{x:Str}{v:UJ}:∀{P:List Str}{vs:List UJ}{i:Nat}{m:Str->Option UJ},P.Nodup->P[i]?=some x->vs[i]?=some v->kindOf x=some .local->
  bindL kindOf (P.zip vs) m x=some v
 |[],_,_,_,_,h,_,_=>by simp at h
 |_::_,[],_,_,_,_,h,_=>by simp at h
 |p::P,w::vs,0,m,nd,h1,h2,hk=>by
  simp at h1 h2;subst h1;subst h2;show bindL kindOf ((p,w)::P.zip vs) m p=_;unfold bindL;rw[wm λv hv=>(List.nodup_cons.mp nd).1 (Q6 hv).1,if_pos hk];simp
 |p::P,w::vs,i+1,m,nd,h1,h2,hk=>by
  show bindL kindOf ((p,w)::P.zip vs) m x=_;unfold bindL;exact vG (i:=i) (List.nodup_cons.mp nd).2 (by simpa using h1) (by simpa using h2) hk
def v8{kindOf:Str->Option Vw}{x:Str}{v:UJ}:∀{P:List Str}{vs:List UJ}{i:Nat}{m:Str->Option UJ},P.Nodup->P[i]?=some x->vs[i]?=some v->kindOf x≠some .local->
  bindC kindOf (P.zip vs) m x=some v
 |[],_,_,_,_,h,_,_=>by simp at h
 |_::_,[],_,_,_,_,h,_=>by simp at h
 |p::P,w::vs,0,m,nd,h1,h2,hk=>by
  simp at h1 h2;subst h1;subst h2;show bindC kindOf ((p,w)::P.zip vs) m p=_;unfold bindC;rw[vY λv hv=>(List.nodup_cons.mp nd).1 (Q6 hv).1,if_neg hk];simp
 |p::P,w::vs,i+1,m,nd,h1,h2,hk=>by
  show bindC kindOf ((p,w)::P.zip vs) m x=_;unfold bindC;exact v8 (i:=i) (List.nodup_cons.mp nd).2 (by simpa using h1) (by simpa using h2) hk
def start(N:List Str)(vs:List V):St:=vs.map some++List.replicate (N.length-vs.length) none
def kC(CX:Ae)(P:UL)(w:UK)(K:Tt)(mg:Str->Option UJ)(base:UO)(N:List Str)(qual:Str)(scope:UX)(f:UM)(cd:UJ)(A:UV)(outer:List Env)(s:UW)(H:Hp)(E:XK):Cx where
 prog:=P
 w:=w
 K:=K
 mg:=mg
 base:=base
 A:=A.deeper (envOfC qual scope s.heap.objs.size f cd)
 N:=N
 s₀:=s
 H₀:=H
 env:=envOfC qual scope s.heap.objs.size f cd
 outer:=outer
 stack:=envOfC qual scope s.heap.objs.size f cd::outer
 ex:=[]
 calm:=true
 fn:=λ_=>true
 pn:=[]
 xe:=λe s'=>UY (model P w) (A.deeper (envOfC qual scope s.heap.objs.size f cd)) (leaving (envOfC qual scope s.heap.objs.size f cd) e) (λ_ s''=>CX outer H s E e s'') (λe' s''=>CX outer H s E e' s'') s'
def zX{sc:UX}{n:Nat}{x:Str}(h:sc.names.lookup x=some .cell):∃c,(cellsFrom n sc.names []).lookup x=some c:=by
 have q:=TQ sc.names n [] (.inl h);exact Option.isSome_iff_exists.mp q
def CF{CX:Ae}{P:UL}{w:UK}{K:Tt}{mg:Str->Option UJ}{base:UO}{N ps:List Str}{qual:Str}{scope:UX}{f:UM}{cd:UJ}{A:UV}{outer:List Env}{s s1:UW}{H:Hp}{E:XK}{us:List UJ}{vs:List V}
  (S:aP N ps scope) (hd:A.handled=none) (e0:DC P w K mg base A outer s H) (hl:vs.length=ps.length) (r:Vals vs us)
  (x:InCallC s s.heap.objs.size (bindL (envOfC qual scope s.heap.objs.size f cd).kindOf (ps.zip us) λ_=>none) (cellsFrom (s.heap.objs.size+1) scope.names []) (bindC (envOfC qual scope s.heap.objs.size f cd).kindOf (ps.zip us) λ_=>none) s1):
  Inv (kC CX P w K mg base N qual scope f cd A outer s H E) [] (start N vs) H s1:=by
 have hpl:ps.length<=N.length:=by have:=congrArg List.length S.pre;rw[Q7]at this;omega
 obtain⟨h1,tk,rfl,hk⟩:=x.done;have noA:∀b:UM,b∉(kC CX P w K mg base N qual scope f cd A outer s H E).ex:=λb z=>absurd (show b∈([]:List UM)from z) (by simp);refine⟨⟨e0.mod,S.kind,rfl,rfl,QT _,λy z c h1 h2=>?_,λy hy=>?_,λy c _ h=>?_,λ_=>hd,Around.frames_deeper e0.frames,.inr ⟨rfl,rfl⟩,λb z=>absurd z (noA b),e0.bs,e0.bsz,λb _ _=>noA b,λb z=>absurd z (noA b),e0.funs,e0.frf⟩,
  rfl,e0.bare,Un.kept hk,⟨_,x.toInCall.ns,λi y v h1 h2 h3=>?_⟩,λy c h=>⟨_,x.cell y c h⟩,e0.hok.fresh (QT _),λy c h=>?_,λp hp=>absurd (show p∈([]:List (UM×Obj))from hp) (by simp),e0.hok.kept hk,?_⟩
 ·exact name_of_addr x.apart (PySem.mem_of_lookup h1) (PySem.mem_of_lookup h2)
 ·have hy:scope.names.lookup y=some .cell\/scope.names.lookup y=some .free:=hy;rcases hy with hy|hy
  ·exact zX hy
  ·exact absurd rfl (S.nofree _ (PySem.mem_of_lookup hy))
 ·exact QL (x.above y c (PySem.mem_of_lookup h))
 ·have hi:i<vs.length:=by
   unfold start at h2;by_cases hi:i<vs.length
   ·exact hi
   ·rw[Q8 (by simpa using hi)]at h2;rw[Q9]at h2;split at h2<;>cases h2
  have ha:vs[i]?=some v:=by
   unfold start at h2;rw[Ra (by simpa using hi),Rb]at h2;cases e:vs[i]? with
   |none=>rw[e]at h2;cases h2
   |some a=>rw[e]at h2;cases h2;rfl
  obtain⟨u,hu,rv⟩:=r.get ha;have hp:ps[i]?=some y:=by
   rw[<-S.pre,List.getElem?_take_of_lt ‹0›];exact h1
  have ndP:ps.Nodup:=by rw[<-S.pre];exact S.nd.sublist (Rc _ _)
  refine⟨u,rv,?_⟩;rcases S.par y (Rf hp)with k|k
  ·exact .inl ⟨k,vG ndP hp hu k⟩
  ·obtain⟨c,e⟩:=zX (n:=s.heap.objs.size+1) k;refine .inr ⟨.inl k,c,e,?_⟩;have q:=x.cell y c e;rw[v8 ndP hp hu (by show scope.names.lookup y≠_;rw[k];decide)]at q;exact q
 ·exact e0.hok.fresh (QL (x.above y c (PySem.mem_of_lookup h)))
 ·unfold start;show _=N.length;rw[Rg,Q1,List.length_replicate];omega
def EV{CX:Ae}{P:UL}{w:UK}{K:Tt}{mg:Str->Option UJ}{base:UO}{k:Nat}{f:UM}{name qual:Str}{params:Vx}{body:List U1}{scope:UX}{dV kV doc pm cdv ct oc:UJ}{an od:Option UM}
  {osl:Array (Option UJ)} {N ps:List Str} {sp:Sp} (lk:K.lookup f=some ⟨oc,od,.func (TR name qual params body scope dV kV doc pm an cdv ct),osl⟩) (hcd:TU K cdv qual=true) (S:aP N ps scope)
  (len:∀vs H Q E,sp vs H Q E->vs.length=ps.length)
  (hbody:∀ (A:UV) (outer:List Env) (s:UW) (H:Hp) (vs:List V) (Q:VK) (E:XK),fX k (A.deeper (envOfC qual scope s.heap.objs.size f cdv))->sp vs H Q E ->
   ∃t,yN (kC CX P w K mg base N qual scope f cdv A outer s H E) body t/\t {nx:=λ_ H'=>Q .non H',rt:=Q} (start N vs) H):
  jV P w K mg base CX (k+1) f (TR name qual params body scope dV kV doc pm an cdv ct) ps sp:=by
 refine⟨len,λA outer s H args us vs Q E hr e0 hb r hsp=>?_⟩;have hl:=len _ _ _ _ hsp;have KX:K.In s.heap:=e0.mod.kin.keeps λb o e=>(e0.bs b o e).1;have lim:s.heap.NoLimit:=e0.mod.nolimit.keeps λb o e=>(e0.bs b o e).1;have hkind:∀y∈ps.zip us,scope.names.lookup y.1=some .local\/(scope.names.lookup y.1=some .cell/\((cellsFrom (s.heap.objs.size+1) scope.names []).lookup y.1).isSome=true):=λ⟨n,v⟩ hy=>by
  rcases S.par n (Q6 hy).1 with q|q
  ·exact .inl q
  ·exact .inr ⟨q,TQ _ _ _ (.inl q)⟩
 refine codeAny_call_function hr.depth (KX _ _ lk) rfl S.co S.gen rfl (PySem.W.codeRec_of KX hcd) (hb _ _ _ _ ?_);refine wpAny_newFunctionEnv_cells S.kind hkind λenv he s1 x=>?_;subst he;refine⟨lim.keeps x.toInCall.keep,codeAny_func ?_⟩;obtain⟨t,ht,hq⟩:=hbody A outer s H vs Q E (hr.deeper _) hsp;have I:Inv (kC CX P w K mg base N qual scope f cdv A outer s H E) [] (start N vs) H s1:=CF S hr.hd e0 hl r x;refine U2 (ht [] s1 (start N vs) H _ I hq) (λfl s' hs=>?_) λe s' hs=>hs;have fin:∀{σ':St}{H':Hp}{v:V}{u:UJ},Inv (kC CX P w K mg base N qual scope f cdv A outer s H E) [] σ' H' s'->RelV v u->Q v H'->CE outer P w H s Q u s':=
  λ{σ' H' v u} J rv q=>⟨v,H',J.os,J.bare,J.base,J.hok,rv,q⟩
 cases fl with
 |ret u=>
  obtain⟨v,σ',H',J,rv,q⟩:=hs;exact fin J rv q
 |next=>
  obtain⟨σ',H',J,q⟩:=hs;exact fin (v:=V.non) (u:=Value.none) J rfl q
 |brk=>
  obtain⟨_,_,_,q⟩:=hs;exact False.elim q
 |cont=>
  obtain⟨_,_,_,q⟩:=hs;exact False.elim q
section
variable{X:Cx}{x:Str}{p pos:Pos}{e:UZ}{es:List UZ}{t:TA}{id T:String}{r:List V->Hp->VK->Prop}
def PH(r:List V->Hp->VK->Prop)(t:TA):TE:=λσ H Q=>t σ H λvs H1=>r vs H1 Q
def yp(hc:dY X (.builtin id) r)(hg:Gl X x)(hm:X.mg x=none)(hv:UU x=some (.builtin id))(ha:PA X (e::es) t)(hn:x≠"__name__":=by decide)(hdb:(x==("__debug__":Str))=false:=by decide)
  (he:U0 (e::es) X.env=(false,eval e X.env)::U0 es X.env:=by rfl) (hpl:(backTo pos (U0 es X.env)).any (·.1)=false:=by rfl):PE X (.Call (.Name x p) (e::es) [] pos) (PH r t):=by
 intro pins s σ H Q I h;refine Vt (kF I hg hm hv ?_ hn hdb);exact PyProof.Rows.callWith_builtin1 (dM (ha pos pins s σ H _ I h) λus s1 ⟨vs,H1,I1,r1,q1⟩=>hc pins s1 σ H1 vs us Q I1 r1 q1) he hpl
def Dh(hc:dY X (.type T) r)(hg:Gl X x)(hm:X.mg x=none)(hv:UU x=some (.type T))(ha:PA X (e::es) t)(hn:x≠"__name__":=by decide)(hdb:(x==("__debug__":Str))=false:=by decide)
  (he:U0 (e::es) X.env=(false,eval e X.env)::U0 es X.env:=by rfl) (hpl:(backTo pos (U0 es X.env)).any (·.1)=false:=by rfl):PE X (.Call (.Name x p) (e::es) [] pos) (PH r t):=by
 intro pins s σ H Q I h;refine Vt (kF I hg hm hv ?_ hn hdb);exact Uq (dM (ha pos pins s σ H _ I h) λus s1 ⟨vs,H1,I1,r1,q1⟩=>hc pins s1 σ H1 vs us Q I1 r1 q1) he hpl
end
end L2
namespace HT
open PySem PyProof.Rows
def Mz(A:UV)(s:UW)(a:Int)(t:Tok)(c:Int)(u:Tok)(prog:UL)(w:UK)(E:UJ->UW->Prop)(Q:UJ->UW->Prop)(h:Q (.bool (decide (a<c))) s):
  UY (model prog w) A (richCompare .Lt (.int a t) (.int c u)) Q E s:=
 (PyProof.Rows.lt_int h:UY (model prog w) A (Ve .Lt (.int a t) (.int c u)) Q E s)
section
open PySem.SeqAt
open PySem.AutoSeq1 (wpAny_loadPart')
open PySem.MeetsSeq PySem.MeetsSeq2 PySem.MeetsSeq3
end
section
variable{prog:UL}{w:UK}{A:UV}{E:UJ->UW->Prop}{s:UW}
def NK{t b:UM}{vs ws:List UJ}{Q:UJ->UW->Prop}(ht:UQ s.heap t vs.toArray)(hb:UQ s.heap b ws.toArray)(hv:vs≠[])
  (h1:ws=[]->Q (.ref t) s) (h2:ws≠[]->Q (.ref s.heap.objs.size) {s with heap:=s.heap.push {cls:=.type "tuple",data:=.seq (vs++ws).toArray}})
  (hsz:vs.length+ws.length<=UP):UY (model prog w) A (Vd .Add (.ref t) (.ref b)) Q E s:=by
 obtain⟨⟨cls,dd,data,sl⟩,ho,hc,n,hd⟩:=id ht;obtain⟨⟨cls2,dd2,data2,sl2⟩,ho2,hc2,n2,hd2⟩:=id hb;simp only at hc hd hc2 hd2;subst hc hd hc2 hd2;have e:vs.toArray++ws.toArray=(vs++ws).toArray:=by simp
 by_cases hw:ws=[]
 ·exact Vy ⟨_,ho,rfl⟩ ⟨_,ho2,rfl⟩ Vz VA UD UE (UG _ _)
   (tuple_addW1 t b vs.toArray ws.toArray n n2 dd dd2 sl sl2 (by simpa using hv) (by simp[hw])) ⟨ho,ho2,h1 hw⟩
 ·refine Vy ⟨_,ho,rfl⟩ ⟨_,ho2,rfl⟩ Vz VA UD UE (UG _ _)
   (tuple_addW2 t b vs.toArray ws.toArray n n2 dd dd2 sl sl2 (by simpa using hv) (by simpa using hw) (by rw[QX,QX];exact hsz)) ⟨ho,ho2,?_⟩
  rw[e];exact h2 hw
def sIx(n d:Nat):Option Int->Nat
 |none=>d
 |some v=>if v<0 then(v+(n:Int)).toNat else min v.toNat n
theorem MS(n d:Nat):sIx n d none=d:=rfl
def Nx(n d k:Nat):sIx n d (some (k:Int))=min k n:=by
 show(if(k:Int)<0 then((k:Int)+(n:Int)).toNat else min (k:Int).toNat n)=min k n;rw[if_neg ‹0›,Rh]
def KN(n d:Nat)(hd:d<=n)(o:Option Int):sIx n d o<=n:=by
 cases o with
 |none=>exact hd
 |some v=>
  show(if v<0 then(v+(n:Int)).toNat else min v.toNat n)<=n;by_cases hv:v<0
  ·rw[if_pos hv];omega
  ·rw[if_neg hv];exact Nat.min_le_right _ _
def BO(v:Int)(n d:Nat):(if v<0 then max (v+(n:Int)) 0 else min v (n:Int))=((sIx n d (some v):Nat):Int):=by
 show(if v<0 then max (v+(n:Int)) 0 else min v (n:Int))=(((if v<0 then(v+(n:Int)).toNat else min v.toNat n):Nat):Int)
 by_cases hv:v<0
 ·simp only[if_pos hv];omega
 ·simp only[if_neg hv];omega
def Bx(lo hi:Option Int)(n:Nat):Builtin.Slice.sliceAdjust lo hi 1 (n:Int)=(((sIx n 0 lo:Nat):Int),((sIx n n hi:Nat):Int)):=by
 have h1:¬((1:Int)<0):=by omega
 unfold Builtin.Slice.sliceAdjust;simp only[h1,if_false];refine Prod.ext ?_ ?_
 ·cases lo with
  |none=>rfl
  |some v=>exact BO v n 0
 ·cases hi with
  |none=>rfl
  |some v=>exact BO v n n
def Bw(i j:Nat):Builtin.Slice.slicePlaces (i:Int) (j:Int) 1=j-i:=by
 unfold Builtin.Slice.slicePlaces;have h1:(1:Int)>0:=by omega
 simp only[h1,if_true,Int.ediv_one];split<;>omega
def uO{v:UJ}{o:Option Int}{Q:Option Int->UW->Prop}(p:VB v o)(h:Q o s):UY (model prog w) A (Builtin.Slice.slicePartIndex v) Q E s:=by
 cases p with
 |none=>exact slicePart_none h
 |int i t=>exact slicePart_int h
def rq{sl:UM}{vl vu:UJ}{lo hi:Option Int}{n:Nat}{Q:Int×Int×Nat->UW->Prop}(hs:s.heap.IsSliceOf sl vl vu .none)(pl:VB vl lo)(pu:VB vu hi)
  (h:Q (((sIx n 0 lo:Nat):Int),1,sIx n n hi-sIx n 0 lo) s):UY (model prog w) A (Builtin.Slice.sliceApplied (.ref sl) (pure (n:Int))) Q E s:=by
 obtain⟨os,hos,hcs,hds⟩:=id hs;unfold Builtin.Slice.sliceApplied Builtin.Slice.sliceFields;refine U7 (U7 (VC hos hds (x:=vl) rfl (U7 (VC hos hds (x:=vu) rfl (U7 (VC hos hds (x:=.none) rfl (U6 ?_)))))));refine U7 (slicePart_none ?_);show UY _ _ (if((1:Int)==0)=true then _ else _) _ _ s;rw[if_neg (by decide)];refine U7 (uO pl (U7 (uO pu (U7 (U6 ?_)))));show UY _ _ (match Builtin.Slice.sliceAdjust lo hi 1 (n:Int)with|(lo,hi)=>pure (lo,(1:Int),Builtin.Slice.slicePlaces lo hi 1)) _ _ s;rw[Bx lo hi n];show UY _ _ (pure (((sIx n 0 lo:Nat):Int),(1:Int),Builtin.Slice.slicePlaces ((sIx n 0 lo:Nat):Int) ((sIx n n hi:Nat):Int) 1)) _ _ s;rw[Bw];exact U6 h
def GJ(xs:Array UJ)(i k:Nat):((List.range k).filterMap λ(m:Nat)=>xs[((i:Int)+(m:Int)*1).toNat]?).toArray=((xs.toList.drop i).take k).toArray:=by
 have e:(λ(m:Nat)=>xs[((i:Int)+(m:Int)*1).toNat]?)=λm=>xs[i+m]?:=by
  funext m
  have:((i:Int)+(m:Int)*1).toNat=i+m:=by omega
  rw[this]
 rw[e]
 have:=pick_run xs i k
 rw[List.filterMap_map]at this;have e2:((λx=>xs[x]?)∘λx=>i+x)=λm=>xs[i+m]?:=rfl;rw[e2]at this;rw[this]
def BM{t sl:UM}{items:Array UJ}{vl vu:UJ}{lo hi:Option Int}{Q:UJ->UW->Prop}(ht:UQ s.heap t items)(hs:s.heap.IsSliceOf sl vl vu .none)(pl:VB vl lo)(pu:VB vu hi)
  (hw:¬(sIx items.size 0 lo=0/\sIx items.size items.size hi=items.size))
  (h:Q (.ref s.heap.objs.size) {s with heap:=s.heap.push {cls:=.type "tuple",data:=.seq ((items.toList.drop (sIx items.size 0 lo)).take (sIx items.size items.size hi-sIx items.size 0 lo)).toArray}})
  (hsz:items.size<=UP):UY (model prog w) A (getItem (.ref t) (.ref sl)) Q E s:=by
 have htake:sizeOk (.seq ((items.toList.drop (sIx items.size 0 lo)).take (sIx items.size items.size hi-sIx items.size 0 lo)).toArray):=by
  show((items.toList.drop (sIx items.size 0 lo)).take (sIx items.size items.size hi-sIx items.size 0 lo)).toArray.size<=UP;rw[QX,Q7,Ri,Array.length_toList];omega
 have hj:sIx items.size items.size hi<=items.size:=KN _ _ (QT _) hi;obtain⟨os,hos,hcs,hds⟩:=id hs;have hTs:s.TypeIs (.ref sl) "slice":=⟨os,hos,hcs⟩
 unfold getItem
 try with_reducible refine VD ?_
 first|refine U7 (U6 ?_)|skip
 refine U7 (wpAny_sequenceKey ht.typeIs (by decide) ?_);refine U7 (VE (name:=Str.ofString "__getitem__") ht.typeIs Ur
  (VF Ur ht.typeIs entry_tuple_getitem ?_ (args_tuple_getitem _ _)))
 show UY _ _ (Builtin.Tuple.tupleItemsOf (.ref t) >>= _) _ _ s;refine U7 (tupleItemsOf_ ht ?_);refine U7 (VG hTs ?_);rw[if_pos (by decide)];refine U7 (rq hs pl pu ?_);have hno:¬((((sIx items.size 0 lo:Nat):Int)==0&&(1:Int)==1&&(sIx items.size items.size hi-sIx items.size 0 lo)==items.size)=true):=by
  intro q;rw[Rj,Rj]at q;have q1:((sIx items.size 0 lo:Nat):Int)=0:=eq_of_beq q.1.1;have q2:sIx items.size items.size hi-sIx items.size 0 lo=items.size:=eq_of_beq q.2;exact hw ⟨by omega,by omega⟩
 show UY _ _ (if(((sIx items.size 0 lo:Nat):Int)==0&&(1:Int)==1&&(sIx items.size items.size hi-sIx items.size 0 lo)==items.size)=true then _ else _) _ _ s;rw[if_neg hno,GJ]
 first
  |exact U7 (m:=Builtin.Tuple.tupleExact _) (VH (U6 ⟨_,rfl,U6 h⟩) htake)
  |exact U7 (m:=Builtin.Tuple.tupleExact _) (VH (U7 (U6 (U6 ⟨_,rfl,U6 h⟩))) htake)
  |exact U7 (U7 (m:=Builtin.Tuple.tupleExact _) (VH (U6 (U6 ⟨_,rfl,U6 h⟩)) htake))
  |exact U7 (U7 (m:=Builtin.Tuple.tupleExact _) (VH (U6 ⟨_,rfl,U6 h⟩) htake))
end
end HT
namespace L2
open PySem PySem.Spec PyProof.Rows
abbrev TO:=St->Hp->(Option Int->Hp->Prop)->Prop
def PO(X:Cx)(e:Option UZ)(t:TO):Prop:=
 ∀(pins:List (UM×Obj))(s:UW)(σ:St)(H:Hp)(Q:Option Int->Hp->Prop),Inv X pins σ H s->t σ H Q->
  UY (model X.prog X.w) X.A (evalPart e X.env) (λu s'=>∃o H',Inv X pins σ H' s'/\VB u o/\Q o H') X.xe s
def He:TO:=λ_ H Q=>Q none H
def Mh(t:TE):TO:=λσ H Q=>t σ H λx H1=>∃i,x=.int i/\Q (some i) H1
section
variable{X:Cx}{e:UZ}{te:TE}{lo hi:Option UZ}{tl th:TO}{pos p2:Pos}
def IB:PO X none He:=by
 intro pins s σ H Q I h;rw[VI];exact U6 ⟨none,H,I,.none,h⟩
def Ic(h:PE X e te):PO X (some e) (Mh te):=by
 intro pins s σ H Q I hw;rw[evalPart_some];refine dM (h pins s σ H _ I hw) λu s1 ⟨x,H1,I1,r1,q1⟩=>?_;obtain⟨i,rfl,q⟩:=q1;obtain⟨t,rfl⟩:=r1;exact⟨some i,H1,I1,.int i t,q⟩
def NA(X:Cx)(r:V->Option Int->Option Int->Hp->VK->Prop):Prop:=
 ∀(pins:List (UM×Obj))(s:UW)(σ:St)(H:Hp)(x:V)(v vl vu:UJ)(lo hi:Option Int)(sl:UM)(Q:VK),Inv X pins σ H s->RelV x v->s.heap.IsSliceOf sl vl vu .none->VB vl lo->VB vu hi->r x lo hi H Q->
  ∃T id,typeLookup (.type T) "__getitem__"=pure (some (.builtin id))/\s.TypeIs v T/\UY (model X.prog X.w) X.A (getItem v (.ref sl)) (EP X pins σ Q) X.xe s
def Qr(r:V->Option Int->Option Int->Hp->VK->Prop)(te:TE)(tl th:TO):TE:=λσ H Q=>te σ H λx H1=>tl σ H1 λl H2=>th σ H2 λu H3=>r x l u H3 Q
def Fa{r:V->Option Int->Option Int->Hp->VK->Prop}(hr:NA X r)(he:PE X e te)(hl:PO X lo tl)(hu:PO X hi th):PE X (.Subscript e (.Slice lo hi none p2) pos) (Qr r te tl th):=by
 intro pins s σ H Q I h;refine VJ (dM (he pins s σ H _ I h) λv s1 ⟨x,H1,I1,r1,q1⟩=>?_);refine wpAny_Slice (dM (hl pins s1 σ H1 _ I1 q1) λvl s2 ⟨l,H2,I2,pl,q2⟩=>dM (hu pins s2 σ H2 _ I2 q2) λvu s3 ⟨u,H3,I3,pu,q3⟩=>?_);rw[VI];refine U6 ?_;have I4:Inv X pins σ H3 {s3 with heap:=s3.heap.push {cls:=.type "slice",data:=.fields #[vl,vu,.none]}}:=I3.kept (t':=s3.toks) λb ob q=>Ue _ q;obtain⟨T,id,hT,ht,hg⟩:=hr pins {s3 with heap:=s3.heap.push {cls:=.type "slice",data:=.fields #[vl,vu,.none]}} σ H3 x v vl vu l u s3.heap.objs.size Q I4 r1 (Heap.IsSliceOf.new ..) pl pu q3;show UY (model X.prog X.w) X.A (subscriptTail e (.Slice lo hi none p2) v (.ref s3.heap.objs.size)) (EP X pins σ Q) X.xe {s3 with heap:=s3.heap.push {cls:=.type "slice",data:=.fields #[vl,vu,.none]}};exact tail_any (ops:=[.ref s3.heap.objs.size,v]) ht hT hg (by with_unfolding_all rfl)
def zD(xs:List V)(lo hi:Option Int):List V:=(xs.drop (HT.sIx xs.length 0 lo)).take (HT.sIx xs.length xs.length hi-HT.sIx xs.length 0 lo)
def rM(xs:List V)(lo hi:Option Int):(zD xs lo hi).length<=xs.length:=by
 unfold zD;rw[Q7,Ri];omega
def OS(K:Tt):V->Option Int->Option Int->Hp->VK->Prop:=λx lo hi H Q=>∃a xs,x=.ref a/\rk K H a xs/\
 ¬(HT.sIx xs.length 0 lo=0/\HT.sIx xs.length xs.length hi=xs.length)/\∀p,H p=none->Q (.ref p) (upd H p (.tup (zD xs lo hi)))
def Le:NA X (OS X.K):=by
 intro pins s σ H x v vl vu lo hi sl Q I rx hs pl pu h;obtain⟨a,xs,rfl,hx,hw,q⟩:=h;cases rx;obtain⟨its,r,ht,hz⟩:=I.tuple hx;have hlen:its.toArray.size=xs.length:=by rw[QX];exact r.length.symm
 refine⟨"tuple",_,PyProof.Rows.slot_tuple_getitem.lookup,ht.typeIs,?_⟩;refine HT.BM ht hs pl pu (by rw[hlen];exact hw) ?_ (by rw[hlen];exact hz);rw[hlen];refine⟨.ref s.heap.objs.size,_,I.laid (t':=s.toks) (o:=.tup (zD xs lo hi)) (λb ob q=>Ue _ q) (QT _) ?_,rfl,q _ (I.hok.fresh (QT _))⟩;exact⟨QK (rM xs lo hi) hz,_,(r.drop (HT.sIx xs.length 0 lo)).take (HT.sIx xs.length xs.length hi-HT.sIx xs.length 0 lo),IsTup.new _ _⟩
def ME(K:Tt):R2:=λx y H Q=>∃a b xs ys,x=.ref a/\y=.ref b/\rk K H a xs/\rk K H b ys/\xs≠[]/\xs.length+ys.length<=UP/\
 (ys=[]->Q (.ref a) H)/\(ys≠[]->∀p,H p=none->Q (.ref p) (upd H p (.tup (xs++ys))))
def Vals.nil_iff{xs:List V}{us:List UJ}(r:Vals xs us):us=[]↔xs=[]:=by
 cases r with
 |nil=>simp
 |cons _ _=>simp
def IU:kn X (Vd .Add) (ME X.K):=by
 intro pins s σ H x y v u Q I rx ry h;obtain⟨a,b,xs,ys,rfl,rfl,ha,hb,hx,hz,q1,q2⟩:=h;cases rx;cases ry;obtain⟨its,r1,p1,_⟩:=I.tuple ha;obtain⟨its2,r2,p2,_⟩:=I.tuple hb;refine HT.NK p1 p2 (λz=>hx (r1.nil_iff.mp z)) (λz=>⟨.ref a,H,I,rfl,q1 (r2.nil_iff.mp z)⟩) (λz=>?_) (by rw[<-r1.length,<-r2.length];exact hz);refine⟨.ref s.heap.objs.size,_,I.laid (t':=s.toks) (o:=.tup (xs++ys)) (λb ob q=>Ue _ q) (QT _) ?_,rfl,q2 (λw=>z (r2.nil_iff.mpr w)) _ (I.hok.fresh (QT _))⟩;exact⟨by rw[Rg];exact hz,_,r1.append r2,IsTup.new _ _⟩
end
def Jl(n:Nat)(i:Int):Option Nat:=if 0<=i then(if i<n then some i.toNat else none)else if -(n:Int)<=i then some (i+n).toNat else none
def pI{α:Type}(xs:List α)(i:Int):Option α:=(Jl xs.length i).bind λj=>xs[j]?
def IY{n:Nat}{i:Int}{j:Nat}(h:Jl n i=some j):seqIndex? i n=some j/\j<n/\-(n:Int)<=i/\i<n:=by
 unfold Jl at h;by_cases h0:0<=i
 ·rw[if_pos h0]at h;by_cases h1:i<n
  ·rw[if_pos h1]at h;have e:i.toNat=j:=Option.some.inj h;exact⟨by rw[seqIndex_of h0 h1,e],by omega,by omega,h1⟩
  ·rw[if_neg h1]at h;cases h
 ·rw[if_neg h0]at h;by_cases h1:-(n:Int)<=i
  ·rw[if_pos h1]at h;have e:(i+n).toNat=j:=Option.some.inj h;exact⟨by rw[seqIndex_neg ‹0› h1,e],by omega,h1,by omega⟩
  ·rw[if_neg h1]at h;cases h
def xt{α:Type}{xs:List α}{i:Int}{v:α}(h:pI xs i=some v):∃j,seqIndex? i xs.length=some j/\xs[j]?=some v/\j<xs.length/\-(xs.length:Int)<=i/\i<xs.length:=by
 unfold pI at h;cases e:Jl xs.length i with
 |none=>rw[e]at h;cases h
 |some j=>
  rw[e]at h;obtain⟨h1,h2,h3,h4⟩:=IY e;exact⟨j,h1,h,h2,h3,h4⟩
def xQ(b:UZ):Prop:=∀o i,subscripted b false o i=operate [o,i] (getItem o i)
def LA(X:Cx)(r:R2):Prop:=
 ∀(value slice:UZ)(pins:List (UM×Obj))(s:UW)(σ:St)(H:Hp)(x y:V)(v u:UJ)(Q:VK),Inv X pins σ H s->RelV x v->RelV y u->r x y H Q->
  subscripted slice false v u=operate [v,u] (getItem v u)->UY (model X.prog X.w) X.A (subscriptTail value slice v u) (EP X pins σ Q) X.xe s
def Qs(X:Cx)(id:String)(r:V->List V->Hp->VK->Prop):Prop:=
 ∀(pins:List (UM×Obj))(s:UW)(σ:St)(H:Hp)(x:V)(xs:List V)(v:UJ)(us:List UJ)(Q:VK),Inv X pins σ H s->RelV x v->Vals xs us->r x xs H Q->
  UY (model X.prog X.w) X.A (call (.builtin id) (v::us)) (EP X pins σ Q) X.xe s
section
variable{X:Cx}{a b:UZ}{ta tb:TE}{pos:Pos}
def MO{r:R2}(hr:LA X r)(ha:PE X a ta)(hb:PE X b tb)(hs:xQ b):PE X (.Subscript a b pos) (Mm r ta tb):=by
 intro pins s σ H Q I h;exact VJ (KS ha hb I h λv u s2 x y H2 I2 rx ry q=>hr a b pins s2 σ H2 x y v u Q I2 rx ry q (hs _ _))
def PC(K:Tt):R2:=λx y H Q=>∃p xs i v,x=.ref p/\y=.int i/\pH K H p xs/\pI xs i=some v/\Q v H
def Pa(K:Tt):R2:=λx y H Q=>∃p xs i v,x=.ref p/\y=.int i/\rk K H p xs/\pI xs i=some v/\Q v H
def Pk:R2:=λx y H Q=>∃z i c,x=.str z/\y=.int i/\z.length<=UP/\pI z.cps.toList i=some c/\Q (.str ⟨#[c]⟩) H
def IW:LA X (PC X.K):=by
 intro value slice pins s σ H x y v u Q I rx ry h hs;obtain⟨p,xs,i,z,rfl,rfl,hq,he,q⟩:=h;cases rx;obtain⟨t,rfl⟩:=ry;obtain⟨its,r,pl,hz⟩:=I.list hq;obtain⟨j,h1,h2,h3,h4,h5⟩:=xt he;obtain⟨w,ew,rw'⟩:=r.get h2;have hl:=r.length;have hn:=qL;have fin:EP X pins σ Q w s:=⟨z,H,I,rw',q⟩
 by_cases h0:0<=i
 ·have hj:i.toNat=j:=by
   rw[seqIndex_of h0 h5]at h1;exact Option.some.inj h1
  exact item_listR pl.isList h0 ‹0› (by rw[hj];simpa using ew) fin hs
 ·have hj:(i+(its.toArray.size:Int)).toNat=j:=by
   rw[seqIndex_neg ‹0› h4]at h1;rw[QX,<-hl];exact Option.some.inj h1
  exact subscriptTail_builtinR (x:=w) pl.isList.typeIs slot_list_getitem.lookup
   (wpAny_getItem_list_neg (Q:=λr s'=>r=w/\EP X pins σ Q r s') pl.isList ‹0› (by rw[QX]<;>omega) ‹0› (by rw[hj];simpa using ew) ⟨rfl,fin⟩) hs
def Lc:LA X (Pa X.K):=by
 intro value slice pins s σ H x y v u Q I rx ry h hs;obtain⟨p,xs,i,z,rfl,rfl,hq,he,q⟩:=h;cases rx;obtain⟨t,rfl⟩:=ry;obtain⟨its,r,pl,hz⟩:=I.tuple hq;obtain⟨j,h1,h2,h3,h4,h5⟩:=xt he;obtain⟨w,ew,rw'⟩:=r.get h2;have hl:=r.length;have hn:=qL;have fin:EP X pins σ Q w s:=⟨z,H,I,rw',q⟩
 exact subscriptTail_builtinR (x:=w) pl.typeIs slot_tuple_getitem.lookup
  (getItem_tuple (j:=j) (Q:=λr s'=>r=w/\EP X pins σ Q r s') pl ‹0› ‹0› (by rw[QX,<-hl];exact h1) (by simpa using ew) ⟨rfl,fin⟩) hs
def Kg:LA X Pk:=by
 intro value slice pins s σ H x y v u Q I rx ry h hs;obtain⟨z,i,c,rfl,rfl,hz,he,q⟩:=h;obtain⟨t,rfl⟩:=rx;obtain⟨t',rfl⟩:=ry;obtain⟨j,h1,h2,h3,h4,h5⟩:=xt he;have hl:z.cps.toList.length=z.length:=by simp[Str.length]
 rw[hl]at h1 h4 h5;have hn:=qL;exact tail_any (typeIs_str s z t) slot_str_getitem.lookup (getItem_str (c:=c) (by
  have e1:decide (i < -(2^63:Int))=false:=decide_eq_false ‹0›;have e2:decide (i>=2^63)=false:=decide_eq_false ‹0›;rw[e1,e2,Bool.or_false]) (by rw[h1];simpa using h2) ⟨.str ⟨#[c]⟩,H,I.tok _,⟨_,rfl⟩,q⟩) hs
def xg(lo hi:Option Int)(n:Nat):(sliceBounds lo hi none n).1=((HT.sIx n 0 lo:Nat):Int)/\(sliceBounds lo hi none n).2.1=((HT.sIx n n hi:Nat):Int)/\(sliceBounds lo hi none n).2.2=1:=by
 refine⟨?_,?_,rfl⟩
 ·cases lo with
  |none=>simp[sliceBounds,HT.sIx]
  |some i=>
   simp only[sliceBounds,HT.sIx,Rl,show(1:Int)>0 by decide,if_true];by_cases h:i<0
   ·simp only[h,if_true]<;>omega
   ·simp only[h,if_false]<;>omega
 ·cases hi with
  |none=>simp[sliceBounds,HT.sIx]
  |some i=>
   simp only[sliceBounds,HT.sIx,Rl,show(1:Int)>0 by decide,if_true];by_cases h:i<0
   ·simp only[h,if_true]<;>omega
   ·simp only[h,if_false]<;>omega
def vp(its:List UJ)(lo hi:Option Int):slicePick its.toArray lo hi none=((its.drop (HT.sIx its.length 0 lo)).take (HT.sIx its.length its.length hi-HT.sIx its.length 0 lo)).toArray:=by
 obtain⟨h1,h2,h3⟩:=xg lo hi its.toArray.size;unfold slicePick;rw[h1,h2,h3];simp only[sliceRange_one,pick_run,QX]<;>rfl
def Pj(K:Tt):V->Option Int->Option Int->Hp->VK->Prop:=λx lo hi H Q=>∃a xs,x=.ref a/\pH K H a xs/\∀p,H p=none->Q (.ref p) (upd H p (.lst (zD xs lo hi)))
def HF:NA X (Pj X.K):=by
 intro pins s σ H x v vl vu lo hi sl Q I rx hs pl pu h;obtain⟨a,xs,rfl,hx,q⟩:=h;cases rx;obtain⟨its,r,ht,hz⟩:=I.list hx;have hlen:=r.length;refine⟨"list",_,slot_list_getitem.lookup,ht.isList.typeIs,?_⟩;refine wpAny_getItem_list_slice ht.isList hs pl pu .none (by simp) ?_ (by rw[QX]<;>omega);rw[vp,<-hlen];refine⟨.ref s.heap.objs.size,_,I.laid (t':=s.toks) (o:=.lst (zD xs lo hi)) (λb ob q=>Ue _ q) (QT _) ?_,rfl,q _ (I.hok.fresh (QT _))⟩;exact⟨QK (rM xs lo hi) hz,_,0,(r.drop (HT.sIx xs.length 0 lo)).take (HT.sIx xs.length xs.length hi-HT.sIx xs.length 0 lo),Ug _ rfl⟩
def Fo:V->Bool
 |.non=>true
 |.bl _=>true
 |.int _=>true
 |.str _=>true
 |_=>false
def OB:V->V->Bool
 |.non,.non=>true
 |.bl a,.bl b=>a==b
 |.bl a,.int b=>(if a then 1 else 0)==b
 |.int a,.bl b=>a==(if b then 1 else 0)
 |.int a,.int b=>a==b
 |.str a,.str b=>a==b
 |_,_=>false
def Kh{A:UV}{s:UW}{y x:V}{u v:UJ}(ry:RelV y u)(rx:RelV x v)(fy:Fo y=true)(fx:Fo x=true):SeqAt.EqAt A s u v (OB y x):=by
 cases y with
 |non=>
  cases ry;cases x with
  |non=>cases rx;exact SeqAt.EqAt.same _
  |bl b=>cases rx;exact SeqAt.EqAt.none_bool b
  |int b=>obtain⟨t,rfl⟩:=rx;exact SeqAt.EqAt.none_int b t
  |str b=>obtain⟨t,rfl⟩:=rx;exact SeqAt.EqAt.none_str b t
  |_=>exact absurd (show false=true from fx) QY
 |bl a=>
  cases ry;cases x with
  |non=>cases rx;exact SeqAt.EqAt.bool_none a
  |bl b=>cases rx;exact SeqAt.EqAt.bool_bool a b
  |int b=>obtain⟨t,rfl⟩:=rx;exact SeqAt.EqAt.bool_int a b t
  |str b=>obtain⟨t,rfl⟩:=rx;exact SeqAt.EqAt.bool_str a b t
  |_=>exact absurd (show false=true from fx) QY
 |int a=>
  obtain⟨t',rfl⟩:=ry;cases x with
  |non=>cases rx;exact SeqAt.EqAt.int_none a t'
  |bl b=>cases rx;exact SeqAt.EqAt.int_bool a t' b
  |int b=>obtain⟨t,rfl⟩:=rx;exact SeqAt.EqAt.int_int a t' b t
  |str b=>obtain⟨t,rfl⟩:=rx;exact SeqAt.EqAt.int_str a t' b t
  |_=>exact absurd (show false=true from fx) QY
 |str a=>
  obtain⟨t',rfl⟩:=ry;cases x with
  |non=>cases rx;exact SeqAt.EqAt.str_none a t'
  |bl b=>cases rx;exact SeqAt.EqAt.str_bool a t' b
  |int b=>obtain⟨t,rfl⟩:=rx;exact SeqAt.EqAt.str_int a t' b t
  |str b=>obtain⟨t,rfl⟩:=rx;exact SeqAt.EqAt.str_str a t' b t
  |_=>exact absurd (show false=true from fx) QY
 |_=>exact absurd (show false=true from fy) QY
def pL:dY X (.builtin "len") (λxs H Q=>∃p ys,xs=[.ref p]/\(pH X.K H p ys\/rk X.K H p ys)/\Q (.int ys.length) H):=by
 intro pins s σ H xs us Q I r h;obtain⟨p,ys,rfl,hq,q⟩:=h;obtain⟨u,rfl,rx⟩:=vals1 r;cases rx;have hn:=qL;rcases hq with hq|hq
 ·obtain⟨its,r',pl,hz⟩:=I.list hq;have hlen:=r'.length;exact Calls.call_len_list pl.isList (by simp only[QX]<;>omega) ⟨.int ys.length,H,I.tok _,⟨s.toks+1,by rw[QX,hlen]⟩,q⟩
 ·obtain⟨its,r',pl,hz⟩:=I.tuple hq;have hlen:=r'.length;exact len_tuple pl (by simp only[QX]<;>omega) ⟨.int ys.length,H,I.tok _,⟨s.toks+1,by rw[QX,hlen]⟩,q⟩
def xF:dY X (.builtin "len") (λxs H Q=>∃z,xs=[.str z]/\z.length<=UP/\Q (.int z.length) H):=by
 intro pins s σ H xs us Q I r h;obtain⟨z,rfl,hz,q⟩:=h;obtain⟨u,rfl,t,rfl⟩:=vals1 r;have hn:=qL;exact len_str ‹0› ⟨.int z.length,H,I.tok _,⟨_,rfl⟩,q⟩
def p8:dY X (.type "list") (λxs H Q=>∃p ys,xs=[.ref p]/\(pH X.K H p ys\/rk X.K H p ys)/\∀l,H l=none->Q (.ref l) (upd H l (.lst ys))):=by
 intro pins s σ H xs us Q I r h;obtain⟨p,ys,rfl,hq,q⟩:=h;obtain⟨u,rfl,rx⟩:=vals1 r;cases rx;have fin:∀(its:List UJ),Vals ys its->ys.length<=UP->∀(h':UO)(c':Nat),(∀b o',s.heap.get? b=some o'->h'.get? b=some o')->
   h'.get? s.heap.objs.size=some {cls:=.type "list",dict:=none,data:=.seq its.toArray c',slots:=#[]}->EP X pins σ Q (.ref s.heap.objs.size) {s with heap:=h'}:=λits r' hz h' c' kp e=>
  ⟨.ref s.heap.objs.size,_,I.laid (t':=s.toks) kp (QT _) (show cH X.prog X.w _ h' _ (.lst ys)from⟨hz,its,c',r',e⟩),rfl,q _ (I.hok.fresh (QT _))⟩
 rcases hq with hq|hq
 ·obtain⟨its,r',pl,hz⟩:=I.list hq;have hlen:=r'.length;obtain⟨o,ho,hc,n,hd⟩:=pl.isList;exact call_list_seq p (.inl rfl) ho hc hd (λh' c' kp e=>fin its r' hz h' c' kp e) (by simp only[QX]<;>omega)
 ·obtain⟨its,r',pl,hz⟩:=I.tuple hq;have hlen:=r'.length;obtain⟨o,ho,hc,n,hd⟩:=pl;exact call_list_seq p (.inr rfl) ho hc hd (λh' c' kp e=>fin its r' hz h' c' kp e) (by simp only[QX]<;>omega)
def oT:dY X (.type "tuple") (λxs H Q=>∃p ys,xs=[.ref p]/\((pH X.K H p ys/\∀l,H l=none->Q (.ref l) (upd H l (.tup ys)))\/(rk X.K H p ys/\Q (.ref p) H))):=by
 intro pins s σ H xs us Q I r h;obtain⟨p,ys,rfl,h⟩:=h;obtain⟨u,rfl,rx⟩:=vals1 r;cases rx;rcases h with⟨hq,q⟩|⟨hq,q⟩
 ·obtain⟨its,r',pl,hz⟩:=I.list hq;have hlen:=r'.length;refine call_tuple_list pl.isList (λh' kp=>?_) (by simp only[QX]<;>omega);have I1:Inv X pins σ H {s with heap:=h'}:=I.kept (t':=s.toks) kp;have I2:Inv X pins σ (upd H h'.objs.size (.tup ys)) {s with heap:=h'.push {cls:=.type "tuple",data:=.seq its.toArray}}:=
   I1.laid (t':=s.toks) (λb o e=>Ue _ e) (QT _) (show cH X.prog X.w _ _ _ (.tup ys)from⟨hz,its,r',IsTup.new _ _⟩)
  exact⟨.ref h'.objs.size,_,I2,rfl,q _ (I1.hok.fresh (QT _))⟩
 ·obtain⟨its,r',pl,hz⟩:=I.tuple hq;exact call_tuple_same pl ⟨.ref p,H,I,rfl,q⟩
def Oo(K:Tt)(T:String)(x:V)(H:Hp):Prop:=match x with
 |.str _=>T="str"
 |.int _=>T="int"
 |.ref p=>(T="list"/\∃xs,pH K H p xs)\/(T="tuple"/\∃o,K.lookup p=some o/\o.cls=.type "tuple"/\o.dict=none) \/
   (T="dict"/\((∃kvs,H p=some (.dK kvs))\/∃kvs,H p=some (.dT kvs)))\/(T="set"/\∃S n,H p=some (.set S n))
 |_=>False
def Ko{pins:List (UM×Obj)}{σ:St}{H:Hp}{s:UW}{T:String}{x:V}{v:UJ}(I:Inv X pins σ H s)(r:RelV x v)(ty:Oo X.K T x H):
  s.TypeIs v T/\∀a,v=.ref a->∃ob,s.heap.get? a=some ob/\ob.dict=none:=by
 cases x with
 |str z=>
  obtain⟨t,rfl⟩:=r;cases(show T="str"from ty);exact⟨typeIs_str s z t,λ_ e=>nomatch e⟩
 |int i=>
  obtain⟨t,rfl⟩:=r;cases(show T="int"from ty);exact⟨typeIs_int s i t,λ_ e=>nomatch e⟩
 |ref p=>
  cases r;rcases ty with⟨rfl,xs,hq⟩|⟨rfl,o,hk,hc,hd⟩|⟨rfl,hk⟩|⟨rfl,S,n,hk⟩
  ·obtain⟨its,_,pl,_⟩:=I.list hq;refine⟨pl.isList.typeIs,λa e=>?_⟩;cases e;obtain⟨o,n,e,c,hd,_⟩:=pl;exact⟨o,e,hd⟩
  ·refine⟨⟨o,I.kIn p o hk,hc⟩,λa e=>?_⟩;cases e;exact⟨o,I.kIn _ o hk,hd⟩
  ·have z:∃o,s.heap.get? p=some o/\o.ExactDict:=by
    rcases hk with⟨kvs,hk⟩|⟨kvs,hk⟩
    ·obtain⟨_,_,_,_,o,_,_,e,ex,_⟩:=I.hok p _ hk;exact⟨o,e,ex⟩
    ·obtain⟨_,_,_,_,o,_,_,e,ex,_⟩:=I.hok p _ hk;exact⟨o,e,ex⟩
   obtain⟨o,e,ex⟩:=z;refine⟨⟨o,e,ex.1⟩,λa e2=>?_⟩;cases e2;exact⟨o,e,ex.2.1⟩
  ·obtain⟨o,_,_,_,e,ex,_⟩:=I.hok p _ hk;refine⟨⟨o,e,ex.1⟩,λa e2=>?_⟩;cases e2;exact⟨o,e,ex.2.1⟩
 |_=>exact False.elim ty
def QD(K:Tt)(T:String)(r:V->List V->Hp->VK->Prop)(to:TE)(t:TA):TE:=λσ H Q=>to σ H λx H1=>Oo K T x H1/\t σ H1 λxs H2=>r x xs H2 Q
variable{o e:UZ}{es:List UZ}{to:TE}{t:TA}{name:Str}{apos cpos:Pos}{T id:String}{r:V->List V->Hp->VK->Prop}
def BU(pa:PlainAttrs T)(slot:Slot T name id)(hty:typeOf (.builtin id)=pure (.type "method_descriptor"))(hm:Qs X id r)(ho:PE X o to)(ha:PA X (e::es) t)
  (hbase:Vk o name X.env (eval o X.env)=eval o X.env:=by rfl)
  (hfew:((backTo cpos (U0 (e::es) X.env)).all (fun x=>!x.1) && (backToKw cpos (Vm [] X.env)).all (fun x=>x.1.isSome)
   && decide ((e::es).length+([]:List Vu).length+(if([]:List Vu).isEmpty then 0 else 1)<30))=true:=by rfl)
  (hline:(apos.endLine==cpos.line)=true:=by rfl) (hs:U0 (e::es) X.env=(false,eval e X.env)::U0 es X.env:=by rfl) (hplain:(backTo cpos (U0 es X.env)).any (·.1)=false:=by rfl):
  PE X (.Call (.Attribute o name apos) (e::es) [] cpos) (QD X.K T r to t):=by
 intro pins s σ H Q I h;refine wpAny_Call_method_late hbase hfew hline rfl (dM (ho pins s σ H _ I h) λv s1 ⟨x,H1,I1,r1,ty,q1⟩=>?_);obtain⟨h1,h2⟩:=Ko I1 r1 ty;refine⟨T,id,pa,slot,hty,h1,h2,?_⟩;have hA:=ha cpos pins s1 σ H1 _ I1 q1;rw[hs]at hA ⊢;refine Calls.callWith_builtin (by show(false||(backTo cpos (U0 es X.env)).any (·.1))=false;rw[hplain]<;>rfl) (Calls.evalArgs_plain ?_);exact dM hA λus s2 ⟨vs,H2,I2,r2,q2⟩=>hm pins s2 σ H2 x vs v us Q I2 r1 r2 q2
end
def Mj(X:Cx)(id:String)(r:V->List V->Hp->VK->Prop):Prop:=
 ∀(pins:List (UM×Obj))(s:UW)(σ:St)(H:Hp)(x:V)(xs:List V)(v:UJ)(us:List UJ)(Q:VK),Inv X pins σ H s->RelV x v->Vals xs us->r x xs H Q->
  UY (model X.prog X.w) X.A (call (.builtin id) (v::us)) (EP X pins σ Q) X.xe s
def Vals.one:∀{x:V}{us:List UJ},Vals [x] us->∃u,us=[u]/\RelV x u
 |_,_,.cons r .nil=>⟨_,rfl,r⟩
def Vals.two:∀{x y:V}{us:List UJ},Vals [x,y] us->∃u v,us=[u,v]/\RelV x u/\RelV y v
 |_,_,_,.cons r (.cons q .nil)=>⟨_,_,rfl,r,q⟩
section
variable{X:Cx}{pins:List (UM×Obj)}{σ:St}{H:Hp}{s:UW}{l b:UM}{xs ys zs:List V}
def Inv.lset{its its':List UJ}{n:Nat}{f:Array UJ->Array UJ}{t':Nat}(I:Inv X pins σ H s)(hH:H l=some (.lst xs))
  (e:s.heap.get? l=some {cls:=.type "list",data:=.seq its.toArray n}) (hf:f its.toArray=its'.toArray) (hv:Vals ys its') (hz:ys.length<=UP):
  Inv X pins σ (upd H l (.lst ys)) {s with heap:=s.heap.update l (Obj.mapSeq f),toks:=t'}:=by
 have q:=PySem.IsL.update e f;rw[hf]at q;refine I.write (x:=l) (e:=l) (by rw[hH];exact trivial) (.inl rfl) (λb' u hb hu=>(Ui s.heap (Obj.mapSeq f) (Ne.symm hb)).trans hu) ⟨_,q⟩ ?_;exact⟨hz,its',_,hv,q⟩
def Inv.lnew{its:List UJ}{t':Nat}(I:Inv X pins σ H s)(hv:Vals ys its)(hz:ys.length<=UP):
  Inv X pins σ (upd H s.heap.objs.size (.lst ys)) {s with heap:=s.heap.push {cls:=.type "list",data:=.seq its.toArray},toks:=t'}:=
 I.laid (λ_ _ q=>Ue _ q) (QT _) ⟨hz,its,0,hv,Ug _ rfl⟩
def Inv.fresh(I:Inv X pins σ H s):H s.heap.objs.size=none:=I.hok.fresh (QT _)
def Inv.lstM(I:Inv X pins σ H s)(hH:H l=some (.lst xs)):xs.length<=UP/\∃(its:List UJ)(n:Nat),Vals xs its/\xs.length=its.length/\s.heap.get? l=some {cls:=.type "list",data:=.seq its.toArray n}:=by
 obtain⟨z,its,n,r,e⟩:=I.hok l _ hH;exact⟨z,its,n,r,r.length,e⟩
def EW{n:Nat}(h:n<=UP):Builtin.List.listTooLong n=false:=by
 unfold Builtin.List.listTooLong;exact decide_eq_false ‹0›
end
section
variable{X:Cx}
def w8:V->List V->Hp->VK->Prop:=λx vs H Q=>∃l xs y,x=.ref l/\vs=[y]/\H l=some (.lst xs)/\xs.length<UP/\Q .non (upd H l (.lst (xs++[y])))
def eP:Mj X "list.append" w8:=by
 intro pins s σ H x vs v us Q I rx rv h;obtain⟨l,xs,y,rfl,rfl,hH,hz,q⟩:=h;cases rx;obtain⟨u,rfl,ru⟩:=rv.one;obtain⟨z,its,n,r,hl,e⟩:=I.lstM hH;refine call_meets F.slot_list_append ⟨_,e,rfl⟩ F.entry_list_append (F.args_list_append_2 _ _) (PySem.list_append l its.toArray n u (by rw[QX];omega)) ⟨e,?_⟩;refine⟨.non,_,I.lset (its':=its++[u]) hH e (by simp) (r.append (.cons ru .nil)) ?_,rfl,q⟩;rw[Rg,Rm];omega
def Ij:V->List V->Hp->VK->Prop:=λx vs H Q=>∃l b xs zs,x=.ref l/\vs=[.ref b]/\H l=some (.lst xs)/\H b=some (.lst zs)/\xs.length+zs.length<=UP/\Q .non (upd H l (.lst (xs++zs)))
def DQ:Mj X "list.extend" Ij:=by
 intro pins s σ H x vs v us Q I rx rv h;obtain⟨l,b,xs,zs,rfl,rfl,hH,hB,hz,q⟩:=h;cases rx;obtain⟨u,rfl,ru⟩:=rv.one;cases ru;obtain⟨z,its,n,r,hl,e⟩:=I.lstM hH;obtain⟨z2,its2,n2,r2,hl2,e2⟩:=I.lstM hB;have hsz:its.toArray.size+its2.toArray.size<=UP:=by rw[QX,QX];omega
 have hlong:¬(!its.toArray.isEmpty&&Builtin.List.listTooLong (its.toArray.size+its2.toArray.size))=true:=by
  rw[EW hsz,Rn];exact QY
 refine call_meets F.slot_list_extend ⟨_,e,rfl⟩ F.entry_list_extend (F.args_list_extend_2 _ _)
  (AutoSeq1.list_extend_list_list_0 l its.toArray n b its2.toArray n2 hlong (by rw[QX];omega) ‹0›) ⟨e,e2,?_⟩
 refine⟨.non,_,I.lset (its':=its++its2) hH e (by simp) (r.append r2) ?_,rfl,q⟩;rw[Rg];omega
end
end L2
namespace Att
open PySem PySem.W PySem.Calls PyProof.Rows
def sj{P:Params}{h:UO}:∀(ns:List Int)(vs:List UJ),WellAll P h vs (ns.map WData.int)->IntsAre vs ns:=by
 intro ns
 induction ns with
 |nil=>
  intro vs w;rw[Ro]at w;cases w;exact .nil
 |cons n ns ih=>
  intro vs w;rw[Q0]at w;cases w with
  |cons a b=>
   cases a;exact .cons _ _ (ih _ b)
def DT{l:OpenLaw}{n:Nat}(hn:l.most=some n){P:Params}{h:UO}{args:List WData}{vals:List UJ}
  (hpre:l.row.toRowW.claim.pre args=true) (hwl:WellAll P h vals args):
  ∃a vs ns,vals=[Value.ref a]/\args=[WData.list (ns.map WData.int)]/\h.get? a=some {cls:=.type "list",data:=.seq vs.toArray}/\IntsAre vs ns/\ns.length<=n:=by
 have hsh:WShape.hasAll [] args [.list .int]=true:=(pre_splitW hpre).1;have hc:l.pre.holds [] {args:=args}=true:=(pre_splitW hpre).2;obtain⟨d,r,rfl,h1,h2⟩:=hasAllW_cons hsh;obtain rfl:=hasAllW_nil h2;obtain⟨xs,rfl,h3⟩:=hasW_list h1;obtain⟨ns,rfl⟩:=items_int h3;have hlen:ns.length<=n:=by
  unfold OpenLaw.pre at hc;have h4:(WTm.not (.lt (.lit (.int (n:Int))) (.len (.arg 0)))).holds [] {args:=[.list (ns.map .int)]}=true:=by
   have h4:=(holds_andW hc).1;rw[hn]at h4;exact h4
  have h5:=condW_of h4 (w_not (w_lt w_lit (w_len_list (w_arg rfl))));rw[Q1]at h5;refine Nat.le_of_not_lt λq=>?_;have q':(n:Int)<((ns.length:Nat):Int):=by omega
  first
   |(rw[decide_eq_true q']at h5;exact absurd h5 (by decide))
   |(simp at h5;omega)
 cases hwl with
 |cons w1 w2=>
  cases w2;cases w1 with
  |list ho hall=>exact⟨_,_,ns,rfl,rfl,ho,sj ns _ hall,hlen⟩
def D7(l:OpenLaw)(args:List WData):l.row.toRowW.claim.post args (.bool true) args=true:=
 postW_of (r:=l.row.toRowW) (X:=(true==true))
  (show WShape.has [] (.bool true) .bool=true by first|rfl|decide|simp[WShape.has,WShape.arms,WShape.armsAll])
  (show(WTm.eq .res (.lit (.bool true))).value [] {args:=args,res:=some (.bool true),after:=args}=some (.bool (true==true))from w_eq_bool (w_res rfl) w_lit) rfl
def Jt{l:OpenLaw}{n:Nat}{q:UL}{loose:List Str}{XP:(Str->Option UJ)->UO->Prop}{YP:UK->UO->Prop}{d:DefRec}
  (hn:l.most=some n) (hdf:d.params.defaults=[])
  (call:∀ (w:UK) (s₀ s₁:UW) (mg mb:Str->Option UJ) (fa:UM) (o:Obj) (pm cd doc:UJ) (a:UM) (vs:List UJ) (ns:List Int),
   Ground q loose [] XP w s₀ mg mb s₁.heap->YP w s₁.heap->
   s₁.heap.get? fa=some o->o.data=.func (docDef d.name d.params d.body d.scope pm cd doc)->s₁.heap.CodeRec cd d.name->mg d.name=some (.ref fa)->
   s₁.heap.get? a=some {cls:=.type "list",data:=.seq vs.toArray}->IntsAre vs ns->ns.length<=n->s₁.gens=#[]->
   Vj (model l.prog w) callerA (.call (.ref fa) ⟨[.ref a],[]⟩) (λr s'=>r=.ok (.ret (.bool true))/\OldK s₁.heap s'.heap/\s'.os=s₁.os/\AllBare s'.gens) s₁):
  WalkO q loose XP YP l.row.toRowW d [] (λf vs=>PySem.call f vs):=by
 intro w s₀ s₁ mg mb G Y fa o pm cd doc dV kV ho hd hcd hD hmg hg args vals as hpre hlay hrd hwl hlo;obtain rfl:dV=.none:=Dflts.none hD hdf;obtain rfl:kV=.none:=Dflts.noKw hD;obtain⟨a,vs,ns,rfl,rfl,hobj,hints,hlen⟩:=DT hn hpre hwl;refine enter_call (Vs (call w s₀ s₁ mg mb fa o pm cd doc a vs ns G Y ho (fd_plain hd) hcd hmg hobj hints hlen hg) λr s' hq=>?_);obtain⟨rfl,h2,h3,h4⟩:=hq;exact⟨.inl ⟨.bool true,.bool true,[],rfl,λ_=>rfl,.bool true,D7 l _,λ_=>⟨List.Pairwise.nil,λ_ hm=>(nomatch hm)⟩⟩,h2,h3,h4⟩
section
variable{prog:UL}{w:UK}{A:UV}{E:UJ->UW->Prop}{s:UW}{K:Frag}
end
end Att
namespace L2
open PySem PySem.Spec PyProof.Rows
def wB:∀{vs:List UJ}{ns:List Int},IntsAre vs ns->Vals (ns.map V.int) vs
 |_,_,.nil=>.nil
 |_,_,.cons n t h=>.cons ⟨t,rfl⟩ (wB h)
def inClass(s:U1)(j:Nat):U1:=match s with
 |.ClassDef _ _ _ body _ _ _ _ _ _ _=>body.getD j (.Pass ⟨0,0,0,0⟩)
 |_=>.Pass ⟨0,0,0,0⟩
def n8(s:U1):Vx:=match s with
 |.FunctionDef _ a _ _ _ _ _ _ _ _=>a
 |_=>{posonlyargs:=[],args:=[],vararg:=none,kwonlyargs:=[],kw_defaults:=[],kwarg:=none,defaults:=[]}
def fA(s:U1):List U1:=match s with
 |.FunctionDef _ _ b _ _ _ _ _ _ _=>b
 |_=>[]
def ax(s:U1):UX:=match s with
 |.FunctionDef _ _ _ _ _ _ sc _ _ _=>sc
 |_=>{kind:=.function,names:=[],isGenerator:=false,isCoroutine:=false}
abbrev NF:Ae:=λ_ _ _ _ _ _=>False
abbrev E0:XK:=λ_ _ _=>False
structure uT(K:Tt)(x qual:Str)(st:U1)(f:UM)(fd:Vp):Prop where
 ex:∃(oc:UJ)(od:Option UM)(kV doc pm:UJ)(an:Option UM)(cdv ct:UJ)(osl:Array (Option UJ)),
  fd=TR x qual (n8 st) (fA st) (ax st) .none kV doc pm an cdv ct/\K.lookup f=some ⟨oc,od,.func fd,osl⟩/\TU K cdv qual=true
 kp:TL K (.ref f)=true
section
variable{P:UL}{w:UK}{K:Tt}{mg:Str->Option UJ}{base:UO}
def uT.ok{x qual:Str}{st:U1}{f:UM}{fd:Vp}{N ps:List Str}{k:Nat}{sp:Sp}(F:uT K x qual st f fd)(S:aP N ps (ax st))(len:∀vs H Q E,sp vs H Q E->vs.length=ps.length)
  (hbody:∀ (cdv:UJ) (A:UV) (outer:List Env) (s:UW) (H:Hp) (vs:List V) (Q:VK) (E:XK),fX k (A.deeper (envOfC qual (ax st) s.heap.objs.size f cdv))->sp vs H Q E ->
   ∃t,yN (kC NF P w K mg base N qual (ax st) f cdv A outer s H E).nox (fA st) t/\t {nx:=λ_ H'=>Q .non H',rt:=Q} (start N vs) H):jV P w K mg base NF (k+1) f fd ps sp:=by
 obtain⟨oc,od,kV,doc,pm,an,cdv,ct,osl,rfl,lk,hcd⟩:=F.ex;refine EV lk hcd S len λA outer s H vs Q E hr hsp=>?_;obtain⟨t,h,q⟩:=hbody cdv A outer s H vs Q E hr hsp;exact⟨t,h.nox,q⟩
def uT.binds{x qual:Str}{st:U1}{f:UM}{fd:Vp}{ps:List Str}(F:uT K x qual st f fd)
  (h:∀(kV doc pm:UJ)(an:Option UM)(cdv ct:UJ)(us:List UJ),us.length=ps.length->bindArgs (TR x qual (n8 st) (fA st) (ax st) .none kV doc pm an cdv ct) ⟨us,[]⟩=pure (ps.zip us)):Binds K fd ps []:=by
 obtain⟨oc,od,kV,doc,pm,an,cdv,ct,osl,rfl,lk,hcd⟩:=F.ex;exact .all (h kV doc pm an cdv ct)
def bA{x qual:Str}{st:U1}{f:UM}{oc:UJ}{od an:Option UM}{osl:Array (Option UJ)}{kV doc pm cdv ct:UJ}(l:K.lookup f=some ⟨oc,od,.func (TR x qual (n8 st) (fA st) (ax st) .none kV doc pm an cdv ct),osl⟩)
  (c:TU K cdv qual=true) (k:TL K (.ref f)=true):uT K x qual st f (TR x qual (n8 st) (fA st) (ax st) .none kV doc pm an cdv ct):=⟨⟨oc,od,kV,doc,pm,an,cdv,ct,osl,rfl,l,c⟩,k⟩
end
section
variable{X:Cx}
def pv(i:Nat){x:Str}{pos:Pos}(hN:X.N[i]?=some x:=by rfl)(hv:Lh X.env.scope x:=by first|exact Or.inl rfl|exact Or.inr (Or.inl rfl)|exact Or.inr (Or.inr rfl))(hd:(x==("__debug__":Str))=false:=by decide)
  (hcd:(x==("__classdict__":Str))=false:=by decide):PE X (.Name x pos) (qF i):=Ka hN hv hd hcd
end
def DS{A B:Prop}(h:B):if false=true then A else B:=by
 rw[if_neg QY];exact h
def CW{A B:Prop}(h:A):if true=true then A else B:=by
 rw[if_pos rfl];exact h
def bj(H H':Hp):Prop:=∀b o,H b=some o->H' b=some o
def bj.refl(H:Hp):bj H H:=λ_ _ h=>h
def bj.trans{H H1 H2:Hp}(a:bj H H1)(b:bj H1 H2):bj H H2:=λc o h=>b c o (a c o h)
def bj.free{H H':Hp}(e:bj H H'){l:UM}(h:H' l=Option.none):H l=Option.none:=by
 cases q:H l with
 |none=>rfl
 |some o=>
  rw[e l o q]at h;cases h
def bj.seq{K:Tt}{H H':Hp}{a:UM}{xs:List V}(e:bj H H')(h:pH K H a xs):pH K H' a xs:=by
 rcases h with(h|⟨o,h⟩)|h
 ·exact .inl (.inl (e _ _ h))
 ·exact .inl (.inr ⟨o,e _ _ h⟩)
 ·exact .inr h
section
variable{κ:Type}[DecidableEq κ]
def jN(kvs:List (κ×V))(k:κ):Option V:=(kvs.find? λkv=>decide (kv.1=k)).map (·.2)
def putK(kvs:List (κ×V))(k:κ)(v:V):List (κ×V):=
 if(kvs.any λkv=>decide (kv.1=k))=true then kvs.map (λkv=>if kv.1=k then(kv.1,v)else kv)else kvs++[(k,v)]
def kQ{p:κ×V}{r:List (κ×V)}{k:κ}(e:p.1=k):jN (p::r) k=some p.2:=by simp[jN,Rp,e]
def jI{p:κ×V}{r:List (κ×V)}{k:κ}(e:¬p.1=k):jN (p::r) k=jN r k:=by simp[jN,Rp,e]
def tS(k:κ):∀kvs:List (κ×V),(kvs.any λkv=>decide (kv.1=k))=(jN kvs k).isSome
 |[]=>rfl
 |p::r=>by
  rw[Rq];by_cases e:p.1=k
  ·simp only[kQ e,decide_eq_true e,Bool.true_or,Option.isSome_some]
  ·rw[jI e,decide_eq_false e,Bool.false_or];exact tS k r
def kr(kvs:List (κ×V))(k:κ)(v:V):(putK kvs k v).length<=kvs.length+1:=by
 unfold putK;split
 ·rw[Q1];omega
 ·rw[Rg,QZ,Rr];omega
def ua.isSome_eq{o:Option V}{u:Option UJ}(r:ua o u):o.isSome=u.isSome:=by
 cases o with
 |none=>cases u with
  |none=>rfl
  |some _=>exact(show False from r).elim
 |some _=>cases u with
  |none=>exact(show False from r).elim
  |some _=>rfl
def KV.val{kvs:List (κ×V)}{vs:List (κ×UJ)}(r:KV kvs vs)(k:κ):ua (jN kvs k) (valueAt vs k):=by
 unfold KV at r
 induction r with
 |nil=>exact True.intro
 |@cons p q ps qs h t ih=>
  obtain⟨h1,h2⟩:=h;by_cases e:p.1=k
  ·have e':q.1=k:=h1.symm.trans e;have b:valueAt (q::qs) k=some q.2:=(by simp[valueAt,Rp,e']);rw[kQ e,b];exact h2
  ·have e':¬q.1=k:=λz=>e (h1.trans z);have b:valueAt (q::qs) k=valueAt qs k:=(by simp[valueAt,Rp,e']);rw[jI e,b];exact ih
def KV.any{kvs:List (κ×V)}{vs:List (κ×UJ)}(r:KV kvs vs)(k:κ):(kvs.any λkv=>decide (kv.1=k))=vs.any λkv=>decide (kv.1=k):=by
 unfold KV at r
 induction r with
 |nil=>rfl
 |cons h t ih=>rw[Rq,Rq,ih,h.1]
def KV.repl{kvs:List (κ×V)}{vs:List (κ×UJ)}(r:KV kvs vs)(k:κ){y:V}{u:UJ}(ry:RelV y u):
  KV (kvs.map λkv=>if kv.1=k then(kv.1,y)else kv) (vs.map λkv=>if kv.1=k then(kv.1,u)else kv):=by
 unfold KV at r ⊢
 induction r with
 |nil=>exact .nil
 |@cons p q ps qs h t ih=>
  rw[Q0,Q0];refine .cons ?_ ih;obtain⟨h1,h2⟩:=h;by_cases e:p.1=k
  ·rw[if_pos e,if_pos (h1.symm.trans e)];exact⟨h1,ry⟩
  ·rw[if_neg e,if_neg (λz=>e (h1.trans z))];exact⟨h1,h2⟩
def KV.put{kvs:List (κ×V)}{vs:List (κ×UJ)}(r:KV kvs vs)(k:κ){y:V}{u:UJ}(ry:RelV y u):KV (putK kvs k y) (stored vs k u):=by
 unfold putK stored;rw[r.any k];by_cases e:(vs.any λkv=>decide (kv.1=k))=true
 ·rw[if_pos e,if_pos e];exact r.repl k ry
 ·rw[if_neg e,if_neg e];exact Paired.snoc r ⟨rfl,ry⟩
def KV.keys{kvs:List (κ×V)}{vs:List (κ×UJ)}(r:KV kvs vs):kvs.map (·.1)=vs.map (·.1):=by
 unfold KV at r
 induction r with
 |nil=>rfl
 |cons h t ih=>rw[Q0,Q0,ih,h.1]
def KV.length{kvs:List (κ×V)}{vs:List (κ×UJ)}(r:KV kvs vs):kvs.length=vs.length:=Paired.length r
end
def Ct{P:UL}{w:UK}{k:Key}{u:UJ}(r:RelV (kV k) u):(bY P w).is k u=true:=by
 cases k with
 |inl i=>obtain⟨t,e⟩:=(show∃t,u=Value.int i t from r);subst e;exact yf P w i t
 |inr x=>obtain⟨t,e⟩:=(show∃t,u=Value.str x t from r);subst e;exact zM P w x t
def wQ{P:UL}{w:UK}:∀{ks:List Key}{us:List UJ},Vals (ks.map kV) us->ItemsAre (bY P w) ks us
 |[],_,r=>by rw[Ro]at r;cases r;exact .nil
 |k::ks,_,r=>by
  rw[Q0]at r;cases r with
  |cons h t=>exact .cons (Ct h) (wQ t)
abbrev KT(H:Hp):List (List Key×V)->List (List Key×UM×UJ)->Prop:=UN λp q=>p.1=q.1/\H q.2.1=some (.tup (p.1.map kV))/\RelV p.2 q.2.2
def KT.val{H:Hp}{kvs:List (List Key×V)}{xs:List (List Key×UM×UJ)}(r:KT H kvs xs)(k:List Key):ua (jN kvs k) ((atKey xs k).map (·.2)):=by
 induction r with
 |nil=>exact True.intro
 |@cons p q ps qs h t ih=>
  obtain⟨h1,_,h2⟩:=h;by_cases e:p.1=k
  ·have e':q.1=k:=h1.symm.trans e;have b:atKey (q::qs) k=some q.2:=(by simp[atKey,Rp,e']);rw[kQ e,b];exact h2
  ·have e':¬q.1=k:=λz=>e (h1.trans z);have b:atKey (q::qs) k=atKey qs k:=(by simp[atKey,Rp,e']);rw[jI e,b];exact ih
def KT.repl{H:Hp}{kvs:List (List Key×V)}{xs:List (List Key×UM×UJ)}(r:KT H kvs xs)(k:List Key){y:V}{u:UJ}(ry:RelV y u):
  KT H (kvs.map λkv=>if kv.1=k then(kv.1,y)else kv) (xs.map (putAt k u)):=by
 induction r with
 |nil=>exact .nil
 |@cons p q ps qs h t ih=>
  rw[Q0,Q0];refine .cons ?_ ih;obtain⟨h1,h2,h3⟩:=h;unfold putAt;by_cases e:p.1=k
  ·rw[if_pos e,if_pos (h1.symm.trans e)];exact⟨h1,h2,ry⟩
  ·rw[if_neg e,if_neg (λz=>e (h1.trans z))];exact⟨h1,h2,h3⟩
def KT.put{H:Hp}{kvs:List (List Key×V)}{xs:List (List Key×UM×UJ)}(r:KT H kvs xs)(k:List Key){b:UM}{y:V}{u:UJ}(hb:H b=some (.tup (k.map kV)))(ry:RelV y u):
  KT H (putK kvs k y) (storedH xs k b u):=by
 have e:(kvs.any λkv=>decide (kv.1=k))=(atKey xs k).isSome:=by
  rw[tS,(r.val k).isSome_eq,Rt]
 unfold putK storedH;rw[e];by_cases q:(atKey xs k).isSome=true
 ·rw[if_pos q,if_pos q];exact r.repl k ry
 ·rw[if_neg q,if_neg q];exact Paired.snoc r ⟨rfl,hb,ry⟩
def KT.keeps{H H':Hp}{kvs:List (List Key×V)}{xs:List (List Key×UM×UJ)}(r:KT H kvs xs)(ht:∀b ys,H b=some (.tup ys)->H' b=some (.tup ys)):KT H' kvs xs:=
 Paired.mapP r λ_ _ z=>⟨z.1,ht _ _ z.2.1,z.2.2⟩
section
variable{P:UL}{w:UK}{H:Hp}{h:UO}{a:UM}
def JH{u:HO}(ok:qq P w H h)(e:Rd H a u):cH P w H h a u:=e.ok ok
def BC{kvs:List (Key×V)}(ok:qq P w H h)(e:Rd H a (.dK kvs)):kvs.length<=UP/\(a==sysModules)=false/\∃vs,KV kvs vs/\h.DictOf (bY P w) a vs:=
 show cH P w H h a (.dK kvs)from JH ok e
def JA{kvs:List (Key×V)}(ok:qq P w H h)(e:H a=some (.dK kvs)):kvs.length<=UP/\(a==sysModules)=false/\∃vs,KV kvs vs/\h.DictOf (bY P w) a vs:=BC ok (.inl e)
def o6{ks:List Key}(ok:qq P w H h)(e:H a=some (.tup (ks.map kV))):(tupleKind (bY P w)).is h ks a:=by
 obtain⟨_,its,r,o,h1,h2,n,h3⟩:=(show cH P w H h a (.tup (ks.map kV))from ok a _ e)
 exact⟨o,its.toArray,n,h1,h2,h3,by simpa using wQ r⟩
def zv{kvs:List (List Key×V)}(ok:qq P w H h)(e:Rd H a (.dT kvs)):kvs.length<=UP/\(a==sysModules)=false/\
  ∃xs,KT H kvs xs/\h.DictOfH (tupleKind (bY P w)) a xs:=by
 obtain⟨z,y,xs,r,o,es,ep,h1,h2,h3,h4,h5⟩:=(show cH P w H h a (.dT kvs)from JH ok e)
 refine⟨z,y,xs,r,o,es,ep,h1,h2,h3,h4,λx hx=>?_,h5⟩;have all:∀{l:List (List Key×V)}{m:List (List Key×UM×UJ)},KT H l m->∀x∈m,(tupleKind (bY P w)).is h x.1 x.2.1:=by
  intro l m q
  induction q with
  |nil=>intro x hx;exact nomatch hx
  |@cons p q ps qs hq t ih=>
   intro x hx;rcases List.mem_cons.mp hx with e|hx
   ·subst e;exact o6 ok (by rw[<-hq.1];exact hq.2.1)
   ·exact ih x hx
 exact all r x hx
def JM{kvs:List (List Key×V)}(ok:qq P w H h)(e:H a=some (.dT kvs)):kvs.length<=UP/\(a==sysModules)=false/\
  ∃xs,KT H kvs xs/\h.DictOfH (tupleKind (bY P w)) a xs:=zv ok (.inl e)
end
def GQ(H:Hp)(a:UM)(y:V)(r:Option V):Prop:=
 (∃kvs k,Rd H a (.dK kvs)/\y=kV k/\r=jN kvs k)\/∃kvs k b,Rd H a (.dT kvs)/\y=.ref b/\H b=some (.tup (k.map kV))/\r=jN kvs k
def JT(H:Hp)(a:UM)(y v:V)(H':Hp):Prop:=
 (∃kvs k,H a=some (.dK kvs)/\y=kV k/\kvs.length<UP/\H'=upd H a (.dK (putK kvs k v))) \/
 ∃kvs k b,H a=some (.dT kvs)/\y=.ref b/\H b=some (.tup (k.map kV))/\kvs.length<UP/\H'=upd H a (.dT (putK kvs k v))
def GQ.t{H:Hp}{a b:UM}{kvs:List (List Key×V)}{k:List Key}(e:H a=some (.dT kvs))(eb:H b=some (.tup (k.map kV))):GQ H a (.ref b) (jN kvs k):=.inr ⟨kvs,k,b,.inl e,rfl,eb,rfl⟩
def JT.k{H:Hp}{a:UM}{kvs:List (Key×V)}{k:Key}{v:V}(e:H a=some (.dK kvs))(hl:kvs.length<UP):JT H a (kV k) v (upd H a (.dK (putK kvs k v))):=.inl ⟨kvs,k,e,rfl,hl,rfl⟩
def JT.t{H:Hp}{a b:UM}{kvs:List (List Key×V)}{k:List Key}{v:V}(e:H a=some (.dT kvs))(eb:H b=some (.tup (k.map kV)))(hl:kvs.length<UP):
  JT H a (.ref b) v (upd H a (.dT (putK kvs k v))):=.inr ⟨kvs,k,b,e,rfl,eb,hl,rfl⟩
section
variable{X:Cx}{pins:List (UM×Obj)}{σ:St}{H:Hp}{s:UW}{a:UM}{y v:V}{u r:UJ}{o:Option V}{A:UV}{E:UJ->UW->Prop}
def Inv.big(I:Inv X pins σ H s):sysModules<s.heap.objs.size:=by
 have h:UR<s.heap.objs.size:=(I.mod.glob.keeps I.bk).lt;exact Ru (by decide) h
def DN{Q:UJ->UW->Prop}(hu:A.units+1<Vo)(I:Inv X pins σ H s)(g:GQ H a y (some v))(ry:RelV y u)(h:∀w' s',Inv X pins σ H s'->RelV v w'->Q w' s'):
  UY (model X.prog X.w) A (getItem (.ref a) u) Q E s:=by
 rcases g with⟨kvs,k,e,ey,l⟩|⟨kvs,k,b,e,ey,eb,l⟩
 ·subst ey;obtain⟨z,hd,vs,rel,dd⟩:=BC I.hok e;obtain⟨w',hw,rw'⟩:=ua.some_of (v:=v) (o:=valueAt vs k) (by rw[l];exact rel.val k);exact wpAny_getItem_of (Ct ry) dd.mapOf hw (h w' _ (I.tok _) rw')
 ·subst ey;cases(show u=Value.ref b from ry);obtain⟨z,hd,xs,rel,dd⟩:=zv I.hok e;obtain⟨w',hw,rw'⟩:=ua.some_of (v:=v) (o:=(atKey xs k).map (·.2)) (by rw[l];exact rel.val k);obtain⟨p,hp,hp2⟩:=Option.map_eq_some_iff.mp hw;refine wpAny_getItem_heap (VL hu) (o6 I.hok eb) dd hp ?_;rw[hp2];exact h w' _ (I.tok _) rw'
def BF{Q:UJ->UW->Prop}(hu:A.units+1<Vo)(I:Inv X pins σ H s)(g:GQ H a y o)(ry:RelV y u)(h:∀s',Inv X pins σ H s'->Q (.bool (!o.isSome)) s'):
  UY (model X.prog X.w) A (Ve .NotIn u (.ref a)) Q E s:=by
 rcases g with⟨kvs,k,e,ey,l⟩|⟨kvs,k,b,e,ey,eb,l⟩
 ·subst ey;obtain⟨z,hd,vs,rel,dd⟩:=BC I.hok e;refine wpAny_notIn_of (Ct ry) hd dd.mapOf ?_;rw[<-(rel.val k).isSome_eq,<-l];exact h _ (I.tok _)
 ·subst ey;cases(show u=Value.ref b from ry);obtain⟨z,hd,xs,rel,dd⟩:=zv I.hok e;refine wpAny_notIn_heap (VL hu) (o6 I.hok eb) hd dd ?_;have q:=(rel.val k).isSome_eq;rw[Rt]at q;rw[<-q,<-l];exact h _ (I.tok _)
def oo{h':UO}{t':Nat}{ob:HO}(I:Inv X pins σ H s)(mu:Ng (H a))(hs:Ud a s.heap h')(he:∃q,h'.get? a=some q)(new:cH X.prog X.w (upd H a ob) h' a ob):
  Inv X pins σ (upd H a ob) {s with heap:=h',toks:=t'}:=
 I.write (x:=a) (e:=a) mu (.inl rfl) (λb q hb z=>(hs.2 b hb).trans z) he new
def K1{P:UL}{w:UK}{H':Hp}{h':UO}{kvs:List (Key×V)}{vs:List (Key×UJ)}(z:kvs.length<=UP)(hd:(a==sysModules)=false)(rel:KV kvs vs)(dd:h'.DictOf (bY P w) a vs):
  cH P w H' h' a (.dK kvs):=⟨z,hd,vs,rel,dd⟩
def oA{H':Hp}{Q:Unit->UW->Prop}(hu:A.units+1<Vo)(I:Inv X pins σ H s)(g:JT H a y v H')(ry:RelV y u)(rv:RelV v r)(h:∀s',Inv X pins σ H' s'->Q () s'):
  UY (model X.prog X.w) A (setItem (.ref a) u r) Q E s:=by
 rcases g with⟨kvs,k,e,ey,l,eH⟩|⟨kvs,k,b,e,ey,eb,l,eH⟩
 ·subst ey eH;obtain⟨z,hd,vs,rel,dd⟩:=JA I.hok e;have hz:vs.length<=UP:=by rw[<-rel.length];exact z
  have hl:(putK kvs k v).length<=UP:=by have:=kr kvs k v;omega
  refine wpAny_setItem_pairs (hsz:=hz) (Ct ry) dd λh' dd' hs=>h _ ?_;have he:∃q,h'.get? a=some q:=let ⟨q,_,_,hq,_⟩:=dd';⟨q,hq⟩
  exact oo I (by rw[e];exact True.intro) hs he (K1 hl hd (rel.put k rv) dd')
 ·subst ey eH;cases(show u=Value.ref b from ry);obtain⟨z,hd,xs,rel,dd⟩:=JM I.hok e;have hz:xs.length<=UP:=by rw[<-Paired.length rel];exact z
  have hl:(putK kvs k v).length<=UP:=by have:=kr kvs k v;omega
  refine wpAny_setItem_heap (hsz:=hz) (VL hu) (o6 I.hok eb) dd λh' dd' hs=>h _ ?_;obtain⟨q,es,ep,hq,h2,h3,h4,_,h5⟩:=dd';refine oo I (by rw[e];exact True.intro) hs ⟨q,hq⟩ ⟨hl,hd,_,(rel.put k eb rv).keeps λc ys ec=>?_,q,es,ep,hq,h2,h3,h4,h5⟩;rw[aD (E6 ec e (λz=>nomatch z))];exact ec
end
def HB(i:UZ):Prop:=∀ov iv,subscripted i false ov iv=operate [ov,iv] (getItem ov iv)
def HW{prog:UL}{w:UK}{A:UV}{E:UJ->UW->Prop}{s:UW}{env:Env}{value slice:UZ}{pos:Pos}{T id:String}{Q:UJ->UW->Prop}
  (hl:typeLookup (.type T) "__getitem__"=pure (some (.builtin id))) (hs:HB slice)
  (h:UY (model prog w) A (eval value env) (λo s₁=>UY (model prog w) A (eval slice env) (λi s₂=>s₂.TypeIs o T/\UY (model prog w) A (getItem o i) Q E s₂) E s₁) E s):
  UY (model prog w) A (eval (.Subscript value slice pos) env) Q E s:=by
 refine VJ (U2 h (λo s₁ h₁=>U2 h₁ (λi s₂ h₂=>?_) λ_ _ x=>x) λ_ _ x=>x);obtain⟨hT,h₂⟩:=h₂;unfold subscriptTail;refine U7 ?_;rw[getitemInPython_of_ne hT.not_modules];refine U7 (wpAny_specialOf hT hl ?_);have fin:UY (model prog w) A (subscripted slice false o i) (λr s₃=>UY (model prog w) A (letTemporaryGo value o r >>= λ_=>pure r) Q E s₃) E s₂:=by
  rw[hs o i];exact wpAny_operating (U2 h₂ (λr s₃ h₃=>U7 (wpAny_letTemporaryGo (U6 h₃))) λ_ _ x=>x)
 first
  |exact U6 (U7 fin)
  |exact U7 (U6 (U7 fin))
  |exact U7 fin
def yA{X:Cx}{pins:List (UM×Obj)}{σ:St}{H:Hp}{s:UW}{a:UM}{y:V}{o:Option V}(I:Inv X pins σ H s)(g:GQ H a y o):s.TypeIs (.ref a) "dict":=by
 rcases g with⟨kvs,k,e,_,_⟩|⟨kvs,k,b,e,_,_,_⟩
 ·obtain⟨_,_,vs,_,dd⟩:=BC I.hok e;exact dd.typeIs
 ·obtain⟨_,_,xs,_,dd⟩:=zv I.hok e;exact dd.typeIs
def L1(td ty:TE):TE:=λσ H Q=>td σ H λx H1=>ty σ H1 λy H2=>∃a v,x=.ref a/\GQ H2 a y (some v)/\Q v H2
section
variable{X:Cx}{o i e value:UZ}{pos pos' tpos:Pos}{td ty tv:TE}
def Ik(hu:X.A.units+1<Vo)(ho:PE X o td)(hi:PE X i ty)(hs:HB i):PE X (.Subscript o i pos) (L1 td ty):=by
 intro pins s σ H Q I h;refine HW PySem.F.slot_dict_getitem.lookup hs (dM (ho pins s σ H _ I h) λu s1 ⟨x,H1,I1,rx,q1⟩=>dM (hi pins s1 σ H1 _ I1 q1) λiv s2 ⟨y,H2,I2,ry,a,v,ex,g,q2⟩=>?_);subst ex;obtain rfl:u=Value.ref a:=rx;exact⟨yA I2 g,DN hu I2 g ry λw' s3 I3 rw'=>⟨v,H2,I3,rw',q2⟩⟩
end
def EG{P:UL}{w:UK}{H:Hp}(h:UO)(hb:sysModules<h.objs.size):cH P w H (h.push {cls:=.type "dict",data:=.dict #[]}) h.objs.size (.dT []):=
 ⟨Q3 _,beq_eq_false_iff_ne.mpr (Ne.symm (QJ hb)),[],.nil,_,#[],0,Ug _ rfl,⟨rfl,rfl,rfl⟩,rfl,rfl,Rv⟩
def Lf:TE:=λ_ H Q=>∀p,H p=none->Q (.ref p) (upd H p (.dT []))
section
variable{X:Cx}{pos:Pos}
def FU:PE X (.Dict [] [] pos) Lf:=λpins s σ H Q I h=>
 wpAny_Dict_empty ⟨.ref s.heap.objs.size,_,I.laid (a:=s.heap.objs.size) (o:=.dT []) (t':=s.toks) (λ_ _ q=>Ue _ q) (QT _) (EG s.heap I.big),rfl,h _ (I.hok.fresh (QT _))⟩
end
def dW(cells:List (Str×UM)):List (Str×Vw)->List (Str×UM)->List (Str×UM)
 |[],acc=>acc
 |(n,k)::r,acc=>if k=.free then(match cells.lookup n with|some c=>dW cells r ((n,c)::acc)|none=>dW cells r acc)else dW cells r acc
def oG{cells:List (Str×UM)}:∀(names:List (Str×Vw))(acc:List (Str×UM)),(∀x c,acc.lookup x=some c->cells.lookup x=some c)->
  ∀x c,(dW cells names acc).lookup x=some c->cells.lookup x=some c
 |[],acc,h=>h
 |(n,k)::r,acc,h=>by
  unfold dW;by_cases hk:k=.free
  ·rw[if_pos hk];cases e:cells.lookup n with
   |none=>exact oG r acc h
   |some c0=>
    refine oG r _ λx c q=>?_;rw[Rw]at q;cases hx:x==n with
    |true=>
     rw[hx]at q;have e1:x=n:=(by simpa using hx);cases q;rw[e1];exact e
    |false=>rw[hx]at q;exact h x c q
  ·rw[if_neg hk];exact oG r acc h
def md{cells:List (Str×UM)}:∀(names:List (Str×Vw))(acc:List (Str×UM))(x:Str),(acc.lookup x).isSome=true->((dW cells names acc).lookup x).isSome=true
 |[],acc,x,h=>h
 |(n,k)::r,acc,x,h=>by
  unfold dW;by_cases hk:k=.free
  ·rw[if_pos hk];cases e:cells.lookup n with
   |none=>exact md r acc x h
   |some c0=>
    refine md r _ x ?_;rw[Rw];cases hx:x==n with
    |true=>rfl
    |false=>exact h
  ·rw[if_neg hk];exact md r acc x h
def lw{cells:List (Str×UM)}:∀(names:List (Str×Vw))(acc:List (Str×UM))(x:Str),(x,NameKind.free)∈names->(∃c,cells.lookup x=some c)->((dW cells names acc).lookup x).isSome=true
 |[],acc,x,h,_=>absurd h (by simp)
 |(n,k)::r,acc,x,h,hc=>by
  unfold dW;rcases List.mem_cons.mp h with e|h
  ·cases e;rw[if_pos rfl];obtain⟨c,e⟩:=hc;rw[e];refine md r _ _ ?_;rw[Rw];simp
  ·by_cases hk:k=.free
   ·rw[if_pos hk];cases e:cells.lookup n with
    |none=>exact lw r acc x h hc
    |some c0=>exact lw r _ x h hc
   ·rw[if_neg hk];exact lw r acc x h hc
def pX{scope:UX}{env:Env}(h:∀p∈scope.names,p.2=.free->∃c,env.cells.lookup p.1=some c):closureFor scope env=pure (dW env.cells scope.names []):=by
 have go:∀(names:List (Str×Vw))(acc:List (Str×UM)),(∀p∈names,p.2=.free->∃c,env.cells.lookup p.1=some c)->
   (forIn names acc λx cs=>(match x with|(name,kind)=>if(kind==NameKind.free)=true then do let a<-cellOf env name;pure (ForInStep.yield ((name,a)::cs))else pure (ForInStep.yield cs):Sem (ForInStep (List (Str×UM)))))=pure (dW env.cells names acc):=by
  intro names
  induction names with
  |nil=>intro acc _;rfl
  |cons p r ih=>
   intro acc hp;obtain⟨n,k⟩:=p;rw[Rx];by_cases hk:k=.free
   ·obtain⟨c,e⟩:=hp (n,k) QN hk;subst hk;have e2:cellOf env n=pure c:=(by unfold cellOf;rw[e]);simp only[beq_self_eq_true,if_true,e2,pure_bind];rw[ih _ λq hq=>hp q (QO _ hq)]
    conv=>rhs;rw[dW]
    simp[e]
   ·have hb:(k==NameKind.free)=false:=(by simpa using hk);simp only[hb,Ry,if_false,pure_bind];rw[ih _ λq hq=>hp q (QO _ hq)]
    conv=>rhs;rw[dW,if_neg hk]
 have:=go scope.names [] h
 unfold closureFor;simp only[];rw[this];rfl
def cO(X:Cx)(scope:UX)(N:List Str)(cl:List (Str×UM))(C:UM)(fp:List UM)(s:UW)(H:Hp)(E:UJ->UW->Prop):Cx where
 prog:=X.prog
 w:=X.w
 K:=X.K
 mg:=X.mg
 base:=X.base
 A:=X.A
 N:=N
 s₀:=s
 H₀:=H
 env:=compEnvC scope cl C X.env
 outer:=X.stack
 stack:=X.stack
 ex:=fp
 fn:=λ_=>false
 calm:=X.calm
 pn:=[]
 xe:=E
def xP(XN N:List Str)(names:List (Str×Vw))(ix:List (Option Nat)):Bool:=
 decide (ix.length=N.length)&&(N.zip ix).all λp=>match p.2 with
  |some i=>decide (XN[i]?=some p.1)&&decide (names.lookup p.1=some .free)
  |none=>true
def inBlock(ix:List (Option Nat))(σ:St):St:=ix.map λo=>match o with
 |some i=>(σ[i]?).getD none
 |none=>none
def xP.len{XN N:List Str}{names:List (Str×Vw)}{ix:List (Option Nat)}(h:xP XN N names ix=true):ix.length=N.length:=by
 unfold xP at h;rw[Rj]at h;exact of_decide_eq_true h.1
def xP.at_{XN N:List Str}{names:List (Str×Vw)}{ix:List (Option Nat)}(h:xP XN N names ix=true){j i:Nat}{x:Str}(h1:N[j]?=some x)(h2:ix[j]?=some (some i)):XN[i]?=some x/\names.lookup x=some .free:=by
 unfold xP at h;rw[Rj]at h;have hm:(x,some i)∈N.zip ix:=by
  have e:(N.zip ix)[j]?=some (x,some i):=by rw[List.getElem?_zip_eq_some];exact⟨h1,h2⟩
  exact Rf e
 have q:=List.all_eq_true.mp h.2 _ hm;simp only[Rj]at q;exact⟨of_decide_eq_true q.1,of_decide_eq_true q.2⟩
def nz{env:Env}:∀{names:List (Str×Vw)}{x:Str}{k:Vw},
  (names.map λ(n,k)=>if(k==NameKind.free&&env.scope.kind==.function&&env.kindOf n==some .cell)then(n,NameKind.cell)else(n,k)).lookup x=some k->
  names.lookup x=some k\/(names.lookup x=some .free/\k=.cell)
 |[],_,_,h=>by simp at h
 |(n,k0)::r,x,k,h=>by
  have ih:=@nz env r x k
  replace h:List.lookup x ((if(k0==NameKind.free&&env.scope.kind==.function&&env.kindOf n==some .cell)=true then(n,NameKind.cell)else(n,k0))::(r.map λ(n,k)=>if(k==NameKind.free&&env.scope.kind==.function&&env.kindOf n==some .cell)then(n,NameKind.cell)else(n,k)))=some k:=h
  by_cases hc:(k0==NameKind.free&&env.scope.kind==.function&&env.kindOf n==some .cell)=true
  ·rw[if_pos hc]at h;have hk0:k0=.free:=by
    simp only[Rj]at hc
    simpa using hc.1.1
   cases hx:x==n with
   |true=>
    simp only[Rw,hx]at h;simp only[Rw,hx];cases h;exact .inr ⟨by rw[hk0],rfl⟩
   |false=>
    simp only[Rw,hx]at h ⊢;exact ih h
  ·rw[if_neg hc]at h;cases hx:x==n with
   |true=>
    simp only[Rw,hx]at h ⊢;exact .inl h
   |false=>
    simp only[Rw,hx]at h ⊢;exact ih h
def JY(X:Cx)(ifs:List UZ)(t:TT):Prop:=
 ∀(pins:List (UM×Obj))(s:UW)(σ:St)(H:Hp)(Q:Bool->Hp->Prop),Inv X pins σ H s->t σ H Q->
  UY (model X.prog X.w) X.A (forIn ifs true λc r=>if r=true then do let ok<-isTrue c X.env (eval c X.env);pure (ForInStep.yield ok)else pure (ForInStep.yield r)) (TP X pins σ Q) X.xe s
def Mi:TT:=λ_ H Q=>Q true H
def Io{X:Cx}:JY X [] Mi:=λ_ _ _ H _ I h=>wpAny_tests_nil ⟨H,I,h⟩
def Hy{X:Cx}{c:UZ}{t:TT}(h:PT X c t):JY X [c] t:=λpins s σ H Q I q=>wpAny_tests_one (h pins s σ H Q I q)
def nu{prog:UL}{w:UK}{A:UV}{R:Vi->UW->Prop}{s:UW}{elt target iter:UZ}{ifs:List UZ}{scope:UX}{pos:Pos}{it acc:UJ}{env:Env}(I:Nat->UW->Prop)
  (turn:∀ n s,I n s->UY (model prog w) A (pyNext it) (fun r s₁=>match r with
   |none=>R (.ok .next) s₁
   |some v=>UY (model prog w) A (letOwnedTupleGo target it v) (λ_ s₁'=>UY (model prog w) A (assign target env v) (λ_ s₂=>
     UY (model prog w) A (forIn ifs true λc r=>if r=true then do let ok<-isTrue c env (eval c env);pure (ForInStep.yield ok)else pure (ForInStep.yield r)) (λok s₃=>
      if ok=true then UY (model prog w) A (eval elt env) (λx s₄=>
       UY (model prog w) A (call (.builtin "list.append") [acc,x]) (λ_ s₅=>∃m,m<n/\I m s₅) (notedBy (model prog w) A env λe s'=>R (.error e) s') s₄) (notedBy (model prog w) A env λe s'=>R (.error e) s') s₃
      else∃m,m<n/\I m s₃) (notedBy (model prog w) A env λe s'=>R (.error e) s') s₂) (notedBy (model prog w) A env λe s'=>R (.error e) s') s₁') (notedBy (model prog w) A env λe s'=>R (.error e) s') s₁) (notedBy (model prog w) A env λe s'=>R (.error e) s') s)
  (n:Nat) (h:I n s):
  Vj (model prog w) A (.compLoop (.ListComp elt [⟨target,iter,ifs,0⟩] scope pos) 0 it acc env) R s:=by
 refine codeAny_loop rfl I (λn s hI=>?_) n h;show UY _ A ((compTurn (.ListComp elt [⟨target,iter,ifs,0⟩] scope pos) 0 it acc env).onRaise (λx=>do noteFrame x env;theTreesLotGoes x)) _ _ s;refine wpAny_noted ?_;rw[compTurn_list];refine U7 (Vv (U7 (U2 (turn n s hI) (λr s₁ h₁=>?_) λ_ _ h'=>h')));cases r with
 |none=>exact U6 h₁
 |some v=>
  refine U7 (U2 h₁ (λ_ s₁' h₁'=>?_) λ_ _ h'=>h');refine U7 (U2 h₁' (λ_ s₂ h₂=>U7 (U2 h₂ (λok s₃ h₃=>?_) λ_ _ h'=>h')) λ_ _ h'=>h');cases ok with
  |false=>exact U6 ⟨rfl,h₃⟩
  |true=>
   exact U7 (U7 (U2 h₃ (λx s₄ h₄=>U7 (U2 h₄ (λ_ s₅ h₅=>U6 (U6 ⟨rfl,h₅⟩)) λ_ _ h'=>h')) λ_ _ h'=>h'))
def NU(wi:TI)(g:TG)(tc:TT)(te:TE)(ix:List (Option Nat)):TE:=λσ H Q=>
 wi σ H λJ H1=>∀D,H1 D=none->∃W:Nat->Nat->St->Hp->Prop,(∃m,W 0 m (inBlock ix σ) (upd H1 D (.lst [])))/\
  ∀i m σ' H',W i m σ' H'->(J.stop i H'/\Q (.ref D) H') \/
   (J.go i H'/\∀ x H2,J.yld i H' x H2->g x σ' H2 fun σ3 H3=>tc σ3 H3 fun b H4 =>
    if b=true then te σ3 H4 λv H5=>∃acc,H5 D=some (.lst acc)/\acc.length<UP/\∃m',m'<m/\W (i+1) m' σ3 (upd H5 D (.lst (acc++[v])))
    else∃m',m'<m/\W (i+1) m' σ3 H4)
section
variable{X:Cx}{elt tg iter:UZ}{ifs:List UZ}{scope:UX}{pos:Pos}{N:List Str}{ix:List (Option Nat)}{wi:TI}{g:TG}{tc:TT}{te:TE}
def tZ{pins:List (UM×Obj)}{σ:St}{s2:UW}{H2:Hp}{it:UM}{fp:List UM}{tn:Nat->UO->Prop}{J:It}{Q:V->Hp->Prop}{E:UJ->UW->Prop}{RR:UJ->UM->Vi->UW->Prop}
    (hc:X.calm=true) (hcell:∀y∈scope.names,y.2≠.cell) (hkind:scope.kind=.function)
    (hfr:∀y∈scope.names,y.2=.free->X.env.scope.names.lookup y.1=some .cell\/X.env.scope.names.lookup y.1=some .free)
    (hix:xP X.N N scope.names ix=true)
    (hb:∀cl C fp s H E,PG (cO X scope N cl C fp s H E) tg g/\JY (cO X scope N cl C fp s H E) ifs tc/\PE (cO X scope N cl C fp s H E) elt te)
    (I2:Inv X pins σ H2 s2) (T:Turn X.prog X.w X.K tg J fp it tn) (st2:tn 0 s2.heap) (f2:∀b∈fp,vc X pins H2 b)
    (q:∀ D,H2 D=none->∃ W:Nat->Nat->St->Hp->Prop,(∃ m,W 0 m (inBlock ix σ) (upd H2 D (.lst []))) /\
      ∀i m σ' H',W i m σ' H'->(J.stop i H'/\Q (.ref D) H') \/
        (J.go i H'/\∀ x H3,J.yld i H' x H3->g x σ' H3 fun σ3 H3=>tc σ3 H3 fun b H4 =>
          if b=true then te σ3 H4 λv H5=>∃acc,H5 D=some (.lst acc)/\acc.length<UP/\∃m',m'<m/\W (i+1) m' σ3 (upd H5 D (.lst (acc++[v])))
          else∃m',m'<m/\W (i+1) m' σ3 H4))
    (hRR:∀D C H' s' m,H2 D=none->s2.heap.objs.size<=C->H' C=none->s'.heap.Ns C m->(∀h',Ud C s'.heap h'->Inv X pins σ H' {s' with heap:=h'})->Q (.ref D) H'->RR (.ref D) C (.ok .next) s'):
    UY (model X.prog X.w) X.A (newList []) (λacc s₃=>UY (model X.prog X.w) X.A (newFunctionEnv scope X.env.globals (dW X.env.cells scope.names []) [] X.env.qual none .none (some X.env)) (λcenv s₄=>
      Vj (model X.prog X.w) X.A (.compStart (.ListComp elt [⟨tg,iter,ifs,0⟩] scope pos) 0 (.ref it) acc {cenv with scope:=relabel scope X.env}) (RR acc cenv.locals) s₄) E s₃) E s2:=by
  refine VH (wpAny_newFunctionEnv hcell (by intro y hy;simp at hy) (λh₁ hns₁ hsb₁=>?_) hkind);dsimp only at hns₁ hsb₁ ⊢;have I3:Inv X pins σ (upd H2 s2.heap.objs.size (.lst [])) {s2 with heap:=s2.heap.push {cls:=.type "list",dict:=none,data:=.seq ([]:List UJ).toArray},toks:=s2.toks}:=I2.lnew (its:=[]) (t':=s2.toks) .nil (Q3 _);generalize hs3:({s2 with heap:=s2.heap.push {cls:=.type "list",dict:=none,data:=.seq ([]:List UJ).toArray},toks:=s2.toks}:UW)=s3 at I3;have eh3:s2.heap.push {cls:=.type "list",dict:=none,data:=.seq ([]:List UJ).toArray}=s3.heap:=by rw[<-hs3]
  rw[eh3]at hns₁ hsb₁ ⊢;have hC3:s3.heap.objs.size=s2.heap.objs.size+1:=by rw[<-eh3,Uh]
  have hD:H2 s2.heap.objs.size=none:=I2.fresh;obtain⟨W,⟨m0,w0⟩,turn⟩:=q s2.heap.objs.size hD;generalize hH3:upd H2 s2.heap.objs.size (.lst [])=H3 at I3 w0;have old:∀b o,s3.heap.get? b=some o->h₁.get? b=some o:=λb o e=>hsb₁.extBut b o (QJ (Ub e)) (Ue _ e);have fpH3:∀b∈fp,H3 b=none:=λb hb'=>by
    rw[<-hH3,aD]
    ·exact(f2 b hb').1
    · obtain⟨o,e,_⟩:=T.obj _ _ st2 b hb'
      exact QJ (Ub e)
  have fpLt:∀b∈fp,b<s3.heap.objs.size:=λb hb'=>by
    obtain⟨o,e,_⟩:=T.obj _ _ st2 b hb';rw[hC3];exact Rz (Ub e)
  have hfree:∀p∈scope.names,p.2=.free->∃c,X.env.cells.lookup p.1=some c:=λp hp hk=>I2.ok.has p.1 (hfr p hp hk);have csub:∀x c,(dW X.env.cells scope.names []).lookup x=some c->X.env.cells.lookup x=some c:=oG scope.names [] (λx c e=>by simp at e);have names':∀x k,(relabel scope X.env).names.lookup x=some k->scope.names.lookup x=some k\/(scope.names.lookup x=some .free/\k=.cell):=λx k h=>nz h;have ok:(cO X scope N (dW X.env.cells scope.names []) s3.heap.objs.size fp s3 H3 (notedBy (model X.prog X.w) X.A (compEnvC scope (dW X.env.cells scope.names []) s3.heap.objs.size X.env) λe s'=>RR (.ref s2.heap.objs.size) s3.heap.objs.size (.error e) s')).Ok:=
    { mod:=I3.ok.mod
      kind:=hkind
      glob:=I3.ok.glob
      blt:=I3.ok.blt
      above:=QT _
      inj:=λx y c h1 h2=>I3.ok.inj x y c (csub x c h1) (csub y c h2)
      has:=λx hx=>by
        have fr:scope.names.lookup x=some .free:=by
          rcases hx with hx|hx
          · rcases names' x .cell hx with h|⟨h,_⟩
            ·exact absurd rfl (hcell _ (PySem.mem_of_lookup h))
            ·exact h
          · rcases names' x .free hx with h|⟨_,h⟩
            ·exact h
            ·cases h
        have hm:=PySem.mem_of_lookup fr;exact Option.isSome_iff_exists.mp (lw scope.names [] x hm (hfree _ hm rfl))
      cab:=λx c h _=>by cases h
      hd:=I3.ok.hd
      frames:=I3.ok.frames
      stk:=.inl rfl
      exf:=λb hb'=>⟨QJ (fpLt b hb'),λx c e=>(f2 b hb').2.2.2.2.1 x c (csub x c e)⟩
      bs:=λb o e=>I3.bs b o e
      bsz:=QK I3.ok.bsz I3.sz
      noex:=λb o e hb'=>by
        obtain⟨_,_,_,h4,_⟩:=f2 b hb';rcases h4 with h4|h4
        ·exact I3.ok.noex b o e h4
        ·exact absurd (QH (Ub (I3.ok.bs b o e).1) h4) (QI _)
      exfs:=λb hb' hs=>by
        obtain⟨_,h2,h3,_⟩:=f2 b hb';rcases List.mem_cons.mp (I3.stkSub b hs)with e|e
        ·exact h2 e
        ·exact h3 e
      funs:=I3.stack
      frf:=λb hb'=>I3.stkFree b hb'}
  generalize hE:(notedBy (model X.prog X.w) X.A (compEnvC scope (dW X.env.cells scope.names []) s3.heap.objs.size X.env) λe s'=>RR (.ref s2.heap.objs.size) s3.heap.objs.size (.error e) s')=E' at ok;obtain⟨hg,htc,hel⟩:=hb (dW X.env.cells scope.names []) s3.heap.objs.size fp s3 H3 E';have Istart:∀tk,Inv (cO X scope N (dW X.env.cells scope.names []) s3.heap.objs.size fp s3 H3 E') [] (inBlock ix σ) H3 {s3 with heap:=h₁,toks:=tk}:=λtk=>by
    refine⟨ok,rfl,I3.bare,Un.kept old,⟨_,hns₁,λj x v e1 e2 _=>?_⟩,λx c e=>?_,I3.fresh,λx c e=>I3.freeC x c (csub x c e),λp hp=>absurd (show p∈([]:List (UM×Obj))from hp) (by simp),I3.hok.kept old,?_⟩
    ·
      unfold inBlock at e2;rw[Rb]at e2;cases q1:ix[j]? with
      |none=>rw[q1]at e2;simp at e2
      |some o=>
        rw[q1]at e2;cases o with
        |none=>simp at e2
        |some i=>
          obtain⟨n1,n2⟩:=xP.at_ hix e1 q1;have e2':(σ[i]?).getD none=some v:=Option.some.inj e2;have e3:σ[i]?=some (some v):=by
            cases q2:σ[i]? with
            |none=>rw[q2]at e2';simp at e2'
            |some o2=>rw[q2]at e2';simpa using e2'
          obtain⟨m,hn,hl⟩:=I3.loc;have hm:=PySem.mem_of_lookup n2;have hk:=hfr _ hm rfl;have hv:Lh X.env.scope x:=by
            rcases hk with hk|hk
            ·exact .inr (.inl hk)
            ·exact .inr (.inr hk)
          obtain⟨u,r,l⟩:=hl i x v n1 e3 hv;refine⟨u,r,.inr ?_⟩;rcases l with⟨kl,_⟩|⟨_,c,hcx,hcell'⟩
          · have kl':X.env.scope.names.lookup x=some .local:=kl
            rcases hk with hk|hk
            ·rw[kl']at hk;cases hk
            ·rw[kl']at hk;cases hk
          · obtain⟨c',hc'⟩:=Option.isSome_iff_exists.mp (lw (cells:=X.env.cells) scope.names [] x hm ⟨c,hcx⟩)
            have ec:c'=c:=Option.some.inj ((csub x c' hc').symm.trans hcx);subst ec;refine⟨?_,c',hc',?_⟩
            ·
              show(relabel scope X.env).names.lookup x=some .cell\/(relabel scope X.env).names.lookup x=some .free;have gen:∀names:List (Str×Vw),names.lookup x=some .free->((names.map λ(n,k)=>if(k==NameKind.free&&X.env.scope.kind==.function&&X.env.kindOf n==some .cell)then(n,NameKind.cell)else(n,k)).lookup x=some .cell\/(names.map λ(n,k)=>if(k==NameKind.free&&X.env.scope.kind==.function&&X.env.kindOf n==some .cell)then(n,NameKind.cell)else(n,k)).lookup x=some .free):=by
                intro names
                induction names with
                |nil=>intro h;simp at h
                |cons p r ih=>
                  obtain⟨n,k⟩:=p;intro h;show List.lookup x ((if(k==NameKind.free&&X.env.scope.kind==.function&&X.env.kindOf n==some .cell)=true then(n,NameKind.cell)else(n,k))::_)=_\/List.lookup x ((if(k==NameKind.free&&X.env.scope.kind==.function&&X.env.kindOf n==some .cell)=true then(n,NameKind.cell)else(n,k))::_)=_;cases hx:x==n with
                  |true=>
                    simp only[Rw,hx]at h;by_cases hcc:(k==NameKind.free&&X.env.scope.kind==.function&&X.env.kindOf n==some .cell)=true
                    ·rw[if_pos hcc];left;simp only[Rw,hx]
                    ·rw[if_neg hcc];right;simp only[Rw,hx];exact h
                  |false=>
                    simp only[Rw,hx]at h;by_cases hcc:(k==NameKind.free&&X.env.scope.kind==.function&&X.env.kindOf n==some .cell)=true
                    ·rw[if_pos hcc];simp only[Rw,hx];exact ih h
                    ·rw[if_neg hcc];simp only[Rw,hx];exact ih h
              exact gen scope.names n2
            ·exact hcell'.keeps old
    · obtain⟨v,z⟩:=I3.cell x c (csub x c e)
      exact⟨v,z.keeps old⟩
    · show(inBlock ix σ).length=N.length
      unfold inBlock;rw[Q1];exact xP.len hix
  have stat:∀{H':Hp},(∀b∈fp,H' b=none)->∀b∈fp,vc (cO X scope N (dW X.env.cells scope.names []) s3.heap.objs.size fp s3 H3 E') [] H' b:=λhn b hb'=>
    ⟨hn b hb',(ok.exf b hb').1,ok.exfs b hb',.inl hb',(ok.exf b hb').2,λp hp=>absurd (show p∈([]:List (UM×Obj))from hp) (by simp)⟩
  have tn1:tn 0 h₁:=T.keep _ _ _ st2 λb hb' o e=>old b o (by rw[<-eh3];exact Ue _ e);have loop:∀tk,Vj (model X.prog X.w) X.A (.compLoop (.ListComp elt [⟨tg,iter,ifs,0⟩] scope pos) 0 (.ref it) (.ref s2.heap.objs.size) (compEnvC scope (dW X.env.cells scope.names []) s3.heap.objs.size X.env))
      (RR (.ref s2.heap.objs.size) s3.heap.objs.size) {s3 with heap:=h₁,toks:=tk}:=by
    intro tk;refine nu (λn s'=>∃i σ' H',Inv (cO X scope N (dW X.env.cells scope.names []) s3.heap.objs.size fp s3 H3 E') [] σ' H' s'/\tn i s'.heap/\(∀b∈fp,H' b=none)/\W i n σ' H') ?_ m0 ⟨0,_,_,Istart tk,tn1,fpH3,w0⟩;rintro n s5 ⟨i,σ5,H5,I5,st5,fr5,w5⟩;rw[hE];rcases turn i n σ5 H5 w5 with⟨stop,qn⟩|⟨go,step⟩
    · refine dM (T.done (cO X scope N (dW X.env.cells scope.names []) s3.heap.objs.size fp s3 H3 E') rfl rfl rfl hc i [] s5 σ5 H5 _ I5 (stat fr5) st5 stop) λr s6 ⟨hr,I6⟩=>?_
      subst hr;obtain⟨m6,hn6,_⟩:=I6.loc;refine hRR s2.heap.objs.size s3.heap.objs.size H5 s6 m6 hD (by rw[hC3];exact Q5 _) I6.free hn6 (λh' sb=>?_) qn;have ne:∀b o,s3.heap.get? b=some o->b≠s3.heap.objs.size:=λb o e=>QJ (Ub e);refine I3.call' (s':={s6 with heap:=h'}) (H':=H5) (ch:=fp) I6.os ⟨λb o e n hb' hx=>?_,λb o e n hb' hx=>?_,λb o e n hx=>?_,λb o e hx=>?_,I6.base.tups,I6.base.frzs,I6.base.tbls⟩ ?_ I6.bare λb hb'=>?_
      ·exact(sb.2 b (ne b o e)).trans (I6.base.keep b o e n hb' hx)
      · obtain⟨sl,e1⟩:=I6.base.slot b o e n hb' hx
        exact⟨sl,(sb.2 b (ne b o e)).trans e1⟩
      ·exact I6.base.free b o e n hx
      · obtain⟨o',e1⟩:=I6.base.there b o e hx
        exact⟨o',(sb.2 b (ne b o e)).trans e1⟩
      · intro b ob e
        have hfreeC:H5 s3.heap.objs.size=none:=I6.free;refine(I6.hok b ob e).stay (λc v hcc q=>(sb.2 c ?_).trans q) (λ_ q=>q) λ_ _ q=>q;rintro rfl;rcases hcc with rfl|hcc
        ·rw[hfreeC]at e;cases e
        ·rw[hfreeC]at hcc;cases hcc
      · obtain⟨_,h2',_,h4',h5',h6'⟩:=f2 b hb'
        exact⟨h4',h2',h5',h6'⟩
    · refine dM (T.item (cO X scope N (dW X.env.cells scope.names []) s3.heap.objs.size fp s3 H3 E') rfl rfl rfl hc i [] s5 σ5 H5 _ I5 (stat fr5) st5 go) λr s6 ⟨u,hr,h6⟩=>?_
      subst hr;refine dM h6 λ_ s7 ⟨x,H7,I7,r7,y7,st7,fr7⟩=>?_;have I7':=I7.pinned (stat fr7) (T.obj _ _ st7);refine dM (hg _ s7 σ5 H7 x u _ I7' r7 (step x H7 y7)) λ_ s8 ⟨σ8,H8,I8,q8⟩=>?_;refine dM (htc _ s8 σ8 H8 _ I8 q8) λb s9 ⟨H9,I9,q9⟩=>?_;have again:∀{σ':St}{H':Hp}{s':UW}{m':Nat},Inv (cO X scope N (dW X.env.cells scope.names []) s3.heap.objs.size fp s3 H3 E') ([]++t9 fp s7.heap) σ' H' s'->m'<n->W (i+1) m' σ' H'->
          ∃m,m<n/\∃i σ' H',Inv (cO X scope N (dW X.env.cells scope.names []) s3.heap.objs.size fp s3 H3 E') [] σ' H' s'/\tn i s'.heap/\(∀b∈fp,H' b=none)/\W i m σ' H':=λ{σ' H' s' m'} I' hm w'=>by
        refine⟨m',hm,i+1,σ',H',I'.unpinned,T.keep _ _ _ st7 λb hb' o e=>(I'.pin (b,o) (QU _ (QU _ (lV hb' e)))).1,λb hb'=>?_,w'⟩;obtain⟨o,e,d⟩:=T.obj _ _ st7 b hb';exact(I'.pin (b,o) (QU _ (QU _ (lV hb' e)))).2.1
      cases b with
      |false=>
        rw[if_neg QY]at q9 ⊢;obtain⟨m',hm,w9⟩:=q9;exact again I9 hm w9
      |true=>
        rw[if_pos rfl]at q9 ⊢;refine dM (hel _ s9 σ8 H9 _ I9 q9) λy s10 ⟨v,H10,I10,r10,q10⟩=>?_;obtain⟨acc,ha,hz,m',hm,w10⟩:=q10;refine dM (eP _ s10 σ8 H10 (.ref s2.heap.objs.size) [v] (.ref s2.heap.objs.size) [y] (λ_ H'=>H'=upd H10 s2.heap.objs.size (.lst (acc++[v]))) I10 rfl (.cons r10 .nil) ⟨_,acc,v,rfl,rfl,ha,hz,rfl⟩) λ_ s11 ⟨_,H11,I11,_,e11⟩=>?_;subst e11;exact again I11 hm w10
  subst hs3;exact codeAny_compStart_list (loop _) (T.self _ 0 _ _ _ tn1 (loop _))
def JN(hc:X.calm=true)(hcell:∀y∈scope.names,y.2≠.cell)(hkind:scope.kind=.function)(hnames:∀y∈scope.names,y.2=.local->scope.names.lookup y.1=some .local)
  (hfr:∀y∈scope.names,y.2=.free->X.env.scope.names.lookup y.1=some .cell\/X.env.scope.names.lookup y.1=some .free)
  (hix:xP X.N N scope.names ix=true) (hi:PI X tg iter wi)
  (hb:∀cl C fp s H E,PG (cO X scope N cl C fp s H E) tg g/\JY (cO X scope N cl C fp s H E) ifs tc/\PE (cO X scope N cl C fp s H E) elt te)
  (hs:∀x,Vb iter X.env x=pure x:=by intro _;rfl):PE X (.ListComp elt [⟨tg,iter,ifs,0⟩] scope pos) (NU wi g tc te ix):=by
 intro pins s σ H Q I h;rw[eval_ListComp];refine VM (use:=none) rfl hs (pX λp hp hk=>I.ok.has p.1 (hfr p hp hk)) hkind hnames (dM (hi pins s σ H _ I h) λv s1 h1=>dM h1 λitv s2 h2=>?_);obtain⟨it,fp,tn,J,H2,e,I2,T,st2,f2,q⟩:=h2;subst e;refine tZ (Q:=Q) (RR:=λacc C=>compPost (model X.prog X.w) X.A X.xe none (EP X pins σ Q) acc C) hc hcell hkind hfr hix hb I2 T st2 f2 q ?_;intro D C H' s' m _ _ _ hn hI hq;exact⟨m,hn,λh' sb=>⟨.ref D,H',hI h' sb,rfl,hq⟩⟩
def L4{i:Nat}{y:Str}{py spos:Pos}(hN:X.N.Nodup)(hi':X.N[i]?=some y)(hx:Loc X.env.scope y)
  (hc:X.calm=true) (hcell:∀y∈scope.names,y.2≠.cell) (hkind:scope.kind=.function) (hnames:∀y∈scope.names,y.2=.local->scope.names.lookup y.1=some .local)
  (hfr:∀y∈scope.names,y.2=.free->X.env.scope.names.lookup y.1=some .cell\/X.env.scope.names.lookup y.1=some .free)
  (hix:xP X.N N scope.names ix=true) (hi:PI X tg iter wi)
  (hb:∀cl C fp s H E,PG (cO X scope N cl C fp s H E) tg g/\JY (cO X scope N cl C fp s H E) ifs tc/\PE (cO X scope N cl C fp s H E) elt te)
  (hsw:swapsWith (.ListComp elt [⟨tg,iter,ifs,0⟩] scope pos) (some (.Name y py)) spos.line X.env=pure true:=by rfl)
  (hs:∀x,Vb iter X.env x=pure x:=by intro _;rfl)
  (hf:X.fn y=true\/X.env.scope.names.lookup y=some .local:=by first|exact .inl rfl|exact .inr rfl|assumption):
  PS X (.Assign [.Name y py] (.ListComp elt [⟨tg,iter,ifs,0⟩] scope pos) spos) (Fd (NU wi g tc te ix) (vS i)):=by
 intro pins s σ H D0 I h;rw[exec_Assign_Name_used _ _ _ _ hsw];refine U7 (Vv (U7 ?_));show UY _ X.A (do let _<-comprehension (.ListComp elt [⟨tg,iter,ifs,0⟩] scope pos) scope X.env _ (newList []) false (eval iter X.env) (some (assign (.Name y py) X.env))) _ _ s;refine U7 (dM (VM (use:=some (assign (.Name y py) X.env)) (Q:=λ_ s'=>SP X pins D0 .next s') rfl hs (pX λp hp hk=>I.ok.has p.1 (hfr p hp hk)) hkind hnames
  (dM (hi pins s σ H _ I h) λv s1 h1=>dM h1 λitv s2 h2=>?_)) λ_ s' hq=>U6 (U6 hq))
 obtain⟨it,fp,tn,J,H2,e,I2,T,st2,f2,q⟩:=h2;subst e;refine tZ (Q:=λv H'=>vS i v σ H' D0.nx) (RR:=λacc C=>compPost (model X.prog X.w) X.A X.xe (some (assign (.Name y py) X.env)) (λ_ s'=>SP X pins D0 .next s') acc C) hc hcell hkind hfr hix hb I2 T st2 f2 q ?_;intro D C H' s' m _ hC hfree hn hI hq;have I':Inv X pins σ H' s':=hI s'.heap (.refl ..);have nL:C≠X.env.locals:=QS (QH I2.lt hC);have nC:∀x c,X.env.cells.lookup x=some c->c≠C:=λx c e z=>by
  obtain⟨v,q⟩:=I2.cell x c e;exact absurd (QH q.lt (by rw[z];exact hC)) (QI _)
 have nP:∀p∈X.pn++pins,p.1≠C:=λp hp z=>absurd (QH (Ub (I2.pin p hp).1) (by rw[z];exact hC)) (QI _);show UY _ X.A (assign (.Name y py) X.env (.ref D)) _ _ _;refine wpAny_assign_Name (vT I' hN hi' hx (v:=.ref D) rfl (λs'' I'' ch=>?_) hf);obtain⟨a,sb,ha⟩:=ch;have hCa:C≠a:=by
  rcases ha with ha|ha
  ·rw[ha];exact nL
  ·exact Ne.symm (nC y a ha)
 refine⟨m,hn.sameBut sb hCa,λh' sb'=>⟨_,H',?_,hq⟩⟩;exact I''.turned (t':=s''.toks) (λb o hb' e=>(sb'.2 b hb').trans e) hfree nL (.inr (QK I2.sz hC)) nC nP
end
end L2
namespace TG
open PySem PySem.Spec L2
inductive D where
 |non|bl (b:Bool)|int (i:Int)|str (x:Str)|tup (xs:List D)|lst (xs:List D)
 |dct (ks vs:List D)|obj (c:Str) (fs:List Str) (vs:List D)|exc (c:Str) (fs:List Str) (vs:List D)
def bx:Key->D
 |.inl i=>.int i
 |.inr x=>.str x
def clsAt(K:Tt)(c:Str)(C:UM):Prop:=TV K UR c=some (some (.ref C))
def Ou(C a:UM)(dx:Option UM):(UM->Prop)->UO->Prop:=λ_ h=>∃o,h.get? a=some o/\o.cls=.ref C/\o.dict=dx
mutual
def cJ(K:Tt)(H:Hp):D->V->Prop
 |.non,v=>v=.non
 |.bl b,v=>v=.bl b
 |.int i,v=>v=.int i
 |.str x,v=>v=.str x
 |.tup xs,v=>∃a vs,v=.ref a/\H a=some (.tup vs)/\bb K H xs vs
 |.lst xs,v=>∃a vs,v=.ref a/\pH K H a vs/\bb K H xs vs
 |.dct ks ds,v=>∃a vs,v=.ref a/\bb K H ds vs/\((∃kvs:List (Key×V),H a=some (.dK kvs)/\ks=kvs.map (λp=>bx p.1)/\vs=kvs.map (·.2)) \/
   (∃kvs:List (List Key×V),H a=some (.dT kvs)/\ks=kvs.map (λp=>.tup (p.1.map bx))/\vs=kvs.map (·.2)) \/
   ∃(kvs:List (List Key×V))(o:Obj),H a=some (.frz o (.dT kvs))/\ks=.non::kvs.map (λp=>.tup (p.1.map bx))/\vs=kvs.map (·.2))
 |.obj c fs ds,v=>∃a vs,v=.ref a/\bb K H ds vs/\fs.length=vs.length/\∃C dx,clsAt K c C/\H a=some (.ins C dx (fs.zip vs))
 |.exc c fs ds,v=>∃a vs,v=.ref a/\bb K H ds vs/\fs.length=vs.length/\∃C dx,clsAt K c C/\H a=some (.ext (Ou C a dx))/\(fs=[]\/∃d,dx=some d/\H d=some (.xd (fs.zip vs)))
def bb(K:Tt)(H:Hp):List D->List V->Prop
 |[],vs=>vs=[]
 |x::xs,vs=>∃v r,vs=v::r/\cJ K H x v/\bb K H xs r
end
def DU{K:Tt}{H H':Hp}{a:UM}{xs:List V}(e:bj H H')(h:rk K H a xs):rk K H' a xs:=by
 rcases h with(h|⟨o,h⟩)|h
 ·exact .inl (.inl (e _ _ h))
 ·exact .inl (.inr ⟨o,e _ _ h⟩)
 ·exact .inr h
def bU{K:Tt}{H H':Hp}{a:UM}{xs:List V}(e:bj H H')(h:H a=some (.tup xs)):rk K H' a xs:=rk.of (e _ _ h)
mutual
def cJ.mono{K:Tt}{H H':Hp}(e:bj H H'):∀{d:D}{v:V},cJ K H d v->cJ K H' d v
 |.non,_,h=>by unfold cJ at h ⊢;exact h
 |.bl _,_,h=>by unfold cJ at h ⊢;exact h
 |.int _,_,h=>by unfold cJ at h ⊢;exact h
 |.str _,_,h=>by unfold cJ at h ⊢;exact h
 |.tup xs,_,h=>by
  unfold cJ at h ⊢;obtain⟨a,vs,e1,h1,h2⟩:=h;exact⟨a,vs,e1,e _ _ h1,bb.mono e h2⟩
 |.lst xs,_,h=>by
  unfold cJ at h ⊢;obtain⟨a,vs,e1,h1,h2⟩:=h;exact⟨a,vs,e1,e.seq h1,bb.mono e h2⟩
 |.dct _ ds,_,h=>by
  unfold cJ at h ⊢;obtain⟨a,vs,e1,h1,h2⟩:=h;refine⟨a,vs,e1,bb.mono e h1,?_⟩;rcases h2 with⟨kvs,h2,h3⟩|⟨kvs,h2,h3⟩|⟨kvs,o,h2,h3⟩
  ·exact .inl ⟨kvs,e _ _ h2,h3⟩
  ·exact .inr (.inl ⟨kvs,e _ _ h2,h3⟩)
  ·exact .inr (.inr ⟨kvs,o,e _ _ h2,h3⟩)
 |.obj _ _ ds,_,h=>by
  unfold cJ at h ⊢;obtain⟨a,vs,e1,h1,h2,C,dx,h3,h4⟩:=h;exact⟨a,vs,e1,bb.mono e h1,h2,C,dx,h3,e _ _ h4⟩
 |.exc _ _ ds,_,h=>by
  unfold cJ at h ⊢;obtain⟨a,vs,e1,h1,h2,C,dx,h3,h4,h5⟩:=h;exact⟨a,vs,e1,bb.mono e h1,h2,C,dx,h3,e _ _ h4,h5.imp id λ⟨d,q1,q2⟩=>⟨d,q1,e _ _ q2⟩⟩
def bb.mono{K:Tt}{H H':Hp}(e:bj H H'):∀{ds:List D}{vs:List V},bb K H ds vs->bb K H' ds vs
 |[],_,h=>by unfold bb at h ⊢;exact h
 |x::xs,_,h=>by
  unfold bb at h ⊢;obtain⟨v,r,e1,h1,h2⟩:=h;exact⟨v,r,e1,cJ.mono e h1,bb.mono e h2⟩
end
section
variable{K:Tt}{H:Hp}
def mz{v:V}:cJ K H .non v↔v=.non:=by unfold cJ;rfl
def lY{b:Bool}{v:V}:cJ K H (.bl b) v↔v=.bl b:=by unfold cJ;rfl
def fw{i:Int}{v:V}:cJ K H (.int i) v↔v=.int i:=by unfold cJ;rfl
def fJ{x:Str}{v:V}:cJ K H (.str x) v↔v=.str x:=by unfold cJ;rfl
def cK{xs:List D}{v:V}:cJ K H (.tup xs) v↔∃a vs,v=.ref a/\H a=some (.tup vs)/\bb K H xs vs:=by unfold cJ;rfl
def cT{xs:List D}{v:V}:cJ K H (.lst xs) v↔∃a vs,v=.ref a/\pH K H a vs/\bb K H xs vs:=by unfold cJ;rfl
def Nw{ks ds : List D}{v : V}: cJ K H (.dct ks ds) v ↔ ∃ a vs, v = .ref a /\ bb K H ds vs /\ ((∃ kvs : List (Key × V), H a = some (.dK kvs) /\ ks = kvs.map (fun p => bx p.1) /\ vs = kvs.map (·.2)) \/
      (∃kvs:List (List Key×V),H a=some (.dT kvs)/\ks=kvs.map (λp=>.tup (p.1.map bx))/\vs=kvs.map (·.2)) \/
      ∃(kvs:List (List Key×V))(o:Obj),H a=some (.frz o (.dT kvs))/\ks=.non::kvs.map (λp=>.tup (p.1.map bx))/\vs=kvs.map (·.2)):=by unfold cJ;rfl
def Ha{c:Str}{fs:List Str}{ds:List D}{v:V}:cJ K H (.obj c fs ds) v↔∃a vs,v=.ref a/\bb K H ds vs/\fs.length=vs.length/\∃C dx,clsAt K c C/\H a=some (.ins C dx (fs.zip vs)):=by unfold cJ;rfl
def cI{vs:List V}:bb K H [] vs↔vs=[]:=by unfold bb;rfl
def bo{x:D}{xs:List D}{vs:List V}:bb K H (x::xs) vs↔∃v r,vs=v::r/\cJ K H x v/\bb K H xs r:=by conv=>lhs;unfold bb
def bb.length:∀{ds:List D}{vs:List V},bb K H ds vs->ds.length=vs.length
 |[],_,h=>by rw[cI]at h;rw[h];rfl
 |_::xs,_,h=>by
  rw[bo]at h;obtain⟨v,r,e,_,h⟩:=h;rw[e,QZ,QZ,bb.length h]
def bb.get:∀{ds:List D}{vs:List V}{i:Nat}{d:D},bb K H ds vs->ds[i]?=some d->∃v,vs[i]?=some v/\cJ K H d v
 |[],_,_,_,_,e=>by simp at e
 |x::xs,_,0,d,h,e=>by
  rw[bo]at h;obtain⟨v,r,rfl,h1,_⟩:=h;simp at e;subst e;exact⟨v,rfl,h1⟩
 |x::xs,_,i+1,d,h,e=>by
  rw[bo]at h;obtain⟨v,r,rfl,_,h2⟩:=h;obtain⟨w,e1,e2⟩:=bb.get (i:=i) h2 (by simpa using e);exact⟨w,by simpa using e1,e2⟩
def bb.append:∀{ds es:List D}{vs ws:List V},bb K H ds vs->bb K H es ws->bb K H (ds++es) (vs++ws)
 |[],_,_,_,h,h'=>by rw[cI]at h;subst h;exact h'
 |x::xs,_,_,_,h,h'=>by
  rw[bo]at h;obtain⟨v,r,rfl,h1,h2⟩:=h;rw[RA,bo];exact⟨v,_,rfl,h1,bb.append h2 h'⟩
def bb.take:∀{ds:List D}{vs:List V}(n:Nat),bb K H ds vs->bb K H (ds.take n) (vs.take n)
 |_,_,0,_=>by rw[RB,RB,cI]
 |[],_,_+1,h=>by rw[cI]at h;subst h;rw[RC,RC,cI]
 |x::xs,_,n+1,h=>by
  rw[bo]at h;obtain⟨v,r,rfl,h1,h2⟩:=h;rw[RD,RD,bo];exact⟨v,_,rfl,h1,bb.take n h2⟩
def bb.drop:∀{ds:List D}{vs:List V}(n:Nat),bb K H ds vs->bb K H (ds.drop n) (vs.drop n)
 |_,_,0,h=>by rw[RE,RE];exact h
 |[],_,_+1,h=>by rw[cI]at h;subst h;rw[List.drop_nil,List.drop_nil,cI]
 |x::xs,_,n+1,h=>by
  rw[bo]at h;obtain⟨v,r,rfl,h1,h2⟩:=h;rw[RF,RF];exact bb.drop n h2
def bb.snoc{ds:List D}{vs:List V}{d:D}{v:V}(h:bb K H ds vs)(h':cJ K H d v):bb K H (ds++[d]) (vs++[v]):=
 h.append (bo.mpr ⟨v,[],rfl,h',cI.mpr rfl⟩)
def bb.one{d:D}{vs:List V}(h:bb K H [d] vs):∃v,vs=[v]/\cJ K H d v:=by
 rw[bo]at h;obtain⟨v,r,rfl,h1,h2⟩:=h;rw[cI]at h2;subst h2;exact⟨v,rfl,h1⟩
def bb.two{d e:D}{vs:List V}(h:bb K H [d,e] vs):∃v w,vs=[v,w]/\cJ K H d v/\cJ K H e w:=by
 rw[bo]at h;obtain⟨v,r,rfl,h1,h2⟩:=h;obtain⟨w,rfl,h3⟩:=h2.one;exact⟨v,w,rfl,h1,h3⟩
def vU:∀ns:List Int,bb K H (ns.map D.int) (ns.map V.int)
 |[]=>cI.mpr rfl
 |n::ns=>bo.mpr ⟨_,_,rfl,fw.mpr rfl,vU ns⟩
end
def hid(H:Hp)(O:List UM):Hp:=λb=>if b∈O then none else H b
def aB(H:Hp)(O:List UM):bj (hid H O) H:=λb o h=>by
 unfold hid at h;split at h
 ·cases h
 ·exact h
def bN{H H':Hp}{O:List UM}(e:bj H H'):bj (hid H O) (hid H' O):=λb o h=>by
 unfold hid at h ⊢;by_cases hb:b∈O
 ·rw[if_pos hb]at h;cases h
 ·rw[if_neg hb]at h ⊢;exact e b o h
def iI{H:Hp}{O O':List UM}(s:∀a∈O,a∈O'):bj (hid H O') (hid H O):=λb o h=>by
 unfold hid at h ⊢;by_cases hb:b∈O'
 ·rw[if_pos hb]at h;cases h
 ·rw[if_neg hb]at h;rw[if_neg λz=>hb (s b z)];exact h
def Hq(H:Hp):hid H []=H:=by funext b;unfold hid;simp
def sF{H:Hp}{O:List UM}{p:UM}{o:HO}(h:H p=none):bj (hid H O) (hid (upd H p o) O):=λb u q=>by
 unfold hid at q ⊢;by_cases hb:b∈O
 ·rw[if_pos hb]at q;cases q
 ·rw[if_neg hb]at q ⊢;rw[aD (bc q h)];exact q
def bL{H:Hp}{p:UM}(h:H p=none)(o:HO):bj H (upd H p o):=λb u q=>by rw[aD (bc q h)];exact q
def i7{H:Hp}{O:List UM}{p:UM}(h:p∉O):hid H O p=H p:=by unfold hid;rw[if_neg h]
def iz{H:Hp}{O:List UM}{p:UM}{o:HO}(h:p∈O):bj (hid H O) (hid (upd H p o) O):=λb u q=>by
 unfold hid at q ⊢;by_cases hb:b∈O
 ·rw[if_pos hb]at q;cases q
 ·rw[if_neg hb]at q ⊢;rw[aD (λz=>hb (by rw[z];exact h))];exact q
inductive S where
 |val (d:D)|own (d:D)|nest (d:D)
abbrev aq:=List (Option S)
def sy:HO->Prop
 |.lst _=>True
 |.dK _=>True
 |.dT _=>True
 |_=>False
class aU where
 tab:Hp->Prop
 same:∀{H H':Hp},tab H->bj H H'->tab H'
 own:∀{H:Hp}{p:UM}{o o':HO},tab H->H p=some o->sy o->tab (upd H p o')
variable[aU]
def dS(H:Hp)(O:List UM):Prop:=aU.tab H/\∀a∈O,∃o,H a=some o/\sy o
def dS.not{H:Hp}{O:List UM}(h:dS H O){p:UM}(n:H p=none):p∉O:=λz=>by
 obtain⟨vs,e,_⟩:=h.2 p z;rw[n]at e;cases e
def dS.same{H H':Hp}{O:List UM}(h:dS H O)(e:bj H H'):dS H' O:=⟨aU.same h.1 e,λa ha=>let ⟨vs,q,m⟩:=h.2 a ha;⟨vs,e _ _ q,m⟩⟩
def dS.upd{H:Hp}{O:List UM}{p:UM}{o:HO}(h:dS H O)(hp:p∈O)(m:sy o):dS (L2.upd H p o) O:=⟨let ⟨_,q,r⟩:=h.2 p hp;aU.own h.1 q r,λa ha=>by
 by_cases z:a=p
 ·rw[z];exact⟨o,aX,m⟩
 ·obtain⟨u,q,r⟩:=h.2 a ha;exact⟨u,by rw[aD z];exact q,r⟩⟩
def dS.cons{H:Hp}{O:List UM}{p:UM}{o:HO}(h:dS H O)(hp:H p=some o)(m:sy o):dS H (p::O):=⟨h.1,λa ha=>by
 rcases List.mem_cons.mp ha with z|z
 ·rw[z];exact⟨o,hp,m⟩
 ·exact h.2 a z⟩
def dG(K:Tt)(H:Hp)(O:List UM)(a:UM)(d:D):Prop:=∃o vs,H a=some o/\match d with
 |.lst xs=>o=.lst vs/\bb K (hid H O) xs vs
 |.dct ks ds=>bb K (hid H O) ds vs/\((∃kvs:List (Key×V),o=.dK kvs/\ks=kvs.map (λp=>bx p.1)/\vs=kvs.map (·.2)) \/
   ∃kvs:List (List Key×V),o=.dT kvs/\ks=kvs.map (λp=>.tup (p.1.map bx))/\vs=kvs.map (·.2))
 |_=>False
def dG.mono{K:Tt}{H H':Hp}{O O':List UM}{a:UM}{d:D}(h:dG K H O a d)(e:H a=H' a)(s:bj (hid H O) (hid H' O')):dG K H' O' a d:=by
 obtain⟨o,vs,h1,h2⟩:=h;refine⟨o,vs,by rw[<-e];exact h1,?_⟩;cases d with
 |lst xs=>exact⟨h2.1,h2.2.mono s⟩
 |dct ks ds=>exact⟨h2.1.mono s,h2.2⟩
 |_=>exact h2
def dG.some{K:Tt}{H:Hp}{O:List UM}{a:UM}{d:D}(h:dG K H O a d):∃o,H a=some o:=let ⟨o,_,e,_⟩:=h;⟨o,e⟩
def dG.den{K:Tt}{H:Hp}{O O':List UM}{a:UM}{d:D}(h:dG K H O a d)(s:bj (hid H O) (hid H O'))(ha:a∉O'):cJ K (hid H O') d (.ref a):=by
 obtain⟨o,vs,h1,h2⟩:=h;have h1':hid H O' a=Option.some o:=by rw[i7 ha];exact h1
 cases d with
 |lst xs=>
  obtain⟨e,g⟩:=h2;subst e;exact cT.mpr ⟨a,vs,rfl,pH.of h1',g.mono s⟩
 |dct ks ds=>
  obtain⟨g,q⟩:=h2;refine Nw.mpr ⟨a,vs,rfl,g.mono s,?_⟩;rcases q with⟨kvs,e,q⟩|⟨kvs,e,q⟩
  ·subst e;exact .inl ⟨kvs,h1',q⟩
  ·subst e;exact .inr (.inl ⟨kvs,h1',q⟩)
 |_=>exact h2.elim
structure d9(K:Tt)(O:List UM)(H:Hp)(ρ:aq)(σ:St):Prop where
 val:∀(i:Nat) d,ρ[i]?=some (some (.val d))->∃v,σ[i]?=some (some v)/\cJ K (hid H O) d v
 own:∀(i:Nat) d,ρ[i]?=some (some (.own d))->∃a,σ[i]?=some (some (.ref a))/\a∈O/\dG K H O a d
 one:∀(i j:Nat) xs ys a,ρ[i]?=some (some (.own xs))->ρ[j]?=some (some (.own ys))->σ[i]?=some (some (.ref a))->σ[j]?=some (some (.ref a))->i=j
 all:dS H O
def sQ{H H':Hp}(e:bj H H'){a:UM}{o:HO}(h:H a=some o):H a=H' a:=by rw[h,e _ _ h]
def d9.same{K:Tt}{O:List UM}{H H':Hp}{ρ:aq}{σ:St}(h:d9 K O H ρ σ)(e:bj H H'):d9 K O H' ρ σ:=
  ⟨fun i d q=>let ⟨v,a,b⟩:=h.val i d q; ⟨v,a,b.mono (bN e)⟩,
   λi xs q=>let ⟨a,q1,q2,q3⟩:=h.own i xs q;⟨a,q1,q2,q3.mono (let ⟨_,z⟩:=q3.some;sQ e z) (bN e)⟩,h.one,h.all.same e⟩
structure Ex where
 c:Str
 fs:List Str
 vs:List D
abbrev R(α:Type):=Except (Option Ex) α
abbrev un{α:Type}:R α:=.error none
def rO{α:Type}:Option α->R α
 |some a=>.ok a
 |none=>.error none
def M8(K:Tt)(Hd:Hp)(x:Ex)(C:UM)(dx:Option UM):Prop:=clsAt K x.c C/\∃ws,bb K Hd x.vs ws/\x.fs.length=ws.length/\(x.fs=[]\/∃d,dx=some d/\Hd d=some (.xd (x.fs.zip ws)))
def M8.mono{K:Tt}{H H':Hp}{x:Ex}{C:UM}{dx:Option UM}(h:M8 K H x C dx)(e:bj H H'):M8 K H' x C dx:=by
 obtain⟨h1,ws,h2,h3,h4⟩:=h;exact⟨h1,ws,h2.mono e,h3,h4.imp id λ⟨d,q1,q2⟩=>⟨d,q1,e _ _ q2⟩⟩
end TG
namespace TG
open PySem PySem.Spec L2
variable[aU]
open PyProof.Rows (AllBare)
def J4{P:UL}{w:UK}{H:Hp}{h:UO}{a:UM}{o:HO}(x:cH P w H h a o):∃u,h.get? a=some u:=by
 cases o with
 |lst xs=>obtain⟨_,_,_,_,e⟩:=x;exact⟨_,e⟩
 |tup xs=>obtain⟨_,_,_,o,e,_⟩:=x;exact⟨_,e⟩
 |dK kvs=>obtain⟨_,_,_,_,o,_,_,e,_⟩:=x;exact⟨_,e⟩
 |dT kvs=>obtain⟨_,_,_,_,o,_,_,e,_⟩:=x;exact⟨_,e⟩
 |set S n=>obtain⟨o,_,_,_,e,_⟩:=x;exact⟨_,e⟩
 |ins C dx fs=>obtain⟨_,_,_,e,_⟩:=x;exact⟨_,e⟩
 |own y=>exact x
 |xd fs=>obtain⟨_,⟨_,_,_,e,_⟩,_⟩:=x;exact⟨_,e⟩
 |rng lo hi=>obtain⟨_,_,_,e⟩:=x;exact⟨_,e⟩
 |frz ob u=>obtain⟨e,_⟩:=x;exact⟨_,e⟩
 |tbl ps=>exact⟨_,(show h.get? a=some _ from x)⟩
 |met f y=>exact⟨_,(show h.get? a=some _ from x)⟩
 |ext φ=>obtain⟨_,e,_⟩:=x;exact e
def tB(X:Cx)(H:Hp)(b:UM):Prop:=((∃o,X.s₀.heap.get? b=some o)/\b∉X.ex)\/H b≠none\/(∃o,(b,o)∈X.pn)\/∃x,X.env.cells.lookup x=some b
def Qx(B:UO)(e:UM)(cls a0:UJ)(h:UO):Prop:=h.TracedW B e cls a0\/∃oe vs,h.get? e=some oe/\oe.cls=cls/\oe.data=.fields vs/\vs[1]?=some .none/\vs[0]?=some a0
def MR(X:Cx)(H:Hp)(s:UW)(e C:UM):Prop:=∃B a0,B.StaysIn s.heap/\B.get? e=none/\s.heap.FunFrames B X.stack/\Qx B e (.ref C) a0 s.heap/\∀b o,s.heap.get? b=some o->tB X H b->b∉frs X.stack->B.get? b=some o
def Qt(X:Cx)(H:Hp)(O:List UM)(s:UW)(u:UJ)(x:Ex):Prop:=∃e C dx,u=.ref e/\M8 X.K (hid H O) x C dx/\MR X H s e C
def oY(P:UL)(w:UK):Ae:=λouter H s E u s'=>∃e C dx H' B a0,u=.ref e/\s'.os=s.os/\AllBare s'.gens/\Un (frs outer) [] H H' s.heap s'.heap/\qq P w H' s'.heap/\Heap.FlyingW B outer e (.ref C) a0 s'.heap/\
 (∀b o,s'.heap.get? b=some o->((∃o',s.heap.get? b=some o')\/H' b≠none)->b∉frs outer->B.get? b=some o)/\E (.ref C) dx H'
def Oq(K:Tt)(H:Hp)(O:List UM)(x:Ex)(E:XK):Prop:=∀C dx H',bj H H'->M8 K (hid H' O) x C dx->E (.ref C) dx H'
def Lx(X:Cx)(σ:St)(O:List UM)(H:Hp)(x:Ex):Prop:=∀pins s u H',Inv X pins σ H' s->bj H H'->Qt X H' O s u x->X.xe u s
def Lx.mono{X:Cx}{σ:St}{O:List UM}{H H':Hp}{x:Ex}(h:Lx X σ O H x)(s:bj H H'):Lx X σ O H' x:=λpins st u H2 I s2 f=>h pins st u H2 I (s.trans s2) f
def Bz(X:Cx)(O:List UM)(H:Hp)(x:Ex):XK:=λu dx H'=>∃C,u=.ref C/\bj H H'/\M8 X.K (hid H' O) x C dx
def nA(CX:Ae)(X:Cx)(σ:St)(E:XK):Prop:=∀(pins:List (UM×Obj))(H:Hp)(s:UW)(e:UJ)(s':UW),Inv X pins σ H s->CX X.stack H s E e s'->X.xe e s'
def BI{X:Cx}{σ:St}{O:List UM}{H:Hp}{x:Ex}(h:Lx X σ O H x):nA (oY X.prog X.w) X σ (Bz X O H x):=by
 rintro pins H1 s u s' I ⟨e,C,dx,H',B,a0,rfl,os,bare,un,hok,⟨f1,f2,f3,f4⟩,kp,C',eC,sm,hd⟩;cases eC;have I':Inv X pins σ H' s':=I.call' os un hok bare (ch:=[]) λb z=>absurd z (by simp);refine h pins s' _ H' I' sm ⟨e,C,dx,rfl,hd,B,a0,f1,f2,f3,.inl f4,λb o eb hb nf=>kp b o eb ?_ nf⟩;rcases hb with⟨⟨o',hb⟩,nx⟩|hb|⟨o',hb⟩|⟨y,hb⟩
 ·exact .inl (I.base.there b o' hb nx)
 ·exact .inr hb
 ·exact .inl ⟨_,(I.pin _ (QP _ hb)).1⟩
 ·obtain⟨v,o,q,_⟩:=I.cell y b hb;exact .inl ⟨o,q⟩
def BL{X:Cx}{σ:St}:nA (oY X.prog X.w) X σ E0:=λ_ _ _ _ _ _ ⟨_,_,_,_,_,_,_,_,_,_,_,_,_,z⟩=>z.elim
def yV{X:Cx}{O:List UM}{H:Hp}{x:Ex}:Oq X.K H O x (Bz X O H x):=λC dx H' s e=>⟨C,rfl,s,e⟩
section
variable{X:Cx}{pins:List (UM×Obj)}{σ:St}{H:Hp}{s:UW}{h':UO}
def Hf(I:Inv X pins σ H s)(k:∀b o,s.heap.get? b=some o->tB X H b->b∉frs X.stack->h'.get? b=some o):qq X.prog X.w H h':=λa ob ea=>
 (I.hok a ob ea).stay (λb u hb q=>by
  have hn:H b≠none:=by
   rcases hb with e|e
   ·rw[e,ea];intro z;cases z
   ·rw[e];intro z;cases z
  exact k b u q (.inr (.inl hn)) λhf=>hn (I.stkFree b hf)) (λ_ q=>q) λ_ _ q=>q
def wx(I:Inv X pins σ H s)(us:s.heap.UpToSlots h'){b:UM}{o:Obj}(hb:b∈frs X.stack)(e:s.heap.get? b=some o):∃sl,h'.get? b=some {o with slots:=sl}:=by
 obtain⟨_,o',e',nf⟩:=I.stack.mem hb;rw[e]at e';cases e';exact us b o e nf
def Kv(I:Inv X pins σ H s)(hx:X.ex=[])(hst:X.stack=X.env::X.outer)(hf:X.env.frame=some X.env.locals)(us:s.heap.UpToSlots h')(k:∀b o,s.heap.get? b=some o->tB X H b->b∉frs X.stack->h'.get? b=some o):
  Un (frs X.outer) [] X.H₀ H X.s₀.heap h':=by
 have U:=I.base;rw[hx]at U;have fr:frs X.stack=X.env.locals::frs X.outer:=by rw[hst];show List.filterMap _ (_::_)=_;rw[QM,hf];rfl
 have nl:∀b o,X.s₀.heap.get? b=some o->b≠X.env.locals:=λb o q z=>by
  have h1:=Ub q;have h2:=I.ok.above;rw[z]at h1;exact QI _ (QH h1 h2)
 have nfr:∀b o,X.s₀.heap.get? b=some o->b∉frs X.outer->b∉frs X.stack:=λb o q nb z=>by
  rw[fr]at z;rcases List.mem_cons.mp z with z|z
  ·exact nl b o q z
  ·exact nb z
 refine⟨λb o q n nb _=>k b o (U.keep b o q n nb (by simp)) (.inl ⟨⟨o,q⟩,by rw[hx];simp⟩) (nfr b o q nb),λb o q n hb _=>?_,λb o q n _=>U.free b o q n (by simp),λb o q _=>?_,U.tups,U.frzs,U.tbls⟩
 ·obtain⟨sl,e⟩:=U.slot b o q n hb (by simp);obtain⟨sl',e'⟩:=wx I us (by rw[fr];exact QO _ hb) e;exact⟨sl',e'⟩
 ·obtain⟨o1,e1⟩:=U.there b o q (by simp);by_cases hb:b∈frs X.stack
  ·obtain⟨sl,e⟩:=wx I us hb e1;exact⟨_,e⟩
  ·exact⟨o1,k b o1 e1 (.inl ⟨⟨o,q⟩,by rw[hx];simp⟩) hb⟩
end
def EX{P:UL}{w:UK}{K:Tt}{mg:Str->Option UJ}{base:UO}{N:List Str}{qual:Str}{scope:UX}{f:UM}{cd:UJ}{A:UV}{outer:List Env}{s:UW}{H:Hp}{E:XK}{σ:St}{O O':List UM}{H':Hp}{x:Ex}
  (hx:Oq K H O x E) (sm:bj H H') (hs:∀a∈O,a∈O'):Lx (kC (oY P w) P w K mg base N qual scope f cd A outer s H E) σ O' H' x:=by
 rintro pins s1 u H1 I s2 ⟨e,C,dx,rfl,hd,B,a0,b1,b2,b3,b4,b5⟩;have fin:∀h',Heap.FlyingW B outer e (.ref C) a0 h'->s1.heap.UpToSlots h'->oY P w outer H s E (.ref e) {s1 with heap:=h'}:=λh' fl us=>by
  have k:∀b o,s1.heap.get? b=some o->tB (kC (oY P w) P w K mg base N qual scope f cd A outer s H E) H1 b->b∉frs (kC (oY P w) P w K mg base N qual scope f cd A outer s H E).stack->h'.get? b=some o:=λb o q kb nf=>fl.1 b o (b5 b o q kb nf);have un:=Kv I rfl rfl rfl us k;have hok:=Hf I k;refine⟨e,C,dx,H1,B,a0,rfl,I.os,I.bare,un,hok,fl,λb o q hb nf=>?_,hx C dx H1 (sm.trans s2) (hd.mono (iI hs))⟩;have nf2:b∉frs (kC (oY P w) P w K mg base N qual scope f cd A outer s H E).stack:=λz=>by
   rcases List.mem_cons.mp (show b∈s.heap.objs.size::frs outer from z)with z|z
   ·rcases hb with hb|hb
    ·obtain⟨o',hb⟩:=hb
     have:=Ub hb
     rw[z]at this;exact QI _ this
    ·rw[z]at hb;exact hb I.free
   ·exact nf z
  have kb:tB (kC (oY P w) P w K mg base N qual scope f cd A outer s H E) H1 b:=hb.elim (λz=>.inl ⟨z,λy=>nomatch y⟩) λz=>.inr (.inl z);obtain⟨o1,e1⟩:∃o1,s1.heap.get? b=some o1:=by
   rcases hb with⟨o',hb⟩|hb
   ·exact I.base.there b o' hb (λz=>nomatch z)
   ·cases q0:H1 b with
    |none=>exact absurd q0 hb
    |some ob=>exact J4 (I.hok b ob q0)
  have:=k b o1 e1 kb nf2
  rw[q]at this;cases this;exact b5 b _ e1 kb nf2
 show UY _ _ (leaving (Us qual scope s.heap.objs.size f cd) (.ref e)) _ _ s1;rcases b4 with b4|⟨oe,vs,c1,c2,c3,c4,c5⟩
 ·exact wpAny_leaves_onW I.ok.frames rfl ⟨b1,b2,b3,b4⟩ fin
 ·refine wpAny_leaving_firstW I.ok.frames b3 rfl c1 b1 b2 c3 c4 c5 λh' hL=>?_;obtain⟨k1,⟨_,_,k2⟩,k3,k4⟩:=hL;exact fin h' ⟨k1,b2,k2,c2 ▸ k3⟩ k4
end TG
namespace TG
open PySem PySem.Spec L2
variable[aU]
def js(X:Cx)(σ:St)(O:List UM)(H:Hp){α:Type}(r:R α)(Q:α->Prop):Prop:=match r with
 |.ok a=>Q a
 |.error (some x)=>Lx X σ O H x
 |.error none=>False
section
variable{X:Cx}{σ:St}{O:List UM}{H H':Hp}{α β:Type}
def js.bind{r:R α}{G:α->R β}{Q:β->Prop}(h:js X σ O H (r.bind G) Q):js X σ O H r λa=>js X σ O H (G a) Q:=by
 match r,h with
 |.ok a,h=>exact h
 |.error (some x),h=>exact h
 |.error none,h=>exact h
def js.imp{r:R α}{Q Q':α->Prop}(h:js X σ O H r Q)(f:∀a,Q a->Q' a):js X σ O H r Q':=by
 match r,h with
 |.ok a,h=>exact f a h
 |.error (some x),h=>exact h
 |.error none,h=>exact h
def js.mono{r:R α}{Q:α->Prop}(h:js X σ O H r Q)(s:bj H H'):js X σ O H' r Q:=by
 match r,h with
 |.ok a,h=>exact h
 |.error (some x),h=>exact Lx.mono h s
 |.error none,h=>exact h
def js.rO{o:Option α}{Q:α->Prop}(h:js X σ O H (rO o) Q):∃a,o=some a/\Q a:=by
 match o,h with
 |some a,h=>exact⟨a,rfl,h⟩
 |none,h=>exact h.elim
end
abbrev FX:=aq->R D
def tF(X:Cx)(F:FX):TE:=λσ H Q=>∃O ρ,d9 X.K O H ρ σ/\js X σ O H (F ρ) λd=>∀v H',bj H H'->cJ X.K (hid H' O) d v->Q v H'
def Nz(X:Cx)(F:aq->R Bool):TT:=λσ H Q=>∃O ρ,d9 X.K O H ρ σ/\js X σ O H (F ρ) λb=>∀H',bj H H'->Q b H'
def Np(X:Cx)(F:aq->R (List D)):TA:=λσ H Q=>∃O ρ,d9 X.K O H ρ σ/\js X σ O H (F ρ) λds=>∀vs H',bj H H'->bb X.K (hid H' O) ds vs->Q vs H'
def FE(X:Cx)(e:UZ)(F:FX):Prop:=PE X e (tF X F)
def FT(X:Cx)(e:UZ)(F:aq->R Bool):Prop:=PT X e (Nz X F)
def FW(X:Cx)(e:UZ)(F:aq->R Bool):Prop:=PW X e (Nz X F)
def FA(X:Cx)(es:List UZ)(F:aq->R (List D)):Prop:=PA X es (Np X F)
def PE.weak{X:Cx}{e:UZ}{t t':TE}(h:PE X e t)(w:∀σ H Q,t' σ H Q->t σ H Q):PE X e t':=λpins s σ H Q I q=>h pins s σ H Q I (w σ H Q q)
def PT.weak{X:Cx}{e:UZ}{t t':TT}(h:PT X e t)(w:∀σ H Q,t' σ H Q->t σ H Q):PT X e t':=λpins s σ H Q I q=>h pins s σ H Q I (w σ H Q q)
def PW.weak{X:Cx}{e:UZ}{t t':TT}(h:PW X e t)(w:∀σ H Q,t' σ H Q->t σ H Q):PW X e t':=λwhole pins s σ H Q I q=>h whole pins s σ H Q I (w σ H Q q)
def PA.weak{X:Cx}{es:List UZ}{t t':TA}(h:PA X es t)(w:∀σ H Q,t' σ H Q->t σ H Q):PA X es t':=λpos pins s σ H Q I q=>h pos pins s σ H Q I (w σ H Q q)
def PS.weak{X:Cx}{st:U1}{t t':TS}(h:PS X st t)(w:∀D σ H,t' D σ H->t D σ H):PS X st t':=λpins s σ H Q I q=>h pins s σ H Q I (w Q σ H q)
def yN.weak{X:Cx}{st:List U1}{t t':TS}(h:yN X st t)(w:∀D σ H,t' D σ H->t D σ H):yN X st t':=λpins s σ H Q I q=>h pins s σ H Q I (w Q σ H q)
def tJ(ρ:aq)(i:Nat):R D:=match ρ[i]? with
 |some (some (.val d))=>.ok d
 |_=>un
def Ib{ρ:aq}{i:Nat}{d:D}(h:tJ ρ i=.ok d):ρ[i]?=some (some (.val d)):=by
 unfold tJ at h;split at h
 ·rename_i e;cases h;exact e
 ·cases h
def ah(i:Nat):FX:=λρ=>tJ ρ i
def fC(d:D):FX:=λ_=>.ok d
section
variable{X:Cx}
def v9{σ:St}{O:List UM}{H:Hp}{ρ:aq}{i:Nat}{Q:D->Prop}(h:js X σ O H (tJ ρ i) Q):∃d,ρ[i]?=some (some (.val d))/\Q d:=by
 cases e:tJ ρ i with
 |ok d=>rw[e]at h;exact⟨d,Ib e,h⟩
 |error z=>
  rw[e]at h;cases z with
  |none=>exact h.elim
  |some x=>
   exfalso;unfold tJ at e;split at e
   ·cases e
   ·have:=Except.error.inj e;cases this
def O6{i:Nat}{x:Str}{pos:Pos}(h:PE X (.Name x pos) (qF i)):FE X (.Name x pos) (ah i):=
 PE.weak h λσ H Q ⟨O,ρ,E,hF⟩=>by
  obtain⟨d,e,q⟩:=v9 hF;obtain⟨v,e,dv⟩:=E.val i d e;exact⟨v,e,q v H (bj.refl H) dv⟩
def qg{e:UZ}{d:D}{v:V}(h:PE X e (tC v))(hd:∀K H,cJ K H d v):FE X e (fC d):=
 PE.weak h λσ H Q ⟨O,ρ,E,q⟩=>q v H (bj.refl H) (hd _ _)
def Oi{i j pos}:FE X (.Constant (.int i) j pos) (fC (.int i)):=qg ER λ_ _=>fw.mpr rfl
def Ql{b j pos}:FE X (.Constant (.bool b) j pos) (fC (.bl b)):=qg MH λ_ _=>lY.mpr rfl
def OM{x j pos}:FE X (.Constant (.str x) j pos) (fC (.str x)):=qg KI λ_ _=>fJ.mpr rfl
def noStar:UZ->Bool
 |.Starred _ _=>false
 |_=>true
def cY{e:UZ}{es:List UZ}{env:Env}(h:noStar e=true):U0 (e::es) env=(false,eval e env)::U0 es env:=by
 cases e<;>first|rfl|cases h
def gB{pos:Pos}{env:Env}:∀{es:List UZ},es.all noStar=true->(backTo pos (U0 es env)).any (·.1)=false
 |[],_=>rfl
 |e::es,h=>by
  rw[RG,Rj]at h;rw[cY h.1];exact gB h.2
def aw:aq->R (List D):=λ_=>.ok []
def af(f:FX)(g:aq->R (List D)):aq->R (List D):=λρ=>(f ρ).bind λx=>(g ρ).bind λxs=>.ok (x::xs)
def JQ:FA X [] aw:=PA.weak pD λσ H Q ⟨O,ρ,E,q⟩=>q [] H (bj.refl H) (cI.mpr rfl)
def bind_some{α β:Type}{o:Option α}{f:α->Option β}{b:β}(h:o.bind f=some b):∃a,o=some a/\f a=some b:=by
 cases o with
 |none=>cases h
 |some a=>exact⟨a,rfl,h⟩
def sX{ε α β:Type}{o:Except ε α}{f:α->Except ε β}{b:β}(h:o.bind f=.ok b):∃a,o=.ok a/\f a=.ok b:=by
 cases o with
 |error _=>cases h
 |ok a=>exact⟨a,rfl,h⟩
def Hs{e:UZ}{es:List UZ}{f:FX}{g:aq->R (List D)}(he:FE X e f)(hs:FA X es g)(hns:noStar e=true:=by rfl):FA X (e::es) (af f g):=
 PA.weak (km he hs (cY hns)) λσ H Q ⟨O,ρ,E,h⟩=>
  ⟨O,ρ,E,(js.bind h).imp λx h v H1 s1 d1=>⟨O,ρ,E.same s1,((js.bind h).mono s1).imp λxs q vs H2 s2 d2=>q (v::vs) H2 (s1.trans s2) (bo.mpr ⟨v,vs,rfl,d1.mono (bN s2),d2⟩)⟩⟩
def small(n:Nat):Bool:=decide (n<=100000)
def eN{n:Nat}(h:small n=true):n<=UP:=QK (of_decide_eq_true h) (by decide)
def dE{n:Nat}(h:n<=100000):small n=true:=decide_eq_true h
def wI(xs:List D):Option D:=if small xs.length then some (.tup xs)else none
def jZ(xs:List D):Option D:=if small xs.length then some (.lst xs)else none
def fF(g:aq->R (List D)):FX:=λρ=>(g ρ).bind λxs=>rO (wI xs)
def jP(g:aq->R (List D)):FX:=λρ=>(g ρ).bind λxs=>rO (jZ xs)
def bI{α:Type}{c:Bool}{a b:α}(h:(if c then some a else none)=some b):c=true/\a=b:=by
 cases c with
 |true=>exact⟨rfl,Option.some.inj h⟩
 |false=>cases h
def eX{K:Tt}{H:Hp}{O:List UM}{p:UM}{ds:List D}{vs:List V}(hO:dS H O)(hp:H p=none)(d:bb K (hid H O) ds vs):cJ K (hid (upd H p (.tup vs)) O) (.tup ds) (.ref p):=
 cK.mpr ⟨p,vs,rfl,by rw[i7 (hO.not hp),aX],d.mono (sF hp)⟩
def dF{K:Tt}{H:Hp}{O:List UM}{p:UM}{ds:List D}{vs:List V}(hO:dS H O)(hp:H p=none)(d:bb K (hid H O) ds vs):cJ K (hid (upd H p (.lst vs)) O) (.lst ds) (.ref p):=
 cT.mpr ⟨p,vs,rfl,pH.of (by rw[i7 (hO.not hp),aX]),d.mono (sF hp)⟩
def PB{es:List UZ}{g:aq->R (List D)}{k pos}(h:FA X es g):FE X (.Tuple es k pos) (fF g):=
 PE.weak (JU h) λσ H Q ⟨O,ρ,E,hF⟩=>⟨O,ρ,E,(js.bind hF).imp λxs hF vs H1 s1 d1=>by
  obtain⟨d,e,q⟩:=js.rO hF;obtain⟨hz,e⟩:=bI e;subst e;refine⟨by rw[<-d1.length];exact eN hz,λp hp=>?_⟩;exact q _ _ (s1.trans (bL hp _)) (eX (E.all.same s1) hp d1)⟩
def PJ{es:List UZ}{g:aq->R (List D)}{pos}(h:FA X es g):FE X (.List es pos) (jP g):=
 PE.weak (AA h) λσ H Q ⟨O,ρ,E,hF⟩=>⟨O,ρ,E,(js.bind hF).imp λxs hF vs H1 s1 d1=>by
  obtain⟨d,e,q⟩:=js.rO hF;obtain⟨hz,e⟩:=bI e;subst e;refine⟨by rw[<-d1.length];exact eN hz,λp hp=>?_⟩;exact q _ _ (s1.trans (bL hp _)) (dF (E.all.same s1) hp d1)⟩
def Hh(K:Tt)(r:V->Hp->VK->Prop)(g:D->Option D):Prop:=
 ∀(a d:D)(x:V)(O:List UM)(H:Hp)(Q:VK),dS H O->g a=some d->cJ K (hid H O) a x->(∀v H',bj H H'->cJ K (hid H' O) d v->Q v H')->r x H Q
def f1(g:D->Option D)(f:FX):FX:=λρ=>(f ρ).bind λa=>rO (g a)
def cX(K:Tt)(r:R2)(g:D->D->Option D):Prop:=
 ∀(a b d:D)(x y:V)(O:List UM)(H:Hp)(Q:VK),dS H O->g a b=some d->cJ K (hid H O) a x->cJ K (hid H O) b y->(∀v H',bj H H'->cJ K (hid H' O) d v->Q v H')->r x y H Q
def f2(g:D->D->Option D)(f1 f2:FX):FX:=λρ=>(f1 ρ).bind λa=>(f2 ρ).bind λb=>rO (g a b)
def x5{r:R2}{g:D->D->Option D}{fa fb:FX}(s:cX X.K r g):∀σ H Q,tF X (f2 g fa fb) σ H Q->Mm r (tF X fa) (tF X fb) σ H Q:=λσ H Q ⟨O,ρ,E,hF⟩=>
 ⟨O,ρ,E,(js.bind hF).imp fun a hF x H1 s1 d1=>⟨O,ρ,E.same s1,((js.bind hF).mono s1).imp fun b hF y H2 s2 d2=>by
  obtain⟨d,e,q⟩:=js.rO hF;exact s a b d x y O H2 Q (E.all.same (s1.trans s2)) e (d1.mono (bN s2)) d2 λv H3 s3 d3=>q v H3 ((s1.trans s2).trans s3) d3⟩⟩
def OG{a b:UZ}{op:Operator}{r:R2}{g:D->D->Option D}{fa fb:FX}{pos:Pos}(ho:kn X (Vd op) r)(s:cX X.K r g)(ha:FE X a fa)(hb:FE X b fb):FE X (.BinOp a op b pos) (f2 g fa fb):=
 PE.weak (M7 ho ha hb) (x5 s)
def PR{a b:UZ}{op:Vf}{r:R2}{g:D->D->Option D}{fa fb:FX}{pos:Pos}(ho:kn X (Ve op) r)(s:cX X.K r g)(ha:FE X a fa)(hb:FE X b fb)(hm:Vg op b=false):FE X (.Compare a [op] [b] pos) (f2 g fa fb):=
 PE.weak (Ho ho ha hb hm) (x5 s)
def N6:D->Option Bool
 |.bl b=>some b
 |_=>none
def fB(f:FX):aq->R Bool:=λρ=>(f ρ).bind λd=>rO (N6 d)
def zC{t:TE}{f:FX}(h:∀σ H Q,tF X f σ H Q->t σ H Q):∀σ H Q,Nz X (fB f) σ H Q->Gj t σ H Q:=λσ H Q ⟨O,ρ,E,hF⟩=>
 h σ H _ ⟨O,ρ,E,(js.bind hF).imp λd hF v H1 s1 d1=>by
  obtain⟨b,e,q⟩:=js.rO hF;cases d with
  |bl b'=>
   cases e;exact⟨b,lY.mp d1,q H1 s1⟩
  |_=>cases e⟩
def Oj{a b:UZ}{op:Vf}{r:R2}{g:D->D->Option D}{fa fb:FX}{pos:Pos}(ho:kn X (Ve op) r)(s:cX X.K r g)(ha:FE X a fa)(hb:FE X b fb)(hm:Vg op b=false):FT X (.Compare a [op] [b] pos) (fB (f2 g fa fb)):=
 PT.weak (HJ ho ha hb hm) (zC (x5 s))
def B8(K:Tt)(r:List V->Hp->VK->Prop)(g:List D->Option D):Prop:=
 ∀(ds:List D)(d:D)(xs:List V)(O:List UM)(H:Hp)(Q:VK),dS H O->g ds=some d->bb K (hid H O) ds xs->(∀v H',bj H H'->cJ K (hid H' O) d v->Q v H')->r xs H Q
def fL(g:List D->Option D)(f:aq->R (List D)):FX:=λρ=>(f ρ).bind λds=>rO (g ds)
def fR(g:List D->R D)(f:aq->R (List D)):FX:=λρ=>(f ρ).bind g
def Fc{r:List V->Hp->VK->Prop}{g:List D->Option D}{f:aq->R (List D)}(s:B8 X.K r g):∀σ H Q,tF X (fL g f) σ H Q->PH r (Np X f) σ H Q:=λσ H Q ⟨O,ρ,E,hF⟩=>
 ⟨O,ρ,E,(js.bind hF).imp fun ds hF vs H1 s1 d1=>by
  obtain⟨d,e,q⟩:=js.rO hF;exact s ds d vs O H1 Q (E.all.same s1) e d1 λv H2 s2 d2=>q v H2 (s1.trans s2) d2⟩
def uJ(f:aq->R Bool):aq->R Bool:=λρ=>(f ρ).bind λb=>.ok (!b)
def Gh(f g:aq->R Bool):aq->R Bool:=λρ=>(f ρ).bind λb=>if b then g ρ else .ok false
def En(f g:aq->R Bool):aq->R Bool:=λρ=>(f ρ).bind λb=>if b then .ok true else g ρ
variable{a b c:UZ}{rest:List UZ}{pos:Pos}{f g:aq->R Bool}
def Py(h:FT X a f):FT X (.UnaryOp .Not a pos) (uJ f):=PT.weak (JP h) λσ H Q ⟨O,ρ,E,hF⟩=>⟨O,ρ,E,(js.bind hF).imp λb q H1 s1=>q H1 s1⟩
def N0(h:FT X a f):FW X (.BoolOp .And [a] pos) f:=HG h
def PD(h:FT X a f):FW X (.BoolOp .Or [a] pos) f:=Kl h
def PL(ha:FT X a f)(hb:FW X (.BoolOp .And (b::rest) pos) g):FW X (.BoolOp .And (a::b::rest) pos) (Gh f g):=PW.weak (Kx ha hb) λσ H Q ⟨O,ρ,E,hF⟩=>⟨O,ρ,E,(js.bind hF).imp λc hF H1 s1=>by
 cases c with
 |true=>exact CW ⟨O,ρ,E.same s1,(hF.mono s1).imp λb q H2 s2=>q H2 (s1.trans s2)⟩
 |false=>exact DS (hF H1 s1)⟩
def Qb(ha:FT X a f)(hb:FW X (.BoolOp .Or (b::rest) pos) g):FW X (.BoolOp .Or (a::b::rest) pos) (En f g):=PW.weak (LZ ha hb) λσ H Q ⟨O,ρ,E,hF⟩=>⟨O,ρ,E,(js.bind hF).imp λc hF H1 s1=>by
 cases c with
 |false=>exact DS ⟨O,ρ,E.same s1,(hF.mono s1).imp λb q H2 s2=>q H2 (s1.trans s2)⟩
 |true=>exact CW (hF H1 s1)⟩
def FW.ft{e:UZ}(h:FW X e f):FT X e f:=PW.pt h
def truth:D->Option Bool
 |.non=>some false
 |.bl b=>some b
 |.int i=>some (i !=0)
 |.str x=>if small x.length then some (x.length !=0)else none
 |.tup xs=>some (!xs.isEmpty)
 |.lst xs=>some (!xs.isEmpty)
 |_=>none
def fS(f:FX):aq->R Bool:=λρ=>(f ρ).bind λd=>rO (truth d)
def Bq(d:D)(k:R D):R D:=match d with
 |.bl true=>k
 |.bl false=>.ok (.bl false)
 |_=>un
def M0(d:D)(k:R D):R D:=match d with
 |.bl false=>k
 |.bl true=>.ok (.bl true)
 |_=>un
def GN:D->Option D
 |.bl b=>some (.bl (!b))
 |_=>none
def rY(f g:FX):FX:=λρ=>(f ρ).bind λd=>Bq d (g ρ)
def Od(f g:FX):FX:=λρ=>(f ρ).bind λd=>M0 d (g ρ)
def Cr(f:FX):FX:=f1 GN f
variable{fa fb:FX}
def N3{op}(h:FE X a fa):FE X (.BoolOp op [a] pos) fa:=Kp h
def Oe(ha:FE X a fa)(hb:FE X (.BoolOp .And (b::rest) pos) fb):FE X (.BoolOp .And (a::b::rest) pos) (rY fa fb):=PE.weak (Kt ha hb) λσ H Q ⟨O,ρ,E,hF⟩=>⟨O,ρ,E,(js.bind hF).imp λd hF x H1 s1 d1=>by
 cases d with
 |bl c=>
  refine⟨c,lY.mp d1,?_⟩;cases c with
  |true=>exact CW ⟨O,ρ,E.same s1,(hF.mono s1).imp λd q v H2 s2 d2=>q v H2 (s1.trans s2) d2⟩
  |false=>exact DS (hF _ H1 s1 (lY.mpr rfl))
 |_=>exact hF.elim⟩
def P4(ha:FE X a fa):FE X (.UnaryOp .Not a pos) (Cr fa):=PE.weak (J6 ha) λσ H Q ⟨O,ρ,E,hF⟩=>⟨O,ρ,E,(js.bind hF).imp λd hF x H1 s1 d1=>by
 obtain⟨d',e,q⟩:=js.rO hF;cases d with
 |bl c=>
  cases e;exact⟨c,lY.mp d1,q _ H1 s1 (lY.mpr rfl)⟩
 |_=>cases e⟩
def Qu(t:aq->R Bool)(f g:FX):FX:=λρ=>(t ρ).bind λc=>if c then f ρ else g ρ
end
end TG
namespace TG
open PySem PySem.Spec L2
variable[aU]
open PySem.SeqAt (EqAt RcAt RcNeAt)
mutual
def pyEq:D->D->Bool
 |.non,.non=>true
 |.bl a,.bl b=>a==b
 |.bl a,.int b=>(if a then 1 else 0)==b
 |.int a,.bl b=>a==(if b then 1 else 0)
 |.int a,.int b=>a==b
 |.str a,.str b=>a==b
 |.tup xs,.tup ys=>mV xs ys
 |.lst xs,.lst ys=>mV xs ys
 |.dct _ _,.dct _ _=>true
 |.obj _ _ _,.obj _ _ _=>true
 |.exc _ _ _,.exc _ _ _=>true
 |_,_=>false
def mV:List D->List D->Bool
 |[],[]=>true
 |x::xs,y::ys=>pyEq x y&&mV xs ys
 |_,_=>false
end
mutual
def qZ:∀d:D,pyEq d d=true
 |.non=>by unfold pyEq;rfl
 |.bl b=>by unfold pyEq;simp
 |.int i=>by unfold pyEq;simp
 |.str x=>by unfold pyEq;simp
 |.tup xs=>by unfold pyEq;exact pE xs
 |.lst xs=>by unfold pyEq;exact pE xs
 |.dct _ _=>by unfold pyEq;rfl
 |.obj _ _ _=>by unfold pyEq;rfl
 |.exc _ _ _=>by unfold pyEq;rfl
def pE:∀ds:List D,mV ds ds=true
 |[]=>by unfold mV;rfl
 |d::ds=>by unfold mV;rw[qZ d,pE ds];rfl
end
def AD(xs ys:List D)(j:Nat):Bool:=match xs[j]?,ys[j]? with
 |some a,some b=>pyEq a b
 |_,_=>false
def il:∀xs ys:List D,((List.range (min xs.length ys.length)).all (AD xs ys)&&xs.length==ys.length)=mV xs ys
 |[],[]=>by unfold mV;rfl
 |[],_::_=>by unfold mV;simp
 |_::_,[]=>by unfold mV;simp
 |x::xs,y::ys=>by
  have ih:=il xs ys
  conv=>rhs;unfold mV
  rw[<-ih];have e:min (x::xs).length (y::ys).length=min xs.length ys.length+1:=by simp only[QZ];omega
  rw[e,RH,RG,List.all_map];have e2:((x::xs).length==(y::ys).length)=(xs.length==ys.length):=by simp
  rw[e2,Bool.and_assoc];have e3:(List.range (min xs.length ys.length)).all (AD (x::xs) (y::ys)∘Nat.succ)=(List.range (min xs.length ys.length)).all (AD xs ys):=by
   congr 1
  rw[e3];rfl
mutual
def pl:D->Bool
 |.tup xs=>rN xs
 |.lst xs=>rN xs
 |.dct _ _=>false
 |.obj _ _ _=>false
 |.exc _ _ _=>false
 |_=>true
def rN:List D->Bool
 |[]=>true
 |x::xs=>pl x&&rN xs
end
def gS{ks vs:List D}(h:pl (.dct ks vs)=true):False:=by unfold pl at h;cases h
def iw{c:Str}{fs:List Str}{vs:List D}(h:pl (.obj c fs vs)=true):False:=by unfold pl at h;cases h
def hU{c:Str}{fs:List Str}{vs:List D}(h:pl (.exc c fs vs)=true):False:=by unfold pl at h;cases h
def oE:∀{xs:List D},rN xs=true->∀x∈xs,pl x=true
 |[],_,_,h=>nomatch h
 |x::xs,h,y,hy=>by
  unfold rN at h;rw[Rj]at h;rcases List.mem_cons.mp hy with z|z
  ·rw[z];exact h.1
  ·exact oE h.2 y z
def xO:∀{xs:List D},(∀x∈xs,pl x=true)->rN xs=true
 |[],_=>by unfold rN;rfl
 |x::xs,h=>by
  unfold rN;rw[Rj];exact⟨h x QN,xO λy hy=>h y (QO _ hy)⟩
def eI{xs:List D}:pl (.tup xs)=rN xs:=by rw[pl]
def fG{xs:List D}:pl (.lst xs)=rN xs:=by rw[pl]
def iX:Nat->D->Bool
 |n+1,.tup xs=>xs.all (iX n)
 |n+1,.lst xs=>xs.all (iX n)
 |0,.tup _=>false
 |0,.lst _=>false
 |_,.dct _ _=>false
 |_,.obj _ _ _=>false
 |_,.exc _ _ _=>false
 |_,_=>true
section
variable{X:Cx}{pins:List (UM×Obj)}{σ:St}{H:Hp}{s:UW}
def Inv.not_both(I:Inv X pins σ H s){a:UM}{xs ys:List V}(h:rk X.K H a xs)(h':pH X.K H a ys):False:=by
 obtain⟨its,_,ht,_⟩:=I.tuple h;obtain⟨its2,_,hl,_⟩:=I.list h';exact absurd rfl (SeqAt.ne_of_list_tuple hl.isList (show s.heap.IsTuple a its.toArray from ht))
mutual
def Inv.den_inj(I:Inv X pins σ H s):∀{a b:D}{v:V},pl a=true->pl b=true->cJ X.K H a v->cJ X.K H b v->a=b
 |.non,b,v,pa,pb,h,h'=>by
  rw[mz]at h;subst h;cases b with
  |non=>rfl
  |bl _=>rw[lY]at h';cases h'
  |int _=>rw[fw]at h';cases h'
  |str _=>rw[fJ]at h';cases h'
  |tup _=>rw[cK]at h';obtain⟨_,_,e,_⟩:=h';cases e
  |lst _=>rw[cT]at h';obtain⟨_,_,e,_⟩:=h';cases e
  |dct _ _=>exact(gS pb).elim
  |obj _ _ _=>exact(iw pb).elim
  |exc _ _ _=>exact(hU pb).elim
 |.bl x,b,v,pa,pb,h,h'=>by
  rw[lY]at h;subst h;cases b with
  |non=>rw[mz]at h';cases h'
  |bl _=>rw[lY]at h';cases h';rfl
  |int _=>rw[fw]at h';cases h'
  |str _=>rw[fJ]at h';cases h'
  |tup _=>rw[cK]at h';obtain⟨_,_,e,_⟩:=h';cases e
  |lst _=>rw[cT]at h';obtain⟨_,_,e,_⟩:=h';cases e
  |dct _ _=>exact(gS pb).elim
  |obj _ _ _=>exact(iw pb).elim
  |exc _ _ _=>exact(hU pb).elim
 |.int x,b,v,pa,pb,h,h'=>by
  rw[fw]at h;subst h;cases b with
  |non=>rw[mz]at h';cases h'
  |bl _=>rw[lY]at h';cases h'
  |int _=>rw[fw]at h';cases h';rfl
  |str _=>rw[fJ]at h';cases h'
  |tup _=>rw[cK]at h';obtain⟨_,_,e,_⟩:=h';cases e
  |lst _=>rw[cT]at h';obtain⟨_,_,e,_⟩:=h';cases e
  |dct _ _=>exact(gS pb).elim
  |obj _ _ _=>exact(iw pb).elim
  |exc _ _ _=>exact(hU pb).elim
 |.str x,b,v,pa,pb,h,h'=>by
  rw[fJ]at h;subst h;cases b with
  |non=>rw[mz]at h';cases h'
  |bl _=>rw[lY]at h';cases h'
  |int _=>rw[fw]at h';cases h'
  |str _=>rw[fJ]at h';cases h';rfl
  |tup _=>rw[cK]at h';obtain⟨_,_,e,_⟩:=h';cases e
  |lst _=>rw[cT]at h';obtain⟨_,_,e,_⟩:=h';cases e
  |dct _ _=>exact(gS pb).elim
  |obj _ _ _=>exact(iw pb).elim
  |exc _ _ _=>exact(hU pb).elim
 |.tup xs,b,v,pa,pb,h,h'=>by
  rw[cK]at h;obtain⟨a,vs,e,h1,h2⟩:=h;subst e;cases b with
  |non=>rw[mz]at h';cases h'
  |bl _=>rw[lY]at h';cases h'
  |int _=>rw[fw]at h';cases h'
  |str _=>rw[fJ]at h';cases h'
  |tup ys=>
   rw[cK]at h';obtain⟨a',vs',e,h1',h2'⟩:=h';cases e;have ev:=I.tuple_inj (rk.of h1) (rk.of h1');subst ev;rw[Inv.denL_inj I (by first|rw[<-eI];exact pa|rw[<-fG];exact pa) (by first|rw[<-eI];exact pb|rw[<-fG];exact pb) h2 h2']
  |lst _=>rw[cT]at h';obtain⟨_,_,e,h1',_⟩:=h';cases e;exact(Inv.not_both I (rk.of h1) h1').elim
  |dct _ _=>exact(gS pb).elim
  |obj _ _ _=>exact(iw pb).elim
  |exc _ _ _=>exact(hU pb).elim
 |.lst xs,b,v,pa,pb,h,h'=>by
  rw[cT]at h;obtain⟨a,vs,e,h1,h2⟩:=h;subst e;cases b with
  |non=>rw[mz]at h';cases h'
  |bl _=>rw[lY]at h';cases h'
  |int _=>rw[fw]at h';cases h'
  |str _=>rw[fJ]at h';cases h'
  |lst ys=>
   rw[cT]at h';obtain⟨a',vs',e,h1',h2'⟩:=h';cases e;have ev:=I.list_inj h1 h1';subst ev;rw[Inv.denL_inj I (by first|rw[<-eI];exact pa|rw[<-fG];exact pa) (by first|rw[<-eI];exact pb|rw[<-fG];exact pb) h2 h2']
  |tup _=>rw[cK]at h';obtain⟨_,_,e,h1',_⟩:=h';cases e;exact(Inv.not_both I (rk.of h1') h1).elim
  |dct _ _=>exact(gS pb).elim
  |obj _ _ _=>exact(iw pb).elim
  |exc _ _ _=>exact(hU pb).elim
 |.dct _ _,_,_,pa,_,_,_=>(gS pa).elim
 |.obj _ _ _,_,_,pa,_,_,_=>(iw pa).elim
 |.exc _ _ _,_,_,pa,_,_,_=>(hU pa).elim
def Inv.denL_inj(I:Inv X pins σ H s):∀{as bs:List D}{vs:List V},rN as=true->rN bs=true->bb X.K H as vs->bb X.K H bs vs->as=bs
 |[],bs,vs,pa,pb,h,h'=>by
  rw[cI]at h;subst h;cases bs with
  |nil=>rfl
  |cons b bs=>rw[bo]at h';obtain⟨_,_,e,_⟩:=h';cases e
 |a::as,bs,vs,pa,pb,h,h'=>by
  rw[bo]at h;obtain⟨v,r,e,h1,h2⟩:=h;subst e;cases bs with
  |nil=>rw[cI]at h';cases h'
  |cons b bs=>
   rw[bo]at h';obtain⟨v',r',e,h1',h2'⟩:=h';cases e;unfold rN at pa pb;rw[Rj]at pa pb;rw[Inv.den_inj I pa.1 pb.1 h1 h1',Inv.denL_inj I pa.2 pb.2 h2 h2']
end
def oS:D->Option V
 |.non=>some .non
 |.bl b=>some (.bl b)
 |.int i=>some (.int i)
 |.str x=>some (.str x)
 |_=>none
def qM{K:Tt}{d:D}{v x:V}(h:oS d=some x)(hd:cJ K H d v):v=x/\Fo x=true:=by
 cases d with
 |non=>cases h;exact⟨mz.mp hd,rfl⟩
 |bl b=>cases h;exact⟨lY.mp hd,rfl⟩
 |int i=>cases h;exact⟨fw.mp hd,rfl⟩
 |str y=>cases h;exact⟨fJ.mp hd,rfl⟩
 |_=>cases h
def Iq{a b:D}{x y:V}(ha:oS a=some x)(hb:oS b=some y):OB x y=pyEq a b:=by
 cases a<;>cases ha<;>cases b<;>cases hb<;>(unfold pyEq OB;rfl)
def yJ{a:D}{x:V}(n:Nat)(h:oS a=some x):iX n a=true:=by
 cases a with
 |tup _=>cases h
 |lst _=>cases h
 |dct _ _=>cases h
 |obj _ _ _=>cases h
 |exc _ _ _=>cases h
 |_=>cases n<;>rfl
def zk{a:D}(h:oS a=none):iX 0 a=false:=by
 cases a with
 |tup _=>rfl
 |lst _=>rfl
 |dct _ _=>rfl
 |obj _ _ _=>rfl
 |exc _ _ _=>rfl
 |_=>cases h
theorem in1_units(A:UV):A.in1.units=A.units+1:=rfl
def pQ{vs:List V}{us:List UJ}(r:Vals vs us){j:Nat}(h:j<us.toArray.size):∃x,vs[j]?=some x/\RelV x us.toArray[j]:=by
 have hj:j<us.length:=by simpa using h
 have hl:=r.length;have hv:j<vs.length:=by omega
 obtain⟨u,e,ru⟩:=r.get (i:=j) (x:=vs[j]) (by simp[hv]);refine⟨vs[j],by simp[hv],?_⟩;have e2:us.toArray[j]=u:=by
  rw[RJ hj]at e
  simpa using Option.some.inj e
 rw[e2];exact ru
def pJ{K:Tt}{ds:List D}{vs:List V}(h:bb K H ds vs){j:Nat}{x:V}(e:vs[j]?=some x):∃d,ds[j]?=some d/\cJ K H d x:=by
 have hj:j<vs.length:=(List.getElem?_eq_some_iff.mp e).1;have hl:=h.length;have hd:j<ds.length:=by omega
 obtain⟨v,e1,e2⟩:=h.get (i:=j) (d:=ds[j]) (by simp[hd]);rw[e]at e1;cases e1;exact⟨ds[j],by simp[hd],e2⟩
def Ew(I:Inv X pins σ H s):∀(n:Nat)(a b:D)(x y:V)(u v:UJ)(A:UV),pl a=true->pl b=true->(iX n a=true\/iX n b=true)->cJ X.K H a x->cJ X.K H b y->RelV x u->RelV y v->A.units+n<Vo->EqAt A s u v (pyEq a b):=by
 intro n
 induction n with
 |zero=>
  intro a b x y u v A pa pb hd ha hb ru rv hA;have hu:A.units<Vo:=hA;cases ha':oS a with
  |some x'=>
   obtain⟨e,f⟩:=qM ha' ha;subst e;cases hb':oS b with
   |some y'=>
    obtain⟨e,f'⟩:=qM hb' hb;subst e;rw[<-Iq ha' hb'];exact Kh ru rv f f'
   |none=>
    cases b with
    |tup ys=>
     rw[cK]at hb;obtain⟨p,vs,e,h1,h2⟩:=hb;subst e;cases rv;obtain⟨its,_,ht,_⟩:=I.tuple (rk.of h1);have ht':s.heap.IsTuple p its.toArray:=ht;cases a with
     |non=>cases ha';cases ru;unfold pyEq;exact .none_tuple ht' hu
     |bl z=>cases ha';cases ru;unfold pyEq;exact .bool_tuple z ht' hu
     |int z=>cases ha';obtain⟨t,rfl⟩:=ru;unfold pyEq;exact .int_tuple z t ht' hu
     |str z=>cases ha';obtain⟨t,rfl⟩:=ru;unfold pyEq;exact .str_tuple z t ht' hu
     |_=>cases ha'
    |lst ys=>
     rw[cT]at hb;obtain⟨p,vs,e,h1,h2⟩:=hb;subst e;cases rv;obtain⟨its,_,ht,_⟩:=I.list h1;have ht':s.heap.IsList p its.toArray:=ht.isList;cases a with
     |non=>cases ha';cases ru;unfold pyEq;exact .none_list ht' hu
     |bl z=>cases ha';cases ru;unfold pyEq;exact .bool_list z ht' hu
     |int z=>cases ha';obtain⟨t,rfl⟩:=ru;unfold pyEq;exact .int_list z t ht' hu
     |str z=>cases ha';obtain⟨t,rfl⟩:=ru;unfold pyEq;exact .str_list z t ht' hu
     |_=>cases ha'
    |dct _ _=>exact(gS pb).elim
    |obj _ _ _=>exact(iw pb).elim
    |exc _ _ _=>exact(hU pb).elim
    |_=>cases hb'
  |none=>
   have hdb:iX 0 b=true:=by
    rcases hd with hd|hd
    ·rw[zk ha']at hd;cases hd
    ·exact hd
   cases hb':oS b with
   |none=>rw[zk hb']at hdb;cases hdb
   |some y'=>
    obtain⟨e,f'⟩:=qM hb' hb;subst e;cases a with
    |tup xs=>
     rw[cK]at ha;obtain⟨p,vs,e,h1,h2⟩:=ha;subst e;cases ru;obtain⟨its,_,ht,_⟩:=I.tuple (rk.of h1);have ht':s.heap.IsTuple p its.toArray:=ht;cases b with
     |non=>cases hb';cases rv;unfold pyEq;exact .tuple_none ht' hu
     |bl z=>cases hb';cases rv;unfold pyEq;exact .tuple_bool z ht' hu
     |int z=>cases hb';obtain⟨t,rfl⟩:=rv;unfold pyEq;exact .tuple_int z t ht' hu
     |str z=>cases hb';obtain⟨t,rfl⟩:=rv;unfold pyEq;exact .tuple_str z t ht' hu
     |_=>cases hb'
    |lst xs=>
     rw[cT]at ha;obtain⟨p,vs,e,h1,h2⟩:=ha;subst e;cases ru;obtain⟨its,_,ht,_⟩:=I.list h1;have ht':s.heap.IsList p its.toArray:=ht.isList;cases b with
     |non=>cases hb';cases rv;unfold pyEq;exact .list_none ht' hu
     |bl z=>cases hb';cases rv;unfold pyEq;exact .list_bool z ht' hu
     |int z=>cases hb';obtain⟨t,rfl⟩:=rv;unfold pyEq;exact .list_int z t ht' hu
     |str z=>cases hb';obtain⟨t,rfl⟩:=rv;unfold pyEq;exact .list_str z t ht' hu
     |_=>cases hb'
    |dct _ _=>exact(gS pa).elim
    |obj _ _ _=>exact(iw pa).elim
    |exc _ _ _=>exact(hU pa).elim
    |_=>cases ha'
 |succ n ih=>
  intro a b x y u v A pa pb hd ha hb ru rv hA;have hu:A.units<Vo:=by omega
  have flatWay:(∀xs ys,¬(a=.tup xs/\b=.tup ys))->(∀xs ys,¬(a=.lst xs/\b=.lst ys))->EqAt A s u v (pyEq a b):=by
   intro n1 n2;cases ha':oS a with
   |some x'=>exact ih a b x y u v A pa pb (.inl (yJ n ha')) ha hb ru rv ‹0›
   |none=>
    cases hb':oS b with
    |some y'=>exact ih a b x y u v A pa pb (.inr (yJ n hb')) ha hb ru rv ‹0›
    |none=>
     cases a with
     |tup xs=>
      cases b with
      |tup ys=>exact absurd ⟨rfl,rfl⟩ (n1 xs ys)
      |lst ys=>
       rw[cK]at ha;obtain⟨p,vs,e,h1,h2⟩:=ha;subst e;rw[cT]at hb;obtain⟨p',vs',e,h1',h2'⟩:=hb;subst e;cases ru;cases rv;obtain⟨its,_,ht,_⟩:=I.tuple (rk.of h1);obtain⟨its2,_,ht2,_⟩:=I.list h1';unfold pyEq;exact .tuple_list (show s.heap.IsTuple p its.toArray from ht) ht2.isList hu
      |dct _ _=>exact(gS pb).elim
      |obj _ _ _=>exact(iw pb).elim
      |exc _ _ _=>exact(hU pb).elim
      |_=>cases hb'
     |lst xs=>
      cases b with
      |lst ys=>exact absurd ⟨rfl,rfl⟩ (n2 xs ys)
      |tup ys=>
       rw[cT]at ha;obtain⟨p,vs,e,h1,h2⟩:=ha;subst e;rw[cK]at hb;obtain⟨p',vs',e,h1',h2'⟩:=hb;subst e;cases ru;cases rv;obtain⟨its,_,ht,_⟩:=I.list h1;obtain⟨its2,_,ht2,_⟩:=I.tuple (rk.of h1');unfold pyEq;exact .list_tuple ht.isList (show s.heap.IsTuple p' its2.toArray from ht2) hu
      |dct _ _=>exact(gS pb).elim
      |obj _ _ _=>exact(iw pb).elim
      |exc _ _ _=>exact(hU pb).elim
      |_=>cases hb'
     |dct _ _=>exact(gS pa).elim
     |obj _ _ _=>exact(iw pa).elim
     |exc _ _ _=>exact(hU pa).elim
     |_=>cases ha'
  have items:∀(xs ys:List D)(vs vs':List V)(its its':List UJ),rN xs=true->rN ys=true->(iX (n+1) (.tup xs)=true\/iX (n+1) (.tup ys)=true)->bb X.K H xs vs->bb X.K H ys vs'->Vals vs its->Vals vs' its'->
    ∀j (h1:j<its.toArray.size) (h2:j<its'.toArray.size),EqAt A.in1 s its.toArray[j] its'.toArray[j] (AD xs ys j):=by
   intro xs ys vs vs' its its' px py hdd hx hy rx ry j h1 h2;obtain⟨w1,e1,r1⟩:=pQ rx h1;obtain⟨w2,e2,r2⟩:=pQ ry h2;obtain⟨d1,f1,g1⟩:=pJ hx e1;obtain⟨d2,f2,g2⟩:=pJ hy e2;have e3:AD xs ys j=pyEq d1 d2:=(by unfold AD;rw[f1,f2]);rw[e3];refine ih d1 d2 w1 w2 _ _ A.in1 (oE px _ (Rf f1)) (oE py _ (Rf f2)) ?_ g1 g2 r1 r2 (by rw[in1_units];omega);rcases hdd with hdd|hdd
   ·exact .inl (List.all_eq_true.mp hdd d1 (Rf f1))
   ·exact .inr (List.all_eq_true.mp hdd d2 (Rf f2))
  by_cases hT:∃xs ys,a=.tup xs/\b=.tup ys
  ·obtain⟨xs,ys,rfl,rfl⟩:=hT;have da:=ha;have db:=hb;rw[cK]at ha hb;obtain⟨p,vs,e,h1,h2⟩:=ha;subst e;obtain⟨p',vs',e,h1',h2'⟩:=hb;subst e;cases ru;cases rv;by_cases hp:p=p'
   ·subst hp;have e:=Inv.den_inj I pa pb da db;rw[e,qZ];exact EqAt.same _
   ·obtain⟨its,rv1,ht,_⟩:=I.tuple (rk.of h1);obtain⟨its2,rv2,ht2,_⟩:=I.tuple (rk.of h1');refine EqAt.of_refs hp ?_;have q:=RcAt.tuples (e:=AD xs ys) (show s.heap.IsTuple p its.toArray from ht) (show s.heap.IsTuple p' its2.toArray from ht2) hu (items xs ys vs vs' its its2 (by first|rw[<-eI];exact pa|rw[<-fG];exact pa) (by first|rw[<-eI];exact pb|rw[<-fG];exact pb) hd h2 h2' rv1 rv2);have z1:its.toArray.size=xs.length:=(by rw[QX,<-rv1.length,<-h2.length]);have z2:its2.toArray.size=ys.length:=(by rw[QX,<-rv2.length,<-h2'.length]);rw[z1,z2,il]at q;unfold pyEq;exact q
  ·by_cases hL:∃xs ys,a=.lst xs/\b=.lst ys
   ·obtain⟨xs,ys,rfl,rfl⟩:=hL;have da:=ha;have db:=hb;rw[cT]at ha hb;obtain⟨p,vs,e,h1,h2⟩:=ha;subst e;obtain⟨p',vs',e,h1',h2'⟩:=hb;subst e;cases ru;cases rv;by_cases hp:p=p'
    ·subst hp;have e:=Inv.den_inj I pa pb da db;rw[e,qZ];exact EqAt.same _
    ·obtain⟨its,rv1,ht,_⟩:=I.list h1;obtain⟨its2,rv2,ht2,_⟩:=I.list h1';refine EqAt.of_refs hp ?_;have z1:its.toArray.size=xs.length:=(by rw[QX,<-rv1.length,<-h2.length]);have z2:its2.toArray.size=ys.length:=(by rw[QX,<-rv2.length,<-h2'.length]);have er:=il xs ys;by_cases hz:its.toArray.size=its2.toArray.size
     ·have q:=RcAt.lists (e:=AD xs ys) ht.isList ht2.isList hz hu (items xs ys vs vs' its its2 (by first|rw[<-eI];exact pa|rw[<-fG];exact pa) (by first|rw[<-eI];exact pb|rw[<-fG];exact pb) hd h2 h2' rv1 rv2);rw[z1]at q;have hz':xs.length=ys.length:=(by omega);rw[<-hz',RK]at er;simp only[beq_self_eq_true,RL]at er;rw[er]at q;unfold pyEq;exact q
     ·have hne:(its.toArray.size !=its2.toArray.size)=true:=(by simpa using hz);have q:=RcAt.lists_lengths (A:=A) ht.isList ht2.isList hne hu;have hz':(xs.length==ys.length)=false:=by
       rw[z1,z2]at hz
       simpa using hz
      rw[hz',Rn]at er;unfold pyEq;rw[<-er];exact q
   ·exact flatWay (λxs ys z=>hT ⟨xs,ys,z⟩) λxs ys z=>hL ⟨xs,ys,z⟩
end
end TG
namespace TG
open PySem PySem.Spec L2
variable[aU]
open PySem.SeqAt (EqAt RcAt RcNeAt)
section
variable{X:Cx}{pins:List (UM×Obj)}{σ:St}{H:Hp}{s:UW}
def sI(I:Inv X pins σ H s){n:Nat}{xs ys:List D}{vs vs':List V}{its its':List UJ}{A:UV}(px:rN xs=true)(py:rN ys=true)(hdd:iX (n+1) (.tup xs)=true\/iX (n+1) (.tup ys)=true)(hx:bb X.K H xs vs)(hy:bb X.K H ys vs')(rx:Vals vs its)(ry:Vals vs' its')(hA:A.units+n<Vo):
  ∀j (h1:j<its.toArray.size) (h2:j<its'.toArray.size),EqAt A s its.toArray[j] its'.toArray[j] (AD xs ys j):=by
 intro j h1 h2;obtain⟨w1,e1,r1⟩:=pQ rx h1;obtain⟨w2,e2,r2⟩:=pQ ry h2;obtain⟨d1,f1,g1⟩:=pJ hx e1;obtain⟨d2,f2,g2⟩:=pJ hy e2;have e3:AD xs ys j=pyEq d1 d2:=by unfold AD;rw[f1,f2]
 rw[e3];refine Ew I n d1 d2 w1 w2 _ _ A (oE px _ (Rf f1)) (oE py _ (Rf f2)) ?_ g1 g2 r1 r2 hA;rcases hdd with hdd|hdd
 ·exact .inl (List.all_eq_true.mp hdd d1 (Rf f1))
 ·exact .inr (List.all_eq_true.mp hdd d2 (Rf f2))
inductive Way(I:Inv X pins σ H s):D->UJ->Prop where
 |non:Way I .non .none
 |bl (b:Bool):Way I (.bl b) (.bool b)
 |int (i:Int) (t:Tok):Way I (.int i) (.int i t)
 |str (x:Str) (t:Tok):Way I (.str x) (.str x t)
 |tup {xs:List D} {p:UM} {vs:List V} {its:List UJ} (h:bb X.K H xs vs) (r:Vals vs its) (t:s.heap.IsTuple p its.toArray):Way I (.tup xs) (.ref p)
 |lst {xs:List D} {p:UM} {vs:List V} {its:List UJ} (h:bb X.K H xs vs) (r:Vals vs its) (t:s.heap.IsList p its.toArray):Way I (.lst xs) (.ref p)
def top:D->Bool
 |.dct _ _=>false
 |.obj _ _ _=>false
 |.exc _ _ _=>false
 |_=>true
def gz{d:D}(h:pl d=true):top d=true:=by
 cases d with
 |dct _ _=>exact(gS h).elim
 |obj _ _ _=>exact(iw h).elim
 |exc _ _ _=>exact(hU h).elim
 |_=>rfl
def fW(I:Inv X pins σ H s){d:D}{v:V}{u:UJ}(pd:top d=true)(h:cJ X.K H d v)(r:RelV v u):Way I d u:=by
 cases d with
 |non=>rw[mz]at h;subst h;cases r;exact .non
 |bl b=>rw[lY]at h;subst h;cases r;exact .bl b
 |int i=>rw[fw]at h;subst h;obtain⟨t,rfl⟩:=r;exact .int i t
 |str x=>rw[fJ]at h;subst h;obtain⟨t,rfl⟩:=r;exact .str x t
 |tup xs=>
  rw[cK]at h;obtain⟨p,vs,e,h1,h2⟩:=h;subst e;cases r;obtain⟨its,rv,ht,_⟩:=I.tuple (rk.of h1);exact .tup h2 rv ht
 |lst xs=>
  rw[cT]at h;obtain⟨p,vs,e,h1,h2⟩:=h;subst e;cases r;obtain⟨its,rv,ht,_⟩:=I.list h1;exact .lst h2 rv ht.isList
 |dct _ _=>cases pd
 |obj _ _ _=>cases pd
 |exc _ _ _=>cases pd
def JW(I:Inv X pins σ H s){n:Nat}{a b:D}{x y:V}{u v:UJ}{A:UV}(pa:pl a=true)(pb:pl b=true)(hd:iX (n+1) a=true\/iX (n+1) b=true)(ha:cJ X.K H a x)(hb:cJ X.K H b y)(ru:RelV x u)(rv:RelV y v)(hA:A.units+n+1<Vo):RcAt A s u v (pyEq a b):=by
 have hu:A.units<Vo:=by omega
 cases fW I (gz pa) ha ru with
 |non=>cases fW I (gz pb) hb rv with
  |non=>unfold pyEq;exact .none_none
  |bl b=>unfold pyEq;exact .none_bool b
  |int i t=>unfold pyEq;exact .none_int i t
  |str x t=>unfold pyEq;exact .none_str x t
  |tup h r t=>unfold pyEq;exact .none_tuple t hu
  |lst h r t=>unfold pyEq;exact .none_list t hu
 |bl z=>cases fW I (gz pb) hb rv with
  |non=>unfold pyEq;exact .bool_none z
  |bl b=>unfold pyEq;exact .bool_bool z b
  |int i t=>unfold pyEq;exact .bool_int z i t
  |str x t=>unfold pyEq;exact .bool_str z x t
  |tup h r t=>unfold pyEq;exact .bool_tuple z t hu
  |lst h r t=>unfold pyEq;exact .bool_list z t hu
 |int z tz=>cases fW I (gz pb) hb rv with
  |non=>unfold pyEq;exact .int_none z tz
  |bl b=>unfold pyEq;exact .int_bool z tz b
  |int i t=>unfold pyEq;exact .int_int z tz i t
  |str x t=>unfold pyEq;exact .int_str z tz x t
  |tup h r t=>unfold pyEq;exact .int_tuple z tz t hu
  |lst h r t=>unfold pyEq;exact .int_list z tz t hu
 |str z tz=>cases fW I (gz pb) hb rv with
  |non=>unfold pyEq;exact .str_none z tz
  |bl b=>unfold pyEq;exact .str_bool z tz b
  |int i t=>unfold pyEq;exact .str_int z tz i t
  |str x t=>unfold pyEq;exact .str_str z tz x t
  |tup h r t=>unfold pyEq;exact .str_tuple z tz t hu
  |lst h r t=>unfold pyEq;exact .str_list z tz t hu
 |@tup xs p vs its h1 r1 t1=>cases fW I (gz pb) hb rv with
  |non=>unfold pyEq;exact .tuple_none t1 hu
  |bl b=>unfold pyEq;exact .tuple_bool b t1 hu
  |int i t=>unfold pyEq;exact .tuple_int i t t1 hu
  |str x t=>unfold pyEq;exact .tuple_str x t t1 hu
  |@tup ys p' vs' its' h2 r2 t2=>
   have q:=RcAt.tuples (e:=AD xs ys) t1 t2 hu (sI (A:=A.in1) I (by first|rw[<-eI];exact pa|rw[<-fG];exact pa) (by first|rw[<-eI];exact pb|rw[<-fG];exact pb) hd h1 h2 r1 r2 (by rw[in1_units];omega));have z1:its.toArray.size=xs.length:=(by rw[QX,<-r1.length,<-h1.length]);have z2:its'.toArray.size=ys.length:=(by rw[QX,<-r2.length,<-h2.length]);rw[z1,z2,il]at q;unfold pyEq;exact q
  |lst h r t=>unfold pyEq;exact .tuple_list t1 t hu
 |@lst xs p vs its h1 r1 t1=>cases fW I (gz pb) hb rv with
  |non=>unfold pyEq;exact .list_none t1 hu
  |bl b=>unfold pyEq;exact .list_bool b t1 hu
  |int i t=>unfold pyEq;exact .list_int i t t1 hu
  |str x t=>unfold pyEq;exact .list_str x t t1 hu
  |tup h r t=>unfold pyEq;exact .list_tuple t1 t hu
  |@lst ys p' vs' its' h2 r2 t2=>
   have z1:its.toArray.size=xs.length:=(by rw[QX,<-r1.length,<-h1.length]);have z2:its'.toArray.size=ys.length:=(by rw[QX,<-r2.length,<-h2.length]);have er:=il xs ys;by_cases hz:its.toArray.size=its'.toArray.size
   ·have q:=RcAt.lists (e:=AD xs ys) t1 t2 hz hu (sI (A:=A.in1) I (by first|rw[<-eI];exact pa|rw[<-fG];exact pa) (by first|rw[<-eI];exact pb|rw[<-fG];exact pb) hd h1 h2 r1 r2 (by rw[in1_units];omega));rw[z1]at q;have hz':xs.length=ys.length:=(by omega);rw[<-hz',RK]at er;simp only[beq_self_eq_true,RL]at er;rw[er]at q;unfold pyEq;exact q
   ·have q:=RcAt.lists_lengths (A:=A) t1 t2 (by simpa using hz) hu;have hz':(xs.length==ys.length)=false:=by
     rw[z1,z2]at hz
     simpa using hz
    rw[hz',Rn]at er;unfold pyEq;rw[<-er];exact q
def Gw(I:Inv X pins σ H s){n:Nat}{a b:D}{x y:V}{u v:UJ}{A:UV}(pa:pl a=true)(pb:pl b=true)(hd:iX (n+1) a=true\/iX (n+1) b=true)(ha:cJ X.K H a x)(hb:cJ X.K H b y)(ru:RelV x u)(rv:RelV y v)(hA:A.units+n+1<Vo):RcNeAt A s u v (!pyEq a b):=by
 have hu:A.units<Vo:=by omega
 cases fW I (gz pa) ha ru with
 |non=>cases fW I (gz pb) hb rv with
  |non=>unfold pyEq;exact .none_none
  |bl b=>unfold pyEq;exact .none_bool b
  |int i t=>unfold pyEq;exact .none_int i t
  |str x t=>unfold pyEq;exact .none_str x t
  |tup h r t=>unfold pyEq;exact .none_tuple t hu
  |lst h r t=>unfold pyEq;exact .none_list t hu
 |bl z=>cases fW I (gz pb) hb rv with
  |non=>unfold pyEq;exact .bool_none z
  |bl b=>unfold pyEq;exact .bool_bool z b
  |int i t=>unfold pyEq;exact .bool_int z i t
  |str x t=>unfold pyEq;exact .bool_str z x t
  |tup h r t=>unfold pyEq;exact .bool_tuple z t hu
  |lst h r t=>unfold pyEq;exact .bool_list z t hu
 |int z tz=>cases fW I (gz pb) hb rv with
  |non=>unfold pyEq;exact .int_none z tz
  |bl b=>unfold pyEq;exact .int_bool z tz b
  |int i t=>unfold pyEq;exact .int_int z tz i t
  |str x t=>unfold pyEq;exact .int_str z tz x t
  |tup h r t=>unfold pyEq;exact .int_tuple z tz t hu
  |lst h r t=>unfold pyEq;exact .int_list z tz t hu
 |str z tz=>cases fW I (gz pb) hb rv with
  |non=>unfold pyEq;exact .str_none z tz
  |bl b=>unfold pyEq;exact .str_bool z tz b
  |int i t=>unfold pyEq;exact .str_int z tz i t
  |str x t=>unfold pyEq;exact .str_str z tz x t
  |tup h r t=>unfold pyEq;exact .str_tuple z tz t hu
  |lst h r t=>unfold pyEq;exact .str_list z tz t hu
 |@tup xs p vs its h1 r1 t1=>cases fW I (gz pb) hb rv with
  |non=>unfold pyEq;exact .tuple_none t1 hu
  |bl b=>unfold pyEq;exact .tuple_bool b t1 hu
  |int i t=>unfold pyEq;exact .tuple_int i t t1 hu
  |str x t=>unfold pyEq;exact .tuple_str x t t1 hu
  |@tup ys p' vs' its' h2 r2 t2=>
   have q:=RcNeAt.tuples (e:=AD xs ys) t1 t2 hu (sI (A:=A.in1) I (by first|rw[<-eI];exact pa|rw[<-fG];exact pa) (by first|rw[<-eI];exact pb|rw[<-fG];exact pb) hd h1 h2 r1 r2 (by rw[in1_units];omega));have z1:its.toArray.size=xs.length:=(by rw[QX,<-r1.length,<-h1.length]);have z2:its'.toArray.size=ys.length:=(by rw[QX,<-r2.length,<-h2.length]);rw[z1,z2,il]at q;unfold pyEq;exact q
  |lst h r t=>unfold pyEq;exact .tuple_list t1 t hu
 |@lst xs p vs its h1 r1 t1=>cases fW I (gz pb) hb rv with
  |non=>unfold pyEq;exact .list_none t1 hu
  |bl b=>unfold pyEq;exact .list_bool b t1 hu
  |int i t=>unfold pyEq;exact .list_int i t t1 hu
  |str x t=>unfold pyEq;exact .list_str x t t1 hu
  |tup h r t=>unfold pyEq;exact .list_tuple t1 t hu
  |@lst ys p' vs' its' h2 r2 t2=>
   have z1:its.toArray.size=xs.length:=(by rw[QX,<-r1.length,<-h1.length]);have z2:its'.toArray.size=ys.length:=(by rw[QX,<-r2.length,<-h2.length]);have er:=il xs ys;by_cases hz:its.toArray.size=its'.toArray.size
   ·have q:=RcNeAt.lists (e:=AD xs ys) t1 t2 hz hu (sI (A:=A.in1) I (by first|rw[<-eI];exact pa|rw[<-fG];exact pa) (by first|rw[<-eI];exact pb|rw[<-fG];exact pb) hd h1 h2 r1 r2 (by rw[in1_units];omega));rw[z1]at q;have hz':xs.length=ys.length:=(by omega);rw[<-hz',RK]at er;simp only[beq_self_eq_true,RL]at er;rw[er]at q;unfold pyEq;exact q
   ·have q:=RcNeAt.lists_lengths (A:=A) t1 t2 (by simpa using hz) hu;have hz':(xs.length==ys.length)=false:=by
     rw[z1,z2]at hz
     simpa using hz
    rw[hz',Rn]at er;unfold pyEq;rw[<-er];exact q
end
section
variable{X:Cx}
def rD(K:Tt)(g:D->D->Option D):R2:=λx y H Q=>∃O a b d,dS H O/\cJ K (hid H O) a x/\cJ K (hid H O) b y/\g a b=some d/\∀v H',bj H H'->cJ K (hid H' O) d v->Q v H'
def au{K:Tt}{g:D->D->Option D}:cX K (rD K g) g:=λa b d x y O H Q hO hg ha hb q=>⟨O,a,b,d,hO,ha,hb,hg,q⟩
def uz{f : UJ -> UJ -> Sem UJ}{g : D -> D -> Option D}(h : ∀ (pins : List (UM × Obj)) (s : UW) (σ : St) (H : Hp) (a b d : D) (x y : V) (u v : UJ), Inv X pins σ H s -> cJ X.K H a x -> cJ X.K H b y -> RelV x u -> RelV y v -> g a b = some d ->
      ∃c,d=.bl c/\∀(Q:UJ->UW->Prop),Q (.bool c) s->UY (model X.prog X.w) X.A (f u v) Q X.xe s):kn X f (rD X.K g):=by
  intro pins s σ H x y u v Q I rx ry ⟨O,a,b,d,hO,ha,hb,hg,q⟩;obtain⟨c,rfl,hq⟩:=h pins s σ H a b d x y u v I (ha.mono (aB H O)) (hb.mono (aB H O)) rx ry hg;exact hq _ ⟨.bl c,H,I,rfl,q _ H (bj.refl H) (lY.mpr rfl)⟩
def lI(a b:D):Option D:=if(pl a&&pl b)&&(iX 8 a||iX 8 b)then some (.bl (pyEq a b))else none
def G6(a b:D):Option D:=if(pl a&&pl b)&&(iX 8 a||iX 8 b)then some (.bl (!pyEq a b))else none
def eE(hu:X.A.units+64<Vo):kn X (Ve .Eq) (rD X.K lI):=uz λpins s σ H a b d x y u v I ha hb ru rv hg=>by
 obtain⟨h1,h2⟩:=bI hg;subst h2;rw[Rj,Rj,RM]at h1;exact⟨_,rfl,λQ q=>JW (n:=7) (A:=X.A) I h1.1.1 h1.1.2 h1.2 ha hb ru rv ‹0› X.prog X.w X.xe Q q⟩
def Ax(hu:X.A.units+64<Vo):kn X (Ve .NotEq) (rD X.K G6):=uz λpins s σ H a b d x y u v I ha hb ru rv hg=>by
 obtain⟨h1,h2⟩:=bI hg;subst h2;rw[Rj,Rj,RM]at h1;exact⟨_,rfl,λQ q=>Gw (n:=7) (A:=X.A) I h1.1.1 h1.1.2 h1.2 ha hb ru rv ‹0› X.prog X.w X.xe Q q⟩
def inD(x:D)(ys:List D):Bool:=ys.any λy=>pyEq y x
def Jw(x y:D):Option D:=match y with
 |.tup ys=>if(pl x&&rN ys)&&iX 8 x then some (.bl (inD x ys))else none
 |.lst ys=>if(pl x&&rN ys)&&iX 8 x then some (.bl (inD x ys))else none
 |_=>none
open Classical in
def Ju{pins:List (UM×Obj)}{σ:St}{H:Hp}{s:UW}(I:Inv X pins σ H s){xd:D}{x:V}{u:UJ}{A:UV}(px:pl xd=true)(hd:iX 8 xd=true)(hx:cJ X.K H xd x)(ru:RelV x u)(hA:A.units+8<Vo){ys:List D}{vs:List V}{its:List UJ}(py:rN ys=true)(hy:bb X.K H ys vs)(rv:Vals vs its):
  ∃e:UJ->Bool,(∀y,y∈its.toArray->EqAt A s y u (e y))/\its.toArray.any e=inD xd ys:=by
 let e:UJ->Bool:=λy=>decide (∃d w,pl d=true/\cJ X.K H d w/\RelV w y/\pyEq d xd=true)
 have he:∀d w y,pl d=true->cJ X.K H d w->RelV w y->e y=pyEq d xd:=λd w y h0 h1 h2=>by
  cases hq:pyEq d xd with
  |true=>exact decide_eq_true ⟨d,w,h0,h1,h2,hq⟩
  |false=>
   refine decide_eq_false ?_;rintro⟨d',w',g0,g1,g2,g3⟩;have ew:=RelV.inj h2 g2;subst ew;rw[Inv.den_inj I h0 g0 h1 g1,g3]at hq;cases hq
 refine⟨e,λy hy'=>?_,?_⟩
 ·have hm:y∈its:=by simpa using hy'
  obtain⟨j,hj,rfl⟩:=RN hm;obtain⟨w,e1,r1⟩:=pQ rv (j:=j) (by simpa using hj);obtain⟨d,f1,g1⟩:=pJ hy e1;have r1':RelV w its[j]:=by simpa using r1
  have pd:=oE py _ (Rf f1);rw[he d w _ pd g1 r1'];exact Ew I 8 d xd w x _ u A pd px (.inr hd) g1 hx r1' ru hA
 ·unfold inD;have go:∀(ys:List D)(vs:List V)(its:List UJ),rN ys=true->bb X.K H ys vs->Vals vs its->its.any e=ys.any λy=>pyEq y xd:=by
   intro ys
   induction ys with
   |nil=>
    intro vs its py h r;rw[cI]at h;subst h;cases r;rfl
   |cons y ys ih=>
    intro vs its py h r;unfold rN at py;rw[Rj]at py;rw[bo]at h;obtain⟨v,r',e1,h1,h2⟩:=h;subst e1;cases r with
    |cons q1 q2=>rw[Rq,Rq,he y v _ py.1 h1 q1,ih _ _ py.2 h2 q2]
  rw[List.any_toArray];exact go ys vs its py hy rv
def Gn(hu:X.A.units+64<Vo):kn X (Ve .In) (rD X.K Jw):=uz λpins s σ H a b d x y u v I ha hb ru rv hg=>by
 cases b with
 |tup ys=>
  obtain⟨h1,h2⟩:=bI hg;subst h2;rw[Rj,Rj]at h1;rw[cK]at hb;obtain⟨p,vs,e,g1,g2⟩:=hb;subst e;cases rv;obtain⟨its,r,t,_⟩:=I.tuple (rk.of g1);obtain⟨e,he,ea⟩:=Ju (A:=X.A.in1) I h1.1.1 h1.2 ha ru (by rw[in1_units];omega) h1.1.2 g2 r;exact⟨_,rfl,λQ q=>SeqAt.in_tupleAt e (show s.heap.IsTuple p its.toArray from t) he (by rw[ea];exact q)⟩
 |lst ys=>
  obtain⟨h1,h2⟩:=bI hg;subst h2;rw[Rj,Rj]at h1;rw[cT]at hb;obtain⟨p,vs,e,g1,g2⟩:=hb;subst e;cases rv;obtain⟨its,r,t,_⟩:=I.list g1;obtain⟨e,he,ea⟩:=Ju (A:=X.A.in1) I h1.1.1 h1.2 ha ru (by rw[in1_units];omega) h1.1.2 g2 r;exact⟨_,rfl,λQ q=>SeqAt.in_listAt e t.isList he (by rw[ea];exact q)⟩
 |_=>cases hg
def Jv(p:Int->Int->D)(a b:D):Option D:=match a,b with
 |.int i,.int j=>some (p i j)
 |_,_=>none
def Qv:=Jv λi j=>.bl (decide (i<j))
def Qc:=Jv λi j=>.bl (decide (i<=j))
def Pz:=Jv λi j=>.bl (decide (j<i))
def Qo:=Jv λi j=>.bl (decide (j<=i))
def oO{K:Tt}{g:Int->Int->Bool}:cX K (Df λi j=>.bl (g i j)) (Jv λi j=>.bl (g i j)):=λa b d x y O H Q hO hg ha hb q=>by
 cases a with
 |int i=>
  cases b with
  |int j=>cases hg;exact⟨i,j,fw.mp ha,fw.mp hb,q _ H (bj.refl H) (lY.mpr rfl)⟩
  |_=>cases hg
 |_=>cases hg
def uE{K:Tt}{g:Int->Int->Int}:cX K (Df λi j=>.int (g i j)) (Jv λi j=>.int (g i j)):=λa b d x y O H Q hO hg ha hb q=>by
 cases a with
 |int i=>
  cases b with
  |int j=>cases hg;exact⟨i,j,fw.mp ha,fw.mp hb,q _ H (bj.refl H) (fw.mpr rfl)⟩
  |_=>cases hg
 |_=>cases hg
def Lq(c:Int->Int->Bool)(p:Int->Int->Int)(a b:D):Option D:=match a,b with
 |.int i,.int j=>if c i j then some (.int (p i j))else none
 |_,_=>none
def kN{K:Tt}{C:Int->Int->Prop}{c:Int->Int->Bool}{g:Int->Int->Int}(hc:∀i j,c i j=true->C i j):cX K (rI C λi j=>.int (g i j)) (Lq c g):=λa b d x y O H Q hO hg ha hb q=>by
 cases a with
 |int i=>
  cases b with
  |int j=>
   obtain⟨h1,h2⟩:=bI hg;subst h2;exact⟨i,j,fw.mp ha,fw.mp hb,hc i j h1,q _ H (bj.refl H) (fw.mpr rfl)⟩
  |_=>cases hg
 |_=>cases hg
def vi:=Jv λi j=>.int (i-j)
def o5:=Lq (λi j=>decide ((-(2^64)<i/\i<2^64)\/(-(2^64)<j/\j<2^64))) (·*·)
def JL(_ j:Int):Prop:=0<j/\j<10^200
def bn:kn X (Vd .FloorDiv) (rI JL λi j=>.int (i/j)):=MN λi j _ _ _ _ _ hc q=>by
 have h1:(0:Int)<j:=hc.1;have h2:j<10^200:=hc.2;refine PyProof.Rows.floordiv_int ‹0› (by rw[QW i ‹0›];exact q) (.inl (PyProof.noPylong_of_log2 ?_));have h3:j.natAbs<10^200:=by omega
 rw[Nat.log2_lt ‹0›];exact Ru h3 (by decide +kernel)
def dN:=Lq (λ_ j=>decide (0<j/\j<10^200)) (·/·)
def cS:=Lq (λ_ j=>decide (0<j)) (·%·)
def su:=Lq (λi j=>decide (0<=j/\j<=1000000/\i.natAbs<2^64)) λi j=>i^j.toNat
def nB{K:Tt}:cX K (Df λi j=>.int (i-j)) vi:=uE
def kz{K:Tt}:cX K (rI Kc λi j=>.int (i*j)) o5:=kN λi j h=>by have q:=of_decide_eq_true h;exact q
def bV{K:Tt}:cX K (rI JL λi j=>.int (i/j)) dN:=kN λi j h=>by have q:=of_decide_eq_true h;exact q
def bB{K:Tt}:cX K (rI (λ_ j=>0<j) λi j=>.int (i%j)) cS:=kN λ_ _ h=>of_decide_eq_true h
def rp{K:Tt}:cX K (rI LI λi j=>.int (i^j.toNat)) su:=kN λi j h=>by have q:=of_decide_eq_true h;exact q
def Ms(K:Tt):R2:=λx y H Q=>∃l b xs zs,x=.ref l/\y=.ref b/\pH K H l xs/\pH K H b zs/\xs.length+zs.length<=UP/\∀p,H p=none->Q (.ref p) (upd H p (.lst (xs++zs)))
def Ht:kn X (Vd .Add) (Ms X.K):=by
 intro pins s σ H x y v u Q I rx ry h;obtain⟨l,b,xs,zs,rfl,rfl,hH,hB,hz,q⟩:=h;cases rx;cases ry;obtain⟨its,r,t1,_⟩:=I.list hH;obtain⟨its2,r2,t2,_⟩:=I.list hB;obtain⟨⟨c1,d1,dt1,sl1⟩,n1,ho,hc,hd,hdt⟩:=t1;obtain⟨⟨c2,d2,dt2,sl2⟩,n2,ho2,hc2,hd2,hdt2⟩:=t2;simp only at hc hd hdt hc2 hd2 hdt2;subst hc hd hdt hc2 hd2 hdt2;have z1:=r.length;have z2:=r2.length;refine Vy ⟨_,ho,rfl⟩ ⟨_,ho2,rfl⟩ noFill_list_add seq_list_add F.slot_list_add F.entry_list_add (F.args_list_add_2 _ _) (PyProof.Rows.list_addW l b its.toArray its2.toArray n1 n2 none none sl1 sl2 (by rw[QX,QX];omega)) ⟨ho,ho2,?_⟩;have ea:its.toArray++its2.toArray=(its++its2).toArray:=by simp
 rw[ea];exact⟨.ref _,_,I.lnew (t':=s.toks) (r.append r2) (by rw[Rg];omega),rfl,q _ I.fresh⟩
def Kq(K:Tt):R2:=λx y H Q=>∃a b xs ys,x=.ref a/\y=.ref b/\rk K H a xs/\rk K H b ys/\xs.length+ys.length<=UP/\
 (xs=[]->Q (.ref b) H)/\(xs≠[]->ys=[]->Q (.ref a) H)/\(xs≠[]->ys≠[]->∀p,H p=none->Q (.ref p) (upd H p (.tup (xs++ys))))
def FK:kn X (Vd .Add) (Kq X.K):=by
 intro pins s σ H x y v u Q I rx ry h;obtain⟨a,b,xs,ys,ex,ey,ha,hb,hz,q0,q1,q2⟩:=h;by_cases hx:xs=[]
 ·subst ex ey;cases rx;cases ry;obtain⟨its,r1,p1,_⟩:=I.tuple ha;obtain⟨its2,r2,p2,_⟩:=I.tuple hb;obtain⟨⟨cls,dd,data,sl⟩,ho,hc,n,hd⟩:=id p1;obtain⟨⟨cls2,dd2,data2,sl2⟩,ho2,hc2,n2,hd2⟩:=id p2;simp only at hc hd hc2 hd2;subst hc hd hc2 hd2;have e:its=[]:=r1.nil_iff.mpr hx;exact Vy ⟨_,ho,rfl⟩ ⟨_,ho2,rfl⟩ Vz VA F.slot_tuple_add F.entry_tuple_add (F.args_tuple_add_2 _ _)
   (PyProof.Rows.tuple_addW0 a b its.toArray its2.toArray n n2 dd dd2 sl sl2 (by rw[e];rfl)) ⟨ho,ho2,⟨.ref b,H,I,rfl,q0 hx⟩⟩
 ·exact IU pins s σ H x y v u Q I rx ry ⟨a,b,xs,ys,ex,ey,ha,hb,hx,hz,q1 hx,q2 hx⟩
def ce(a b:D):Option D:=match a,b with
 |.int i,.int j=>some (.int (i+j))
 |.str x,.str y=>if small (x.length+y.length)then some (.str (x++y))else none
 |.lst xs,.lst ys=>if small (xs.length+ys.length)then some (.lst (xs++ys))else none
 |.tup xs,.tup ys=>if small (xs.length+ys.length)then some (.tup (xs++ys))else none
 |_,_=>none
def bg:kn X (Vd .Add) (rD X.K ce):=by
 intro pins s σ H x y u v Q I rx ry ⟨O,a,b,d,hO,ha,hb,hg,q⟩;cases a with
 |int i=>
  cases b with
  |int j=>
   cases hg;exact K3 pins s σ H x y u v Q I rx ry ⟨i,j,fw.mp ha,fw.mp hb,q _ H (bj.refl H) (fw.mpr rfl)⟩
  |_=>cases hg
 |str i=>
  cases b with
  |str j=>
   obtain⟨h1,h2⟩:=bI hg;subst h2;exact Ag pins s σ H x y u v Q I rx ry ⟨i,j,fJ.mp ha,fJ.mp hb,eN h1,q _ H (bj.refl H) (fJ.mpr rfl)⟩
  |_=>cases hg
 |lst xs=>
  cases b with
  |lst ys=>
   obtain⟨h1,h2⟩:=bI hg;subst h2;rw[cT]at ha hb;obtain⟨p,vs,ex,g1,g2⟩:=ha;obtain⟨p',vs',ey,g1',g2'⟩:=hb;refine Ht pins s σ H x y u v Q I rx ry ⟨p,p',vs,vs',ex,ey,(aB H O).seq g1,(aB H O).seq g1',?_,λr hr=>?_⟩
   ·rw[<-g2.length,<-g2'.length];exact eN h1
   ·exact q _ _ (bL hr _) (dF hO hr (g2.append g2'))
  |_=>cases hg
 |tup xs=>
  cases b with
  |tup ys=>
   obtain⟨h1,h2⟩:=bI hg;subst h2;have da:=ha;have db:=hb;rw[cK]at ha hb;obtain⟨p,vs,ex,g1,g2⟩:=ha;obtain⟨p',vs',ey,g1',g2'⟩:=hb;have l1:=g2.length;have l2:=g2'.length;refine FK pins s σ H x y u v Q I rx ry ⟨p,p',vs,vs',ex,ey,bU (aB H O) g1,bU (aB H O) g1',?_,λz=>?_,λz z'=>?_,λz z' r hr=>?_⟩
   ·rw[<-l1,<-l2];exact eN h1
   ·have e:xs=[]:=List.length_eq_zero_iff.mp (by rw[l1,z];rfl);rw[<-ey];refine q _ H (bj.refl H) ?_;rw[e,RO];exact db
   ·have e:ys=[]:=List.length_eq_zero_iff.mp (by rw[l2,z'];rfl);rw[<-ex];refine q _ H (bj.refl H) ?_;rw[e,Q4];exact da
   ·exact q _ _ (bL hr _) (eX hO hr (g2.append g2'))
  |_=>cases hg
 |_=>cases hg
def aG(a b:D):Option D:=match a,b with
 |.tup xs,.int i=>pI xs i
 |.lst xs,.int i=>pI xs i
 |.str x,.int i=>if small x.length then(pI x.cps.toList i).bind λc=>some (.str ⟨#[c]⟩)else none
 |_,_=>none
def B7{K:Tt}{H:Hp}{ds:List D}{vs:List V}{i:Int}{d:D}(h:bb K H ds vs)(e:pI ds i=some d):∃v,pI vs i=some v/\cJ K H d v:=by
 unfold pI at e ⊢;obtain⟨j,e1,e2⟩:=bind_some e;rw[<-h.length,e1];exact h.get e2
def O9:LA X (rD X.K aG):=by
 intro value slice pins s σ H x y u v Q I rx ry ⟨O,a,b,d,hO,ha,hb,hg,q⟩ hsub;cases a with
 |tup xs=>
  cases b with
  |int i=>
   rw[cK]at ha;obtain⟨p,vs,ex,g1,g2⟩:=ha;obtain⟨w,e1,e2⟩:=B7 g2 hg;refine Lc value slice pins s σ H x y u v Q I rx ry ?_ hsub;exact⟨p,vs,i,w,ex,fw.mp hb,bU (aB H O) g1,e1,q w H (bj.refl H) e2⟩
  |_=>cases hg
 |lst xs=>
  cases b with
  |int i=>
   rw[cT]at ha;obtain⟨p,vs,ex,g1,g2⟩:=ha;obtain⟨w,e1,e2⟩:=B7 g2 hg;refine IW value slice pins s σ H x y u v Q I rx ry ?_ hsub;exact⟨p,vs,i,w,ex,fw.mp hb,(aB H O).seq g1,e1,q w H (bj.refl H) e2⟩
  |_=>cases hg
 |str z=>
  cases b with
  |int i=>
   have hg':(if small z.length then(pI z.cps.toList i).bind λc=>some (D.str ⟨#[c]⟩)else none)=some d:=hg;cases hs:small z.length with
   |false=>rw[hs]at hg';cases hg'
   |true=>
    rw[hs]at hg';obtain⟨c,e1,e2⟩:=bind_some hg';cases e2;refine Kg value slice pins s σ H x y u v Q I rx ry ?_ hsub;exact⟨z,i,c,fJ.mp ha,fw.mp hb,eN hs,e1,q _ H (bj.refl H) (fJ.mpr rfl)⟩
  |_=>cases hg
 |_=>cases hg
def Qe{a b:UZ}{fa fb:FX}{pos:Pos}(ha:FE X a fa)(hb:FE X b fb)(hs:xQ b):FE X (.Subscript a b pos) (f2 aG fa fb):=
 PE.weak (MO O9 ha hb hs) (x5 au)
def cutD{α:Type}(xs:List α)(lo hi:Option Int):List α:=(xs.drop (HT.sIx xs.length 0 lo)).take (HT.sIx xs.length xs.length hi-HT.sIx xs.length 0 lo)
def uZ{M:Model}{A:UV}{E:UJ->UW->Prop}{s:UW}{t:UM}{items:Array UJ}{Q:Bool->UW->Prop}(ht:Ut s.heap t items)(h:Q true s):UY M A (Builtin.Tuple.tupleIsExact (.ref t)) Q E s:=by
 unfold Builtin.Tuple.tupleIsExact;refine U7 (VG ht.typeIs ?_);exact U6 h
def jd{prog:UL}{w:UK}{A:UV}{E:UJ->UW->Prop}{s:UW}{t sl:UM}{items:Array UJ}{vl vu:UJ}{lo hi:Option Int}{Q:UJ->UW->Prop}(ht:Ut s.heap t items)(hs:s.heap.IsSliceOf sl vl vu .none)(pl:VB vl lo)(pu:VB vu hi)
  (hw:HT.sIx items.size 0 lo=0/\HT.sIx items.size items.size hi=items.size) (h:Q (.ref t) s):UY (model prog w) A (getItem (.ref t) (.ref sl)) Q E s:=by
 obtain⟨os,hos,hcs,hds⟩:=id hs;have hTs:s.TypeIs (.ref sl) "slice":=⟨os,hos,hcs⟩
 unfold getItem
 try with_reducible refine VD ?_
 first|refine U7 (U6 ?_)|skip
 refine U7 (wpAny_sequenceKey ht.typeIs (by decide) ?_);refine U7 (VE (name:=Str.ofString "__getitem__") ht.typeIs Ur
  (VF Ur ht.typeIs PyProof.Rows.entry_tuple_getitem ?_ (PyProof.Rows.args_tuple_getitem _ _)))
 show UY _ _ (Builtin.Tuple.tupleItemsOf (.ref t) >>= _) _ _ s;refine U7 (PyProof.Rows.tupleItemsOf_ ht ?_);refine U7 (VG hTs ?_);rw[if_pos (by decide)];refine U7 (HT.rq hs pl pu ?_);have hyes:(((HT.sIx items.size 0 lo:Nat):Int)==0&&(1:Int)==1&&(HT.sIx items.size items.size hi-HT.sIx items.size 0 lo)==items.size)=true:=by
  rw[hw.1,hw.2];simp
 show UY _ _ (if(((HT.sIx items.size 0 lo:Nat):Int)==0&&(1:Int)==1&&(HT.sIx items.size items.size hi-HT.sIx items.size 0 lo)==items.size)=true then _ else _) _ _ s;rw[if_pos hyes];refine U7 (uZ ht ?_);rw[if_pos rfl]
 first
  |exact U7 (VN (U6 ⟨_,rfl,U6 h⟩))
  |exact U7 (VN (U7 (U6 (U6 ⟨_,rfl,U6 h⟩))))
def tV(a:D)(lo hi:Option Int):Option D:=match a with
 |.lst xs=>some (.lst (cutD xs lo hi))
 |.tup xs=>some (.tup (cutD xs lo hi))
 |.str x=>if small x.length then some (.str ⟨(cutD x.cps.toList lo hi).toArray⟩)else none
 |_=>none
def Jg(v:Option Int)(d n:Nat)(hd:d<=n):(match v with|none=>(d:Int)|some i=>if(1:Int)>0 then max 0 (min (if i<0 then i+(n:Int)else i) (n:Int))else max (-1) (min (if i<0 then i+(n:Int)else i) ((n:Int)-1)))=((HT.sIx n d v:Nat):Int):=by
 cases v with
 |none=>rfl
 |some i=>
  show(if(1:Int)>0 then max 0 (min (if i<0 then i+(n:Int)else i) (n:Int))else max (-1) (min (if i<0 then i+(n:Int)else i) ((n:Int)-1)))=(((if i<0 then(i+(n:Int)).toNat else min i.toNat n):Nat):Int)
  rw[if_pos (by decide)];by_cases h:i<0
  ·rw[if_pos h,if_pos h];omega
  ·rw[if_neg h,if_neg h];omega
def GA(lo hi:Option Int)(n:Nat):Builtin.Str.strSliceIndices lo hi 1 n=(List.range (HT.sIx n n hi-HT.sIx n 0 lo)).map λk=>HT.sIx n 0 lo+k:=by
 have e1:=Jg lo 0 n (Q3 _);have e2:=Jg hi n n (QT _);have e:Builtin.Str.strSliceIndices lo hi 1 n=sliceRange ((HT.sIx n 0 lo:Nat):Int) ((HT.sIx n n hi:Nat):Int) 1:=by
  rw[<-e1,<-e2];cases lo<;>cases hi<;>rfl
 rw[e];unfold sliceRange;dsimp only;rw[if_pos (by decide:(1:Int)>0)];have e3:(if((HT.sIx n 0 lo:Nat):Int)<((HT.sIx n n hi:Nat):Int)then(((HT.sIx n n hi:Nat):Int)-((HT.sIx n 0 lo:Nat):Int)+1-1)/1 else 0:Int).toNat=HT.sIx n n hi-HT.sIx n 0 lo:=by
  rw[Int.ediv_one];split<;>omega
 rw[e3];refine RP λk _=>?_;omega
def Gi{α:Type}(l:List α)(a:Nat):∀n:Nat,((List.range n).map λk=>a+k).filterMap (λi=>l[i]?)=(l.drop a).take n
 |0=>by simp
 |n+1=>by
  rw[List.range_succ,RQ,List.filterMap_append,Gi l a n,RT,List.getElem?_drop];cases e:l[a+n]?<;>simp[e]
def CV(x:Str)(lo hi:Option Int):Txt.slice x lo hi=⟨(cutD x.cps.toList lo hi).toArray⟩:=by
 have hl:x.cps.toList.length=x.length:=by simp[Str.length]
 have pick:(Builtin.Str.strSliceIndices lo hi 1 x.length).filterMap (x.cps[·]?)=cutD x.cps.toList lo hi:=by
  rw[GA];have q:=Gi x.cps.toList (HT.sIx x.length 0 lo) (HT.sIx x.length x.length hi-HT.sIx x.length 0 lo);unfold cutD;rw[hl,<-q];congr 1;funext i;simp
 unfold Txt.slice;split
 ·rename_i h;have h':(Builtin.Str.strSliceIndices lo hi 1 x.length).length=x.length:=by simpa using h
  rw[GA,Q1,RU]at h';have h1:=HT.KN x.length x.length (QT _) hi;have z1:HT.sIx x.length 0 lo=0\/x.length=0:=by omega
  have e:cutD x.cps.toList lo hi=x.cps.toList:=by
   unfold cutD;rw[hl,h'];rcases z1 with z1|z1
   ·rw[z1,RE,<-hl,RV]
   ·have:x.cps.toList=[]:=List.length_eq_zero_iff.mp (by rw[hl];exact z1)
    rw[this];simp
  rw[e]
 ·rw[pick]
def O2(K:Tt):V->Option Int->Option Int->Hp->VK->Prop:=λx lo hi H Q=>∃O a d,dS H O/\cJ K (hid H O) a x/\tV a lo hi=some d/\∀v H',bj H H'->cJ K (hid H' O) d v->Q v H'
def bb.cut{K:Tt}{H:Hp}{ds:List D}{vs:List V}(h:bb K H ds vs)(lo hi:Option Int):bb K H (cutD ds lo hi) (zD vs lo hi):=by
 unfold cutD zD;rw[h.length];exact(h.drop _).take _
def OJ:NA X (O2 X.K):=by
 intro pins s σ H x v vl vu lo hi sl Q I rx hs pl pu ⟨O,a,d,hO,ha,hg,q⟩;cases a with
 |lst xs=>
  cases hg;rw[cT]at ha;obtain⟨p,vs,ex,g1,g2⟩:=ha;exact HF pins s σ H x v vl vu lo hi sl Q I rx hs pl pu ⟨p,vs,ex,(aB H O).seq g1,λr hr=>q _ _ (bL hr _) (dF hO hr (g2.cut lo hi))⟩
 |tup xs=>
  cases hg;have da:=ha;rw[cK]at ha;obtain⟨p,vs,ex,g1,g2⟩:=ha;by_cases hw:HT.sIx vs.length 0 lo=0/\HT.sIx vs.length vs.length hi=vs.length
  ·subst ex;cases rx;obtain⟨its,r,ht,hz⟩:=I.tuple (bU (aB H O) g1);have hlen:its.toArray.size=vs.length:=(by rw[QX];exact r.length.symm);refine⟨"tuple",_,PyProof.Rows.slot_tuple_getitem.lookup,ht.typeIs,jd ht hs pl pu (by rw[hlen];exact hw) ⟨.ref p,H,I,rfl,q _ H (bj.refl H) ?_⟩⟩;have e:cutD xs lo hi=xs:=by
    unfold cutD;rw[g2.length,hw.1,hw.2,RW,RE,<-g2.length,RV]
   rw[e];exact da
  ·exact Le pins s σ H x v vl vu lo hi sl Q I rx hs pl pu ⟨p,vs,ex,bU (aB H O) g1,hw,λr hr=>q _ _ (bL hr _) (eX hO hr (g2.cut lo hi))⟩
 |str z=>
  obtain⟨h1,h2⟩:=bI hg;subst h2;rw[fJ]at ha;subst ha;obtain⟨t,rfl⟩:=rx;have fin:∀t' tk,EP X pins σ Q (.str (Txt.slice z lo hi) t') {s with toks:=tk}:=λt' tk=>by
   rw[CV];exact⟨.str _,H,I.tok _,⟨_,rfl⟩,q _ H (bj.refl H) (fJ.mpr rfl)⟩
  obtain⟨os,hos,hcs,hds⟩:=id hs;have hz:=eN h1;refine⟨"str",_,F.slot_str_getitem.lookup,typeIs_str _ _ _,?_⟩;cases pl with
  |none=>
   cases pu with
   |none=>exact VO (l:=none) (u:=none) (st:=none) ⟨os,hos,hcs,hds⟩ rfl (VP ⟨QK (Txt.slice_le z _ _) hz,λt' k=>fin t' k⟩)
   |int j tj=>exact VO (l:=none) (u:=some (j,tj)) (st:=none) ⟨os,hos,hcs,hds⟩ rfl (VP ⟨QK (Txt.slice_le z _ _) hz,λt' k=>fin t' k⟩)
  |int i ti=>
   cases pu with
   |none=>exact VO (l:=some (i,ti)) (u:=none) (st:=none) ⟨os,hos,hcs,hds⟩ rfl (VP ⟨QK (Txt.slice_le z _ _) hz,λt' k=>fin t' k⟩)
   |int j tj=>exact VO (l:=some (i,ti)) (u:=some (j,tj)) (st:=none) ⟨os,hos,hcs,hds⟩ rfl (VP ⟨QK (Txt.slice_le z _ _) hz,λt' k=>fin t' k⟩)
 |_=>cases hg
def cN:aq->R (Option Int):=λ_=>.ok none
def AV:D->Option (Option Int)
 |.int i=>some (some i)
 |_=>none
def fI(f:FX):aq->R (Option Int):=λρ=>(f ρ).bind λd=>rO (AV d)
def QF(X:Cx)(F:aq->R (Option Int)):TO:=λσ H Q=>∃O ρ,d9 X.K O H ρ σ/\js X σ O H (F ρ) λo=>∀H',bj H H'->Q o H'
def FO(X:Cx)(e:Option UZ)(F:aq->R (Option Int)):Prop:=PO X e (QF X F)
def Nv:FO X none cN:=λpins s σ H Q I ⟨O,ρ,E,q⟩=>IB pins s σ H Q I (q H (bj.refl H))
def Nq{e:UZ}{f:FX}(h:FE X e f):FO X (some e) (fI f):=λpins s σ H Q I ⟨O,ρ,E,hF⟩=>
 Ic h pins s σ H Q I ⟨O,ρ,E,(js.bind hF).imp λd hF v H1 s1 d1=>by
  obtain⟨o,e,q⟩:=js.rO hF;cases d with
  |int i=>
   cases e;exact⟨i,fw.mp d1,q H1 s1⟩
  |_=>cases e⟩
def dJ(f:FX)(l h:aq->R (Option Int)):FX:=λρ=>(f ρ).bind λa=>(l ρ).bind λlo=>(h ρ).bind λhi=>rO (tV a lo hi)
def Mg{e:UZ}{f:FX}{l h:aq->R (Option Int)}{lo hi:Option UZ}{p2 pos:Pos}(he:FE X e f)(hl:FO X lo l)(hh:FO X hi h):FE X (.Subscript e (.Slice lo hi none p2) pos) (dJ f l h):=
 PE.weak (Fa OJ he hl hh) λσ H Q ⟨O,ρ,E,hF⟩=>⟨O,ρ,E,(js.bind hF).imp λa hF x H1 s1 d1=>⟨O,ρ,E.same s1,((js.bind hF).mono s1).imp λlo' hF H2 s2=>⟨O,ρ,E.same (s1.trans s2),((js.bind hF).mono (s1.trans s2)).imp λhi' hF H3 s3=>by
  obtain⟨d,e,q⟩:=js.rO hF;exact⟨O,a,d,E.all.same ((s1.trans s2).trans s3),d1.mono (bN (s2.trans s3)),e,λv H4 s4 d4=>q v H4 (((s1.trans s2).trans s3).trans s4) d4⟩⟩⟩⟩
end
end TG
namespace TG
open PySem PySem.Spec L2
variable[aU]
def yd(K:Tt)(g:List D->Option D):List V->Hp->VK->Prop:=λxs H Q=>∃O ds d,dS H O/\bb K (hid H O) ds xs/\g ds=some d/\∀v H',bj H H'->cJ K (hid H' O) d v->Q v H'
def uG{K:Tt}{g:List D->Option D}:B8 K (yd K g) g:=λds d xs O H Q hO hg hd q=>⟨O,ds,d,hO,hd,hg,q⟩
section
variable{X:Cx}{x:Str}{p pos:Pos}{e:UZ}{es:List UZ}{id T:String}{g:List D->Option D}{f:aq->R (List D)}
def MA(hc:dY X (.builtin id) (yd X.K g))(hg:Gl X x)(hm:X.mg x=none)(hv:UU x=some (.builtin id))(ha:FA X (e::es) f)(hn:x≠"__name__":=by decide)(hdb:(x==("__debug__":Str))=false:=by decide)
  (hns:(e::es).all noStar=true:=by rfl):FE X (.Call (.Name x p) (e::es) [] pos) (fL g f):=
 PE.weak (yp hc hg hm hv ha hn hdb (cY (Rj _ _ ▸ hns).1) (gB (Rj _ _ ▸ hns).2)) (Fc uG)
def Ls(hc:dY X (.type T) (yd X.K g))(hg:Gl X x)(hm:X.mg x=none)(hv:UU x=some (.type T))(ha:FA X (e::es) f)(hn:x≠"__name__":=by decide)(hdb:(x==("__debug__":Str))=false:=by decide)
  (hns:(e::es).all noStar=true:=by rfl):FE X (.Call (.Name x p) (e::es) [] pos) (fL g f):=
 PE.weak (Dh hc hg hm hv ha hn hdb (cY (Rj _ _ ▸ hns).1) (gB (Rj _ _ ▸ hns).2)) (Fc uG)
def jh:List D->Option D
 |[.lst xs]=>some (.int xs.length)
 |[.tup xs]=>some (.int xs.length)
 |[.str x]=>if small x.length then some (.int x.length)else none
 |_=>none
def cF:dY X (.builtin "len") (yd X.K jh):=by
 intro pins s σ H xs us Q I r ⟨O,ds,d,hO,hd,hg,q⟩;unfold jh at hg;split at hg
 ·rename_i ys;cases hg;obtain⟨v,ev,h1⟩:=hd.one;rw[cT]at h1;obtain⟨p,vs,ep,g1,g2⟩:=h1;exact pL pins s σ H xs us Q I r ⟨p,vs,by rw[ev,ep],.inl ((aB H O).seq g1),q _ H (bj.refl H) (fw.mpr (by rw[g2.length]))⟩
 ·rename_i ys;cases hg;obtain⟨v,ev,h1⟩:=hd.one;rw[cK]at h1;obtain⟨p,vs,ep,g1,g2⟩:=h1;exact pL pins s σ H xs us Q I r ⟨p,vs,by rw[ev,ep],.inr (bU (aB H O) g1),q _ H (bj.refl H) (fw.mpr (by rw[g2.length]))⟩
 ·rename_i z;obtain⟨h1,h2⟩:=bI hg;subst h2;obtain⟨v,ev,h1'⟩:=hd.one;exact xF pins s σ H xs us Q I r ⟨z,by rw[ev,fJ.mp h1'],eN h1,q _ H (bj.refl H) (fw.mpr rfl)⟩
 ·cases hg
def cR:List D->Option D
 |[.lst xs]=>some (.tup xs)
 |[.tup xs]=>some (.tup xs)
 |_=>none
def cx:dY X (.type "tuple") (yd X.K cR):=by
 intro pins s σ H xs us Q I r ⟨O,ds,d,hO,hd,hg,q⟩;unfold cR at hg;split at hg
 ·rename_i ys;cases hg;obtain⟨v,ev,h1⟩:=hd.one;rw[cT]at h1;obtain⟨p,vs,ep,g1,g2⟩:=h1;exact oT pins s σ H xs us Q I r ⟨p,vs,by rw[ev,ep],.inl ⟨(aB H O).seq g1,λl hl=>q _ _ (bL hl _) (eX hO hl g2)⟩⟩
 ·rename_i ys;cases hg;obtain⟨v,ev,h1⟩:=hd.one;have h0:=h1;rw[cK]at h1;obtain⟨p,vs,ep,g1,g2⟩:=h1;rw[ep]at h0;exact oT pins s σ H xs us Q I r ⟨p,vs,by rw[ev,ep],.inr ⟨bU (aB H O) g1,q _ H (bj.refl H) h0⟩⟩
 ·cases hg
def BJ:List D->Option D
 |[.lst xs]=>some (.lst xs)
 |[.tup xs]=>some (.lst xs)
 |_=>none
def A0:dY X (.type "list") (yd X.K BJ):=by
 intro pins s σ H xs us Q I r ⟨O,ds,d,hO,hd,hg,q⟩;unfold BJ at hg;split at hg
 ·rename_i ys;cases hg;obtain⟨v,ev,h1⟩:=hd.one;rw[cT]at h1;obtain⟨p,vs,ep,g1,g2⟩:=h1;exact p8 pins s σ H xs us Q I r ⟨p,vs,by rw[ev,ep],.inl ((aB H O).seq g1),λl hl=>q _ _ (bL hl _) (dF hO hl g2)⟩
 ·rename_i ys;cases hg;obtain⟨v,ev,h1⟩:=hd.one;rw[cK]at h1;obtain⟨p,vs,ep,g1,g2⟩:=h1;exact p8 pins s σ H xs us Q I r ⟨p,vs,by rw[ev,ep],.inr (bU (aB H O) g1),λl hl=>q _ _ (bL hl _) (dF hO hl g2)⟩
 ·cases hg
def sg:List D->Option D
 |[.int i,.int j]=>some (.int (if j>i then j else i))
 |_=>none
def y6:List D->Option D
 |[.int i,.int j]=>some (.int (if j<i then j else i))
 |_=>none
def BD:List D->Option D
 |[.int i]=>some (.int i)
 |[.bl k]=>some (.int (if k then 1 else 0))
 |_=>none
def pj(hc:X.calm=true):dY X (.builtin "max") (yd X.K sg):=by
 intro pins s σ H xs us Q I r ⟨O,ds,d,hO,hd,hg,q⟩;unfold sg at hg;split at hg
 ·rename_i i j;cases hg;obtain⟨v,w,ev,h1,h2⟩:=hd.two;exact D3 hc pins s σ H xs us Q I r ⟨i,j,by rw[ev,fw.mp h1,fw.mp h2],q _ H (bj.refl H) (fw.mpr rfl)⟩
 ·cases hg
def Bu(hc:X.calm=true):dY X (.builtin "min") (yd X.K y6):=by
 intro pins s σ H xs us Q I r ⟨O,ds,d,hO,hd,hg,q⟩;unfold y6 at hg;split at hg
 ·rename_i i j;cases hg;obtain⟨v,w,ev,h1,h2⟩:=hd.two;exact Dq hc pins s σ H xs us Q I r ⟨i,j,by rw[ev,fw.mp h1,fw.mp h2],q _ H (bj.refl H) (fw.mpr rfl)⟩
 ·cases hg
def AX:dY X (.type "int") (yd X.K BD):=by
 intro pins s σ H xs us Q I r ⟨O,ds,d,hO,hd,hg,q⟩;unfold BD at hg;split at hg
 ·rename_i i;cases hg;obtain⟨v,ev,h1⟩:=hd.one;exact wV pins s σ H xs us Q I r (.inl ⟨i,by rw[ev,fw.mp h1],q _ H (bj.refl H) (fw.mpr rfl)⟩)
 ·rename_i k;cases hg;obtain⟨v,ev,h1⟩:=hd.one;exact wV pins s σ H xs us Q I r (.inr ⟨k,by rw[ev,lY.mp h1],q _ H (bj.refl H) (fw.mpr rfl)⟩)
 ·cases hg
def KO:D->String
 |.non=>"NoneType"
 |.bl _=>"bool"
 |.int _=>"int"
 |.str _=>"str"
 |.tup _=>"tuple"
 |.lst _=>"list"
 |.dct _ _=>"dict"
 |_=>""
def Hm(T:String)(d:D):Bool:=match d with
 |.bl _=>T=="bool"||T=="int"
 |.non=>T=="NoneType"
 |.int _=>T=="int"
 |.str _=>T=="str"
 |.tup _=>T=="tuple"
 |.lst _=>T=="list"
 |.dct _ _=>T=="dict"
 |_=>false
def zQ(K:Tt)(T:String):Prop:=∀d:D,top d=true->TY K (.type (KO d)) (.type T)=some (Hm T d)
def PY(K:Tt)(T:String):List V->Hp->VK->Prop:=λxs H Q=>∃O x d,xs=[x,.ty T]/\top d=true/\cJ K (hid H O) d x/\Q (.bl (Hm T d)) H
def GR(ok:zQ X.K T):dY X (.builtin "isinstance") (PY X.K T):=by
 intro pins s σ H xs us Q I r ⟨O,x,d,ex,td,hd,q⟩;subst ex;obtain⟨u,w',rfl,rx,rt⟩:=vals2 r;cases rt;have e:=ok d td;have fin:∀tk,EP X pins σ Q (.bool (Hm T d)) {s with toks:=tk}:=λtk=>⟨.bl _,H,I.tok _,rfl,q⟩
 cases fW I td (hd.mono (aB H O)) rx with
 |non=>exact TZ PySem.W.kitx_none I.kIn True.intro e (λz=>nomatch z) fin
 |bl b=>exact TZ PySem.W.kitx_bool I.kIn True.intro e (λz=>nomatch z) fin
 |int i t=>exact TZ PySem.W.kitx_int I.kIn True.intro e (λz=>nomatch z) fin
 |str y t=>exact TZ PySem.W.kitx_str I.kIn True.intro e (λz=>nomatch z) fin
 |tup h rv t=>
  obtain⟨o,h1,h2,_⟩:=t;exact TZ PySem.W.kitx_tuple I.kIn ⟨o,h1,h2⟩ e (λz=>nomatch z) fin
 |lst h rv t=>
  obtain⟨o,h1,h2,_⟩:=t;exact TZ PySem.W.kitx_list I.kIn ⟨o,h1,h2⟩ e (λz=>nomatch z) fin
def G2:UU "isinstance"=some (.builtin "isinstance"):=by first|rfl|decide +kernel
def iS(T:String)(d:D):Option D:=if top d then some (.bl (Hm T d))else none
def p4(T:String)(f:FX):FX:=f1 (iS T) f
def P6{f:FX}{xT:Str}{p2:Pos}(ok:zQ X.K T)(hg:Gl X "isinstance")(hm:X.mg "isinstance"=none)(hgT:Gl X xT)(hmT:X.mg xT=none)(hvT:UU xT=some (.type T))(he:FE X e f)
  (hn2:xT≠"__name__":=by decide) (hd2:(xT==("__debug__":Str))=false:=by decide)
  (hns:noStar e=true:=by rfl):
  FE X (.Call (.Name "isinstance" p) [e,.Name xT p2] [] pos) (p4 T f):=
 PE.weak (yp (GR ok) hg hm G2 (km he (km (Ig (v:=.ty T) hgT hmT hvT rfl hn2 hd2) pD (cY rfl)) (cY hns)) (by decide) (by decide) (cY hns) (gB rfl)) λσ H Q ⟨O,ρ,E,hF⟩=>⟨O,ρ,E,(js.bind hF).imp λa hF v H1 s1 d1=>by
  obtain⟨d,e,q⟩:=js.rO hF;obtain⟨h1,h2⟩:=bI e;subst h2;exact⟨O,v,a,rfl,h1,d1,q _ H1 s1 (lY.mpr rfl)⟩⟩
end
section
variable{X:Cx}{a:UZ}{f:FX}{pos:Pos}
def isNon:D->Bool
 |.non=>true
 |_=>false
def P8(d:D):Option D:=some (.bl (isNon d))
def Mt(d:D):Option D:=some (.bl (!isNon d))
def OH(f:FX):FX:=f1 P8 f
def M3(f:FX):FX:=f1 Mt f
def LC(h:FE X a f)(he:∀whole,isTrue a X.env whole=(do let v<-whole;standAt a.pos;holding [v] (truthy v)):=by intro _;rfl):FT X a (fS f):=PT.weak (G0 h he) λσ H Q ⟨O,ρ,E,hF⟩=>⟨O,ρ,E,(js.bind hF).imp λd hF x H1 s1 d1=>by
 obtain⟨r,hF,q⟩:=js.rO hF;refine⟨r,?_,q H1 s1⟩;cases d with
 |non=>cases hF;rw[mz.mp d1];rfl
 |bl b=>cases hF;rw[lY.mp d1];rfl
 |int i=>cases hF;rw[fw.mp d1];rfl
 |str y=>
  obtain⟨hz,e⟩:=bI hF;subst e;rw[fJ.mp d1];refine⟨eN hz,?_⟩;show(y.length !=0)=((y.length:Int) !=0)
  cases y.length<;>rfl
 |tup xs=>
  cases hF;obtain⟨p,vs,e,g1,g2⟩:=cK.mp d1;rw[e];refine .inr (.inl ⟨vs,bU (aB H1 O) g1,?_⟩);have l:=g2.length;cases xs<;>cases vs<;>first|rfl|(simp at l)
 |lst xs=>
  cases hF;obtain⟨p,vs,e,g1,g2⟩:=cT.mp d1;rw[e];refine .inl ⟨vs,(aB H1 O).seq g1,?_⟩;have l:=g2.length;cases xs<;>cases vs<;>first|rfl|(simp at l)
 |_=>cases hF⟩
end
def Walk(K:Tt)(Hd:Hp)(J:It)(ds:List D):Prop:=
 ∀(Hn:Hp)(O':List UM)(i:Nat),dS Hn O'->bj Hd (hid Hn O')->(∀d,ds[i]?=some d->J.go i Hn/\∀x H2,J.yld i Hn x H2->bj Hn H2/\cJ K (hid H2 O') d x)/\(i=ds.length->J.stop i Hn)
def N7(X:Cx)(G:aq->R (List D)):TI:=λσ H RR=>∃O ρ,d9 X.K O H ρ σ/\js X σ O H (G ρ) λds=>∀J H1,bj H H1->Walk X.K (hid H1 O) J ds->RR J H1
def FI(X:Cx)(tg iter:UZ)(G:aq->R (List D)):Prop:=PI X tg iter (N7 X G)
def uN:D->Option (List D)
 |.lst xs=>some xs
 |.tup xs=>some xs
 |_=>none
def bT(f:FX):aq->R (List D):=λρ=>(f ρ).bind λd=>rO (uN d)
section
variable{X:Cx}{tg:UZ}
def CH{K:Tt}{Hd:Hp}{a:UM}{ds:List D}{vs:List V}(h:pH K Hd a vs)(g:bb K Hd ds vs):Walk K Hd (O3 K a) ds:=λHn O' i hO s=>
  have s':bj Hd Hn:=s.trans (aB Hn O')
  ⟨fun d e=>by
    obtain⟨v,ev,dv⟩:=g.get e;refine⟨⟨vs,v,s'.seq h,ev⟩,λx H2 ⟨e2,y⟩=>?_⟩;have q:=y vs (s'.seq h);rw[ev]at q;cases q;subst e2;exact⟨bj.refl _,dv.mono s⟩,
   λhl=>⟨vs,s'.seq h,by rw[<-g.length];exact Q2 hl.symm⟩⟩
def E8{K:Tt}{Hd:Hp}{a:UM}{ds:List D}{vs:List V}(h:Hd a=some (.tup vs))(g:bb K Hd ds vs):Walk K Hd (Ol K a) ds:=λHn O' i hO s=>
  have s':bj Hd Hn:=s.trans (aB Hn O')
  ⟨fun d e=>by
    obtain⟨v,ev,dv⟩:=g.get e;refine⟨⟨vs,v,bU s' h,ev⟩,λx H2 ⟨e2,y⟩=>?_⟩;have q:=y vs (bU s' h);rw[ev]at q;cases q;subst e2;exact⟨bj.refl _,dv.mono s⟩,
   λhl=>⟨vs,bU s' h,by rw[<-g.length];exact Q2 hl.symm⟩⟩
def Oh{e:UZ}{f:FX}(h:FE X e f):FI X tg e (bT f):=by
 intro pins s σ H R I ⟨O,ρ,E,hG⟩;have hG':=js.bind hG;cases hf:f ρ with
 |error z=>exact BE h pins s σ H R I ⟨O,ρ,E,by rw[hf]at hG' ⊢;cases z with|none=>exact hG'.elim|some x=>exact hG'⟩
 |ok d=>
  rw[hf]at hG';obtain⟨ds,e1,q⟩:=js.rO (α:=List D) (o:=uN d) hG';cases d with
  |lst xs=>
   cases e1;refine BE h pins s σ H R I ⟨O,ρ,E,?_⟩;rw[hf];refine λv H1 s1 d1=>?_;obtain⟨p,vs,ev,g1,g2⟩:=cT.mp d1;exact⟨p,ev,⟨vs,(aB H1 O).seq g1⟩,q _ H1 s1 (CH g1 g2)⟩
  |tup xs=>
   cases e1;refine Kr h pins s σ H R I ⟨O,ρ,E,?_⟩;rw[hf];refine λv H1 s1 d1=>?_;obtain⟨p,vs,ev,g1,g2⟩:=cK.mp d1;exact⟨p,ev,⟨vs,bU (aB H1 O) g1⟩,q _ H1 s1 (E8 g1 g2)⟩
  |_=>cases e1
def fV(lo:Int)(n:Nat):List D:=(List.range n).map λ(k:Nat)=>D.int (lo+(k:Int))
def vv(lo:Int)(n:Nat):(fV lo n).length=n:=by unfold fV;rw[Q1,RU]
def tM{K:Tt}{Hd:Hp}(lo:Int)(n:Nat):Walk K Hd (L3 lo n) (fV lo n):=λHn O' i hO s=>
  ⟨fun d e=>by
    unfold fV at e;rw[Rb]at e;cases hi:(List.range n)[i]? with
    |none=>rw[hi]at e;cases e
    |some k=>
      rw[hi]at e;cases e;have hlt:i<n:=by
        have:=(List.getElem?_eq_some_iff.mp hi).1
        rwa [RU]at this
      have ek:k=i:=by
        rw[RX hlt]at hi;exact(Option.some.inj hi).symm
      subst ek;exact⟨hlt,λx H2 ⟨e1,e2⟩=>by subst e1;exact⟨bj.refl _,fw.mpr e2⟩⟩,
   λhl=>by rw[vv]at hl;exact Q2 hl.symm⟩
def okR(j:Int):Bool:=decide (-(2^62)<=j/\j<2^62)
def nU:List D->Option (List D)
 |[.int j]=>if okR j then some (fV 0 j.toNat)else none
 |_=>none
def sW:List D->Option (List D)
 |[.int i,.int j]=>if okR i&&okR j then some (fV i (j-i).toNat)else none
 |_=>none
def je(f:aq->R (List D)):aq->R (List D):=λρ=>(f ρ).bind λds=>rO (nU ds)
def sL(f:aq->R (List D)):aq->R (List D):=λρ=>(f ρ).bind λds=>rO (sW ds)
def Lw{a:UZ}{f:aq->R (List D)}{p pos:Pos}(hg:Gl X "range")(hm:X.mg "range"=none)(ha:FA X [a] f)(hs:U0 [a] X.env=[(false,eval a X.env)]:=by rfl):FI X tg (.Call (.Name "range" p) [a] [] pos) (je f):=by
 intro pins s σ H R I ⟨O,ρ,E,hG⟩;refine Dw hg hm ha hs pins s σ H R I ⟨O,ρ,E,(js.bind hG).imp λes hG' vs H1 s1 d1=>?_⟩;clear hG;obtain⟨ds,hG,q⟩:=js.rO hG';clear hG';unfold nU at hG;split at hG
 ·rename_i j;obtain⟨h1,h2⟩:=bI hG;subst h2;obtain⟨j1,j2⟩:=of_decide_eq_true h1;obtain⟨v,ev,dv⟩:=d1.one;exact⟨j,by rw[ev,fw.mp dv],j1,j2,q _ H1 s1 (tM 0 _)⟩
 ·cases hG
def Lz{a b:UZ}{f:aq->R (List D)}{p pos:Pos}(hg:Gl X "range")(hm:X.mg "range"=none)(ha:FA X [a,b] f)(hs:U0 [a,b] X.env=[(false,eval a X.env),(false,eval b X.env)]:=by rfl)(hs2:U0 [b] X.env=[(false,eval b X.env)]:=by rfl):FI X tg (.Call (.Name "range" p) [a,b] [] pos) (sL f):=by
 intro pins s σ H R I ⟨O,ρ,E,hG⟩;refine D6 hg hm ha hs hs2 pins s σ H R I ⟨O,ρ,E,(js.bind hG).imp λes hG' vs H1 s1 d1=>?_⟩;clear hG;obtain⟨ds,hG,q⟩:=js.rO hG';clear hG';unfold sW at hG;split at hG
 ·rename_i i j;obtain⟨h1,h2⟩:=bI hG;subst h2;rw[Rj]at h1;obtain⟨i1,i2⟩:=of_decide_eq_true h1.1;obtain⟨j1,j2⟩:=of_decide_eq_true h1.2;obtain⟨v,w,ev,dv,dw⟩:=d1.two;exact⟨i,j,by rw[ev,fw.mp dv,fw.mp dw],⟨i1,i2,j1,j2⟩,q _ H1 s1 (tM i _)⟩
 ·cases hG
end
abbrev GF:=D->aq->Option aq
def NM(K:Tt)(g:GF):TG:=λv σ H Q=>∃O ρ d ρ',d9 K O H ρ σ/\cJ K (hid H O) d v/\g d ρ=some ρ'/\∀σ',d9 K O H ρ' σ'->(∀(i:Nat) x,ρ'[i]?=some (some x)->(∀d,x≠.val d)->σ'[i]?=σ[i]?/\ρ[i]?=some (some x))->Q σ' H
def FG(X:Cx)(tg:UZ)(g:GF):Prop:=PG X tg (NM X.K g)
def setV(i:Nat)(d:D)(ρ:aq):aq:=ρ.set i (some (.val d))
def bh{α:Type}{l:List α}{i j:Nat}{a b:α}(h:(l.set i a)[j]?=some b):(j=i/\b=a)\/(j≠i/\l[j]?=some b):=by
 by_cases e:j=i
 ·subst e;left;have hj:j<(l.set j a).length:=(List.getElem?_eq_some_iff.mp h).1;rw[List.length_set]at hj;rw[QQ hj]at h;exact⟨rfl,(Option.some.inj h).symm⟩
 ·right;rw[QR (Ne.symm e)]at h;exact⟨e,h⟩
def d9.setV{K:Tt}{O:List UM}{H:Hp}{ρ:aq}{σ:St}(E:d9 K O H ρ σ){i:Nat}{d:D}{v:V}(hi:i<σ.length)(hd:cJ K (hid H O) d v):d9 K O H (setV i d ρ) (σ.set i (some v)):=
  ⟨fun j d' e=>by
    rcases bh e with⟨hj,eq⟩|⟨ne,eq⟩
    ·cases eq;rw[hj];exact⟨v,QQ hi,hd⟩
    · obtain⟨w,e1,e2⟩:=E.val j d' eq
      exact⟨w,by rw[QR (Ne.symm ne)];exact e1,e2⟩,
   λj xs e=>by
    rcases bh e with⟨_,eq⟩|⟨ne,eq⟩
    ·cases eq
    · obtain⟨a,e1,e2⟩:=E.own j xs eq
      exact⟨a,by rw[QR (Ne.symm ne)];exact e1,e2⟩,
   λj k xs ys a e1 e2 e3 e4=>by
    rcases bh e1 with⟨_,q1⟩|⟨ne1,q1⟩
    ·cases q1
    · rcases bh e2 with⟨_,q2⟩|⟨ne2,q2⟩
      ·cases q2
      · rw[QR (Ne.symm ne1)]at e3
        rw[QR (Ne.symm ne2)]at e4;exact E.one j k xs ys a q1 q2 e3 e4,E.all⟩
section
variable{X:Cx}{pos:Pos}
def gN(i:Nat):GF:=λd ρ=>some (setV i d ρ)
def NB{i:Nat}{x:Str}(hN:X.N.Nodup)(hi:X.N[i]?=some x)(hx:Loc X.env.scope x)(hf:X.fn x=true\/X.env.scope.names.lookup x=some .local:=by first|exact .inl rfl|exact .inr rfl|assumption):FG X (.Name x pos) (gN i):=by
 intro pins s σ H v u Q I r ⟨O,ρ,d,ρ',E,hd,hg,q⟩;cases hg;have hiσ:i<σ.length:=by rw[I.len];exact(List.getElem?_eq_some_iff.mp hi).1
 refine HH hN hi hx hf pins s σ H v u Q I r (q _ (E.setV hiσ hd) λj x e nv=>?_);rcases bh e with⟨_,eq⟩|⟨ne,eq⟩
 ·cases eq;exact absurd rfl (nv _)
 ·exact⟨QR (Ne.symm ne),eq⟩
abbrev El:=List D->aq->Option aq
def Pt(K:Tt)(g:El):Jn:=λvs σ H Q=>∃O ρ ds ρ',d9 K O H ρ σ/\bb K (hid H O) ds vs/\g ds ρ=some ρ'/\∀σ',d9 K O H ρ' σ'->(∀(i:Nat) x,ρ'[i]?=some (some x)->(∀d,x≠.val d)->σ'[i]?=σ[i]?/\ρ[i]?=some (some x))->Q σ' H
def MY(X:Cx)(ts:List UZ)(g:El):Prop:=MG X ts (Pt X.K g)
def GB:El:=λds ρ=>match ds with
 |[]=>some ρ
 |_=>none
def As(g:GF)(h:El):El:=λds ρ=>match ds with
 |d::r=>(g d ρ).bind λρ1=>h r ρ1
 |_=>none
def NN:MY X [] GB:=by
 intro pins s σ H vs us Q I r ⟨O,ρ,ds,ρ',E,hd,hg,q⟩;cases ds with
 |nil=>
  cases hg;rw[cI]at hd;exact Ja pins s σ H vs us Q I r ⟨hd,q _ E λi x e _=>⟨rfl,e⟩⟩
 |cons _ _=>cases hg
def MZ{e:UZ}{es:List UZ}{g:GF}{h:El}(h1:FG X e g)(h2:MY X es h)(hs:(assignEach (e::es) X.env).map (·.2)=assign e X.env::(assignEach es X.env).map (·.2):=by rfl):MY X (e::es) (As g h):=by
 intro pins s σ H vs us Q I r ⟨O,ρ,ds,ρ',E,hd,hg,q⟩;cases ds with
 |nil=>cases hg
 |cons d ds=>
  obtain⟨ρ1,e1,e2⟩:=bind_some hg;rw[bo]at hd;obtain⟨v,vr,ev,d1,d2⟩:=hd;exact E9 h1 h2 hs pins s σ H vs us Q I r ⟨v,vr,ev,O,ρ,d,ρ1,E,d1,e1,λσ1 E1 k1=>⟨O,ρ1,ds,ρ',E1,d2,e2,λσ2 E2 k2=>q σ2 E2 λi x e nv=>by
   obtain⟨a1,a2⟩:=k2 i x e nv;obtain⟨b1,b2⟩:=k1 i x a2 nv;exact⟨a1.trans b1,b2⟩⟩⟩
def gT(n:Nat)(g:El):GF:=λd ρ=>match d with
 |.tup xs=>if xs.length=n then g xs ρ else none
 |_=>none
def O7{es:List UZ}{k:Nat}{g:El}{n:Nat}(hc:X.calm=true)(h:MY X es g)(hn:(assignEach es X.env).length=n:=by rfl)(hst:(assignEach es X.env).findIdx? (·.1)=none:=by rfl):FG X (.Tuple es k pos) (gT n g):=by
 intro pins s σ H v u Q I r ⟨O,ρ,d,ρ',E,hd,hg,q⟩;cases d with
 |tup xs=>
  obtain⟨p,vs,ev,g1,g2⟩:=cK.mp hd;have hg':(if xs.length=n then g xs ρ else none)=some ρ':=hg;by_cases hl:xs.length=n
  ·rw[if_pos hl]at hg';exact Kz hc h hn hst pins s σ H v u Q I r ⟨p,vs,ev,bU (aB H O) g1,by rw[<-g2.length];exact hl,O,ρ,xs,ρ',E,g2,hg',q⟩
  ·rw[if_neg hl]at hg';cases hg'
 |_=>cases hg
end
def Ab{α:Type}(r:R α):R α:=match r with
 |.ok a=>.ok a
 |.error _=>un
def Gr{α:Type}{r:R α}{a:α}(h:Ab r=.ok a):r=.ok a:=by
 cases r with
 |ok b=>exact h
 |error z=>cases h
def inB(ix:List (Option Nat))(ρ:aq):aq:=ix.map λo=>match o with
 |some i=>match ρ[i]? with
  |some (some (.val d))=>some (.val d)
  |_=>none
 |none=>none
def Ac(ρ:aq)(g:GF)(C:aq->R Bool)(Fe:FX):List D->R (List D)
 |[]=>.ok []
 |d::ds=>(rO (g d ρ)).bind λρ1=>(Ab (C ρ1)).bind λc=>if c then(Ab (Fe ρ1)).bind λv=>(Ac ρ g C Fe ds).bind λr=>.ok (v::r)else Ac ρ g C Fe ds
theorem kY(ρ:aq)(g:GF)(C:aq->R Bool)(Fe:FX)(d:D)(ds:List D):Ac ρ g C Fe (d::ds)=(rO (g d ρ)).bind λρ1=>(Ab (C ρ1)).bind λc=>if c then(Ab (Fe ρ1)).bind λv=>(Ac ρ g C Fe ds).bind λr=>.ok (v::r)else Ac ρ g C Fe ds:=rfl
def jX(ix:List (Option Nat))(G:aq->R (List D))(g:GF)(C:aq->R Bool)(Fe:FX):FX:=λρ=>(G ρ).bind λds=>if small ds.length then Ab ((Ac (inB ix ρ) g C Fe ds).bind λr=>.ok (.lst r))else un
def Nr(X:Cx)(ifs:List UZ)(F:aq->R Bool):Prop:=JY X ifs (Nz X F)
def dH:aq->R Bool:=λ_=>.ok true
def NS{X:Cx}:Nr X [] dH:=λpins s σ H Q I ⟨O,ρ,E,q⟩=>Io pins s σ H Q I (q H (bj.refl H))
def Nk{X:Cx}{c:UZ}{F:aq->R Bool}(h:FT X c F):Nr X [c] F:=Hy h
def pP{ix:List (Option Nat)}{ρ:aq}{j:Nat}{x:S}(e:(inB ix ρ)[j]?=some (some x)):∃i d,ix[j]?=some (some i)/\ρ[i]?=some (some (.val d))/\x=.val d:=by
 unfold inB at e;rw[Rb]at e;cases q:ix[j]? with
 |none=>rw[q]at e;cases e
 |some o=>
  rw[q]at e;cases o with
  |none=>cases e
  |some i=>
   have e':(match ρ[i]? with|some (some (.val d))=>some (S.val d)|_=>none)=some x:=Option.some.inj e;split at e'
   ·rename_i d hd;cases e';exact⟨i,d,rfl,hd,rfl⟩
   ·cases e'
def IQ{K:Tt}{O:List UM}{H:Hp}{ρ:aq}{σ:St}(ix:List (Option Nat))(E:d9 K O H ρ σ):d9 K O H (inB ix ρ) (inBlock ix σ):=by
 refine⟨λj d e=>?_,λj xs e=>?_,λj k xs ys a e=>?_,E.all⟩
 ·obtain⟨i,d',q1,q2,q3⟩:=pP e;cases q3;obtain⟨v,e1,e2⟩:=E.val i d q2;refine⟨v,?_,e2⟩;unfold inBlock;rw[Rb,q1];show some ((σ[i]?).getD none)=some (some v);rw[e1];rfl
 ·obtain⟨_,_,_,_,q3⟩:=pP e;cases q3
 ·obtain⟨_,_,_,_,q3⟩:=pP e;cases q3
def tU{H:Hp}{O:List UM}{p:UM}{o:HO}(hp:H p=none):bj (hid H O) (hid (upd H p o) (p::O)):=λb u h=>by
 unfold hid at h ⊢;by_cases hb:b∈O
 ·rw[if_pos hb]at h;cases h
 ·rw[if_neg hb]at h;have ne:=bc h hp;rw[if_neg (by intro z;rcases List.mem_cons.mp z with z|z;exact ne z;exact hb z),aD ne];exact h
def d9.hideNew{K:Tt}{O:List UM}{H:Hp}{ρ:aq}{σ:St}{p:UM}{o:HO}(m:sy o)(E:d9 K O H ρ σ)(hp:H p=none):d9 K (p::O) (upd H p o) ρ σ:=by
 have s:bj (hid H O) (hid (upd H p o) (p::O)):=tU hp;refine⟨λi d e=>let ⟨v,a,b⟩:=E.val i d e;⟨v,a,b.mono s⟩,λi xs e=>?_,E.one,(E.all.same (bL hp o)).cons aX m⟩;obtain⟨a,e1,e2,e3⟩:=E.own i xs e;obtain⟨u,hu⟩:=e3.some;exact⟨a,e1,QO _ e2,e3.mono (by rw[aD (bc hu hp)]) s⟩
def d9.rewrite{K:Tt}{O:List UM}{H:Hp}{ρ:aq}{σ:St}{p:UM}{o:HO}(m:sy o)(E:d9 K O H ρ σ)(hp:p∈O)(hs:∀(i:Nat) xs,ρ[i]?=some (some (.own xs))->σ[i]?≠some (some (.ref p))):d9 K O (upd H p o) ρ σ:=by
 have s:bj (hid H O) (hid (upd H p o) O):=iz hp;refine⟨λi d e=>let ⟨v,a,b⟩:=E.val i d e;⟨v,a,b.mono s⟩,λi xs e=>?_,E.one,E.all.upd hp m⟩;obtain⟨a,e1,e2,e3⟩:=E.own i xs e;have ne:a≠p:=λz=>hs i xs e (by rw[<-z];exact e1);exact⟨a,e1,e2,e3.mono (by rw[aD ne]) s⟩
def d9.forget{K:Tt}{O:List UM}{H:Hp}{ρ ρ':aq}{σ:St}(E:d9 K O H ρ σ)(h:∀(i:Nat) x,ρ'[i]?=some (some x)->ρ[i]?=some (some x)):d9 K O H ρ' σ:=
 ⟨λi d e=>E.val i d (h i _ e),λi xs e=>E.own i xs (h i _ e),λi j xs ys a e1 e2=>E.one i j xs ys a (h i _ e1) (h j _ e2),E.all⟩
def Fills(ρ:aq)(g:GF):Prop:=∀d ρ1,g d ρ=some ρ1->∀(i:Nat) x,ρ[i]?=some (some x)->ρ1[i]?=some (some x)
def vR(ix:List (Option Nat))(ρ:aq):∀(i:Nat) xs,(inB ix ρ)[i]?≠some (some (.own xs)):=by
 intro j xs e;obtain⟨_,_,_,_,q3⟩:=pP e;cases q3
def M6{α:Type}{o:Option α}{a:α}(h:rO o=.ok a):o=some a:=by
 cases o with
 |none=>cases h
 |some b=>cases h;rfl
end TG
namespace TG
open PySem PySem.Spec L2
variable[aU]
section
variable{X:Cx}{elt tg iter:UZ}{ifs:List UZ}{scope:UX}{pos:Pos}{N:List Str}{ix:List (Option Nat)}{G:aq->R (List D)}{g:GF}{C:aq->R Bool}{Fe:FX}
structure vo(ix:List (Option Nat))(g:GF):Prop where
 fill:∀ρ,Fills (inB ix ρ) g
 own:∀ρ d ρ1,g d (inB ix ρ)=some ρ1->∀(i:Nat) xs,ρ1[i]?≠some (some (.own xs))
def zJ{ρ:aq}{i:Nat}(h:ix[i]?=some none):∀x,(inB ix ρ)[i]?≠some (some x):=λx e=>by
 obtain⟨_,_,q,_⟩:=pP e;rw[h]at q;cases q
def eQ{i:Nat}(h:ix[i]?=some none):vo ix (gN i):=
  ⟨fun ρ d ρ1 e j x q=>by
    cases e;by_cases z:j=i
    ·subst z;exact absurd q (zJ h x)
    ·unfold setV;rw[QR (Ne.symm z)];exact q,
   λρ d ρ1 e j xs q=>by
    cases e;rcases bh q with⟨_,z⟩|⟨_,z⟩
    ·cases z
    ·exact vR ix ρ j xs z⟩
def II(ix:List (Option Nat))(is:List Nat):Bool:=is.all λi=>match ix[i]? with
 |some none=>true
 |_=>false
def lE:List Nat->El
 |[]=>GB
 |i::is=>As (gN i) (lE is)
def Cd:∀(is:List Nat)(ds:List D)(ρ ρ1:aq),lE is ds ρ=some ρ1->∀(k:Nat)(x:S),ρ1[k]?=some (some x)->(k∈is/\∃d,x=.val d)\/ρ[k]?=some (some x)
 |[],ds,ρ,ρ1,h,k,x,e=>by
  cases ds with
  |nil=>cases h;exact .inr e
  |cons _ _=>cases h
 |i::is,ds,ρ,ρ1,h,k,x,e=>by
  cases ds with
  |nil=>cases h
  |cons d ds=>
   rcases Cd is ds (setV i d ρ) ρ1 h k x e with⟨a,b⟩|q
   ·exact .inl ⟨QO _ a,b⟩
   ·rcases bh q with⟨z,w⟩|⟨_,w⟩
    ·exact .inl ⟨by rw[z];exact QN,d,Option.some.inj w⟩
    ·exact .inr w
def y8:∀(is:List Nat)(ds:List D)(ρ ρ1:aq),lE is ds ρ=some ρ1->∀(k:Nat)(x:S),k∉is->ρ[k]?=some (some x)->ρ1[k]?=some (some x)
 |[],ds,ρ,ρ1,h,k,x,_,e=>by
  cases ds with
  |nil=>cases h;exact e
  |cons _ _=>cases h
 |i::is,ds,ρ,ρ1,h,k,x,n,e=>by
  cases ds with
  |nil=>cases h
  |cons d ds=>
   refine y8 is ds (setV i d ρ) ρ1 h k x (λz=>n (QO _ z)) ?_;unfold setV;rw[QR (λz=>n (by rw[z];exact QN))];exact e
def gZ{is:List Nat}{n:Nat}(h:II ix is=true):vo ix (gT n (lE is)):=by
 have hn:∀i∈is,ix[i]?=some none:=λi hi=>by
  have:=List.all_eq_true.mp h i hi
  cases e:ix[i]? with
  |none=>rw[e]at this;cases this
  |some o=>cases o with
   |none=>rfl
   |some _=>rw[e]at this;cases this
 have shape:∀ρ d ρ1,gT n (lE is) d ρ=some ρ1->∃ds,lE is ds ρ=some ρ1:=λρ d ρ1 e=>by
  cases d with
  |tup xs=>
   have e':(if xs.length=n then lE is xs ρ else none)=some ρ1:=e;by_cases hl:xs.length=n
   ·rw[if_pos hl]at e';exact⟨xs,e'⟩
   ·rw[if_neg hl]at e';cases e'
  |_=>cases e
 refine⟨λρ d ρ1 e k x q=>?_,λρ d ρ1 e k xs q=>?_⟩
 ·obtain⟨ds,e⟩:=shape _ d ρ1 e;exact y8 is ds _ ρ1 e k x (λz=>zJ (hn k z) x q) q
 ·obtain⟨ds,e⟩:=shape _ d ρ1 e;rcases Cd is ds _ ρ1 e k _ q with⟨_,d,z⟩|z
  ·cases z
  ·exact vR ix ρ k xs z
structure mF(X:Cx)(scope:UX)(N:List Str)(ix:List (Option Nat)):Prop where
 cell:∀y∈scope.names,y.2≠.cell
 kind:scope.kind=.function
 names:∀y∈scope.names,y.2=.local->scope.names.lookup y.1=some .local
 free:∀y∈scope.names,y.2=.free->X.env.scope.names.lookup y.1=some .cell\/X.env.scope.names.lookup y.1=some .free
 ix:xP X.N N scope.names ix=true
def B4(XS:List (Str×Vw))(XN:List Str)(scope:UX)(N:List Str)(ix:List (Option Nat)):Bool:=
 scope.names.all (λy=>decide (y.2≠.cell))&&decide (scope.kind=.function)&&scope.names.all (λy=>decide (y.2≠.local)||decide (scope.names.lookup y.1=some .local)) &&
  scope.names.all (λy=>decide (y.2≠.free)||(decide (XS.lookup y.1=some .cell)||decide (XS.lookup y.1=some .free)))&&xP XN N scope.names ix
def mF.of(h:B4 X.env.scope.names X.N scope N ix=true):mF X scope N ix:=by
 unfold B4 at h;simp only[Rj]at h;obtain⟨⟨⟨⟨h1,h2⟩,h3⟩,h4⟩,h5⟩:=h;refine⟨λy hy=>of_decide_eq_true (List.all_eq_true.mp h1 y hy),of_decide_eq_true h2,λy hy e=>?_,λy hy e=>?_,h5⟩
 ·rcases RM _ _ ▸ List.all_eq_true.mp h3 y hy with q|q
  ·exact absurd e (of_decide_eq_true q)
  ·exact of_decide_eq_true q
 ·rcases RM _ _ ▸ List.all_eq_true.mp h4 y hy with q|q
  ·exact absurd e (of_decide_eq_true q)
  ·rcases RM _ _ ▸ q with q|q
   ·exact .inl (of_decide_eq_true q)
   ·exact .inr (of_decide_eq_true q)
def MP(X:Cx)(scope:UX)(N:List Str)(tg elt:UZ)(ifs:List UZ)(g:GF)(C:aq->R Bool)(Fe:FX):Prop:=
 ∀cl C' fp s H E,FG (cO X scope N cl C' fp s H E) tg g/\Nr (cO X scope N cl C' fp s H E) ifs C/\FE (cO X scope N cl C' fp s H E) elt Fe
def Ln(K:Tt)(F:aq->R Bool):TT:=λσ H Q=>∃O ρ b,d9 K O H ρ σ/\F ρ=.ok b/\∀H',bj H H'->Q b H'
def Om(K:Tt)(F:FX):TE:=λσ H Q=>∃O ρ d,d9 K O H ρ σ/\F ρ=.ok d/\∀v H',bj H H'->cJ K (hid H' O) d v->Q v H'
def MP.k(hb:MP X scope N tg elt ifs g C Fe):∀cl C' fp s H E,PG (cO X scope N cl C' fp s H E) tg (NM X.K g)/\JY (cO X scope N cl C' fp s H E) ifs (Ln X.K C)/\PE (cO X scope N cl C' fp s H E) elt (Om X.K Fe):=λcl C' fp s H E=>by
 obtain⟨h1,h2,h3⟩:=hb cl C' fp s H E;refine⟨h1,λpins s σ H Q I ⟨O,ρ,b,e1,e2,q⟩=>h2 pins s σ H Q I ⟨O,ρ,e1,by rw[e2];exact q⟩,λpins s σ H Q I ⟨O,ρ,d,e1,e2,q⟩=>h3 pins s σ H Q I ⟨O,ρ,e1,by rw[e2];exact q⟩⟩
def OU(X:Cx)(F:FX):TE:=λσ H Q=>∃O ρ,d9 X.K O H ρ σ/\js X σ O H (F ρ) λd=>∀D H' total acc,d=.lst total->bj H H'->H D=none->H' D=some (.lst acc)->bb X.K (hid H' (D::O)) total acc->Q (.ref D) H'
def P5{F:FX}:∀σ H Q,tF X F σ H Q->OU X F σ H Q:=λσ H Q ⟨O,ρ,E,hF⟩=>⟨O,ρ,E,hF.imp λd q D H' total acc e sm hD hD' dn=>by
 subst e;have DO:D∉O:=E.all.not hD;exact q _ H' sm (cT.mpr ⟨D,acc,rfl,pH.of (by rw[i7 DO];exact hD'),dn.mono (iI λa ha=>QO _ ha)⟩)⟩
def JB(tk:vo ix g):∀σ H Q,OU X (jX ix G g C Fe) σ H Q->NU (N7 X G) (NM X.K g) (Ln X.K C) (Om X.K Fe) ix σ H Q:=λσ H Q ⟨O,ρ,E,hF⟩=>by
 refine⟨O,ρ,E,(js.bind hF).imp λds hF=>?_⟩;have hz:small ds.length=true:=by
  cases e:small ds.length with
  |true=>rfl
  |false=>rw[e]at hF;exact hF.elim
 rw[hz,if_pos rfl]at hF;cases hL:Ac (inB ix ρ) g C Fe ds with
 |error z=>rw[hL]at hF;exact hF.elim
 |ok total=>
 rw[hL]at hF;have q:∀D H' total' acc,TG.D.lst total=.lst total'->bj H H'->H D=none->H' D=some (.lst acc)->bb X.K (hid H' (D::O)) total' acc->Q (.ref D) H':=hF;have e2:=hL;have hfill:=tk.fill;have hown:=tk.own;refine λJ H1 s1 wk D hD=>?_;have E1:d9 X.K (D::O) (upd H1 D (.lst [])) (inB ix ρ) (inBlock ix σ):=((IQ ix E).same s1).hideNew trivial hD;have DO:D∉O:=(E.all.same s1).not hD;refine⟨λi m σ' H'=>m=ds.length-i/\i<=ds.length/\bj H1 H'/\d9 X.K (D::O) H' (inB ix ρ) σ'/\∃acc dn rest,H' D=some (.lst acc)/\acc.length<=i/\bb X.K (hid H' (D::O)) dn acc/\Ac (inB ix ρ) g C Fe (ds.drop i)=.ok rest/\dn++rest=total,
  ⟨ds.length,by rw[RW],Q3 _,bL hD _,E1,[],[],total,aX,QT _,cI.mpr rfl,by rw[RE];exact e2,rfl⟩,?_⟩
 rintro i m σ' H' ⟨rfl,hi,sm,E',acc,dn,rest,hacc,hlen,hdn,hrest,htot⟩;have sH:bj (hid H1 O) (hid H' (D::O)):=λb o h=>by
  have h2:=sm b o (aB H1 O b o h);unfold hid at h ⊢;by_cases hb:b∈O
  ·rw[if_pos hb]at h;cases h
  ·rw[if_neg hb]at h;have ne:b≠D:=bc h hD;rw[if_neg (by intro z;rcases List.mem_cons.mp z with z|z;exact ne z;exact hb z)];exact h2
 by_cases hlt:i<ds.length
 ·right;obtain⟨go,yl⟩:=(wk H' (D::O) i E'.all sH).1 ds[i] (by simp[hlt]);refine⟨go,λx H2 y=>?_⟩;obtain⟨s2,dx'⟩:=yl x H2 y;have E':=E'.same s2;have sm:=sm.trans s2;have hacc:=s2 _ _ hacc;have hdn:=hdn.mono (bN s2);rw[RY hlt,kY]at hrest;obtain⟨ρ1,g1,hrest⟩:=sX hrest;have g1:=M6 g1;obtain⟨c,c1,hrest⟩:=sX hrest;have c1:=Gr c1;refine⟨D::O,inB ix ρ,ds[i],ρ1,E',dx',g1,λσ3 E3 _=>?_⟩;refine⟨D::O,ρ1,c,E3,c1,λH4 s4=>?_⟩;have E4:=E3.same s4;have back:∀{H5:Hp},d9 X.K (D::O) H5 ρ1 σ3->d9 X.K (D::O) H5 (inB ix ρ) σ3:=λz=>z.forget λj x e=>hfill ρ _ _ g1 j x e;cases c with
  |true=>
   refine CW ?_;rw[if_pos rfl]at hrest;obtain⟨v,v1,hrest⟩:=sX hrest;have v1:=Gr v1;obtain⟨r,r1,hrest⟩:=sX hrest;cases hrest;refine⟨D::O,ρ1,v,E4,v1,λw H5 s5 dw=>?_⟩;have s45:=s4.trans s5;have ha5:H5 D=some (.lst acc):=s45 _ _ hacc;have hzl:ds.length<UP:=RZ (of_decide_eq_true hz) (by decide);refine⟨acc,ha5,by omega,ds.length-(i+1),by omega,rfl,hlt,?_,?_,acc++[w],dn++[v],r,aX,by rw[Rg,Rm];omega,?_,r1,by rw[R0];exact htot⟩
   ·intro b o h;rw[aD (bc h hD)];exact s45 _ _ (sm _ _ h)
   ·exact back ((E3.same s45).rewrite trivial QN λj xs e=>absurd e (hown ρ _ _ g1 j xs))
   ·have s6:bj (hid H5 (D::O)) (hid (upd H5 D (.lst (acc++[w]))) (D::O)):=iz QN;exact(hdn.mono ((bN s45).trans s6)).snoc (dw.mono s6)
  |false=>
   refine DS ?_;rw[if_neg QY]at hrest;exact⟨ds.length-(i+1),by omega,rfl,hlt,sm.trans s4,back E4,acc,dn,rest,s4 _ _ hacc,by omega,hdn.mono (bN s4),hrest,htot⟩
 ·left;have ei:i=ds.length:=by omega
  subst ei;refine⟨(wk H' (D::O) ds.length E'.all sH).2 rfl,?_⟩;rw[R1]at hrest;cases hrest;rw[Q4]at htot;subst htot;exact q D H' _ acc rfl (s1.trans sm) (s1.free hD) hacc hdn
def Jq(tk:vo ix g):∀σ H Q,tF X (jX ix G g C Fe) σ H Q->NU (N7 X G) (NM X.K g) (Ln X.K C) (Om X.K Fe) ix σ H Q:=λσ H Q h=>JB tk σ H Q (P5 σ H Q h)
def Qp(hc:X.calm=true)(ok:mF X scope N ix)(tk:vo ix g)(hi:FI X tg iter G)(hb:MP X scope N tg elt ifs g C Fe)
  (hs:∀x,Vb iter X.env x=pure x:=by intro _;rfl):FE X (.ListComp elt [⟨tg,iter,ifs,0⟩] scope pos) (jX ix G g C Fe):=
 PE.weak (JN hc ok.cell ok.kind ok.names ok.free ok.ix hi hb.k hs) (Jq tk)
end
structure Ks where
 nx:aq->R D
 bk:aq->R D:=λ_=>un
 ct:aq->R D:=λ_=>un
 ex:Ex->aq->R D:=λx _=>.error (some x)
abbrev cm:=Ks->aq->R D
def sZ{α:Type}(r:R α)(k:Ks)(ρ:aq)(f:α->R D):R D:=match r with
 |.ok a=>f a
 |.error (some x)=>k.ex x ρ
 |.error none=>un
structure Base(Hb:Hp)(Ob:List UM)(H:Hp)(O:List UM):Prop where
 same:bj Hb H
 sub:∀a∈Ob,a∈O
 new:∀a∈O,a∈Ob\/Hb a=none
def mU(K:Tt)(H:Hp)(O:List UM):List UM->List D->Prop
 |[],[]=>True
 |b::bs,x::xs=>dG K H O b x/\mU K H O bs xs
 |_,_=>False
def yi(K:Tt)(H:Hp)(O:List UM)(a:UM)(bs:List UM)(d:D):Prop:=
 ∃xs,mU K H O bs xs/\((d=.lst xs/\H a=some (.lst (bs.map .ref)))\/(∃kvs:List (List Key×V),d=.dct (kvs.map λp=>.tup (p.1.map bx)) xs/\H a=some (.dT kvs)/\kvs.map (·.2)=bs.map .ref)\/(d=.dct [] xs/\bs=[]/\H a=some (.dK [])))
def Cu(K:Tt)(Hb:Hp)(Ob O:List UM)(H:Hp)(ρ:aq)(σ:St)(i:Nat)(d:D):Prop:=
 ∃a bs,σ[i]?=some (some (.ref a))/\yi K H O a bs d/\(a::bs).Nodup/\(∀b∈a::bs,b∈O/\Hb b=none/\b∉Ob/\∀(j:Nat) d',ρ[j]?=some (some (.own d'))->σ[j]?≠some (some (.ref b)))/\∀(j:Nat) d',ρ[j]?=some (some (.nest d'))->j=i
def mU.mono{K:Tt}{H H':Hp}{O O':List UM}(s:bj (hid H O) (hid H' O')):∀{bs:List UM}{xs:List D},mU K H O bs xs->(∀b∈bs,(∃o,H b=some o)->H' b=H b)->mU K H' O' bs xs
 |[],[],_,_=>trivial
 |b::bs,x::xs,h,e=>⟨h.1.mono (e b QN h.1.some).symm s,mU.mono s h.2 λb' hb=>e b' (QO _ hb)⟩
 |[],_::_,h,_=>h.elim
 |_::_,[],h,_=>h.elim
def mU.some{K:Tt}{H:Hp}{O:List UM}:∀{bs:List UM}{xs:List D},mU K H O bs xs->∀b∈bs,∃o,H b=some o
 |[],_,_,_,hb=>nomatch hb
 |b::bs,x::xs,h,b',hb=>by
  rcases List.mem_cons.mp hb with z|z
  ·rw[z];exact h.1.some
  ·exact mU.some h.2 b' z
 |_::_,[],h,_,_=>h.elim
def yi.some{K:Tt}{H:Hp}{O:List UM}{a:UM}{bs:List UM}{d:D}(h:yi K H O a bs d):∀b∈a::bs,∃o,H b=some o:=λb hb=>by
 obtain⟨xs,h1,h2⟩:=h;rcases List.mem_cons.mp hb with z|z
 ·rw[z];rcases h2 with⟨_,q⟩|⟨_,_,q,_⟩|⟨_,_,q⟩<;>exact⟨_,q⟩
 ·exact h1.some b z
def yi.mono{K:Tt}{H H':Hp}{O O':List UM}{a:UM}{bs:List UM}{d:D}(h:yi K H O a bs d)(s:bj (hid H O) (hid H' O'))(e:∀b∈a::bs,(∃o,H b=Option.some o)->H' b=H b):yi K H' O' a bs d:=by
 have ea:=e a QN (h.some a QN);obtain⟨xs,h1,h2⟩:=h;refine⟨xs,h1.mono s λb hb=>e b (QO _ hb),?_⟩;rw[ea];exact h2
def Cu.to{K:Tt}{Hb Hb':Hp}{Ob O O':List UM}{H H':Hp}{ρ ρ':aq}{σ σ':St}{i:Nat}{d:D}(h:Cu K Hb Ob O H ρ σ i d)(hσ:σ'[i]?=σ[i]?)(s:bj (hid H O) (hid H' O'))
  (k:∀b,b∈O->Hb b=none->b∉Ob->(∀(j:Nat) d',ρ[j]?=some (some (.own d'))->σ[j]?≠some (some (.ref b)))->(∃o,H b=some o)->H' b=H b/\b∈O'/\Hb' b=none/\∀(j:Nat) d',ρ'[j]?=some (some (.own d'))->σ'[j]?≠some (some (.ref b)))
  (n:∀(j:Nat) d',ρ'[j]?=some (some (.nest d'))->∃d2,ρ[j]?=some (some (.nest d2))):Cu K Hb' Ob O' H' ρ' σ' i d:=by
 obtain⟨a,bs,h1,h2,h3,h4,h5⟩:=h;refine⟨a,bs,hσ.trans h1,h2.mono s λb hb ho=>?_,h3,λb hb=>?_,λj d' q=>?_⟩
 ·obtain⟨q1,q2,q3,q4⟩:=h4 b hb;exact(k b q1 q2 q3 q4 ho).1
 ·obtain⟨q1,q2,q3,q4⟩:=h4 b hb;obtain⟨_,w2,w3,w4⟩:=k b q1 q2 q3 q4 (h2.some b hb);exact⟨w2,w3,q3,w4⟩
 ·obtain⟨d2,q⟩:=n j d' q;exact h5 j d2 q
structure e8(K:Tt)(Hb:Hp)(Ob O:List UM)(H:Hp)(ρ:aq)(σ:St):Prop where
 env:d9 K O H ρ σ
 base:Base Hb Ob H O
 mine:∀(i:Nat) xs a,ρ[i]?=some (some (.own xs))->σ[i]?=some (some (.ref a))->Hb a=none/\a∉Ob
 nst:∀(i:Nat) d,ρ[i]?=some (some (.nest d))->Cu K Hb Ob O H ρ σ i d
def Base.same'{Hb:Hp}{Ob:List UM}{H H':Hp}{O:List UM}(b:Base Hb Ob H O)(s:bj H H'):Base Hb Ob H' O:=⟨b.same.trans s,b.sub,b.new⟩
def e8.same{K:Tt}{Hb:Hp}{Ob O:List UM}{H H':Hp}{ρ:aq}{σ:St}(h:e8 K Hb Ob O H ρ σ)(s:bj H H'):e8 K Hb Ob O H' ρ σ:=⟨h.env.same s,h.base.same' s,h.mine,λi d q=>(h.nst i d q).to rfl (bN s) (λb q1 q2 q3 q4 ⟨o,ho⟩=>⟨by rw[ho,s _ _ ho],q1,q2,q4⟩) λj d' z=>⟨d',z⟩⟩
def e8.after{K:Tt}{Hb:Hp}{Ob O:List UM}{H:Hp}{ρ ρ':aq}{σ σ':St}(S:e8 K Hb Ob O H ρ σ)(E':d9 K O H ρ' σ')(own:∀(i:Nat) x,ρ'[i]?=some (some x)->(∀d,x≠.val d)->σ'[i]?=σ[i]?/\ρ[i]?=some (some x)):e8 K Hb Ob O H ρ' σ':=
 ⟨E',S.base,fun i xs a q1 q2=>by
  obtain⟨w1,w2⟩:=own i _ q1 (λ_ z=>nomatch z);rw[w1]at q2;exact S.mine i xs a w2 q2,λi d q=>by
  obtain⟨w1,w2⟩:=own i _ q (λ_ z=>nomatch z);refine(S.nst i d w2).to w1 (λ_ _ z=>z) (λb q1 q2 q3 q4 _=>⟨rfl,q1,q2,λl d' w=>?_⟩) λl d' w=>⟨d',(own l _ w (λ_ z=>nomatch z)).2⟩
  obtain⟨z1,z2⟩:=own l _ w (λ_ z=>nomatch z);rw[z1];exact q4 l d' z2⟩
structure NW(X:Cx)(Hb:Hp)(Ob:List UM)(E:Ends)(k:Ks)(r:R D):Prop where
 ne:r≠un
 nx:∀O ρ σ H,e8 X.K Hb Ob O H ρ σ->k.nx ρ=r->E.nx σ H
 bk:∀O ρ σ H,e8 X.K Hb Ob O H ρ σ->k.bk ρ=r->E.bk σ H
 ct:∀O ρ σ H,e8 X.K Hb Ob O H ρ σ->k.ct ρ=r->E.ct σ H
 rt:∀d O v H,r=.ok d->Base Hb Ob H O->cJ X.K (hid H O) d v->E.rt v H
 ex:∀O ρ σ H x,e8 X.K Hb Ob O H ρ σ->k.ex x ρ=r->Lx X σ O H x
def OV(X:Cx)(Hb:Hp)(Ob:List UM)(F:cm):TS:=λE σ H=>∃O ρ k r,e8 X.K Hb Ob O H ρ σ/\F k ρ=r/\NW X Hb Ob E k r
def FS(X:Cx)(st:U1)(F:cm):Prop:=∀Hb Ob,PS X st (OV X Hb Ob F)
def Ad(X:Cx)(st:List U1)(F:cm):Prop:=∀Hb Ob,yN X st (OV X Hb Ob F)
def js.on{X:Cx}{Hb:Hp}{Ob O:List UM}{H:Hp}{ρ:aq}{σ:St}{E:Ends}{k:Ks}{r:R D}{α:Type}{fr:R α}{G:α->R D}{Q:α->Prop}(h:sZ fr k ρ G=r)(hk:NW X Hb Ob E k r)(S:e8 X.K Hb Ob O H ρ σ)(q:∀a,G a=r->Q a):js X σ O H fr Q:=by
 match fr,h with
 |.ok a,h=>exact q a h
 |.error (some x),h=>exact hk.ex O ρ σ H x S h
 |.error none,h=>exact absurd h.symm hk.ne
section
variable{X:Cx}{st:U1}{rest body:List U1}{pos:Pos}
def cM:cm:=λk ρ=>k.nx ρ
def aW(F1 F2:cm):cm:=λk ρ=>F1 {k with nx:=F2 k} ρ
def NV:Ad X [] cM:=λHb Ob=>yN.weak IE λE σ H ⟨O,ρ,k,r,S,hF,hk⟩=>hk.nx O ρ σ H S hF
def LQ{F1 F2:cm}(h1:FS X st F1)(h2:Ad X rest F2):Ad X (st::rest) (aW F1 F2):=λHb Ob=>yN.weak (yY (h1 Hb Ob) (h2 Hb Ob)) λE σ H ⟨O,ρ,k,r,S,hF,hk⟩=>
 ⟨O,ρ,{k with nx:=F2 k},r,S,hF,hk.ne,λO' ρ' σ' H' S' e=>⟨O',ρ',k,r,S',e,hk⟩,hk.bk,hk.ct,hk.rt,hk.ex⟩
def NI{F1:cm}(h1:FS X st F1):Ad X [st] F1:=λHb Ob=>BR (h1 Hb Ob)
def bM(f:FX):cm:=λk ρ=>sZ (f ρ) k ρ .ok
def Pw{e:UZ}{f:FX}(h:FE X e f):FS X (.Return (some e) pos) (bM f):=λHb Ob=>PS.weak (K2 h) λE σ H ⟨O,ρ,k,r,S,hF,hk⟩=>
 ⟨O,ρ,S.env,js.on hF hk S λd e v H' s' d'=>hk.rt d O v H' e.symm (S.base.same' s') d'⟩
def MI:cm:=λ_ _=>.ok .non
def mK(c:aq->R Bool)(A B:cm):cm:=λk ρ=>sZ (c ρ) k ρ λb=>if b then A k ρ else B k ρ
def Qd{c:UZ}{a b:List U1}{tc:aq->R Bool}{A B:cm}(hc:FT X c tc)(ha:Ad X a A)(hb:Ad X b B):FS X (.If c a b pos) (mK tc A B):=λHb Ob=>PS.weak (Mv hc (ha Hb Ob) (hb Hb Ob)) λE σ H ⟨O,ρ,k,r,S,hF,hk⟩=>
 ⟨O,ρ,S.env,js.on hF hk S fun z e H1 s1=>by
  cases z with
  |true=>exact CW ⟨O,ρ,k,r,S.same s1,e,hk⟩
  |false=>exact DS ⟨O,ρ,k,r,S.same s1,e,hk⟩⟩
def cy(i:Nat)(f:FX):cm:=λk ρ=>sZ (f ρ) k ρ λd=>k.nx (setV i d ρ)
def e8.setV{K:Tt}{Hb:Hp}{Ob O:List UM}{H:Hp}{ρ:aq}{σ:St}(E:e8 K Hb Ob O H ρ σ){i:Nat}{d:D}{v:V}(hi:i<σ.length)(hd:cJ K (hid H O) d v):e8 K Hb Ob O H (setV i d ρ) (σ.set i (some v)):=
  ⟨E.env.setV hi hd,E.base,fun j xs a e1 e2=>by
    rcases bh e1 with⟨_,q⟩|⟨ne,q⟩
    ·cases q
    · rw[QR (Ne.symm ne)]at e2
      exact E.mine j xs a q e2,
   λj dn e=>by
    rcases bh e with⟨_,q⟩|⟨ne,q⟩
    ·cases q
    · refine(E.nst j dn q).to (QR (Ne.symm ne)) (λ_ _ z=>z) (λb q1 q2 q3 q4 _=>⟨rfl,q1,q2,λl d' w=>?_⟩) λl d' w=>?_
      · rcases bh w with⟨_,z⟩|⟨nl,z⟩
        ·cases z
        ·rw[QR (Ne.symm nl)];exact q4 l d' z
      · rcases bh w with⟨_,z⟩|⟨_,z⟩
        ·cases z
        ·exact⟨d',z⟩⟩
def vH{f:FX}{i:Nat}(hi:i<X.N.length)(h:PS X st (Fd (tF X f) (vS i))):FS X st (cy i f):=λHb Ob pins s σ H E I ⟨O,ρ,k,r,S,hF,hk⟩=>
 h pins s σ H E I ⟨O,ρ,S.env,js.on hF hk S λd e v H1 s1 d1=>hk.nx O _ _ H1 ((S.same s1).setV (by rw[I.len];exact hi) d1) e⟩
def P7{i:Nat}{x:Str}{e:UZ}{f:FX}{pos':Pos}(hN:X.N.Nodup)(hi:X.N[i]?=some x)(hx:Loc X.env.scope x)(he:FE X e f)(hs:swapsWith e (some (.Name x pos')) pos.line X.env=pure false:=by rfl)(hf:X.fn x=true\/X.env.scope.names.lookup x=some .local:=by first|exact .inl rfl|exact .inr rfl|assumption):
  FS X (.Assign [.Name x pos'] e pos) (cy i f):=vH (List.getElem?_eq_some_iff.mp hi).1 (A3 hN hi hx he hs hf)
def Qn{elt tg iter:UZ}{ifs:List UZ}{scope:UX}{N:List Str}{ix:List (Option Nat)}{G:aq->R (List D)}{g:GF}{C:aq->R Bool}{Fe:FX}{i:Nat}{y:Str}{lpos py spos:Pos}(hN:X.N.Nodup)(hi':X.N[i]?=some y)(hx:Loc X.env.scope y)
  (hc:X.calm=true) (ok:mF X scope N ix) (tk:vo ix g) (hi:FI X tg iter G) (hb:MP X scope N tg elt ifs g C Fe)
  (hsw:swapsWith (.ListComp elt [⟨tg,iter,ifs,0⟩] scope lpos) (some (.Name y py)) spos.line X.env=pure true:=by rfl)
  (hs:∀x,Vb iter X.env x=pure x:=by intro _;rfl)
  (hf:X.fn y=true\/X.env.scope.names.lookup y=some .local:=by first|exact .inl rfl|exact .inr rfl|assumption):
  FS X (.Assign [.Name y py] (.ListComp elt [⟨tg,iter,ifs,0⟩] scope lpos) spos) (cy i (jX ix G g C Fe)):=
 vH (List.getElem?_eq_some_iff.mp hi').1 (PS.weak (L4 hN hi' hx hc ok.cell ok.kind ok.names ok.free ok.ix hi hb.k hsw hs hf) λE σ H q=>Jq tk σ H _ q)
def Fi(f:FX)(g:GF):cm:=λk ρ=>sZ (f ρ) k ρ λd=>(rO (g d ρ)).bind k.nx
def PX{tg e:UZ}{f:FX}{g:GF}(he:FE X e f)(hg:FG X tg g)(hs:swapsWithSole [tg] e pos.line X.env=pure false:=by rfl)(hw:swappedStores [tg] e X.env=pure none:=by rfl)
  (h1:(assignEach [tg] X.env).map (·.2)=[assign tg X.env]:=by rfl):FS X (.Assign [tg] e pos) (Fi f g):=λHb Ob=>PS.weak (JR he hg hs hw h1) λE σ H ⟨O,ρ,k,r,S,hF,hk⟩=>
 ⟨O,ρ,S.env,js.on hF hk S fun d e v H1 s1 d1=>by
  cases hg:g d ρ with
  |none=>rw[hg]at e;exact absurd e.symm hk.ne
  |some ρ1=>
   rw[hg]at e;refine⟨O,ρ,d,ρ1,(S.same s1).env,d1,hg,λσ' E' own=>hk.nx O ρ1 σ' H1 ((S.same s1).after E' own) e⟩⟩
def qo:cm:=λ_ _=>un
def Ni:FS X st qo:=λHb Ob pins s σ H E I ⟨O,ρ,k,r,S,hF,hk⟩=>absurd hF.symm hk.ne
def kill(is:List Nat)(ρ:aq):aq:=is.foldl (λρ i=>ρ.set i none) ρ
def lm:∀(is:List Nat)(ρ:aq)(i:Nat)(x:S),(kill is ρ)[i]?=some (some x)->ρ[i]?=some (some x)
 |[],ρ,i,x,e=>e
 |j::is,ρ,i,x,e=>by
  rcases bh (lm is (ρ.set j none) i x e)with⟨_,q⟩|⟨_,q⟩
  ·cases q
  ·exact q
def e8.kill{K:Tt}{Hb:Hp}{Ob O:List UM}{H:Hp}{ρ:aq}{σ:St}(E:e8 K Hb Ob O H ρ σ)(is:List Nat):e8 K Hb Ob O H (kill is ρ) σ:=
 ⟨E.env.forget (lm is ρ),E.base,λi xs a e1 e2=>E.mine i xs a (lm is ρ i _ e1) e2,λi d q=>(E.nst i d (lm is ρ i _ q)).to rfl (λ_ _ z=>z) (λb q1 q2 q3 q4 _=>⟨rfl,q1,q2,λl d' w=>q4 l d' (lm is ρ l _ w)⟩) λl d' w=>⟨d',lm is ρ l _ w⟩⟩
def dL(is:List Nat)(F:cm):cm:=λk ρ=>F k (kill is ρ)
def Mo{st:List U1}{F:cm}(is:List Nat)(h:Ad X st F):Ad X st (dL is F):=λHb Ob=>yN.weak (h Hb Ob) λE σ H ⟨O,ρ,k,r,S,hF,hk⟩=>⟨O,TG.kill is ρ,k,r,S.kill is,hF,hk⟩
end
def ia(g:GF)(B:cm)(k:Ks):List D->aq->R D
 |[],ρ=>k.nx ρ
 |d::ds,ρ=>(rO (g d ρ)).bind λρ1=>B ⟨ia g B k ds,k.nx,ia g B k ds,k.ex⟩ ρ1
def jU(G:aq->R (List D))(g:GF)(B:cm):cm:=λk ρ=>sZ (G ρ) k ρ λds=>ia g B k ds ρ
def lb(H:Hp)(O Ob:List UM):Hp:=λb=>if b∈O/\b∉Ob then none else H b
def xK{H:Hp}{O Ob:List UM}{b:UM}(h1:b∈O)(h2:b∉Ob):lb H O Ob b=none:=by unfold lb;rw[if_pos ⟨h1,h2⟩]
def Hj{H:Hp}{O Ob:List UM}{b:UM}{o:HO}(h:lb H O Ob b=some o):H b=some o/\¬(b∈O/\b∉Ob):=by
 unfold lb at h;split at h
 ·cases h
 ·rename_i n;exact⟨h,n⟩
def Gf{H:Hp}{O Ob:List UM}{b:UM}{o:HO}(h:H b=some o)(n:¬(b∈O/\b∉Ob)):lb H O Ob b=some o:=by unfold lb;rw[if_neg n];exact h
def Base.loop{Hb:Hp}{Ob:List UM}{H:Hp}{O:List UM}(b:Base Hb Ob H O):Base (lb H O Ob) Ob H O:=
 ⟨fun c o h=>(Hj h).1,b.sub,fun a ha=>by
  by_cases h:a∈Ob
  ·exact .inl h
  ·exact .inr (xK ha h)⟩
def Base.back{Hb:Hp}{Ob:List UM}{H H':Hp}{O O':List UM}(b:Base Hb Ob H O)(b':Base (lb H O Ob) Ob H' O'):Base Hb Ob H' O':=by
 have up:bj Hb (lb H O Ob):=λc o h=>Gf (b.same c o h) λ⟨z1,z2⟩=>by
  rcases b.new c z1 with z|z
  ·exact z2 z
  ·rw[z]at h;cases h
 exact⟨up.trans b'.same,b'.sub,λa ha=>(b'.new a ha).imp id up.free⟩
def e8.loop{K:Tt}{Hb:Hp}{Ob O:List UM}{H:Hp}{ρ:aq}{σ:St}(E:e8 K Hb Ob O H ρ σ):e8 K (lb H O Ob) Ob O H ρ σ:=
 ⟨E.env,E.base.loop,fun i xs a e1 e2=>by
  obtain⟨_,n⟩:=E.mine i xs a e1 e2;obtain⟨a',e3,e4,_⟩:=E.env.own i xs e1;rw[e2]at e3;cases e3;exact⟨xK e4 n,n⟩,λi d q=>(E.nst i d q).to rfl (λ_ _ z=>z) (λb q1 q2 q3 q4 _=>⟨rfl,q1,xK q1 q3,q4⟩) λl d' w=>⟨d',w⟩⟩
def e8.back{K:Tt}{Hb:Hp}{Ob O O':List UM}{H H':Hp}{ρ':aq}{σ':St}(b:Base Hb Ob H O)(E:e8 K (lb H O Ob) Ob O' H' ρ' σ'):e8 K Hb Ob O' H' ρ' σ':=
 have up:bj Hb (lb H O Ob):=λc o h=>Gf (b.same c o h) λ⟨z1,z2⟩=>by
  rcases b.new c z1 with z|z
  ·exact z2 z
  ·rw[z]at h;cases h
 ⟨E.env,b.back E.base,fun i xs a e1 e2=>by
  obtain⟨z,n⟩:=E.mine i xs a e1 e2;exact⟨up.free z,n⟩,λi d q=>(E.nst i d q).to rfl (λ_ _ z=>z) (λb q1 q2 q3 q4 _=>⟨rfl,q1,up.free q2,q4⟩) λl d' w=>⟨d',w⟩⟩
def EA{Hb:Hp}{Ob O O':List UM}{H H':Hp}(b:Base Hb Ob H O)(b':Base (lb H O Ob) Ob H' O'):bj (hid H O) (hid H' O'):=λc o h=>by
 unfold hid at h ⊢;by_cases hc:c∈O
 ·rw[if_pos hc]at h;cases h
 ·rw[if_neg hc]at h;have h1:lb H O Ob c=some o:=Gf h λz=>hc z.1;rw[if_neg]
  ·exact b'.same _ _ h1
  ·intro z;rcases b'.new c z with z|z
   ·exact hc (b.sub c z)
   ·rw[h1]at z;cases z
def NW.loop{X:Cx}{Hb:Hp}{Ob O:List UM}{H:Hp}{E E':Ends}{k k':Ks}{r:R D}(hk:NW X Hb Ob E k r)(b:Base Hb Ob H O)(hn:∀O' ρ' σ' H',e8 X.K (lb H O Ob) Ob O' H' ρ' σ'->k'.nx ρ'=r->E'.nx σ' H')(hc:∀O' ρ' σ' H',e8 X.K (lb H O Ob) Ob O' H' ρ' σ'->k'.ct ρ'=r->E'.ct σ' H')
    (eb:k'.bk=k.nx) (ee:k'.ex=k.ex) (Eb:E'.bk=E.nx) (Er:E'.rt=E.rt):NW X (lb H O Ob) Ob E' k' r:=
  ⟨hk.ne,hn,fun O' ρ' σ' H' S e=>by rw [Eb]; exact hk.nx O' ρ' σ' H' (S.back b) (by rw [<- eb]; exact e),hc,fun d O' v H' e b' dv=>by rw [Er]; exact hk.rt d O' v H' e (b.back b') dv,
   λO' ρ' σ' H' x S e=>hk.ex O' ρ' σ' H' x (S.back b) (by rw[<-ee];exact e)⟩
section
variable{X:Cx}{st:U1}{rest body:List U1}{pos:Pos}
def OX{tg iter:UZ}{G:aq->R (List D)}{g:GF}{B:cm}(hp:Va (model X.prog X.w) X.A X.env X.xe)(hc:X.calm=true)(hi:FI X tg iter G)(hg:FG X tg g)(hb:Ad X body B)
  (hs:∀x,Vb iter X.env x=pure x:=by intro _;rfl):FS X (.For tg iter body [] pos) (jU G g B):=λHb Ob pins s σ H E I ⟨O,ρ,k,r,S,hF,hk⟩=>by
 have hall:yN X body (λE σ H=>∃Hb',OV X Hb' Ob B E σ H):=λpins s σ H E I ⟨Hb',q⟩=>hb Hb' Ob pins s σ H E I q;refine K7 hp hc hi hg hall hs pins s σ H E I ⟨O,ρ,S.env,js.on hF hk S λds hF J H1 s1 wk=>?_⟩;have E1:=S.same s1;refine⟨λi m σ H=>m=ds.length-i/\i<=ds.length/\∃O' ρ',e8 X.K (lb H1 O Ob) Ob O' H ρ' σ/\ia g B k (ds.drop i) ρ'=r,
  ⟨ds.length,by rw[RW],Q3 _,O,ρ,E1.loop,by rw[RE];exact hF⟩,?_⟩
 rintro i m σ' H' ⟨rfl,hi',O',ρ',E',hr⟩;have sD:=EA E1.base E'.base;by_cases hlt:i<ds.length
 ·right;obtain⟨go,yl⟩:=(wk H' O' i E'.env.all sD).1 ds[i] (by simp[hlt]);refine⟨go,λσ2 H2=>ds.length-(i+1)=ds.length-(i+1)/\i+1<=ds.length/\∃O' ρ',e8 X.K (lb H1 O Ob) Ob O' H2 ρ' σ2/\ia g B k (ds.drop (i+1)) ρ'=r,λσ2 H2 z=>⟨ds.length-(i+1),by omega,z⟩,λx H2 y=>?_⟩;obtain⟨s2,dx⟩:=yl x H2 y;have E':=E'.same s2;rw[RY hlt]at hr;cases hg':g ds[i] ρ' with
  |none=>
   have hr':(rO (g ds[i] ρ')).bind (λρ1=>B ⟨ia g B k (ds.drop (i+1)),k.nx,ia g B k (ds.drop (i+1)),k.ex⟩ ρ1)=r:=hr;rw[hg']at hr';exact absurd hr'.symm hk.ne
  |some ρ1=>
   have hr':(rO (g ds[i] ρ')).bind (λρ1=>B ⟨ia g B k (ds.drop (i+1)),k.nx,ia g B k (ds.drop (i+1)),k.ex⟩ ρ1)=r:=hr;rw[hg']at hr';refine⟨O',ρ',ds[i],ρ1,E'.env,dx,hg',λσ3 E3 own=>?_⟩;have E3':e8 X.K (lb H1 O Ob) Ob O' H2 ρ1 σ3:=E'.after E3 own;exact⟨lb H1 O Ob,O',ρ1,⟨ia g B k (ds.drop (i+1)),k.nx,ia g B k (ds.drop (i+1)),k.ex⟩,r,E3',hr',hk.loop E1.base (λO4 ρ4 σ4 H4 E4 z=>⟨rfl,hlt,O4,ρ4,E4,z⟩) (λO4 ρ4 σ4 H4 E4 z=>⟨rfl,hlt,O4,ρ4,E4,z⟩) rfl rfl rfl rfl⟩
 ·left;have ei:i=ds.length:=by omega
  subst ei;refine⟨(wk H' O' ds.length E'.env.all sD).2 rfl,?_⟩;rw[R1]at hr;exact hk.nx O' ρ' σ' H' (E'.back E1.base) hr
end
end TG
namespace TG
open PySem PySem.Spec L2
variable[aU]
def e8.setO{K:Tt}{Hb:Hp}{Ob O:List UM}{H:Hp}{ρ:aq}{σ:St}(E:e8 K Hb Ob O H ρ σ){i:Nat}{d d':D}{a:UM}{o:HO}(hi:ρ[i]?=some (some (.own d)))(ha:σ[i]?=some (some (.ref a)))(m:sy o)(new:dG K (upd H a o) O a d'):
  e8 K Hb Ob O (upd H a o) (ρ.set i (some (.own d'))) σ:=by
 obtain⟨a',ha',haO,hat⟩:=E.env.own i d hi;rw[ha]at ha';cases ha';obtain⟨m1,m2⟩:=E.mine i d a hi ha;have s:bj (hid H O) (hid (upd H a o) O):=iz haO;have own:∀(j:Nat) ys,(ρ.set i (some (.own d')))[j]?=some (some (.own ys))->∃ys',ρ[j]?=some (some (.own ys')):=λj ys q=>by
  rcases bh q with⟨hj,_⟩|⟨_,q⟩
  ·rw[hj];exact⟨d,hi⟩
  ·exact⟨ys,q⟩
 refine⟨⟨λj d1 e=>?_,λj ys e=>?_,λj l ys zs b q1 q2 q3 q4=>?_,E.env.all.upd haO m⟩,⟨λb u h=>?_,E.base.sub,E.base.new⟩,λj ys b q1 q2=>?_,λj dn q=>?_⟩
 ·rcases bh e with⟨_,q⟩|⟨ne,q⟩
  ·cases q
  ·obtain⟨w,q1,q2⟩:=E.env.val j d1 q;exact⟨w,q1,q2.mono s⟩
 ·rcases bh e with⟨hj,q⟩|⟨ne,q⟩
  ·cases q;rw[hj];exact⟨a,ha,haO,new⟩
  ·obtain⟨b,q1,q2,q3⟩:=E.env.own j ys q;have nb:b≠a:=λz=>ne (E.env.one j i ys d a q hi (by rw[<-z];exact q1) ha);exact⟨b,q1,q2,q3.mono (by rw[aD nb]) s⟩
 ·obtain⟨_,q1'⟩:=own j ys q1;obtain⟨_,q2'⟩:=own l zs q2;exact E.env.one j l _ _ b q1' q2' q3 q4
 ·have nb:b≠a:=λz=>by rw[z,m1]at h;cases h
  rw[aD nb];exact E.base.same b u h
 ·obtain⟨ys',q⟩:=own j ys q1;exact E.mine j ys' b q q2
 ·have q:ρ[j]?=some (some (.nest dn)):=by
   rcases bh q with⟨_,z⟩|⟨_,z⟩
   ·cases z
   ·exact z
  refine(E.nst j dn q).to rfl s (λb q1 q2 q3 q4 _=>⟨aD λz=>q4 i d hi (by rw[z];exact ha),q1,q2,λl d1 w=>?_⟩) λl d1 w=>?_
  ·obtain⟨_,w'⟩:=own l d1 w;exact q4 l _ w'
  ·rcases bh w with⟨_,z⟩|⟨_,z⟩
   ·cases z
   ·exact⟨d1,z⟩
def e8.setNew{K:Tt}{Hb:Hp}{Ob O:List UM}{H H':Hp}{ρ:aq}{σ:St}(E:e8 K Hb Ob O H ρ σ){i:Nat}{d:D}{p:UM}(hi:i<σ.length)(sm:bj H H')(hp:H p=none)(m:∃o,H' p=some o/\sy o)(new:dG K H' (p::O) p d):
  e8 K Hb Ob (p::O) H' (ρ.set i (some (.own d))) (σ.set i (some (.ref p))):=by
 have hpO:p∉O:=E.env.all.not hp;have s:bj (hid H O) (hid H' (p::O)):=λb o h=>by
  unfold hid at h ⊢;by_cases hb:b∈O
  ·rw[if_pos hb]at h;cases h
  ·rw[if_neg hb]at h;have ne:=bc h hp;rw[if_neg (by intro z;rcases List.mem_cons.mp z with z|z;exact ne z;exact hb z)];exact sm _ _ h
 have other:∀(j:Nat) xs,ρ[j]?=some (some (.own xs))->σ[j]?≠some (some (.ref p)):=λj xs e z=>by
  obtain⟨a,e1,e2,e3⟩:=E.env.own j xs e;rw[z]at e1;cases e1;obtain⟨o,e3⟩:=e3.some;rw[hp]at e3;cases e3
 refine⟨⟨λj d' e=>?_,λj xs e=>?_,λj k xs ys a e1 e2 e3 e4=>?_,⟨(E.env.all.same sm).1,λa ha=>?_⟩⟩,⟨E.base.same.trans sm,λa ha=>QO _ (E.base.sub a ha),λa ha=>?_⟩,λj xs a e1 e2=>?_,λj dn e=>?_⟩
 ·rcases bh e with⟨_,q⟩|⟨ne,q⟩
  ·cases q
  ·obtain⟨v,q1,q2⟩:=E.env.val j d' q;exact⟨v,by rw[QR (Ne.symm ne)];exact q1,q2.mono s⟩
 ·rcases bh e with⟨hj,q⟩|⟨ne,q⟩
  ·cases q;rw[hj];exact⟨p,QQ hi,QN,new⟩
  ·obtain⟨a,q1,q2,q3⟩:=E.env.own j xs q;obtain⟨o,ho⟩:=q3.some;exact⟨a,by rw[QR (Ne.symm ne)];exact q1,QO _ q2,q3.mono (sQ sm ho) s⟩
 ·rcases bh e1 with⟨hj,q1⟩|⟨nj,q1⟩
  ·rcases bh e2 with⟨hk,q2⟩|⟨nk,q2⟩
   ·exact hj.trans hk.symm
   ·rw[hj,QQ hi]at e3;cases e3;rw[QR (Ne.symm nk)]at e4;exact absurd e4 (other k ys q2)
  ·rcases bh e2 with⟨hk,q2⟩|⟨nk,q2⟩
   ·rw[hk,QQ hi]at e4;cases e4;rw[QR (Ne.symm nj)]at e3;exact absurd e3 (other j xs q1)
   ·rw[QR (Ne.symm nj)]at e3;rw[QR (Ne.symm nk)]at e4;exact E.env.one j k xs ys a q1 q2 e3 e4
 ·rcases List.mem_cons.mp ha with rfl|ha
  ·exact m
  ·exact(E.env.all.same sm).2 a ha
 ·rcases List.mem_cons.mp ha with rfl|ha
  ·exact .inr (E.base.same.free hp)
  ·exact E.base.new a ha
 ·rcases bh e1 with⟨hj,q1⟩|⟨nj,q1⟩
  ·rw[hj,QQ hi]at e2;cases e2;exact⟨E.base.same.free hp,λz=>hpO (E.base.sub p z)⟩
  ·rw[QR (Ne.symm nj)]at e2;exact E.mine j xs a q1 e2
 ·rcases bh e with⟨_,q⟩|⟨ne,q⟩
  ·cases q
  ·refine(E.nst j dn q).to (QR (Ne.symm ne)) s (λb q1 q2 q3 q4 ⟨o,ho⟩=>⟨by rw[ho,sm _ _ ho],QO _ q1,q2,λl d1 w=>?_⟩) λl d1 w=>?_
   ·rcases bh w with⟨hl,z⟩|⟨nl,z⟩
    ·rw[hl,QQ hi];intro z;cases z;rw[hp]at ho;cases ho
    ·rw[QR (Ne.symm nl)];exact q4 l d1 z
   ·rcases bh w with⟨_,z⟩|⟨_,z⟩
    ·cases z
    ·exact⟨d1,z⟩
def Oz(X:Cx)(F:FX):TE:=λσ H Q=>∃O ρ,d9 X.K O H ρ σ/\js X σ O H (F ρ) λd=>∀p H',bj H H'->H p=none->(∃o,H' p=some o/\sy o)->dG X.K H' (p::O) p d->Q (.ref p) H'
def FN(X:Cx)(e:UZ)(F:FX):Prop:=PE X e (Oz X F)
section
variable{X:Cx}{pos:Pos}
def yT{K:Tt}{H:Hp}{O:List UM}{p:UM}{ds:List D}{vs:List V}(hp:H p=none)(d:bb K (hid H O) ds vs):dG K (upd H p (.lst vs)) (p::O) p (.lst ds):=⟨_,vs,aX,rfl,d.mono (tU hp)⟩
def N9{es:List UZ}{g:aq->R (List D)}(h:FA X es g):FN X (.List es pos) (jP g):=
 PE.weak (AA h) λσ H Q ⟨O,ρ,E,hF⟩=>⟨O,ρ,E,(js.bind hF).imp λxs hF vs H1 s1 d1=>by
  obtain⟨d,e,q⟩:=js.rO hF;obtain⟨hz,e⟩:=bI e;subst e;refine⟨by rw[<-d1.length];exact eN hz,λp hp=>?_⟩;exact q p _ (s1.trans (bL hp _)) (s1.free hp) ⟨_,aX,trivial⟩ (yT hp d1)⟩
def yI:FX:=λ_=>.ok (.dct [] [])
def EC:FN X (.Dict [] [] pos) yI:=PE.weak FU λσ H Q ⟨O,ρ,E,q⟩ p hp=>q p _ (bL hp _) hp ⟨_,aX,trivial⟩ ⟨_,[],aX,cI.mpr rfl,.inr ⟨[],rfl,rfl,rfl⟩⟩
def qa(i:Nat)(f:FX):cm:=λk ρ=>sZ (f ρ) k ρ λd=>k.nx (ρ.set i (some (.own d)))
def Ed{st:U1}{f:FX}{i:Nat}(hi:i<X.N.length)(h:PS X st (Fd (Oz X f) (vS i))):FS X st (qa i f):=λHb Ob pins s σ H E I ⟨O,ρ,k,r,S,hF,hk⟩=>
 h pins s σ H E I ⟨O,ρ,S.env,js.on hF hk S λd e p H1 s1 hp m o=>hk.nx _ _ _ H1 (S.setNew (by rw[I.len];exact hi) s1 hp m o) e⟩
def OL{i:Nat}{x:Str}{e:UZ}{f:FX}{pos':Pos}(hN:X.N.Nodup)(hi:X.N[i]?=some x)(hx:Loc X.env.scope x)(he:FN X e f)(hs:swapsWith e (some (.Name x pos')) pos.line X.env=pure false:=by rfl)(hf:X.fn x=true\/X.env.scope.names.lookup x=some .local:=by first|exact .inl rfl|exact .inr rfl|assumption):
  FS X (.Assign [.Name x pos'] e pos) (qa i f):=Ed (List.getElem?_eq_some_iff.mp hi).1 (A3 hN hi hx he hs hf)
end
def MJ{X:Cx}{F:FX}:∀σ H Q,Oz X F σ H Q->OU X F σ H Q:=λσ H Q ⟨O,ρ,E,hF⟩=>⟨O,ρ,E,hF.imp λd q D H' total acc e sm hD hD' dn=>by
 subst e;exact q D H' sm hD ⟨_,hD',trivial⟩ ⟨_,acc,hD',rfl,dn⟩⟩
def Qh{X:Cx}{elt tg iter:UZ}{ifs:List UZ}{scope:UX}{pos:Pos}{N:List Str}{ix:List (Option Nat)}{G:aq->R (List D)}{g:GF}{C:aq->R Bool}{Fe:FX}(hc:X.calm=true)(ok:mF X scope N ix)(tk:vo ix g)(hi:FI X tg iter G)(hb:MP X scope N tg elt ifs g C Fe)
  (hs:∀x,Vb iter X.env x=pure x:=by intro _;rfl):FN X (.ListComp elt [⟨tg,iter,ifs,0⟩] scope pos) (jX ix G g C Fe):=
 PE.weak (JN hc ok.cell ok.kind ok.names ok.free ok.ix hi hb.k hs) λσ H Q q=>JB tk σ H _ (MJ σ H _ q)
def Dd(i:Nat)(u:List D->List D->Option (List D))(f:aq->R (List D)):cm:=λk ρ=>match ρ[i]? with
 |some (some (.own (.lst xs)))=>sZ (f ρ) k ρ λds=>(rO (u xs ds)).bind λys=>k.nx (ρ.set i (some (.own (.lst ys))))
 |_=>un
def G3(K:Tt)(r:V->List V->Hp->VK->Prop)(u:List D->List D->Option (List D)):Prop:=
 ∀(H:Hp)(O:List UM)(a:UM)(xs ys as:List D)(ws vs:List V)(Q:VK),dS H O->a∈O->H a=some (.lst ws)->bb K (hid H O) xs ws->bb K (hid H O) as vs->u xs as=some ys->(∀ws' v,bb K (hid H O) ys ws'->Q v (upd H a (.lst ws')))->r (.ref a) vs H Q
def rS{K:Tt}{H:Hp}{O:List UM}{a:UM}{ys:List D}{ws:List V}(ha:a∈O)(h:bb K (hid H O) ys ws):dG K (upd H a (.lst ws)) O a (.lst ys):=⟨_,ws,aX,rfl,h.mono (iz ha)⟩
def Qj{X:Cx}{i:Nat}{x m:Str}{id:String}{r:V->List V->Hp->VK->Prop}{u:List D->List D->Option (List D)}{e:UZ}{es:List UZ}{f:aq->R (List D)}{npos apos cpos pos:Pos}(slot:Slot "list" m id)(hty:typeOf (.builtin id)=pure (.type "method_descriptor"))(hm:Mj X id r)(ok:G3 X.K r u)(hx:PE X (.Name x npos) (qF i))(he:FA X (e::es) f)
  (hbase:Vk (.Name x npos) m X.env (eval (.Name x npos) X.env)=eval (.Name x npos) X.env:=by rfl)
  (hfew:((backTo cpos (U0 (e::es) X.env)).all (fun x=>!x.1) && (backToKw cpos (Vm [] X.env)).all (fun x=>x.1.isSome)
   && decide ((e::es:List UZ).length+([]:List Vu).length+(if([]:List Vu).isEmpty then 0 else 1)<30))=true:=by rfl)
  (hline:(apos.endLine==cpos.line)=true:=by rfl) (hs:U0 (e::es) X.env=(false,eval e X.env)::U0 es X.env:=by rfl) (hplain:(backTo cpos (U0 es X.env)).any (·.1)=false:=by rfl)
  (hsw:swapsWith (.Call (.Attribute (.Name x npos) m apos) (e::es) [] cpos) none pos.line X.env=pure false:=by rfl):
  FS X (.Expr (.Call (.Attribute (.Name x npos) m apos) (e::es) [] cpos) pos) (Dd i u f):=λHb Ob pins s σ H E I ⟨O,ρ,k,rr,S,hF,hk⟩=>by
 unfold Dd at hF;split at hF
 ·rename_i xs hxs;obtain⟨a,ha,haO,hat⟩:=S.env.own i _ hxs;obtain⟨o,vs0,ho,eo,dn⟩:=hat;subst eo;refine xr (BU F.plainAttrs_list slot hty hm hx he hbase hfew hline hs hplain) hsw pins s σ H E I ⟨.ref a,ha,.inl ⟨rfl,vs0,pH.of ho⟩,O,ρ,S.env,js.on hF hk S λds hr vs H1 s1 d1=>?_⟩;have S1:=S.same s1;cases hu1:u xs ds with
  |none=>rw[hu1]at hr;exact absurd hr.symm hk.ne
  |some ys=>
   rw[hu1]at hr;exact ok H1 O a xs ys ds vs0 vs _ S1.env.all haO (s1 _ _ ho) (dn.mono (bN s1)) d1 hu1 λws' v new=>hk.nx O _ σ _ (S1.setO hxs ha trivial (rS haO new)) hr
 ·exact absurd hF.symm hk.ne
def gY(xs:List D)(ds:List D):Option (List D):=match ds with
 |[y]=>if small (xs.length+1)then some (xs++[y])else none
 |_=>none
def gh{K:Tt}:G3 K w8 gY:=λH O a xs ys as ws vs Q hO haO ha dx da hu q=>by
 unfold gY at hu;split at hu
 ·rename_i y;obtain⟨h1,h2⟩:=bI hu;subst h2;obtain⟨v,rfl,dv⟩:=da.one
  have:=eN h1
  rw[dx.length]at this;exact⟨a,ws,v,rfl,rfl,ha,by omega,q _ _ (dx.snoc dv)⟩
 ·cases hu
def frz(i:Nat)(ρ:aq):aq:=match ρ[i]? with
 |some (some (.own d))=>setV i d ρ
 |_=>ρ
def d9.frz{K:Tt}{O:List UM}{H:Hp}{ρ:aq}{σ:St}(E:d9 K O H ρ σ)(i:Nat):∃O',d9 K O' H (frz i ρ) σ/\(∀b∈O',b∈O)/\∀b∈O,b∉O'->∃d,ρ[i]?=some (some (.own d))/\σ[i]?=some (some (.ref b)):=by
 unfold TG.frz;split
 ·rename_i d hd;obtain⟨a,ha,haO,hat⟩:=E.own i d hd;have sub:∀b∈O.filter (λb=>decide (b≠a)),b∈O:=λb hb=>(List.mem_filter.mp hb).1;have s:bj (hid H O) (hid H (O.filter λb=>decide (b≠a))):=iI sub;have na:a∉O.filter λb=>decide (b≠a):=λz=>absurd rfl (of_decide_eq_true (List.mem_filter.mp z).2);refine⟨O.filter λb=>decide (b≠a),⟨λj d' e=>?_,λj ys e=>?_,λj l ys zs b q1 q2 q3 q4=>?_,⟨E.all.1,λb hb=>E.all.2 b (sub b hb)⟩⟩,sub,λb hb nb=>?_⟩
  ·rcases bh e with⟨hj,q⟩|⟨ne,q⟩
   ·cases q;rw[hj];exact⟨.ref a,ha,hat.den s na⟩
   ·obtain⟨w,q1,q2⟩:=E.val j d' q;exact⟨w,q1,q2.mono s⟩
  ·rcases bh e with⟨_,q⟩|⟨ne,q⟩
   ·cases q
   ·obtain⟨b,q1,q2,q3⟩:=E.own j ys q;have nb:b≠a:=λz=>ne (E.one j i ys d a q hd (by rw[<-z];exact q1) ha);exact⟨b,q1,List.mem_filter.mpr ⟨q2,decide_eq_true nb⟩,q3.mono rfl s⟩
  ·rcases bh q1 with⟨_,q⟩|⟨_,q⟩
   ·cases q
   ·rcases bh q2 with⟨_,q'⟩|⟨_,q'⟩
    ·cases q'
    ·exact E.one j l ys zs b q q' q3 q4
  ·by_cases z:b=a
   ·exact⟨d,hd,by rw[z];exact ha⟩
   ·exact absurd (List.mem_filter.mpr ⟨hb,decide_eq_true z⟩) nb
 ·exact⟨O,E,λ_ z=>z,λb hb nb=>absurd hb nb⟩
def e8.frz{K:Tt}{Hb:Hp}{Ob O:List UM}{H:Hp}{ρ:aq}{σ:St}(E:e8 K Hb Ob O H ρ σ)(i:Nat):∃O',e8 K Hb Ob O' H (frz i ρ) σ:=by
 obtain⟨O',E',sub,gone⟩:=E.env.frz i;refine⟨O',E',⟨E.base.same,λa ha=>?_,λa ha=>E.base.new a (sub a ha)⟩,λj xs a q1 q2=>?_,λj dn q1=>?_⟩
 ·by_cases z:a∈O'
  ·exact z
  ·obtain⟨d,e1,e2⟩:=gone a (E.base.sub a ha) z;exact absurd ha (E.mine i d a e1 e2).2
 ·have q:ρ[j]?=some (some (.own xs)):=by
   unfold TG.frz at q1;split at q1
   ·rcases bh q1 with⟨_,q⟩|⟨_,q⟩
    ·cases q
    ·exact q
   ·exact q1
  exact E.mine j xs a q q2
 ·have bk:∀(l:Nat) x,(TG.frz i ρ)[l]?=some (some x)->(∀d,x≠.val d)->ρ[l]?=some (some x):=λl x e nv=>by
   unfold TG.frz at e;split at e
   ·rcases bh e with⟨_,q⟩|⟨_,q⟩
    ·cases q;exact absurd rfl (nv _)
    ·exact q
   ·exact e
  refine(E.nst j dn (bk j _ q1 (λ_ z=>nomatch z))).to rfl (iI sub) (λb w1 w2 w3 w4 _=>⟨rfl,?_,w2,λl d1 w=>w4 l d1 (bk l _ w (λ_ z=>nomatch z))⟩) λl d1 w=>⟨d1,bk l _ w (λ_ z=>nomatch z)⟩
  by_cases z:b∈O'
  ·exact z
  ·obtain⟨d,e1,e2⟩:=gone b w1 z;exact absurd e2 (w4 i d e1)
def kA(i:Nat)(F:cm):cm:=λk ρ=>F k (frz i ρ)
def Ny{X:Cx}{st:List U1}{F:cm}(i:Nat)(h:Ad X st F):Ad X st (kA i F):=λHb Ob=>yN.weak (h Hb Ob) λE σ H ⟨O,ρ,k,r,S,hF,hk⟩=>by
 obtain⟨O',S'⟩:=S.frz i;exact⟨O',TG.frz i ρ,k,r,S',hF,hk⟩
mutual
def lf:D->Bool
 |.tup xs=>Jr xs
 |.lst _=>false
 |.dct _ _=>false
 |.obj _ _ vs=>Jr vs
 |.exc _ _ _=>false
 |_=>true
def Jr:List D->Bool
 |[]=>true
 |x::xs=>lf x&&Jr xs
end
mutual
def Ey{K:Tt}{H:Hp}{O O':List UM}(hO:dS H O):∀{d:D}{v:V},lf d=true->cJ K (hid H O') d v->cJ K (hid H O) d v
 |.non,_,_,h=>by unfold cJ at h ⊢;exact h
 |.bl _,_,_,h=>by unfold cJ at h ⊢;exact h
 |.int _,_,_,h=>by unfold cJ at h ⊢;exact h
 |.str _,_,_,h=>by unfold cJ at h ⊢;exact h
 |.lst _,_,l,_=>by unfold lf at l;cases l
 |.dct _ _,_,l,_=>by unfold lf at l;cases l
 |.exc _ _ _,_,l,_=>by unfold lf at l;cases l
 |.obj c fs xs,_,l,h=>by
  unfold lf at l;rw[Ha]at h ⊢;obtain⟨a,ws,e,h1,hl,C,dx,hc,ha⟩:=h;refine⟨a,ws,e,xB hO l h1,hl,C,dx,hc,?_⟩;have q':=aB H O' a _ ha;rw[i7 λz=>by obtain⟨u,e1,e2⟩:=hO.2 a z;rw[q']at e1;cases e1;exact e2.elim];exact q'
 |.tup xs,_,l,h=>by
  unfold lf at l;rw[cK]at h ⊢;obtain⟨a,vs,e,h1,h2⟩:=h;refine⟨a,vs,e,?_,xB hO l h2⟩;have key:∀{o:HO},hid H O' a=some o->¬sy o->hid H O a=some o:=λ{o} q n=>by
   have q':=aB H O' a o q;rw[i7 λz=>by obtain⟨u,e1,e2⟩:=hO.2 a z;rw[q']at e1;cases e1;exact n e2];exact q'
  exact key h1 λz=>z.elim
def xB{K:Tt}{H:Hp}{O O':List UM}(hO:dS H O):∀{ds:List D}{vs:List V},Jr ds=true->bb K (hid H O') ds vs->bb K (hid H O) ds vs
 |[],_,_,h=>by rw[cI]at h ⊢;exact h
 |x::xs,_,l,h=>by
  unfold Jr at l;rw[Rj]at l;rw[bo]at h ⊢;obtain⟨v,r,e,h1,h2⟩:=h;exact⟨v,r,e,Ey hO l.1 h1,xB hO l.2 h2⟩
end
def frzs(is:List Nat)(ρ:aq):aq:=is.foldl (λρ i=>frz i ρ) ρ
def d9.frzs{K:Tt}{H:Hp}{σ:St}:∀(is:List Nat){O:List UM}{ρ:aq},d9 K O H ρ σ->∃O',d9 K O' H (frzs is ρ) σ
 |[],O,_,E=>⟨O,E⟩
 |i::is,_,_,E=>by
  obtain⟨O',E',_⟩:=E.frz i;exact d9.frzs is E'
def uK(is:List Nat)(f:FX):FX:=λρ=>(Ab (f (frzs is ρ))).bind λd=>if lf d then .ok d else un
def nE(is:List Nat)(f:aq->R Bool):aq->R Bool:=λρ=>Ab (f (frzs is ρ))
def NY{X:Cx}{e:UZ}{f:FX}(is:List Nat)(h:FE X e f):FE X e (uK is f):=PE.weak h λσ H Q ⟨O,ρ,E,hF⟩=>by
 obtain⟨O',E'⟩:=E.frzs is;refine⟨O',TG.frzs is ρ,E',?_⟩;unfold uK at hF;cases hf:f (TG.frzs is ρ)with
 |error z=>rw[hf]at hF;exact hF.elim
 |ok d=>
  rw[hf]at hF;have hF':js X σ O H (if lf d then .ok d else un) _:=hF;cases hl:lf d with
  |false=>rw[hl]at hF';exact hF'.elim
  |true=>
   rw[hl]at hF';exact λv H' s' dv=>hF' v H' s' (Ey (E.all.same s') hl dv)
def NP{X:Cx}{e:UZ}{f:aq->R Bool}(is:List Nat)(h:FT X e f):FT X e (nE is f):=PT.weak h λσ H Q ⟨O,ρ,E,hF⟩=>by
 obtain⟨O',E'⟩:=E.frzs is;refine⟨O',TG.frzs is ρ,E',?_⟩;unfold nE at hF;cases hf:f (TG.frzs is ρ)with
 |error z=>rw[hf]at hF;exact hF.elim
 |ok d=>rw[hf]at hF;exact hF
end TG
namespace TG
open PySem PySem.Spec L2
variable[aU]
def Ek(K:Tt)(n:Nat)(g:List D->R D):Sp:=λvs H Q E=>∃O ds,vs.length=n/\dS H O/\bb K (hid H O) ds vs/\match g ds with
 |.ok d=>∀v H',bj H H'->cJ K (hid H' O) d v->Q v H'
 |.error (some x)=>Oq K H O x E
 |.error none=>False
section
variable{X:Cx}{k:Nat}{f C:UM}{fd:Vp}{ps:List Str}{sp:Sp}{x m:Str}{p pos apos:Pos}{e o:UZ}{es:List UZ}{ta:TE}{t:TA}
def B9{pins:List (UM×Obj)}{σ:St}{H:Hp}{s:UW}{Q:VK}{E:XK}{us:List UJ}{vs:List V}(F:jV X.prog X.w X.K X.mg X.base (oY X.prog X.w) k f fd ps sp)(hr:fX k X.A)(hb:Binds X.K fd ps [])(hx:nA (oY X.prog X.w) X σ E)
  (I:Inv X pins σ H s) (r:Vals vs us) (h:sp vs H Q E):UY (model X.prog X.w) X.A (call (.ref f) us) (EP X pins σ Q) X.xe s:=by
 have hl:(us++[]).length=ps.length:=by rw[Q4,<-r.length];exact F.len _ _ _ _ h
 have hb':=hb s us I.kIn hl;rw[Q4]at hb';refine Vr (Vs (F.run X.A X.stack s H ⟨us,[]⟩ us vs Q E hr I.env0 hb' r h) λr s' hq=>?_);cases r with
 |error e=>exact hx pins H s e s' I hq
 |ok fl=>
  cases fl with
  |ret u=>exact I.after hq
  |next=>exact False.elim hq
  |brk=>exact False.elim hq
  |cont=>exact False.elim hq
def G1(X:Cx)(sp:Sp)(t:TA):TE:=λσ H Q=>t σ H λvs H1=>∃E,nA (oY X.prog X.w) X σ E/\sp vs H1 Q E
def EE(F:jV X.prog X.w X.K X.mg X.base (oY X.prog X.w) k f fd ps sp)(hr:fX k X.A)(hg:Gl X x)(hm:X.mg x=some (.ref f))(hk:TL X.K (.ref f)=true)(hb:Binds X.K fd ps [])
  (ha:PA X (e::es) t) (hdb:(x==("__debug__":Str))=false:=by decide) (he:U0 (e::es) X.env=(false,eval e X.env)::U0 es X.env:=by rfl) (hpl:(backTo pos (U0 es X.env)).any (·.1)=false:=by rfl):
  PE X (.Call (.Name x p) (e::es) [] pos) (G1 X sp t):=by
 intro pins s σ H Q I h;refine Vt (xY I hg hm ?_ hdb);refine TN (h₀:=X.base) I.ok.mod.kin hk (dM (ha pos pins s σ H _ I h) λus s1 ⟨vs,H1,I1,r,E,hx,q⟩=>⟨I1.kIn,?_⟩) he hpl;exact B9 F hr hb hx I1 r q
def CO{n:Nat}{g:List D->R D}{f:aq->R (List D)}(hn:∀ds,g ds≠un->ds.length=n):∀σ H Q,tF X (fR g f) σ H Q->G1 X (Ek X.K n g) (Np X f) σ H Q:=λσ H Q ⟨O,ρ,E,hF⟩=>
 ⟨O,ρ,E,(js.bind hF).imp fun ds hF vs H1 s1 d1=>by
  cases hg:g ds with
  |ok d=>
   rw[hg]at hF;refine⟨E0,BL,O,ds,by rw[<-d1.length];exact hn ds (by rw[hg];intro z;cases z),E.all.same s1,d1,?_⟩;rw[hg];exact λv H2 s2 d2=>hF v H2 (s1.trans s2) d2
  |error z=>
   rw[hg]at hF;cases z with
   |none=>exact hF.elim
   |some x=>
    refine⟨Bz X O H1 x,BI (Lx.mono hF s1),O,ds,by rw[<-d1.length];exact hn ds (by rw[hg];intro z;cases z),E.all.same s1,d1,?_⟩;rw[hg];exact yV⟩
end
def Callee(P:UL)(w:UK)(K:Tt)(mg:Str->Option UJ)(base:UO)(k:Nat)(x:Str)(ps:List Str)(g:List D->R D):Prop:=
 ∃f fd,jV P w K mg base (oY P w) k f fd ps (Ek K ps.length g)/\Binds K fd ps []/\TL K (.ref f)=true/\mg x=some (.ref f)
def Ar(n:Nat)(g:List D->R D):Prop:=∀ds,g ds≠un->ds.length=n
def Lv{X:Cx}{k k':Nat}{ps:List Str}{g:List D->R D}{h:aq->R (List D)}{x:Str}{p pos:Pos}{e:UZ}{es:List UZ}
  (C:Callee X.prog X.w X.K X.mg X.base k x ps g) (hn:Ar ps.length g) (hr:fX k' X.A) (hk:k<=k') (ha:FA X (e::es) h) (hg:Gl X x:=by rfl)
  (hdb:(x==("__debug__":Str))=false:=by decide) (hns:(e::es).all noStar=true:=by rfl):
  FE X (.Call (.Name x p) (e::es) [] pos) (fR g h):=by
 obtain⟨f,fd,F,b,kp,m⟩:=C;exact PE.weak (EE F (hr.mono hk) hg m kp b ha hdb (cY (Rj _ _ ▸ hns).1) (gB (Rj _ _ ▸ hns).2)) (CO hn)
def K0:Ks:={nx:=λ_=>.ok .non}
def env0(n:Nat)(ds:List D):aq:=ds.map (λd=>some (.val d))++List.replicate (n-ds.length) none
def aK(B:cm)(np n:Nat):List D->R D:=λds=>if ds.length=np then B K0 (env0 n ds)else un
def aQ{B:cm}{np n:Nat}:Ar np (aK B np n):=λds h=>by
 unfold aK at h;split at h
 ·assumption
 ·exact absurd rfl h
def jO{n:Nat}{ds:List D}(i:Nat)(x:S)(e:(env0 n ds)[i]?=some (some x)):∃d,ds[i]?=some d/\x=.val d:=by
 unfold env0 at e;by_cases hi:i<ds.length
 ·rw[Ra (by rw[Q1];exact hi),Rb,RJ hi]at e;have e':some (S.val ds[i])=some x:=Option.some.inj e;exact⟨ds[i],by rw[RJ hi],(Option.some.inj e').symm⟩
 ·rw[Q8 (by rw[Q1];omega),Q1,Q9]at e;split at e
  ·cases e
  ·cases e
def uy{K:Tt}{O:List UM}{H:Hp}{N:List Str}{ds:List D}{vs:List V}(hO:dS H O)(h:bb K (hid H O) ds vs):d9 K O H (env0 N.length ds) (L2.start N vs):=by
 refine⟨λi d e=>?_,λi xs e=>?_,λi j xs ys a e=>?_,hO⟩
 ·obtain⟨d',e1,e2⟩:=jO i _ e;cases e2;obtain⟨v,e3,e4⟩:=h.get e1;refine⟨v,?_,e4⟩;unfold L2.start;have hi:i<vs.length:=(List.getElem?_eq_some_iff.mp e3).1;rw[Ra (by rw[Q1];exact hi),Rb,e3];rfl
 ·obtain⟨d',_,e2⟩:=jO i _ e;cases e2
 ·obtain⟨d',_,e2⟩:=jO i _ e;cases e2
section
variable{P:UL}{w:UK}{K:Tt}{mg:Str->Option UJ}{base:UO}
structure BodyOk(P:UL)(w:UK)(K:Tt)(mg:Str->Option UJ)(base:UO)(k:Nat)(N:List Str)(qual:Str)(st:U1)(f:UM)(B:cm):Prop where
 h:∀(cdv:UJ)(A:UV)(outer:List Env)(s:UW)(H:Hp)(E:XK),fX k (A.deeper (Us qual (ax st) s.heap.objs.size f cdv))->Va (model P w) (A.deeper (Us qual (ax st) s.heap.objs.size f cdv)) (Us qual (ax st) s.heap.objs.size f cdv) (kC (oY P w) P w K mg base N qual (ax st) f cdv A outer s H E).xe->
  Ad (kC (oY P w) P w K mg base N qual (ax st) f cdv A outer s H E) (fA st) B
def N1{x qual:Str}{st:U1}{f:UM}{fd:Vp}{N ps:List Str}{k:Nat}{sp:Sp}{CX:Ae}(F:uT K x qual st f fd)(S:aP N ps (ax st))(len:∀vs H Q E,sp vs H Q E->vs.length=ps.length)
  (hbody:∀ (cdv:UJ) (A:UV) (outer:List Env) (s:UW) (H:Hp) (vs:List V) (Q:VK) (E:XK),fX k (A.deeper (Us qual (ax st) s.heap.objs.size f cdv))->sp vs H Q E ->
   ∃t,yN (kC CX P w K mg base N qual (ax st) f cdv A outer s H E) (fA st) t/\t {nx:=λ_ H'=>Q .non H',rt:=Q} (L2.start N vs) H):jV P w K mg base CX (k+1) f fd ps sp:=by
 obtain⟨oc,od,kV,doc,pm,an,cdv,ct,osl,rfl,lk,hcd⟩:=F.ex;exact EV lk hcd S len λA outer s H vs Q E hr hsp=>hbody cdv A outer s H vs Q E hr hsp
def jV.any{CX:Ae}{k:Nat}{f:UM}{fd:Vp}{ps:List Str}{sp:Sp}(F:jV P w K mg base NF k f fd ps sp):jV P w K mg base CX k f fd ps sp:=
 ⟨F.len,fun A outer s H args us vs Q E hr he hb hv hs=>Vs (F.run A outer s H args us vs Q E hr he hb hv hs) fun r s' h=>by
  cases r with
  |error e=>exact False.elim h
  |ok fl=>cases fl<;>exact h⟩
def xU{x qual:Str}{st:U1}{f:UM}{fd:Vp}{N ps:List Str}{k:Nat}{B:cm}(F:uT K x qual st f fd)(SC:aP N ps (ax st))(hb:BodyOk P w K mg base k N qual st f B):
  jV P w K mg base (oY P w) (k+1) f fd ps (Ek K ps.length (aK B ps.length N.length)):=by
 refine N1 F SC (λvs H Q E h=>?_) λcdv A outer s H vs Q E hr h=>?_
 ·obtain⟨O,ds,h1,_⟩:=h;exact h1
 ·obtain⟨O,ds,h1,h2,h3,h4⟩:=h;have hl:ds.length=ps.length:=h3.length.trans h1;have e4:aK B ps.length N.length ds=B K0 (env0 N.length ds):=by unfold aK;rw[if_pos hl]
  rw[e4]at h4;refine⟨_,hb.h cdv A outer s H E hr PassesOwn.leaving H O,O,env0 N.length ds,K0,_,⟨uy h2 h3,⟨bj.refl H,λ_ z=>z,λa z=>.inl z⟩,λi xs a e=>?_,λi d e=>by obtain⟨d',_,e2⟩:=jO i _ e;cases e2⟩,rfl,?_⟩
  ·obtain⟨d',_,e2⟩:=jO i _ e;cases e2
  ·generalize B K0 (env0 N.length ds)=r at h4;refine⟨λz=>by rw[z]at h4;exact h4,λO' ρ' σ' H' S e=>?_,λO' ρ' σ' H' S e=>?_,λO' ρ' σ' H' S e=>?_,λd O' v H' e b dv=>?_,λO' ρ' σ' H' x S e=>?_⟩
   ·have e:(.ok .non:R D)=r:=e;subst e;exact h4 .non H' S.base.same (mz.mpr rfl)
   ·have e:(un:R D)=r:=e;subst e;exact h4.elim
   ·have e:(un:R D)=r:=e;subst e;exact h4.elim
   ·subst e;exact h4 v H' b.same (dv.mono (iI b.sub))
   ·have e:(.error (some x):R D)=r:=e;subst e;exact EX h4 S.base.same S.base.sub
def bu{x qual:Str}{st:U1}{f:UM}{fd:Vp}{N ps:List Str}{k:Nat}{B:cm}(F:uT K x qual st f fd)(b:Binds K fd ps [])(m:mg x=some (.ref f))(SC:aP N ps (ax st))(hb:BodyOk P w K mg base k N qual st f B):
  Callee P w K mg base (k+1) x ps (aK B ps.length N.length):=⟨f,fd,xU F SC hb,b,F.kp,m⟩
def dZ{x qual:Str}{st:U1}{f:UM}{fd:Vp}{ps:List Str}(k:Nat)(F:uT K x qual st f fd)(b:Binds K fd ps [])(m:mg x=some (.ref f)):Callee P w K mg base k x ps (λ_=>un):=by
 have no:∀vs H Q E,¬Ek K ps.length (λ_=>un) vs H Q E:=λvs H Q E ⟨O,ds,_,_,_,e⟩=>e;exact⟨f,fd,⟨λvs H Q E h=>absurd h (no vs H Q E),λA outer s H args us vs Q E _ _ _ _ h=>absurd h (no vs H Q E)⟩,b,F.kp,m⟩
end
def sP{K:Tt}{T:String}(h1:TY K (.type "NoneType") (.type T)=some (T=="NoneType"))(h2:TY K (.type "bool") (.type T)=some (T=="bool"||T=="int"))(h3:TY K (.type "int") (.type T)=some (T=="int"))(h4:TY K (.type "str") (.type T)=some (T=="str"))
  (h5:TY K (.type "tuple") (.type T)=some (T=="tuple")) (h6:TY K (.type "list") (.type T)=some (T=="list")):zQ K T:=λd hd=>by
 cases d with
 |dct _ _=>cases hd
 |obj _ _ _=>cases hd
 |exc _ _ _=>cases hd
 |non=>exact h1
 |bl _=>exact h2
 |int _=>exact h3
 |str _=>exact h4
 |tup _=>exact h5
 |lst _=>exact h6
def tT{K:Tt}:zQ K "int":=sP rfl rfl rfl rfl rfl rfl
def lD{K:Tt}:zQ K "bool":=sP rfl rfl rfl rfl rfl rfl
def zx{K:Tt}:zQ K "str":=sP rfl rfl rfl rfl rfl rfl
def Av{K:Tt}:zQ K "tuple":=sP rfl rfl rfl rfl rfl rfl
end TG
namespace TG
open PySem PySem.Spec L2
variable[aU]
section
variable{X:Cx}{a b c:UZ}{fa fb fc:FX}{pos:Pos}
def KW{r:V->Hp->VK->Prop}{g:D->Option D}(s:Hh X.K r g):∀σ H Q,tF X (f1 g fa) σ H Q->Qq r (tF X fa) σ H Q:=λσ H Q ⟨O,ρ,E,hF⟩=>⟨O,ρ,E,(js.bind hF).imp λa hF x H1 s1 d1=>by
 obtain⟨d,e,q⟩:=js.rO hF;exact s a d x O H1 Q (E.all.same s1) e d1 λv H2 s2 d2=>q v H2 (s1.trans s2) d2⟩
def tW(g g':D->D->Option D)(fa fb fc:FX):FX:=λρ=>(fa ρ).bind λx=>(fb ρ).bind λy=>(rO (g x y)).bind λz=>Bq z ((fc ρ).bind λw=>rO (g' y w))
def DW{r r':R2}{g g':D->D->Option D}(s:cX X.K r g)(s':cX X.K r' g'):∀σ H Q,tF X (tW g g' fa fb fc) σ H Q->GO r r' (tF X fa) (tF X fb) (tF X fc) σ H Q:=λσ H Q ⟨O,ρ,E,hF⟩=>
 ⟨O,ρ,E,(js.bind hF).imp fun x hF v1 H1 s1 d1=>⟨O,ρ,E.same s1,((js.bind hF).mono s1).imp fun y hF v2 H2 s2 d2=>by
  obtain⟨z,e3,hF⟩:=js.rO (js.bind hF);refine s x y z v1 v2 O H2 _ (E.all.same (s1.trans s2)) e3 (d1.mono (bN s2)) d2 λv3 H3 s3 d3=>?_;cases z with
  |bl k=>
   refine⟨k,lY.mp d3,?_⟩;cases k with
   |false=>exact DS (hF _ H3 ((s1.trans s2).trans s3) (lY.mpr rfl))
   |true=>
    refine CW ⟨O,ρ,E.same ((s1.trans s2).trans s3),((js.bind (show js X σ O H ((fc ρ).bind λw=>rO (g' y w)) _ from hF)).mono ((s1.trans s2).trans s3)).imp λw hF v4 H4 s4 d4=>?_⟩;obtain⟨d,e5,q⟩:=js.rO hF;exact s' y w d v2 v4 O H4 Q (E.all.same (((s1.trans s2).trans s3).trans s4)) e5 (d2.mono (bN (s3.trans s4))) d4 λv5 H5 s5 d5=>q v5 H5 ((((s1.trans s2).trans s3).trans s4).trans s5) d5
  |_=>exact hF.elim⟩⟩
def MV{op op':Vf}{r r':R2}{g g':D->D->Option D}(ho:kn X (Ve op) r)(s:cX X.K r g)(ho':kn X (Ve op') r')(s':cX X.K r' g')(ha:FE X a fa)(hb:FE X b fb)(hc:FE X c fc)
  (hm:lastMarks [op,op'] [b,c]=false:=by with_unfolding_all rfl):FT X (.Compare a [op,op'] [b,c] pos) (fB (tW g g' fa fb fc)):=PT.weak (Ga ho ho' ha hb hc hm) (zC (DW s s'))
def Kw:D->Option D
 |.int i=>some (.int (-i))
 |_=>none
def mN(f:FX):FX:=f1 Kw f
def OY(ha:FE X a fa):FE X (.UnaryOp .USub a pos) (mN fa):=PE.weak (Mu J5 ha) (KW λx d v O H Q _ e dv q=>by
 cases x with
 |int i=>cases e;exact⟨i,fw.mp dv,q _ H (bj.refl H) (fw.mpr rfl)⟩
 |_=>cases e)
def NR{x:Str}{i:Int}(hg:Gl X x)(hm:∃t,X.mg x=some (.int i t))(hd:(x==("__debug__":Str))=false:=by decide):FE X (.Name x pos) (fC (.int i)):=by
 obtain⟨t,m⟩:=hm;exact qg (HQ (v:=.int i) hg m ⟨t,rfl⟩ hd) λ_ _=>fw.mpr rfl
def FQ:D->Option D
 |.str x=>if small x.length then some (.str (Txt.upper x))else none
 |_=>none
def KP(f:FX):FX:=f1 FQ f
def JS:D->Option D
 |.lst xs=>some (.lst xs.reverse)
 |.tup xs=>some (.tup xs.reverse)
 |_=>none
def Pl(f:FX):FX:=f1 JS f
def ut{K:Tt}{H:Hp}:∀{bs:List Bool}{vs:List V}{us:List UJ},bb K H (bs.map .bl) vs->Vals vs us->us=bs.map Value.bool
 |[],vs,us,h,r=>by
  rw[Ro,cI]at h;subst h;cases r;rfl
 |b::bs,vs,us,h,r=>by
  rw[Q0,bo]at h;obtain⟨v,r',e,h1,h2⟩:=h;subst e;cases r with
  |cons q1 q2=>
   rw[lY]at h1;subst h1;cases q1;rw[Q0,ut h2 q2]
end
end TG
namespace ZI
open PySem PySem.Spec PyProof.Rows
section
variable{prog:UL}{w:UK}{A:UV}{E:UJ->UW->Prop}{s:UW}
def Ao{it t:UM}{i:Nat}{its:Array UJ}{x:UJ}{Q:UJ->UW->Prop}(hit:s.heap.IsTupleIter it t i)(ht:s.heap.IsTuple t its)(hx:its[i]?=some x)
  (hQ:∀g,g.IsTupleIter it t (i+1)->Ud it s.heap g->Q x {s with heap:=g}):UY (model prog w) A (Builtin.SmallTypes.nextOf (.ref it)) Q E s:=by
 obtain⟨ob,h1,h2,h3⟩:=id hit;obtain⟨ol,g1,_,n,g2⟩:=ht;unfold Builtin.SmallTypes.nextOf;refine U7 (VE (name:=Str.ofString "__next__") hit.typeIs F.slot_tuple_iterator_next (VF F.slot_tuple_iterator_next hit.typeIs F.entry_tuple_iterator_next ?_ (F.args_tuple_iterator_next_1 _)));show UY _ _ (field (.ref it) 0 >>= _) _ _ s;refine U7 (VC h1 h3 (x:=.ref t) rfl ?_);show UY _ _ (if(Value.ref t==Value.none)=true then _ else _) _ _ s;rw[if_neg (show¬((Value.ref t==Value.none)=true)from λz=>QY z)];show UY _ _ (field (.ref it) 1 >>= _) _ _ s;refine U7 (VC h1 h3 (x:=.int i 0) rfl ?_);show UY _ _ (seqItems? (.ref t) >>= _) _ _ s;refine U7 (VQ g1 g2 ?_);simp only[Rh,hx];refine U7 (VR h1 h3 (by simp) (U6 ⟨x,rfl,U6 (hQ _ ⟨_,Uj _ h1 (Obj.isFreed_of_fields (Obj.data_mapFields h3 _)),(Obj.cls_mapFields ..).trans h2,by rw[Obj.data_mapFields h3];simp[rawInt]⟩ (Heap.SameBut.update ..))⟩))
def CP{it t:UM}{i:Nat}{its:Array UJ}{Q:UJ->UW->Prop}(hh:A.handled=none)(hit:s.heap.IsTupleIter it t i)(ht:s.heap.IsTuple t its)(hx:its[i]?=none)
  (hE:∀g e,Uk it s.heap g->(∃o,g.get? e=some o/\o.cls=.type "StopIteration")->E (.ref e) {s with heap:=g}):UY (model prog w) A (Builtin.SmallTypes.nextOf (.ref it)) Q E s:=by
 obtain⟨ob,h1,h2,h3⟩:=id hit;obtain⟨ol,g1,_,n,g2⟩:=ht;unfold Builtin.SmallTypes.nextOf;refine U7 (VE (name:=Str.ofString "__next__") hit.typeIs F.slot_tuple_iterator_next (VF F.slot_tuple_iterator_next hit.typeIs F.entry_tuple_iterator_next ?_ (F.args_tuple_iterator_next_1 _)));show UY _ _ (field (.ref it) 0 >>= _) _ _ s;refine U7 (VC h1 h3 (x:=.ref t) rfl ?_);show UY _ _ (if(Value.ref t==Value.none)=true then _ else _) _ _ s;rw[if_neg (show¬((Value.ref t==Value.none)=true)from λz=>QY z)];show UY _ _ (field (.ref it) 1 >>= _) _ _ s;refine U7 (VC h1 h3 (x:=.int i 0) rfl ?_);show UY _ _ (seqItems? (.ref t) >>= _) _ _ s;refine U7 (VQ g1 g2 ?_);simp only[Rh,hx];refine U7 (VN (U7 (VR h1 h3 (by simp) ?_)));show UY _ _ (newExc (.type "StopIteration") [] >>= _) _ _ _;refine U7 ?_;simp only[newExc,newTuple];refine U7 (VH ?_ (by size_fits));refine U7 (m:=firstArgMember _ _) (VS (a:=Value.none) (by first|rfl|(simp only[firstArgMember];rfl)) ?_);refine VH ?_ (by size_fits);simp only[raiseNew];refine U7 (VU ?_)
 first|rw[show A.in1.handled=none from hh]|rw[hh]
 refine U7 (U6 (wpAny_throw ?_));exact hE _ _ (((Heap.SameBut.update ..).extBut.push _).push _) ⟨_,Ug _ rfl,rfl⟩
end
def K9{prog:UL}{w:UK}{A:UV}(hh:A.handled=none)(it t:UM)(hne:t≠it)(its:Array UJ):Draws prog w A it [it,t] its.size (λi v=>its[i]?=some v) (λi h=>h.IsTupleIter it t i/\h.IsTuple t its)where
 live:=λi h ⟨⟨o,e,_⟩,_⟩=>⟨o,e⟩
 frame:=λi h h' ⟨x,y⟩ k=>⟨x.at λo e=>k it (by simp) o e,let ⟨o,e,r⟩:=y;⟨o,k t (by simp) o e,r⟩⟩
 item:=λi s Q E hi ⟨x,y⟩ hQ=>Ao x y (Array.getElem?_eq_getElem hi) λg hg hs=>hQ _ g s.toks (Array.getElem?_eq_getElem hi) ⟨hg,let ⟨o,e,r⟩:=y;⟨o,(hs.2 t hne).trans e,r⟩⟩ hs
 done:=λs Q E ⟨x,y⟩ hE=>CP hh x y (by simp) hE
structure Apart(z TI TO i1 i2:UM)(fp1 fp2:List UM):Prop where
 a1:TI≠z
 a2:TO≠z
 a3:TI≠TO
 b1:z∉fp1
 b2:TO∉fp1
 b3:i2∉fp1
 c1:z∉fp2
 c2:TO∉fp2
 c3:i1∉fp2
 d1:TI≠i1
 d2:TI≠i2
 e1:i1∈fp1
 e2:i2∈fp2
section
variable{prog:UL}{w:UK}{A:UV}{E:UJ->UW->Prop}{s:UW}{z TI TO i1 i2:UM}{fp1 fp2:List UM}{n1 n2 i:Nat}{P1 P2:Nat->UJ->Prop}{S1 S2:Nat->UO->Prop}{a b:UJ}
def next_item{Q:UJ->UW->Prop}(Ap:Apart z TI TO i1 i2 fp1 fp2)(D1:Draws prog w A i1 fp1 n1 P1 S1)(D2:Draws prog w A i2 fp2 n2 P2 S2)(hz:VV s.heap z TI TO .none)(hTI:VW s.heap TI (.ref i1) (.ref i2))(hTO:VW s.heap TO a b)(st1:S1 i s.heap)(st2:S2 i s.heap)(l1:i<n1)(l2:i<n2)
  (hQ:∀ x y g tk,P1 i x->P2 i y->VV g z TI TO (rawInt s.heap.objs.size)->VW g TO x y->S1 (i+1) g->S2 (i+1) g->VW g s.heap.objs.size x y->g.objs.size=s.heap.objs.size+1 ->
   (∀c o,c≠z->c≠TO->c≠i1->c≠i2->s.heap.get? c=some o->g.get? c=some o)->Q (.ref s.heap.objs.size) {s with heap:=g,toks:=tk}):
  UY (model prog w) A (Builtin.«zip.__next__» ⟨[.ref z],[]⟩) (λfin s'=>∃v,fin=.done (.ret v)/\Q v s') E s:=by
 have n1z:i1≠z:=λe=>Ap.b1 (e ▸ Ap.e1);have n2z:i2≠z:=λe=>Ap.c1 (e ▸ Ap.e2);have n1T:i1≠TO:=λe=>Ap.b2 (e ▸ Ap.e1);have n2T:i2≠TO:=λe=>Ap.c2 (e ▸ Ap.e2);show UY _ _ (field (.ref z) 2 >>= _) _ _ _;refine U7 (VC hz rfl (x:=.bool false) rfl ?_);show UY _ _ (field (.ref z) 3 >>= _) _ _ _;refine U7 (VC hz rfl (x:=.ref TI) rfl ?_);refine U7 (VQ hTI rfl ?_);show UY _ _ (Builtin.SmallTypes.ownedTupleIsFree (.ref z) >>= _) _ _ _;refine U7 ?_;unfold Builtin.SmallTypes.ownedTupleIsFree;refine U7 (VC hz rfl (x:=.none) rfl (U6 ?_));simp only[if_true];refine U7 (VN ?_);refine U7 (VC hz rfl (x:=.ref TO) rfl ?_);refine U7 (VX hz (by simp) λg1 hz1 k1=>?_);have hz1:VV g1 z TI TO .ellipsis:=hz1;refine U7 ?_;simp only[List.zipIdx_cons,List.zipIdx_nil,Rx,List.forIn_nil];refine U7 (U7 (VY ?_));show UY _ _ (Builtin.SmallTypes.nextOf (.ref i1) >>= _) _ _ _;have q1:S1 i g1:=D1.frame _ _ _ st1 λb hb o e=>k1.extBut _ _ (λz'=>Ap.b1 (z' ▸ hb)) e;refine U7 (D1.item i {s with heap:=g1} _ _ l1 q1 λx g2 tk2 p1 q2 k2=>U6 ?_);have t2:VW g2 TO a b:=k2.extBut _ _ n1T.symm (k1.extBut _ _ Ap.a2 hTO);refine U7 (VQ t2 rfl ?_);refine U7 (VZ t2 λg3 t3 k3=>?_);have t3:VW g3 TO x b:=t3;refine U7 (V0 (U6 ?_));refine U7 (U7 (VY ?_));show UY _ _ (Builtin.SmallTypes.nextOf (.ref i2) >>= _) _ _ _;have q3:S2 i g3:=D2.frame _ _ _ st2 λb hb o e=>k3.extBut _ _ (λz'=>Ap.c2 (z' ▸ hb)) (k2.extBut _ _ (λz'=>Ap.c3 (z' ▸ hb)) (k1.extBut _ _ (λz'=>Ap.c1 (z' ▸ hb)) e));refine U7 (D2.item i {s with heap:=g3,toks:=tk2} _ _ l2 q3 λy g4 tk4 p2 q4 k4=>U6 ?_);have t4:VW g4 TO x b:=k4.extBut _ _ n2T.symm t3;refine U7 (VQ t4 rfl ?_);refine U7 (VZ t4 λg5 t5 k5=>?_);have t5:VW g5 TO x y:=t5;refine U7 (V0 (U6 (U6 ?_)));refine U7 (VQ t5 rfl ?_);refine U7 (V2 ?_);have hsz:g5.objs.size=s.heap.objs.size:=by rw[k5.1,k4.1,k3.1,k2.1,k1.1]
 have hz5:VV g5 z TI TO .ellipsis:=k5.extBut _ _ Ap.a2.symm (k4.extBut _ _ n2z.symm (k3.extBut _ _ Ap.a2.symm (k2.extBut _ _ n1z.symm hz1)));have k15:∀c o,c≠z->c≠TO->c≠i1->c≠i2->s.heap.get? c=some o->g5.get? c=some o:=λc o c1 c2 c3 c4 e=>k5.extBut _ _ c2 (k4.extBut _ _ c4 (k3.extBut _ _ c2 (k2.extBut _ _ c3 (k1.extBut _ _ c1 e))));have r1:S1 (i+1) g5:=D1.frame _ _ _ q2 λb hb o e=>k5.extBut _ _ (λz'=>Ap.b2 (z' ▸ hb)) (k4.extBut _ _ (λz'=>Ap.b3 (z' ▸ hb)) (k3.extBut _ _ (λz'=>Ap.b2 (z' ▸ hb)) e));have r2:S2 (i+1) g5:=D2.frame _ _ _ q4 λb hb o e=>k5.extBut _ _ (λz'=>Ap.c2 (z' ▸ hb)) e;have lz:z<g5.objs.size:=Ub hz5;show UY _ _ (Builtin.SmallTypes.ownedTupleHandOut (.ref z) (.ref g5.objs.size) >>= _) _ _ _;refine U7 ?_;unfold Builtin.SmallTypes.ownedTupleHandOut;have hz6:VV (g5.push {cls:=.type "tuple",data:=.seq #[x,y]}) z TI TO .ellipsis:=Ue _ hz5;refine U7 (VX hz6 (by simp) λg7 hz7 k7=>?_);have hz7:VV g7 z TI TO (rawInt g5.objs.size):=hz7;refine VX hz7 (by simp) λg8 hz8 k8=>?_;have hz8:VV g8 z TI TO (rawInt g5.objs.size):=hz8;have up:∀c o,c≠z->g5.get? c=some o->g8.get? c=some o:=λc o c1 e=>k8.extBut _ _ c1 (k7.extBut _ _ c1 (Ue _ e));have t8:VW g8 g5.objs.size x y:=k8.extBut _ _ (QS lz) (k7.extBut _ _ (QS lz) (Ug _ rfl));have s8:g8.objs.size=g5.objs.size+1:=by rw[k8.1,k7.1,Uh]
 rw[hsz]at hz8 t8 s8;refine U6 ⟨_,rfl,?_⟩;show Q (.ref g5.objs.size) _;rw[hsz];exact hQ x y g8 tk4 p1 p2 hz8 (up _ _ Ap.a2 t5) (D1.frame _ _ _ r1 λb hb o e=>up b o (λz'=>Ap.b1 (z' ▸ hb)) e) (D2.frame _ _ _ r2 λb hb o e=>up b o (λz'=>Ap.c1 (z' ▸ hb)) e) t8 s8 λc o c1 c2 c3 c4 e=>up c o c1 (k15 c o c1 c2 c3 c4 e)
def next_end{Q:Fin->UW->Prop}(Ap:Apart z TI TO i1 i2 fp1 fp2)(D1:Draws prog w A i1 fp1 n1 P1 S1)(D2:Draws prog w A i2 fp2 n2 P2 S2)(hz:VV s.heap z TI TO .none)(hTI:VW s.heap TI (.ref i1) (.ref i2))(hTO:VW s.heap TO a b)(st1:S1 i s.heap)(st2:S2 i s.heap)(hend:i=n1\/(i<n1/\i=n2))
  (hE:∀g e tk,(∀c o,c≠z->c≠TO->c≠i1->c≠i2->s.heap.get? c=some o->g.get? c=some o)->(∃o,g.get? e=some o/\o.cls=.type "StopIteration")->E (.ref e) {s with heap:=g,toks:=tk}):
  UY (model prog w) A (Builtin.«zip.__next__» ⟨[.ref z],[]⟩) Q E s:=by
 have n1z:i1≠z:=λe=>Ap.b1 (e ▸ Ap.e1);have n2z:i2≠z:=λe=>Ap.c1 (e ▸ Ap.e2);have n1T:i1≠TO:=λe=>Ap.b2 (e ▸ Ap.e1);show UY _ _ (field (.ref z) 2 >>= _) _ _ _;refine U7 (VC hz rfl (x:=.bool false) rfl ?_);show UY _ _ (field (.ref z) 3 >>= _) _ _ _;refine U7 (VC hz rfl (x:=.ref TI) rfl ?_);refine U7 (VQ hTI rfl ?_);show UY _ _ (Builtin.SmallTypes.ownedTupleIsFree (.ref z) >>= _) _ _ _;refine U7 ?_;unfold Builtin.SmallTypes.ownedTupleIsFree;refine U7 (VC hz rfl (x:=.none) rfl (U6 ?_));simp only[if_true];refine U7 (VN ?_);refine U7 (VC hz rfl (x:=.ref TO) rfl ?_);refine U7 (VX hz (by simp) λg1 hz1 k1=>?_);have hz1:VV g1 z TI TO .ellipsis:=hz1;refine U7 ?_;simp only[List.zipIdx_cons,List.zipIdx_nil,Rx,List.forIn_nil];refine U7 (U7 (VY ?_));show UY _ _ (Builtin.SmallTypes.nextOf (.ref i1) >>= _) _ _ _;have q1:S1 i g1:=D1.frame _ _ _ st1 λb hb o e=>k1.extBut _ _ (λz'=>Ap.b1 (z' ▸ hb)) e;rcases hend with hend|⟨l1,hend⟩
 ·subst hend;refine U7 (D1.done {s with heap:=g1} _ _ q1 λg2 e k2 he=>?_);obtain⟨oe,hoe,hce⟩:=he;have hz2:VV g2 z TI TO .ellipsis:=k2 _ _ n1z.symm hz1;have hez:e≠z:=λx=>by rw[x,hz2]at hoe;cases hoe;simp at hce
  exact VX hz2 (by simp) λg3 _ k3=>hE g3 e s.toks (λc o c1 _ c3 _ x=>k3.extBut _ _ c1 (k2 _ _ c3 (k1.extBut _ _ c1 x))) ⟨oe,k3.extBut _ _ hez hoe,hce⟩
 ·refine U7 (D1.item i {s with heap:=g1} _ _ l1 q1 λx g2 tk2 p1 q2 k2=>U6 ?_);have t2:VW g2 TO a b:=k2.extBut _ _ n1T.symm (k1.extBut _ _ Ap.a2 hTO);refine U7 (VQ t2 rfl ?_);refine U7 (VZ t2 λg3 t3 k3=>?_);refine U7 (V0 (U6 ?_));refine U7 (U7 (VY ?_));show UY _ _ (Builtin.SmallTypes.nextOf (.ref i2) >>= _) _ _ _;have q3:S2 i g3:=D2.frame _ _ _ st2 λb hb o e=>k3.extBut _ _ (λz'=>Ap.c2 (z' ▸ hb)) (k2.extBut _ _ (λz'=>Ap.c3 (z' ▸ hb)) (k1.extBut _ _ (λz'=>Ap.c1 (z' ▸ hb)) e));subst hend;refine U7 (D2.done {s with heap:=g3,toks:=tk2} _ _ q3 λg4 e k4 he=>?_);obtain⟨oe,hoe,hce⟩:=he;have hz4:VV g4 z TI TO .ellipsis:=k4 _ _ n2z.symm (k3.extBut _ _ Ap.a2.symm (k2.extBut _ _ n1z.symm hz1));have hez:e≠z:=λx=>by rw[x,hz4]at hoe;cases hoe;simp at hce
  exact VX hz4 (by simp) λg5 _ k5=>hE g5 e tk2 (λc o c1 c2 c3 c4 x=>k5.extBut _ _ c1 (k4 _ _ c4 (k3.extBut _ _ c2 (k2.extBut _ _ c3 (k1.extBut _ _ c1 x))))) ⟨oe,k5.extBut _ _ hez hoe,hce⟩
end
def SQ(b:Bool)(h:UO)(l:UM)(xs:Array UJ):Prop:=if b then h.IsList l xs else h.IsTuple l xs
def SI(b:Bool)(h:UO)(i l:UM)(k:Nat):Prop:=if b then h.IsListIter i l k else h.IsTupleIter i l k
def NE(b:Bool):String:=if b then"list_iterator"else"tuple_iterator"
def SQ.keep{b:Bool}{h h':UO}{l:UM}{xs:Array UJ}(x:SQ b h l xs)(k:∀o,h.get? l=some o->h'.get? l=some o):SQ b h' l xs:=by
 cases b with
 |true=>exact Heap.IsList.at x k
 |false=>obtain⟨o,e,r⟩:=(show h.IsTuple l xs from x);exact(show h'.IsTuple l xs from⟨o,k o e,r⟩)
def SI.keep{b:Bool}{h h':UO}{i l:UM}{n:Nat}(x:SI b h i l n)(k:∀o,h.get? i=some o->h'.get? i=some o):SI b h' i l n:=by
 cases b with
 |true=>exact Heap.IsListIter.at x k
 |false=>exact Heap.IsTupleIter.at x k
def SQ.lt{b:Bool}{h:UO}{l:UM}{xs:Array UJ}(x:SQ b h l xs):l<h.objs.size:=by
 cases b with
 |true=>obtain⟨o,e,_⟩:=(show h.IsList l xs from x);exact Ub e
 |false=>obtain⟨o,e,_⟩:=(show h.IsTuple l xs from x);exact Ub e
def SI.get{b:Bool}{h:UO}{i l:UM}{n:Nat}(x:SI b h i l n):∃o,h.get? i=some o/\∀v,o.data≠.cell v:=by
 cases b with
 |true=>obtain⟨o,e,_,d⟩:=(show h.IsListIter i l n from x);exact⟨o,e,λv z=>by rw[d]at z;cases z⟩
 |false=>obtain⟨o,e,_,d⟩:=(show h.IsTupleIter i l n from x);exact⟨o,e,λv z=>by rw[d]at z;cases z⟩
def SI.new{b:Bool}{h:UO}{l:UM}:SI b (h.push {cls:=.type (NE b),data:=.fields #[.ref l,.int 0 0]}) h.objs.size l 0:=by
 cases b with
 |true=>exact⟨_,Ug _ rfl,rfl,rfl⟩
 |false=>exact⟨_,Ug _ rfl,rfl,rfl⟩
def uI{b:Bool}{prog:UL}{w:UK}{A:UV}{E:UJ->UW->Prop}{s:UW}{l:UM}{xs:Array UJ}{Q:UJ->UW->Prop}(h:SQ b s.heap l xs)
  (hQ:Q (.ref s.heap.objs.size) {s with heap:=s.heap.push {cls:=.type (NE b),data:=.fields #[.ref l,.int 0 0]}}):UY (model prog w) A (pyIter (.ref l)) Q E s:=by
 cases b with
 |true=>exact U9 h hQ
 |false=>exact wpAny_pyIter_tuple h hQ
def oh{prog:UL}{w:UK}{A:UV}(b:Bool)(hh:A.handled=none)(it l:UM)(hne:l≠it)(its:Array UJ):Draws prog w A it [it,l] its.size (λi v=>its[i]?=some v) (λi h=>SI b h it l i/\SQ b h l its):=by
 cases b with
 |true=>exact Draws.list hh it l hne its
 |false=>exact K9 hh it l hne its
abbrev Em(b1:Bool)(h:UO)(l1:UM):UO:=h.push {cls:=.type (NE b1),data:=.fields #[.ref l1,.int 0 0]}
abbrev M2(b1 b2:Bool)(h:UO)(l1 l2:UM):UO:=(Em b1 h l1).push {cls:=.type (NE b2),data:=.fields #[.ref l2,.int 0 0]}
abbrev NQ(b1 b2:Bool)(h:UO)(l1 l2:UM):UO:=(M2 b1 b2 h l1 l2).push {cls:=.type "tuple",data:=.seq #[.ref h.objs.size,.ref (Em b1 h l1).objs.size]}
abbrev NX(b1 b2:Bool)(h:UO)(l1 l2:UM):UO:=(NQ b1 b2 h l1 l2).push {cls:=.type "tuple",data:=.seq #[.none,.none]}
abbrev Jx(b1 b2:Bool)(h:UO)(l1 l2:UM):UO:=(NX b1 b2 h l1 l2).push {cls:=.type "zip",data:=.fields #[.none,.bool false,.bool false,.ref (M2 b1 b2 h l1 l2).objs.size,.ref (NQ b1 b2 h l1 l2).objs.size]}
def EH(b1 b2:Bool)(l1 l2:UM)(xs ys:Array UJ):Meets (Builtin.«zip.__new__» ⟨[.type "zip",.ref l1,.ref l2],[]⟩) (λ_ R s=>SQ b1 s.heap l1 xs/\SQ b2 s.heap l2 ys/\R (.ok (.ret (.ref (NX b1 b2 s.heap l1 l2).objs.size))) {s with heap:=Jx b1 b2 s.heap l1 l2}):=
 .of_wp λprog w A R s h=>by
  obtain⟨hp,g,d,tk,os⟩:=s;obtain⟨q1,q2,h⟩:=h;have hsub:=sub_zip;have e1:SQ b1 (Shared.heap ⟨hp,g,d,tk,os⟩) l1 xs:=q1;have e2:SQ b2 (Shared.heap ⟨Em b1 hp l1,g,d,tk,os⟩) l2 ys:=q2.keep λo e=>Ue _ e
  wp_walk using uI e1,uI e2
  exact⟨_,rfl,h⟩
def GK{prog:UL}{w:UK}{A:UV}{E:UJ->UW->Prop}{s:UW}{b1 b2:Bool}{l1 l2:UM}{xs ys:Array UJ}{Q:UJ->UW->Prop}(h1:SQ b1 s.heap l1 xs)(h2:SQ b2 s.heap l2 ys)
  (h:∀ g,VV g (s.heap.objs.size+4) (s.heap.objs.size+2) (s.heap.objs.size+3) .none->VW g (s.heap.objs.size+2) (.ref s.heap.objs.size) (.ref (s.heap.objs.size+1))->VW g (s.heap.objs.size+3) .none .none->SI b1 g s.heap.objs.size l1 0->SI b2 g (s.heap.objs.size+1) l2 0 ->
   (∀c o,s.heap.get? c=some o->g.get? c=some o)->Q (.ref (s.heap.objs.size+4)) {s with heap:=g}):UY (model prog w) A (call (.type "zip") [.ref l1,.ref l2]) Q E s:=by
 refine callType_new F.called_zip (by decide) (F.typeCall_zip_2 _ _) (F.newCall_zip_2 _ _) (λobj=>F.args_object_init_3 obj _ _) F.entry_zip_new (EH b1 b2 l1 l2 xs ys) ⟨h1,h2,?_⟩;have z1:(Em b1 s.heap l1).objs.size=s.heap.objs.size+1:=Uh ..
 have z2:(M2 b1 b2 s.heap l1 l2).objs.size=s.heap.objs.size+2:=by rw[Uh,z1]
 have z3:(NQ b1 b2 s.heap l1 l2).objs.size=s.heap.objs.size+3:=by rw[Uh,z2]
 have z4:(NX b1 b2 s.heap l1 l2).objs.size=s.heap.objs.size+4:=by rw[Uh,z3]
 have u1:∀c o,(Em b1 s.heap l1).get? c=some o->(Jx b1 b2 s.heap l1 l2).get? c=some o:=λc o e=>Ue _ (Ue _ (Ue _ (Ue _ e)));have u2:∀c o,(M2 b1 b2 s.heap l1 l2).get? c=some o->(Jx b1 b2 s.heap l1 l2).get? c=some o:=λc o e=>Ue _ (Ue _ (Ue _ e));have g5:(Jx b1 b2 s.heap l1 l2).get? (NX b1 b2 s.heap l1 l2).objs.size=some _:=Ug _ rfl;have g4:(Jx b1 b2 s.heap l1 l2).get? (NQ b1 b2 s.heap l1 l2).objs.size=some _:=Ue _ (Ug _ rfl);have g3:(Jx b1 b2 s.heap l1 l2).get? (M2 b1 b2 s.heap l1 l2).objs.size=some _:=Ue _ (Ue _ (Ug _ rfl));have g2:SI b2 (Jx b1 b2 s.heap l1 l2) (Em b1 s.heap l1).objs.size l2 0:=SI.keep (SI.new (h:=Em b1 s.heap l1)) λo e=>u2 _ o e;have g1:SI b1 (Jx b1 b2 s.heap l1 l2) s.heap.objs.size l1 0:=SI.keep SI.new λo e=>u1 _ o e;show _/\_;rw[z2,z3,z4]at g5;rw[z1,z2]at g3;rw[z3]at g4;rw[z1]at g2;rw[z4];exact⟨⟨_,g5,rfl⟩,h _ g5 g3 g4 g1 g2 λc o e=>u1 c o (Ue _ e)⟩
def Ef(b : Bool)(l : UM)(xs : Array UJ): Meets (Builtin.«enumerate.__new__» ⟨[.type "enumerate", .ref l], []⟩) (fun _ R s => SQ b s.heap l xs /\
      R (.ok (.ret (.ref (Em b s.heap l).objs.size))) {s with heap:=(Em b s.heap l).push {cls:=.type "enumerate",data:=.fields #[.none,.bool false,.ref s.heap.objs.size,rawInt 0,.none,.none]}}):=
  .of_wp λprog w A R s h=>by
    obtain⟨hp,g,d,tk,os⟩:=s;obtain⟨q1,h⟩:=h;have hsub:=sub_enumerate;have e1:SQ b (Shared.heap ⟨hp,g,d,tk,os⟩) l xs:=q1
    wp_walk using uI e1
    refine wpAny_stack_any λst=>U6 ?_;split
    · rename_i c _ _ _ _ _
      cases(c==Value.type "enumerate")<;>(wp_walk using uI e1;exact⟨_,rfl,h⟩)
    · wp_walk using uI e1
      exact⟨_,rfl,h⟩
end ZI
namespace TG
open PySem PySem.Spec L2 ZI
variable[aU]
section
variable{X:Cx}{pins:List (UM×Obj)}{σ:St}{H:Hp}{s:UW}{h':UO}
def Inv.turnedL{ch:List UM}{p:UM}{o:HO}{t':Nat}(I:Inv X pins σ H s)(hf:∀b∈ch,vc X pins H b)(k:∀b u,b∉ch->s.heap.get? b=some u->h'.get? b=some u)(hp:s.heap.objs.size<=p)(new:cH X.prog X.w (upd H p o) h' p o):
  Inv X pins σ (upd H p o) {s with heap:=h',toks:=t'}:=by
 have hn:=I.hok.fresh hp;have nch:∀b u,H b=some u->b∉ch:=λb u e z=>by rw[(hf b z).1]at e;cases e
 refine I.step (g':=s.gens) (d':=s.drawn) (ch:=ch) (λb hb=>?_) (λb o _ _ hc e _=>k b o hc e) (λb o _ _ hc e _=>⟨o.slots,k b o hc e⟩) (λb u _ q n=>by rw[aD (QJ (QH (Ub q) hp))];exact n)
  (λb o hc e=>⟨o,k b o hc e⟩) (λb xs q=>by rw[aD (bc q hn)];exact q) (λb u xs q=>by rw[aD (bc q hn)];exact q) (λb ps q=>⟨#[],by rw[aD (bc q hn),q];simp⟩) (λm hm=>?_) (λb u e=>?_) I.bare
 ·obtain⟨_,f1,_,f3,f4,f5⟩:=hf b hb;exact⟨f3,f1,f4,f5⟩
 ·obtain⟨o,es,ep,ho,r⟩:=hm;exact⟨o,es,ep,k _ o (λz=>(hf _ z).2.1 rfl) ho,r⟩
 ·by_cases hb:b=p
  ·subst hb;rw[aX]at e;cases e;exact new
  ·rw[aD hb]at e;refine(I.hok b u e).stay (λc v hc q=>k c v ?_ q) (λc q=>by rw[aD (bc q hn)];exact q) λc xs q=>by rw[aD (bc q hn)];exact q
   rcases hc with z|z
   ·rw[z];exact nch b u e
   ·exact nch c _ z
def Inv.turned0{ch:List UM}{t':Nat}(I:Inv X pins σ H s)(hf:∀b∈ch,vc X pins H b)(k:∀b u,b∉ch->s.heap.get? b=some u->h'.get? b=some u):Inv X pins σ H {s with heap:=h',toks:=t'}:=by
 have nch:∀b u,H b=some u->b∉ch:=λb u e z=>by rw[(hf b z).1]at e;cases e
 refine I.step (g':=s.gens) (d':=s.drawn) (ch:=ch) (λb hb=>?_) (λb o _ _ hc e _=>k b o hc e) (λb o _ _ hc e _=>⟨o.slots,k b o hc e⟩) (λ_ _ _ _ n=>n)
  (λb o hc e=>⟨o,k b o hc e⟩) (λ_ _ e=>e) (λ_ _ _ e=>e) (λb ps e=>⟨#[],by rw[e];simp⟩) (λm hm=>?_) (λb u e=>?_) I.bare
 ·obtain⟨_,f1,_,f3,f4,f5⟩:=hf b hb;exact⟨f3,f1,f4,f5⟩
 ·obtain⟨o,es,ep,ho,r⟩:=hm;exact⟨o,es,ep,k _ o (λz=>(hf _ z).2.1 rfl) ho,r⟩
 ·refine(I.hok b u e).stay (λc v hc q=>k c v ?_ q) (λ_ q=>q) λ_ _ q=>q;rcases hc with z|z
  ·rw[z];exact nch b u e
  ·exact nch c _ z
end
def SX(K:Tt)(b:Bool)(H:Hp)(a:UM)(xs:List V):Prop:=if b then pH K H a xs else rk K H a xs
def SX.same{K:Tt}{b:Bool}{H H':Hp}{a:UM}{xs:List V}(e:bj H H')(h:SX K b H a xs):SX K b H' a xs:=by
 cases b with
 |true=>exact e.seq (show pH K H a xs from h)
 |false=>exact DU e (show rk K H a xs from h)
section
variable{X:Cx}{pins:List (UM×Obj)}{σ:St}{H:Hp}{s:UW}
def Inv.sx(I:Inv X pins σ H s){b:Bool}{a:UM}{xs:List V}(h:SX X.K b H a xs):∃its:List UJ,Vals xs its/\SQ b s.heap a its.toArray/\xs.length<=UP:=by
 cases b with
 |true=>obtain⟨its,r,p,z⟩:=I.list (show pH X.K H a xs from h);exact⟨its,r,p.isList,z⟩
 |false=>obtain⟨its,r,p,z⟩:=I.tuple (show rk X.K H a xs from h);exact⟨its,r,p,z⟩
def Inv.sx_inj(I:Inv X pins σ H s){b:Bool}{a:UM}{xs ys:List V}(h:SX X.K b H a xs)(h':SX X.K b H a ys):xs=ys:=by
 cases b with
 |true=>exact I.list_inj h h'
 |false=>exact I.tuple_inj h h'
end
def Qm(K:Tt)(b1 b2:Bool)(a1 a2:UM):It:=
  ⟨fun i H=>∃ xs ys,SX K b1 H a1 xs/\SX K b2 H a2 ys/\i < xs.length/\i < ys.length,
   λi H v H'=>∃p x y,v=.ref p/\H p=none/\H'=upd H p (.tup [x,y])/\(∀xs,SX K b1 H a1 xs->xs[i]?=some x)/\∀ys,SX K b2 H a2 ys->ys[i]?=some y,
   λi H=>∃xs ys,SX K b1 H a1 xs/\SX K b2 H a2 ys/\(i=xs.length\/(i<xs.length/\i=ys.length))⟩
def GL{P:UL}{w:UK}{K:Tt}{es:List UZ}{k:Nat}{pos:Pos}{b1 b2:Bool}{a1 a2 z TI TO i1 i2:UM}(Ap:Apart z TI TO i1 i2 [i1,a1] [i2,a2])(n1:a1≠i1)(n2:a2≠i2)(n3:z≠i1)(n4:z≠i2):Turn P w K (.Tuple es k pos) (Qm K b1 b2 a1 a2) [z,TI,TO,i1,i2] z
  (λi h=>VV h z TI TO .none/\VW h TI (.ref i1) (.ref i2)/\(∃a b,VW h TO a b)/\SI b1 h i1 a1 i/\SI b2 h i2 a2 i)where
 mem:=by simp
 obj:=λi h ⟨hz,hI,⟨a,b,hO⟩,s1,s2⟩ c hc=>by
  simp only[R3,R4,or_false]at hc;rcases hc with rfl|rfl|rfl|rfl|rfl
  ·exact⟨_,hz,λv q=>by cases q⟩
  ·exact⟨_,hI,λv q=>by cases q⟩
  ·exact⟨_,hO,λv q=>by cases q⟩
  ·exact s1.get
  ·exact s2.get
 keep:=λi h h' ⟨hz,hI,⟨a,b,hO⟩,s1,s2⟩ kp=>⟨kp z (by simp) _ hz,kp TI (by simp) _ hI,⟨a,b,kp TO (by simp) _ hO⟩,s1.keep λo e=>kp i1 (by simp) o e,s2.keep λo e=>kp i2 (by simp) o e⟩
 item:=by
  intro X hP hw hK hc i pins s σ H E I hf ⟨hz,hI,⟨a,b,hO⟩,s1,s2⟩ hg;subst hP hw hK;obtain⟨xs,ys,g1,g2,l1,l2⟩:=hg;obtain⟨its1,r1,q1,z1⟩:=Inv.sx I g1;obtain⟨its2,r2,q2,z2⟩:=Inv.sx I g2;have hh:X.A.in1.handled=none:=I.ok.hd hc;have hT:s.TypeIs (.ref z) "zip":=⟨_,hz,rfl⟩
  unfold pyNext;refine U7 (V3 (VE (name:=Str.ofString "__next__") hT F.slot_zip_next (VF F.slot_zip_next hT F.entry_zip_next
   (next_item Ap (oh (A:=X.A.in1) b1 hh i1 a1 n1 its1.toArray) (oh (A:=X.A.in1) b2 hh i2 a2 n2 its2.toArray) hz hI hO ⟨s1,q1⟩ ⟨s2,q2⟩ (by rw[QX,<-r1.length];exact l1) (by rw[QX,<-r2.length];exact l2) λu v g tk p1 p2 hz' hO' t1 t2 hp sz kp=>?_) (F.args_zip_next_1 _))))
  have e1:its1[i]?=some u:=by simpa using p1
  have e2:its2[i]?=some v:=by simpa using p2
  have hx:∃x,xs[i]?=some x/\RelV x u:=by
   obtain⟨u',hu,ru⟩:=r1.get (i:=i) (x:=xs[i]) (by simp[l1]);rw[e1]at hu;cases hu;exact⟨xs[i],by simp[l1],ru⟩
  have hy:∃y,ys[i]?=some y/\RelV y v:=by
   obtain⟨u',hu,ru⟩:=r2.get (i:=i) (x:=ys[i]) (by simp[l2]);rw[e2]at hu;cases hu;exact⟨ys[i],by simp[l2],ru⟩
  obtain⟨x,ex,rx⟩:=hx;obtain⟨y,ey,ry⟩:=hy;refine U6 ⟨_,rfl,?_⟩;refine wpAny_letOwnedTupleGo_zip hz' λg' hz2 sb=>?_;have hpz:s.heap.objs.size≠z:=QS (Ub hz);have hp':VW g' s.heap.objs.size u v:=sb.extBut _ _ hpz hp;have I':Inv X pins σ (upd H s.heap.objs.size (.tup [x,y])) {s with heap:=g',toks:=tk}:=Inv.turnedL (ch:=[z,TI,TO,i1,i2]) I hf (λc o hc e=>by
   simp only[R3,R4,or_false,not_or]at hc;exact sb.extBut _ _ hc.1 (kp c o hc.1 hc.2.2.1 hc.2.2.2.1 hc.2.2.2.2 e)) (QT _) ⟨by show 2<=UP;decide,[u,v],.cons rx (.cons ry .nil),_,hp',rfl,_,rfl⟩
  have fr:H s.heap.objs.size=none:=I.fresh;have ne:∀c∈[z,TI,TO,i1,i2],c≠s.heap.objs.size:=λc hc e=>by
   simp only[R3,R4,or_false]at hc;rcases hc with rfl|rfl|rfl|rfl|rfl
   ·exact hpz e.symm
   ·exact absurd (Ub hI) (by rw[e];exact QI _)
   ·exact absurd (Ub hO) (by rw[e];exact QI _)
   ·obtain⟨o,q,_⟩:=s1.get;exact absurd (Ub q) (by rw[e];exact QI _)
   ·obtain⟨o,q,_⟩:=s2.get;exact absurd (Ub q) (by rw[e];exact QI _)
  refine⟨.ref s.heap.objs.size,_,I',rfl,⟨_,x,y,rfl,fr,rfl,λxs' h=>by rw[Inv.sx_inj I h g1];exact ex,λys' h=>by rw[Inv.sx_inj I h g2];exact ey⟩,⟨hz2,?_,⟨u,v,sb.extBut _ _ Ap.a2 hO'⟩,?_,?_⟩,λc hc=>by rw[aD (ne c hc)];exact(hf c hc).1⟩
  ·exact sb.extBut _ _ Ap.a1 (kp TI _ Ap.a1 Ap.a3 Ap.d1 Ap.d2 hI)
  ·exact t1.1.keep λo e=>sb.extBut _ _ n3.symm e
  ·exact t2.1.keep λo e=>sb.extBut _ _ n4.symm e
 done:=by
  intro X hP hw hK hc i pins s σ H E I hf ⟨hz,hI,⟨a,b,hO⟩,s1,s2⟩ hg;subst hP hw hK;obtain⟨xs,ys,g1,g2,hl⟩:=hg;obtain⟨its1,r1,q1,z1⟩:=Inv.sx I g1;obtain⟨its2,r2,q2,z2⟩:=Inv.sx I g2;have hh:X.A.in1.handled=none:=I.ok.hd hc;have hT:s.TypeIs (.ref z) "zip":=⟨_,hz,rfl⟩
  unfold pyNext;refine U7 (V3 (VE (name:=Str.ofString "__next__") hT F.slot_zip_next (VF F.slot_zip_next hT F.entry_zip_next
   (next_end (i:=i) Ap (oh (A:=X.A.in1) b1 hh i1 a1 n1 its1.toArray) (oh (A:=X.A.in1) b2 hh i2 a2 n2 its2.toArray) hz hI hO ⟨s1,q1⟩ ⟨s2,q2⟩ (by rw[QX,QX,<-r1.length,<-r2.length];exact hl) λg e tk kp he=>?_) (F.args_zip_next_1 _))))
  obtain⟨o,ho,hce⟩:=he;refine U7 (V4 (T:="StopIteration") (b:=true) ⟨o,ho,hce⟩ V5 ?_);refine U6 ⟨rfl,Inv.turned0 (ch:=[z,TI,TO,i1,i2]) I hf λc o hc e=>?_⟩;simp only[R3,R4,or_false,not_or]at hc;exact kp c o hc.1 hc.2.2.1 hc.2.2.2.1 hc.2.2.2.2 e
 self:=λ_ _ _ _ _ ⟨hz,_⟩ h=>wpAny_pyIter_zip hz h
def HK:D->Option (Bool×List D)
 |.lst xs=>some (true,xs)
 |.tup xs=>some (false,xs)
 |_=>none
def uA{K:Tt}{H:Hp}{d:D}{b:Bool}{xs:List D}{v:V}(e:HK d=some (b,xs))(h:cJ K H d v):∃a vs,v=.ref a/\SX K b H a vs/\bb K H xs vs:=by
 cases d with
 |lst ys=>cases e;exact cT.mp h
 |tup ys=>cases e;obtain⟨a,vs,e1,e2,e3⟩:=cK.mp h;exact⟨a,vs,e1,rk.of e2,e3⟩
 |_=>cases e
def mO:List D->List D->List D
 |x::xs,y::ys=>.tup [x,y]::mO xs ys
 |_,_=>[]
def rL:∀xs ys:List D,(mO xs ys).length=min xs.length ys.length
 |[],_=>by simp[mO]
 |_::_,[]=>by simp[mO]
 |x::xs,y::ys=>by
  rw[mO,QZ,rL xs ys,QZ,QZ];omega
def yx:∀{xs ys:List D}{i:Nat}{d:D},(mO xs ys)[i]?=some d->∃x y,xs[i]?=some x/\ys[i]?=some y/\d=.tup [x,y]
 |[],_,i,d,h=>by simp[mO]at h
 |_::_,[],i,d,h=>by simp[mO]at h
 |x::xs,y::ys,0,d,h=>by
  rw[mO,R5]at h;cases h;exact⟨x,y,rfl,rfl,rfl⟩
 |x::xs,y::ys,i+1,d,h=>by
  rw[mO,R6]at h;obtain⟨a,b,h1,h2,h3⟩:=yx h;exact⟨a,b,by rw[R6];exact h1,by rw[R6];exact h2,h3⟩
def Gq{K:Tt}{Hd:Hp}{b1 b2:Bool}{a1 a2:UM}{ds es:List D}{vs ws:List V}(h1:SX K b1 Hd a1 vs)(g1:bb K Hd ds vs)(h2:SX K b2 Hd a2 ws)(g2:bb K Hd es ws):Walk K Hd (Qm K b1 b2 a1 a2) (mO ds es):=λHn O' i hO sm=>
  have s':bj Hd Hn:=sm.trans (aB Hn O')
  ⟨fun d e=>by
    obtain⟨x,y,e1,e2,rfl⟩:=yx e;have l1:i<ds.length:=(List.getElem?_eq_some_iff.mp e1).1;have l2:i<es.length:=(List.getElem?_eq_some_iff.mp e2).1;obtain⟨v,ev,dv⟩:=g1.get e1;obtain⟨w,ew,dw⟩:=g2.get e2;refine⟨⟨vs,ws,h1.same s',h2.same s',by rw[<-g1.length];exact l1,by rw[<-g2.length];exact l2⟩,λu H2 ⟨p,x',y',eu,hp,eH,q1,q2⟩=>?_⟩;have z1:=q1 vs (h1.same s');rw[ev]at z1;cases z1;have z2:=q2 ws (h2.same s');rw[ew]at z2;cases z2;subst eH eu;exact⟨bL hp _,eX hO hp (bo.mpr ⟨v,_,rfl,dv.mono sm,bo.mpr ⟨w,_,rfl,dw.mono sm,cI.mpr rfl⟩⟩)⟩,
   λhl=>by
    rw[rL]at hl;refine⟨vs,ws,h1.same s',h2.same s',?_⟩;rw[<-g1.length,<-g2.length]
    omega⟩
def Bs:List D->Option (List D)
 |[a,b]=>(HK a).bind λx=>(HK b).bind λy=>some (mO x.2 y.2)
 |_=>none
def C0(f:aq->R (List D)):aq->R (List D):=λρ=>(f ρ).bind λds=>rO (Bs ds)
section
variable{X:Cx}
def K8{a b c:UM}(h1:a≠b)(h2:a≠c):a∉[b,c]:=λh=>by
 rcases List.mem_cons.mp h with z|z
 ·exact h1 z
 ·exact h2 (List.mem_singleton.mp z)
def Dz{n a1 a2:UM}(h1:a1<n)(h2:a2<n):Apart (n+4) (n+2) (n+3) n (n+1) [n,a1] [n+1,a2]:=by
 have lt:∀{a b:Nat},a<b->(b:UM)≠(a:UM):=λh=>QS h;have lt':∀{a b:Nat},a<b->(a:UM)≠(b:UM):=λh=>QJ h;have g:∀k:Nat,a1<n+k:=λk=>QH h1 (R7 _ _);have g':∀k:Nat,a2<n+k:=λk=>QH h2 (R7 _ _);have p:∀{j k:Nat},j<k->n+j<n+k:=λh=>R8 h n;have p0:∀{k:Nat},0<k->n<n+k:=λh=>R9 h;exact⟨lt' (p (by decide)),lt' (p (by decide)),lt' (p (by decide)),K8 (lt (p0 (by decide))) (lt (g 4)),K8 (lt (p0 (by decide))) (lt (g 3)),K8 (lt (p0 (by decide))) (lt (g 1)),
  K8 (lt (p (by decide))) (lt (g' 4)),K8 (lt (p (by decide))) (lt (g' 3)),K8 (lt' (p0 (by decide))) (lt h2),lt (p0 (by decide)),lt (p (by decide)),QN,QN⟩
def J1{pins:List (UM×Obj)}{s:UW}{σ:St}{H:Hp}{O:List UM}{es:List UZ}{k:Nat}{tpos:Pos}{ds r:List D}{vs:List V}{us:List UJ}{RR:It->Hp->Prop}(I:Inv X pins σ H s)(hc:Bs ds=some r)(d1:bb X.K (hid H O) ds vs)(rv:Vals vs us)(q:∀J,Walk X.K (hid H O) J r->RR J H):
  UY (model X.prog X.w) X.A (call (.type "zip") us) (λv s1=>UY (model X.prog X.w) X.A (pyIter v) (PIE X pins σ (.Tuple es k tpos) RR) X.xe s1) X.xe s:=by
 unfold Bs at hc;split at hc
 ·rename_i a b;obtain⟨⟨b1,xs⟩,e1,hc⟩:=bind_some hc;obtain⟨⟨b2,ys⟩,e2,hc⟩:=bind_some hc;cases hc;obtain⟨va,vb,rfl,da,db⟩:=d1.two;obtain⟨u1,u2,rfl,r1,r2⟩:=vals2 rv;obtain⟨a1,ws1,rfl,x1,y1⟩:=uA e1 da;obtain⟨a2,ws2,rfl,x2,y2⟩:=uA e2 db;cases r1;cases r2;obtain⟨its1,rr1,q1,_⟩:=Inv.sx I (x1.same (aB H O));obtain⟨its2,rr2,q2,_⟩:=Inv.sx I (x2.same (aB H O));refine GK q1 q2 λg hz hI hO s1 s2 kp=>wpAny_pyIter_zip hz ?_;have Ap:=Dz q1.lt q2.lt;refine⟨_,_,_,_,H,rfl,I.kept (t':=s.toks) kp,GL (b1:=b1) (b2:=b2) Ap (QJ q1.lt) (QJ (QH q2.lt (R7 _ 1))) (QS (R9 (by decide))) (QS (R8 (by decide) _)),⟨hz,hI,⟨_,_,hO⟩,s1,s2⟩,λb hb=>?_,q _ (Gq x1 y1 x2 y2)⟩;have le:s.heap.objs.size<=b:=by
   simp only[R3,R4,or_false]at hb;rcases hb with rfl|rfl|rfl|rfl|rfl
   ·exact R7 _ _
   ·exact R7 _ _
   ·exact R7 _ _
   ·exact QT _
   ·exact R7 _ _
  exact I.fpOk le (I.hok.fresh le)
 ·cases hc
def PZ{a b:UZ}{es:List UZ}{k:Nat}{tpos:Pos}{f:aq->R (List D)}{p pos:Pos}(hg:Gl X "zip")(hm:X.mg "zip"=none)(ha:FA X [a,b] f)(hs:U0 [a,b] X.env=(false,eval a X.env)::U0 [b] X.env:=by rfl)(hpl:(backTo pos (U0 [b] X.env)).any (·.1)=false:=by rfl):FI X (.Tuple es k tpos) (.Call (.Name "zip" p) [a,b] [] pos) (C0 f):=by
 intro pins s σ H RR I ⟨O,ρ,E,hG⟩;have hA:=ha pos pins s σ H (λvs H1=>∃ds r,Bs ds=some r/\bb X.K (hid H1 O) ds vs/\∀J,Walk X.K (hid H1 O) J r->RR J H1) I ⟨O,ρ,E,(js.bind hG).imp λds hG vs H1 s1 d1=>by
  obtain⟨r,e,q⟩:=js.rO hG;exact⟨ds,r,e,d1,λJ wk=>q J H1 s1 wk⟩⟩
 refine Uu (kF I hg hm PyProof.Rows.boot_zip (Uq (dM hA λus s1 ⟨vs,H1,I1,r1,ds,r,er,d1,q⟩=>?_) hs hpl));exact J1 I1 er d1 r1 q
end
def Qf(K:Tt)(b:Bool)(a:UM):It:=
  ⟨fun i H=>∃ xs,SX K b H a xs/\i < xs.length,
   λi H v H'=>∃p x,v=.ref p/\H p=none/\H'=upd H p (.tup [.int i,x])/\∀xs,SX K b H a xs->xs[i]?=some x,
   λi H=>∃xs,SX K b H a xs/\i=xs.length⟩
def Dt{P:UL}{w:UK}{K:Tt}{es:List UZ}{k:Nat}{pos:Pos}{b:Bool}{a e it:UM}(n1:a≠it)(n2:e≠it)(n3:e≠a):Turn P w K (.Tuple es k pos) (Qf K b a) [e,it] e (λi h=>(∃old,IsEnum h e it i old)/\SI b h it a i)where
 mem:=by simp
 obj:=λi h ⟨⟨old,he⟩,s1⟩ c hc=>by
  simp only[R3,R4,or_false]at hc;rcases hc with rfl|rfl
  ·exact⟨_,he,λv q=>by cases q⟩
  ·exact s1.get
 keep:=λi h h' ⟨⟨old,he⟩,s1⟩ kp=>⟨⟨old,kp e (by simp) _ he⟩,s1.keep λo q=>kp it (by simp) o q⟩
 item:=by
  intro X hP hw hK hc i pins s σ H E I hf ⟨⟨old,he⟩,s1⟩ hg;subst hP hw hK;obtain⟨xs,g1,l1⟩:=hg;obtain⟨its,r1,q1,z1⟩:=Inv.sx I g1;have hh:X.A.in1.handled=none:=I.ok.hd hc;refine wpAny_pyNext_enum_itemD (oh (A:=X.A.in1) b hh it a n1 its.toArray) he ⟨s1,q1⟩ (by rw[QX,<-r1.length];exact l1) n2 (K8 n2 n3) λu g tk p1 ho t1 hp sz kp=>?_;have e1:its[i]?=some u:=by simpa using p1
  obtain⟨u',hu,ru⟩:=r1.get (i:=i) (x:=xs[i]) (by simp[l1]);rw[e1]at hu;cases hu;refine⟨_,rfl,wpAny_letOwnedTupleGo_enum ho λg' he' sb=>?_⟩;have hpe:s.heap.objs.size≠e:=QS (Ub he);have hp':=sb.extBut _ _ hpe hp;have I':Inv X pins σ (upd H s.heap.objs.size (.tup [.int i,xs[i]])) {s with heap:=g',toks:=tk+1}:=Inv.turnedL (ch:=[e,it]) I hf (λc o hc q=>by
   simp only[R3,R4,or_false,not_or]at hc;exact sb.extBut _ _ hc.1 (kp c o hc.1 hc.2 q)) (QT _) ⟨by show 2<=UP;decide,[.int i tk,u],.cons ⟨_,rfl⟩ (.cons ru .nil),_,hp',rfl,_,rfl⟩
  have ne:∀c∈[e,it],c≠s.heap.objs.size:=λc hc q=>by
   simp only[R3,R4,or_false]at hc;rcases hc with rfl|rfl
   ·exact hpe q.symm
   ·obtain⟨o,q',_⟩:=s1.get;exact absurd (Ub q') (by rw[q];exact QI _)
  refine⟨.ref s.heap.objs.size,_,I',rfl,⟨_,xs[i],rfl,I.fresh,rfl,λxs' h=>by rw[Inv.sx_inj I h g1];simp[l1]⟩,⟨⟨u,?_⟩,t1.1.keep λo q=>sb.extBut _ _ n2.symm q⟩,λc hc=>by rw[aD (ne c hc)];exact(hf c hc).1⟩;have ei:((i+1:Nat):Int)=(i:Int)+1:=by omega
  rw[ei];exact he'
 done:=by
  intro X hP hw hK hc i pins s σ H E I hf ⟨⟨old,he⟩,s1⟩ hg;subst hP hw hK;obtain⟨xs,g1,l1⟩:=hg;obtain⟨its,r1,q1,z1⟩:=Inv.sx I g1;have hh:X.A.in1.handled=none:=I.ok.hd hc;have el:i=its.toArray.size:=by rw[QX,<-r1.length];exact l1
  refine wpAny_pyNext_enum_endD (oh (A:=X.A.in1) b hh it a n1 its.toArray) he ⟨by rw[<-el];exact s1,q1⟩ λg kp=>⟨rfl,Inv.turned0 (ch:=[e,it]) I hf λc o hc q=>?_⟩
  simp only[R3,R4,or_false,not_or]at hc;exact kp c o hc.2 q
 self:=λ_ _ _ _ _ ⟨⟨old,he⟩,_⟩ h=>wpAny_pyIter_enum he h
def gP(i:Nat):List D->List D
 |[]=>[]
 |x::xs=>.tup [.int i,x]::gP (i+1) xs
def lX:∀(i:Nat)(xs:List D),(gP i xs).length=xs.length
 |_,[]=>rfl
 |i,x::xs=>by rw[gP,QZ,lX (i+1) xs,QZ]
def wG:∀{xs:List D}{k i:Nat}{d:D},(gP k xs)[i]?=some d->∃x,xs[i]?=some x/\d=.tup [.int ((k+i:Nat):Int),x]
 |[],k,i,d,h=>by simp[gP]at h
 |x::xs,k,0,d,h=>by
  rw[gP,R5]at h;cases h;exact⟨x,rfl,rfl⟩
 |x::xs,k,i+1,d,h=>by
  rw[gP,R6]at h;obtain⟨y,h1,h2⟩:=wG h;refine⟨y,by rw[R6];exact h1,?_⟩;rw[h2];congr 4;omega
def CD{K:Tt}{Hd:Hp}{b:Bool}{a:UM}{ds:List D}{vs:List V}(h1:SX K b Hd a vs)(g1:bb K Hd ds vs):Walk K Hd (Qf K b a) (gP 0 ds):=λHn O' i hO sm=>
  have s':bj Hd Hn:=sm.trans (aB Hn O')
  ⟨fun d e=>by
    obtain⟨x,e1,rfl⟩:=wG e;have l1:i<ds.length:=(List.getElem?_eq_some_iff.mp e1).1;obtain⟨v,ev,dv⟩:=g1.get e1;refine⟨⟨vs,h1.same s',by rw[<-g1.length];exact l1⟩,λu H2 ⟨p,x',eu,hp,eH,q1⟩=>?_⟩;have z1:=q1 vs (h1.same s');rw[ev]at z1;cases z1;subst eH eu;rw[Sa];exact⟨bL hp _,eX hO hp (bo.mpr ⟨.int i,_,rfl,fw.mpr rfl,bo.mpr ⟨v,_,rfl,dv.mono sm,cI.mpr rfl⟩⟩)⟩,
   λhl=>by
    rw[lX]at hl;exact⟨vs,h1.same s',by rw[<-g1.length];exact hl⟩⟩
def vD:List D->Option (List D)
 |[a]=>(HK a).bind λx=>some (gP 0 x.2)
 |_=>none
def fY(f:aq->R (List D)):aq->R (List D):=λρ=>(f ρ).bind λds=>rO (vD ds)
section
variable{X:Cx}
def CN{prog:UL}{w:UK}{A:UV}{E:UJ->UW->Prop}{s:UW}{b:Bool}{l:UM}{xs:Array UJ}{Q:UJ->UW->Prop}(h1:SQ b s.heap l xs)
  (h:∀g,IsEnum g (s.heap.objs.size+1) s.heap.objs.size 0 .none->SI b g s.heap.objs.size l 0->(∀c o,s.heap.get? c=some o->g.get? c=some o)->Q (.ref (s.heap.objs.size+1)) {s with heap:=g}):UY (model prog w) A (call (.type "enumerate") [.ref l]) Q E s:=by
 refine callType_new F.called_enumerate (by decide) (F.typeCall_enumerate_1 _) (F.newCall_enumerate_1 _) (λobj=>F.args_object_init_2 obj _) F.entry_enumerate_new (Ef b l xs) ⟨h1,?_⟩;have z1:(Em b s.heap l).objs.size=s.heap.objs.size+1:=Uh ..
 have g2:=Ug (Em b s.heap l) (o:={cls:=.type "enumerate",data:=.fields #[.none,.bool false,.ref s.heap.objs.size,rawInt 0,.none,.none]}) rfl;have g1:SI b ((Em b s.heap l).push {cls:=.type "enumerate",data:=.fields #[.none,.bool false,.ref s.heap.objs.size,rawInt 0,.none,.none]}) s.heap.objs.size l 0:=SI.keep SI.new λo e=>Ue _ e;show _/\_;rw[z1]at g2 ⊢;exact⟨⟨_,g2,rfl⟩,h _ g2 g1 λc o e=>Ue _ (Ue _ e)⟩
def IP{pins:List (UM×Obj)}{s:UW}{σ:St}{H:Hp}{O:List UM}{es:List UZ}{k:Nat}{tpos:Pos}{ds r:List D}{vs:List V}{us:List UJ}{RR:It->Hp->Prop}(I:Inv X pins σ H s)(hc:vD ds=some r)(d1:bb X.K (hid H O) ds vs)(rv:Vals vs us)(q:∀J,Walk X.K (hid H O) J r->RR J H):
  UY (model X.prog X.w) X.A (call (.type "enumerate") us) (λv s1=>UY (model X.prog X.w) X.A (pyIter v) (PIE X pins σ (.Tuple es k tpos) RR) X.xe s1) X.xe s:=by
 unfold vD at hc;split at hc
 ·rename_i a;obtain⟨⟨b1,xs⟩,e1,hc⟩:=bind_some hc;cases hc;obtain⟨va,rfl,da⟩:=d1.one;obtain⟨u1,rfl,r1⟩:=vals1 rv;obtain⟨a1,ws1,rfl,x1,y1⟩:=uA e1 da;cases r1;obtain⟨its1,rr1,q1,_⟩:=Inv.sx I (x1.same (aB H O));refine CN q1 λg he s1 kp=>wpAny_pyIter_enum he ?_;refine⟨_,_,_,_,H,rfl,I.kept (t':=s.toks) kp,Dt (b:=b1) (QJ q1.lt) (QS (R9 (by decide))) (QS (QH q1.lt (R7 _ 1))),⟨⟨_,he⟩,s1⟩,λb hb=>?_,q _ (CD x1 y1)⟩;have le:s.heap.objs.size<=b:=by
   simp only[R3,R4,or_false]at hb;rcases hb with rfl|rfl
   ·exact R7 _ _
   ·exact QT _
  exact I.fpOk le (I.hok.fresh le)
 ·cases hc
def Jc{a:UZ}{es:List UZ}{k:Nat}{tpos:Pos}{f:aq->R (List D)}{p pos:Pos}(hg:Gl X "enumerate")(hm:X.mg "enumerate"=none)(ha:FA X [a] f)(hs:U0 [a] X.env=(false,eval a X.env)::U0 [] X.env:=by rfl)(hpl:(backTo pos (U0 [] X.env)).any (·.1)=false:=by rfl):FI X (.Tuple es k tpos) (.Call (.Name "enumerate" p) [a] [] pos) (fY f):=by
 intro pins s σ H RR I ⟨O,ρ,E,hG⟩;have hA:=ha pos pins s σ H (λvs H1=>∃ds r,vD ds=some r/\bb X.K (hid H1 O) ds vs/\∀J,Walk X.K (hid H1 O) J r->RR J H1) I ⟨O,ρ,E,(js.bind hG).imp λds hG vs H1 s1 d1=>by
  obtain⟨r,e,q⟩:=js.rO hG;exact⟨ds,r,e,d1,λJ wk=>q J H1 s1 wk⟩⟩
 refine Uu (kF I hg hm PyProof.Rows.boot_enumerate (Uq (dM hA λus s1 ⟨vs,H1,I1,r1,ds,r,er,d1,q⟩=>?_) hs hpl));exact IP I1 er d1 r1 q
end
end TG
namespace TG
open PySem PySem.Spec L2
variable[aU]
def n5{K:Tt}{c:Str}{C C':UM}(h:clsAt K c C)(h':clsAt K c C'):C=C':=by
 unfold clsAt at h h';rw[h]at h';cases h';rfl
def uM{K:Tt}{H:Hp}{f:Str}:∀{fs:List Str}{ds:List D}{vs:List V}{d:D},bb K H ds vs->(fs.zip ds).lookup f=some d->∃v,(fs.zip vs).lookup f=some v/\cJ K H d v
 |[],_,_,_,_,e=>by simp at e
 |_::_,[],_,_,_,e=>by simp at e
 |g::fs,x::ds,vs,d,h,e=>by
  rw[bo]at h;obtain⟨v,r,rfl,h1,h2⟩:=h;rw[Sb,Rw]at e ⊢;cases hg:f==g with
  |true=>rw[hg]at e;cases e;exact⟨v,rfl,h1⟩
  |false=>rw[hg]at e;exact uM h2 e
def wM{f:Str}:∀{fs:List Str}{vs:List V},fs.contains f=false->(fs.zip vs).lookup f=none
 |[],_,_=>by simp
 |_::_,[],_=>by simp
 |g::fs,x::vs,h=>by
  rw[Sd,Se]at h;rw[Sb,Rw,h.1];exact wM h.2
def lK(f:Str)(cs:List Str)(d:D):Option D:=match d with
 |.obj c fs vs=>if cs.contains c then(fs.zip vs).lookup f else none
 |_=>none
def nH(K:Tt)(f:Str)(cs:List Str):Prop:=∀c∈cs,∀C,clsAt K c C->yj K C/\kE K C f
section
variable{X:Cx}{a o e:UZ}{es:List UZ}{fa fo:FX}{fas:aq->R (List D)}{f m x:Str}{cs:List Str}{pos apos p:Pos}{k k':Nat}{ps:List Str}
def Qa(ok:nH X.K f cs)(h:FE X a fa)(hb:Vk a f X.env (eval a X.env)=eval a X.env:=by rfl):FE X (.Attribute a f pos) (f1 (lK f cs) fa):=
 PE.weak (JV h hb) λσ H Q ⟨O,ρ,E,hF⟩=>⟨O,ρ,E,(js.bind hF).imp λd hF v H1 s1 d1=>by
  obtain⟨r,e,q⟩:=js.rO hF;cases d with
  |obj c fs vs=>
   have e':(if cs.contains c then(fs.zip vs).lookup f else none)=some r:=e;cases hc:cs.contains c with
   |false=>rw[hc]at e';cases e'
   |true=>
    rw[hc]at e';obtain⟨a,ws,ev,g1,g2,C,dx,g3,g4⟩:=Ha.mp d1;obtain⟨w,l1,l2⟩:=uM g1 e';obtain⟨cl,na⟩:=ok c (List.contains_iff_mem.mp hc) C g3;exact⟨a,C,dx,_,w,ev,aB H1 O _ _ g4,cl,na,l1,q w H1 s1 l2⟩
  |_=>cases e⟩
def MethAt(P:UL)(w:UK)(K:Tt)(mg:Str->Option UJ)(base:UO)(k:Nat)(c m:Str)(ps:List Str)(g:List D->R D):Prop:=
 ∃C f fd,clsAt K c C/\yj K C/\Meth K C m f/\jV P w K mg base (oY P w) k f fd ps (Ek K ps.length g)/\Binds K fd ps []
def dX(m:Str)(tbl:List (Str×(List D->R D)))(fo:FX)(fas:aq->R (List D)):FX:=λρ=>(fo ρ).bind λo=>match o with
 |.obj c fs vs=>match tbl.lookup c with
  |some g=>if fs.contains m then un else(fas ρ).bind λas=>g (o::as)
  |none=>un
 |_=>un
def gO(P:UL)(w:UK)(K:Tt)(mg:Str->Option UJ)(base:UO)(k:Nat)(m:Str)(ps:List Str)(tbl:List (Str×(List D->R D))):Prop:=
 ∀c g,tbl.lookup c=some g->MethAt P w K mg base k c m ps g/\Ar ps.length g
def ou{P:UL}{w:UK}{K:Tt}{mg:Str->Option UJ}{base:UO}:gO P w K mg base k m ps []:=λ_ _ h=>nomatch h
def cU{P:UL}{w:UK}{K:Tt}{mg:Str->Option UJ}{base:UO}{c:Str}{g:List D->R D}{tbl:List (Str×(List D->R D))}(h:MethAt P w K mg base k c m ps g)(hn:Ar ps.length g)(t:gO P w K mg base k m ps tbl):gO P w K mg base k m ps ((c,g)::tbl):=λc' g' e=>by
 rw[Rw]at e;cases hc:c'==c with
 |true=>
  rw[hc]at e;cases e
  have:c'=c:=by simpa using hc
  subst this;exact⟨h,hn⟩
 |false=>rw[hc]at e;exact t c' g' e
def MethAt.mono{P:UL}{w:UK}{K:Tt}{mg:Str->Option UJ}{base:UO}{c:Str}{g:List D->R D}(h:MethAt P w K mg base k c m ps g)(hk:k<=k'):MethAt P w K mg base k' c m ps g:=by
 obtain⟨C,f,fd,h1,h2,h3,h4,h5⟩:=h;exact⟨C,f,fd,h1,h2,h3,h4.mono hk,h5⟩
def FD{tbl:List (Str×(List D->R D))}{args:List UZ}{pl:Sem Bool}(tb:gO X.prog X.w X.K X.mg X.base k m ps tbl)(hr:fX k X.A)(ho:FE X o fo)
  (hc:∀ (pins:List (UM×Obj)) (s1:UW) (σ:St) (H1:Hp) (O:List UM) (ρ:aq) (a f:UM) (od:D) (Q:VK) (g:List D->R D) (fd:Vp) (w0:V),TL X.K (.ref f)=true->jV X.prog X.w X.K X.mg X.base (oY X.prog X.w) k f fd ps (Ek X.K ps.length g)->Binds X.K fd ps []->Ar ps.length g->Inv X pins σ H1 s1->d9 X.K O H1 ρ σ->cJ X.K (hid H1 O) od (.ref a) ->
   (js X σ O H1 ((fas ρ).bind λas=>g (od::as)) λd=>∀v H',bj H1 H'->cJ X.K (hid H' O) d v->Q v H')->
   UY (model X.prog X.w) X.A (Vl pos (.ref f) [.ref a] (backTo pos (U0 args X.env)) (backToKw pos (Vm [] X.env))) (EP X pins σ Q) X.xe s1)
  (ht:eval (.Call (.Attribute o m apos) args [] pos) X.env=(do
   let ov<-eval o X.env
   standAt apos.atName
   let (f,first)<-holding [ov] (getMethod ov m pl)
   Vl pos f first (backTo pos (U0 args X.env)) (backToKw pos (Vm [] X.env)))):
  FE X (.Call (.Attribute o m apos) args [] pos) (dX m tbl fo fas):=by
 intro pins s σ H Q I ⟨O,ρ,E,hF⟩;refine yO ho I ?_ ht;refine⟨O,ρ,E,(js.bind hF).imp λd hF v H1 s1 d1=>?_⟩;cases d with
 |obj c fs vs=>
  have hF':js X σ O H (match tbl.lookup c with|some g=>if fs.contains m then un else(fas ρ).bind λas=>g (.obj c fs vs::as)|none=>un) _:=hF;cases hg:tbl.lookup c with
  |none=>rw[hg]at hF';exact hF'.elim
  |some g=>
   rw[hg]at hF';have hF2:js X σ O H (if fs.contains m then un else(fas ρ).bind λas=>g (.obj c fs vs::as)) _:=hF';cases hm:fs.contains m with
   |true=>rw[hm]at hF2;exact hF2.elim
   |false=>
    rw[hm]at hF2;have hF3:js X σ O H ((fas ρ).bind λas=>g (.obj c fs vs::as)) _:=hF2;have d0:=d1;obtain⟨a,ws,ev,g1,g2,C,dx,g3,g4⟩:=Ha.mp d1;obtain⟨⟨C',f,fd,m1,m2,m3,m4,m5⟩,ar⟩:=tb c g hg;have eC:=n5 g3 m1;subst eC;subst ev;refine⟨a,C,dx,_,f,rfl,aB H1 O _ _ g4,m2,m3,wM hm,λs2 I2=>?_⟩;exact hc pins s2 σ H1 O ρ a f _ Q g fd (.ref a) m3.kp m4 m5 ar I2 (E.same s1) d0 ((hF3.mono s1).imp λd q v H2 s2 d2=>q v H2 (s1.trans s2) d2)
 |_=>exact hF.elim
def Az{σ:St}{O:List UM}{H:Hp}{g:List D->R D}{ds:List D}{vs:List V}{Q:VK}{n:Nat}(ar:Ar n g)(hO:dS H O)(d1:bb X.K (hid H O) ds vs)(h:js X σ O H (g ds) λd=>∀v H',bj H H'->cJ X.K (hid H' O) d v->Q v H'):∃E,nA (oY X.prog X.w) X σ E/\Ek X.K n g vs H Q E:=by
 cases hg:g ds with
 |ok d=>
  rw[hg]at h;refine⟨E0,BL,O,ds,by rw[<-d1.length];exact ar ds (by rw[hg];intro z;cases z),hO,d1,?_⟩;rw[hg];exact h
 |error z=>
  rw[hg]at h;cases z with
  |none=>exact h.elim
  |some x=>
   refine⟨Bz X O H x,BI h,O,ds,by rw[<-d1.length];exact ar ds (by rw[hg];intro z;cases z),hO,d1,?_⟩;rw[hg];exact yV
def Nu{tbl:List (Str×(List D->R D))}{pl:Sem Bool}(tb:gO X.prog X.w X.K X.mg X.base k m ps tbl)(hr:fX k' X.A)(hk:k<=k')(ho:FE X o fo)(ha:FA X (e::es) fas)
  (hns:(e::es).all noStar=true:=by rfl)
  (ht:eval (.Call (.Attribute o m apos) (e::es) [] pos) X.env=(do
   let ov<-eval o X.env
   standAt apos.atName
   let (f,first)<-holding [ov] (getMethod ov m pl)
   Vl pos f first (backTo pos (U0 (e::es) X.env)) (backToKw pos (Vm [] X.env))):=by rfl):
  FE X (.Call (.Attribute o m apos) (e::es) [] pos) (dX m tbl fo fas):=
 FD tb (hr.mono hk) ho (λpins s1 σ H1 O ρ a f od Q g fd _ kp F b ar I1 E1 dO hP=>by
  refine TN (first:=[.ref a]) (h₀:=X.base) I1.ok.mod.kin kp (dM (ha pos pins s1 σ H1 _ I1 ⟨O,ρ,E1,(js.bind hP).imp λas hP vs H2 s2 d2=>Az (vs:=.ref a::vs) ar (E1.all.same s2) (bo.mpr ⟨_,_,rfl,dO.mono (bN s2),d2⟩) ((hP.mono s2).imp λd q v H3 s3 d3=>q v H3 (s2.trans s3) d3)⟩) λus s2 ⟨vs,H2,I2,r,Ex,hx,q2⟩=>⟨I2.kIn,?_⟩) (cY (Rj _ _ ▸ hns).1) (gB (Rj _ _ ▸ hns).2);exact B9 (us:=.ref a::us) (vs:=.ref a::vs) F (hr.mono hk) b hx I2 (.cons rfl r) q2) ht
def cE{P:UL}{w:UK}{K:Tt}{mg:Str->Option UJ}{base:UO}{c y qual:Str}{C f:UM}{fd:Vp}{st:U1}{N:List Str}{B:cm}(h1:clsAt K c C)(h2:yj K C)(h3:Meth K C m f)(F:uT K y qual st f fd)(b:Binds K fd ps [])(SC:aP N ps (ax st))(hb:BodyOk P w K mg base k N qual st f B):
  MethAt P w K mg base (k+1) c m ps (aK B ps.length N.length):=⟨C,f,fd,h1,h2,h3,xU F SC hb,b⟩
def Qw(C:UM)(fs:List Str):Sp:=λvs H Q _=>∃x dx as,vs=.ref x::as/\as.length=fs.length/\H x=some (.ins C dx [])/\Q .non (upd H x (.ins C dx (fs.zip as)))
def o8(P:UL)(w:UK)(K:Tt)(mg:Str->Option UJ)(base:UO)(k:Nat)(c:Str)(ps fs:List Str):Prop:=
 ∃C f fd,clsAt K c C/\Mk K C f/\jV P w K mg base (oY P w) k f fd ps (Qw C fs)/\Binds K fd ps []/\mg c=some (.ref C)
def fNew(c:Str)(fs:List Str)(fas:aq->R (List D)):FX:=λρ=>(fas ρ).bind λas=>if as.length=fs.length then .ok (.obj c fs as)else un
def zK{K:Tt}{H1:Hp}{O:List UM}{c:Str}{fs:List Str}{as:List D}{vs:List V}{C x dx:UM}(hc:clsAt K c C)(hl:as.length=fs.length)(d1:bb K (hid H1 O) as vs)(hO:dS H1 O)(hx:H1 x=none)(hd:H1 dx=none)(ne:dx≠x):
  bj H1 (upd (upd (upd H1 dx (.own x)) x (.ins C dx [])) x (.ins C dx (fs.zip vs)))/\cJ K (hid (upd (upd (upd H1 dx (.own x)) x (.ins C dx [])) x (.ins C dx (fs.zip vs))) O) (.obj c fs as) (.ref x):=by
 have sm:bj H1 (upd (upd (upd H1 dx (.own x)) x (.ins C dx [])) x (.ins C dx (fs.zip vs))):=λb o h=>by
  have n1:=bc h hx;have n2:=bc h hd;rw[aD n1,aD n1,aD n2];exact h
 exact⟨sm,Ha.mpr ⟨x,vs,rfl,d1.mono (bN sm),by rw[<-d1.length,hl],C,dx,hc,by rw[i7 (hO.not hx),aX]⟩⟩
def Ml{X:Cx}:AF (oY X.prog X.w) X E0:=λ_ _ _ _ _ _ _ h=>by
 obtain⟨_,_,_,_,_,_,_,_,_,_,_,_,_,z⟩:=h;exact z.elim
def PP{c:Str}{fs:List Str}(IA:o8 X.prog X.w X.K X.mg X.base k c ps fs)(hr:fX k' X.A)(hk:k+1<=k')(hg:Gl X c)(ha:FA X (e::es) fas)(hdb:(c==("__debug__":Str))=false:=by decide)
  (hns:(e::es).all noStar=true:=by rfl):FE X (.Call (.Name c p) (e::es) [] pos) (fNew c fs fas):=by
 obtain⟨C,f,fd,h1,h2,h3,h4,h5⟩:=IA;refine PE.weak (Ie (dvs:=[]) (E:=E0) h2 h3 (hr.mono hk) hg h5 h4 .nil Ml ha hdb (cY (Rj _ _ ▸ hns).1) (gB (Rj _ _ ▸ hns).2)) λσ H Q ⟨O,ρ,E,hF⟩=>⟨O,ρ,E,(js.bind hF).imp λas hF vs H1 s1 d1 x dx hx hd ne=>?_⟩
 by_cases hl:as.length=fs.length
 ·rw[if_pos hl]at hF;rw[Q4];refine⟨x,dx,vs,rfl,by rw[<-d1.length,hl],by rw[aX],rfl,?_⟩;obtain⟨sm,dn⟩:=zK h1 hl d1 (E.all.same s1) hx hd ne;exact hF _ _ (s1.trans sm) dn
 ·rw[if_neg hl]at hF;exact hF.elim
def uj(f:Str)(v:V):∀{fs:List (Str×V)},(fs.map (·.1)).contains f=false->mL f v fs=fs++[(f,v)]
 |[],_=>rfl
 |(g,w)::fs,h=>by
  rw[Q0,Sd,Se]at h;have ne:¬g=f:=λz=>by
   have:=h.1
   rw[z]at this;simp at this
  have:=uj f v (fs:=fs) h.2
  unfold mL;simp only[ne,if_false,this,RA]
def Ck(X:Cx)(cs:List Str)(body:List U1)(fs:List Str)(i:Nat):Prop:=
 ∃t,yN X body t/\∀(D:Ends)(σ:St)(H:Hp)(x dx C:UM)(done:List (Str×V))(as:List V),σ[0]?=some (some (.ref x))->(∀j v,as[j]?=some v->σ[i+j]?=some (some v))->as.length=fs.length->yj X.K C->(∀f∈fs,kE X.K C f)->done.length+fs.length<1000->(done.map (·.1)++fs).Nodup->H x=some (.ins C dx done)->
  D.nx σ (upd H x (.ins C dx (done++fs.zip as)))->t D σ H
def wf{st:U1}{f:Str}{i:Nat}{o v:UZ}{p1 p2:Pos}(hst:st=.Assign [.Attribute o f p1] v p2)(ho:PE X o (qF 0))(hv:PE X v (qF i))(hs:swapsWith v (some (.Attribute o f p1)) p2.line X.env=pure false):Ck X cs [st] [f] i:=by
 subst hst;refine⟨_,BR (FH ho hv hs),λD σ H x dx C done as h0 ha hl cl na hz nd hx q=>?_⟩;obtain⟨a,rfl⟩:∃a,as=[a]:=by
  match as,hl with
  |[a],_=>exact⟨a,rfl⟩
 refine⟨a,ha 0 a rfl,.ref x,h0,x,C,dx,done,rfl,hx,cl,na f (List.mem_singleton.mpr rfl),by simp at hz;omega,?_⟩;rw[uj f a (by
  have:=nd
  rw[Sf]at this;have h3:=this.2.2;cases hc:(done.map (·.1)).contains f with
  |false=>rfl
  |true=>exact absurd rfl (h3 f (List.contains_iff_mem.mp hc) f (List.mem_singleton.mpr rfl)))]
 exact q
def A1{st:U1}{rest:List U1}{f:Str}{fs:List Str}{i:Nat}{o v:UZ}{p1 p2:Pos}(hst:st=.Assign [.Attribute o f p1] v p2)(ho:PE X o (qF 0))(hv:PE X v (qF i))(hs:swapsWith v (some (.Attribute o f p1)) p2.line X.env=pure false)(hr:Ck X cs rest fs (i+1)):Ck X cs (st::rest) (f::fs) i:=by
 subst hst;obtain⟨t,ht,hq⟩:=hr;refine⟨_,yY (FH ho hv hs) ht,λD σ H x dx C done as h0 ha hl cl na hz nd hx q=>?_⟩;obtain⟨a,as,rfl⟩:∃a r,as=a::r:=by
  match as,hl with
  |a::r,_=>exact⟨a,r,rfl⟩
 have hno:(done.map (·.1)).contains f=false:=by
  have:=nd
  rw[Sf]at this;have h3:=this.2.2;cases hc:(done.map (·.1)).contains f with
  |false=>rfl
  |true=>exact absurd rfl (h3 f (List.contains_iff_mem.mp hc) f QN)
 refine⟨a,ha 0 a rfl,.ref x,h0,x,C,dx,done,rfl,hx,cl,na f QN,by simp at hz;omega,?_⟩;rw[uj f a hno];refine hq D σ _ x dx C (done++[(f,a)]) as h0 (λj v e=>?_) (by simpa using hl) cl (λg hg=>na g (QO _ hg)) (by simp at hz ⊢;omega) (by simpa [R0]using nd) (by rw[aX]) ?_
 ·have:=ha (j+1) v (by simpa using e)
  rw[show i+1+j=i+(j+1)by omega];exact this
 ·rw[Hz,R0];exact q
def wC{P:UL}{w:UK}{K:Tt}{mg:Str->Option UJ}{base:UO}{c qual:Str}{C f:UM}{fd:Vp}{st:U1}{fs:List Str}(h1:clsAt K c C)(hM:Mk K C f)(cl:yj K C)(na:∀g∈fs,kE K C g)(F:uT K "__init__" qual st f fd)(b:Binds K fd ps [])(hmg:mg c=some (.ref C))(SC:aP ps ps (ax st))(hps:ps.length=fs.length+1)(hnd:fs.Nodup)(hlen:fs.length<1000)
  (hb:∀(cdv:UJ)(A:UV)(outer:List Env)(s:UW)(H:Hp)(E:XK),Ck (kC NF P w K mg base ps qual (ax st) f cdv A outer s H E).nox [] (fA st) fs 1):o8 P w K mg base (k+1) c ps fs:=by
 refine⟨C,f,fd,h1,hM,?_,b,hmg⟩;refine jV.any (F.ok SC (λvs H Q E h=>?_) λcdv A outer s H vs Q E hr h=>?_)
 ·obtain⟨x,dx,as,rfl,hl,_⟩:=h;rw[QZ,hl,hps]
 ·obtain⟨t,ht,hq⟩:=hb cdv A outer s H E;obtain⟨x,dx,as,rfl,hl,hx,q⟩:=h;have hst:L2.start ps (.ref x::as)=(.ref x::as).map some:=by
   unfold L2.start;rw[QZ,hl,hps,Sg,Si,Q4]
  refine⟨t,ht,hq _ _ H x dx C [] as (by rw[hst];rfl) (λj v e=>?_) hl cl na (by simpa using hlen) (by simpa using hnd) hx q⟩;rw[hst,Nat.add_comm,Q0,R6,Rb,e];rfl
end
end TG
namespace TG
open PySem PySem.Spec L2
variable[aU]
section
variable{X:Cx}
def Jy:List D->Option (List Str)
 |[]=>some []
 |.str x::r=>(Jy r).bind λys=>some (x::ys)
 |_=>none
def QG:D->Option Str
 |.str z=>some z
 |_=>none
def Qi(z:Str)(as:List D):Option D:=match as with
 |[.lst xs]=>(Jy xs).bind λys=>if small ((ys.map (λy=>y.length)).sum+ys.length*z.length)then some (.str (Txt.join z ys))else none
 |_=>none
def Pu(a b:D):Option D:=match a,b with
 |.bl c,.bl d=>some (.bl (c==d))
 |_,_=>none
def lM(a b:D):Option D:=match a,b with
 |.bl c,.bl d=>some (.bl (!(c==d)))
 |_,_=>none
def vW:kn X (Ve .IsNot) (rD X.K lM):=by
 intro pins s σ H x y u v Q I rx ry ⟨O,a,b,d,hO,ha,hb,hg,q⟩;cases a with
 |bl i=>
  cases b with
  |bl j=>
   cases hg;rw[lY.mp ha]at rx;rw[lY.mp hb]at ry;cases rx;cases ry;exact PyProof.Rows.isnot_bool ⟨.bl _,H,I,rfl,q _ H (bj.refl H) (lY.mpr rfl)⟩
  |_=>cases hg
 |_=>cases hg
end
section
variable{X:Cx}{C:UM}{pins:List (UM×Obj)}{σ:St}{H:Hp}{s:UW}{Q:VK}
def anyB:List D->Option Bool
 |[]=>some false
 |.bl b::r=>(anyB r).bind λc=>some (b||c)
 |_=>none
def Ei:List D->Option D
 |[.lst xs]=>(anyB xs).bind λb=>some (.bl b)
 |_=>none
def yh:∀{xs:List D}{b:Bool},anyB xs=some b->∃bs:List Bool,xs=bs.map .bl/\b=bs.any id
 |[],b,h=>by cases h;exact⟨[],rfl,rfl⟩
 |d::r,b,h=>by
  cases d with
  |bl x=>
   obtain⟨c,e1,e2⟩:=bind_some (show((anyB r).bind λc=>some (x||c))=some b from h);cases e2;obtain⟨bs,e3,e4⟩:=yh e1;exact⟨x::bs,by rw[Q0,e3],by rw[Rq,e4];rfl⟩
  |_=>cases h
def range_any(bs:List Bool):((List.range bs.length).any λi=>(bs[i]?).getD false)=bs.any id:=by
 induction bs with
 |nil=>rfl
 |cons b bs ih=>
  rw[QZ,RH,Rq,Sj,Rq,<-ih];rfl
def Dk(hc:X.calm=true):dY X (.builtin "any") (yd X.K Ei):=by
 intro pins s σ H xs us Q I r ⟨O,ds,d,hO,hd,hg,q⟩;unfold Ei at hg;split at hg
 ·rename_i ys;obtain⟨bv,e1,e2⟩:=bind_some hg;cases e2;obtain⟨bs,eb,ev⟩:=yh e1;subst eb ev;obtain⟨v,evv,h1⟩:=hd.one;subst evv;obtain⟨p,vs,ep,g1,g2⟩:=cT.mp h1;subst ep;obtain⟨u,eu,ru⟩:=vals1 r;subst eu;cases ru;obtain⟨its,rv,pl,hz⟩:=I.list ((aB H O).seq g1);have ei:=ut g2 rv;have hl:=pl.isList;have hlt:p<s.heap.objs.size:=by obtain⟨_,e,_⟩:=hl;exact Ub e
  refine call_any_walk (U9 hl ?_);refine⟨s.heap.objs.size,[s.heap.objs.size,p],[s.heap.objs.size],its.toArray.size,_,_,λi=>(bs[i]?).getD false,rfl,Walks.list (A:=X.A.in1) (I.ok.hd hc) _ p (QJ hlt) its.toArray,
   ⟨⟨_,Ug _ rfl,rfl,rfl⟩,hl.push _⟩,λi v s' Q' E' hP hQ=>?_,λh' tk hk=>?_⟩
  ·have e:bs[i]?.map Value.bool=some v:=by
    rw[<-Rb,<-ei]
    simpa using hP
   cases eb:bs[i]? with
   |none=>rw[eb]at e;cases e
   |some b=>
    rw[eb]at e;cases e;simp only[eb,Option.getD_some]at hQ;exact U4 hQ
  ·have e:((List.range its.toArray.size).any λi=>(bs[i]?).getD false)=bs.any id:=by
    have:its.toArray.size=bs.length:=(by rw[QX,ei,Q1]);rw[this];exact range_any bs
   rw[e];have k:∀b x,s.heap.get? b=some x->h'.get? b=some x:=λb x e=>hk b x (λhm=>by rw[List.mem_singleton.mp hm]at e;exact QI _ (Ub e)) (Ue _ e);exact⟨.bl _,H,I.kept k,rfl,q _ H (bj.refl H) (lY.mpr rfl)⟩
 ·cases hg
end
end TG
namespace TG
open PySem PySem.Spec PyProof.Rows L2
variable[aU]
def eR:List D->List D->Option Bool
 |[],[]=>some false
 |[],_::_=>some true
 |_::_,[]=>some false
 |a::as,b::bs=>match a,b with
  |.int i,.int j=>if i=j then eR as bs else some (decide (i<j))
  |.str x,.str y=>if x=y then eR as bs else some (decide (x.cps.toList<y.cps.toList))
  |_,_=>none
inductive gL:List UJ->List D->Prop where
 |nil:gL [] []
 |int (i:Int) (t:Tok) {vs:List UJ} {ds:List D} (h:gL vs ds):gL (.int i t::vs) (.int i::ds)
 |str (x:Str) (t:Tok) {vs:List UJ} {ds:List D} (h:gL vs ds):gL (.str x t::vs) (.str x::ds)
def gL.length:∀{vs:List UJ}{ds:List D},gL vs ds->vs.length=ds.length
 |_,_,.nil=>rfl
 |_,_,.int _ _ h=>by rw[QZ,QZ,h.length]
 |_,_,.str _ _ h=>by rw[QZ,QZ,h.length]
def Jf(A:UV)(s:UW)(a:Int)(t:Tok)(c:Int)(u:Tok):∃e,SeqAt.EqAt A s (.int a t) (.int c u) e/\(e=true↔a=c):=
 ⟨(a==c),SeqAt.EqAt.int_int a t c u,by simp⟩
def Jo(A:UV)(s:UW)(a:Str)(t:Tok)(c:Str)(u:Tok):∃e,SeqAt.EqAt A s (.str a t) (.str c u) e/\(e=true↔a=c):=
 ⟨(a==c),SeqAt.EqAt.str_str a t c u,by simp⟩
def LW(A:UV)(s:UW)(a:Str)(t:Tok)(c:Str)(u:Tok)(prog:UL)(w:UK)(E:UJ->UW->Prop)(Q:UJ->UW->Prop)(h:Q (.bool (decide (a.cps.toList<c.cps.toList))) s):
  UY (model prog w) A (richCompare .Lt (.str a t) (.str c u)) Q E s:=
 (PySem.P.lt_str h:UY (model prog w) A (Ve .Lt (.str a t) (.str c u)) Q E s)
section
open PySem.SeqAt
open PySem.AutoSeq1 (wpAny_loadPart')
open PySem.MeetsSeq PySem.MeetsSeq2 PySem.MeetsSeq3
set_option maxHeartbeats 1000000 in
def u9(l b:UM)(items items2:Array UJ)(n n2:Nat)(dd dd2:Option UM)(sl sl2:Array (Option UJ))(ns ms:List D)(r:Bool)(hi:gL items.toList ns)(hj:gL items2.toList ms)(hr:eR ns ms=some r):
  Meets (Builtin.«tuple.__lt__» ⟨[.ref l,.ref b],[]⟩)
   (fun _ R s=>s.heap.get? l=some { cls:=.type "tuple",dict:=dd,data:=.seq items n,slots:=sl }/\s.heap.get? b=some { cls:=.type "tuple",dict:=dd2,data:=.seq items2 n2,slots:=sl2 } /\
    R (.ok (.ret (.bool r))) s):=
 .of_wp λprog w A R s h=>by
  obtain⟨hp,g,d,tk,os⟩:=s;obtain⟨hl,hb,h⟩:=h;have f2:=AutoSeq1.sub_tuple_tuple;have z1:items.size=ns.length:=by rw[<-hi.length];simp
  have z2:items2.size=ms.length:=by rw[<-hj.length];simp
  wp_walk using wpAny_loadPart' hl,wpAny_loadPart' hb,wpAny_forIn_list _ (λrest b s'=>b.1=none/\s'=⟨hp,g,d,tk,os⟩/\∃(vs ws:List UJ)(ns' ms':List D),rest=vs.zip ws/\
   gL vs ns'/\gL ws ms'/\ns'.length+items2.size=ms'.length+items.size/\eR ns' ms'=some r/\R (.ok (.ret (.bool r))) ⟨hp,g,d,tk,os⟩) _
  case turn=>
   rintro⟨y,x⟩ rest b s' ⟨hb',rfl,vs,ws,ns',ms',hz,hvi,hwi,hlen,hL,hR⟩;cases hvi with
   |nil=>rw[List.zip_nil_left]at hz;cases hz
   |int a t hvi'=>
    cases hwi with
    |nil=>rw[Sl]at hz;cases hz
    |str c u hwi'=>cases hL
    |int c u hwi'=>
     rw[Sb]at hz;injection hz with hyx hrest;injection hyx with hy hx;subst hy hx;have hL':(if a=c then eR _ _ else some (decide (a<c)))=some r:=hL;simp only[QZ]at hlen;obtain⟨e,he,hiff⟩:=Jf A.in1 ⟨hp,g,d,tk,os⟩ a t c u;refine U7 (he prog w _ _ ?_);cases e with
     |true=>
      rw[if_pos (hiff.mp rfl)]at hL'
      wp_walk
      exact⟨rfl,rfl,_,_,_,_,hrest,hvi',hwi',by omega,hL',hR⟩
     |false=>
      rw[if_neg (λq=>absurd (hiff.mpr q) QY)]at hL';cases hL';have hri:=HT.Mz A.in1 ⟨hp,g,d,tk,os⟩ a t c u prog w
      wp_walk using hri
      exact⟨_,rfl,by simpa using hR⟩
   |str a t hvi'=>
    cases hwi with
    |nil=>rw[Sl]at hz;cases hz
    |int c u hwi'=>cases hL
    |str c u hwi'=>
     rw[Sb]at hz;injection hz with hyx hrest;injection hyx with hy hx;subst hy hx;have hL':(if a=c then eR _ _ else some (decide (a.cps.toList<c.cps.toList)))=some r:=hL;simp only[QZ]at hlen;obtain⟨e,he,hiff⟩:=Jo A.in1 ⟨hp,g,d,tk,os⟩ a t c u;refine U7 (he prog w _ _ ?_);cases e with
     |true=>
      rw[if_pos (hiff.mp rfl)]at hL'
      wp_walk
      exact⟨rfl,rfl,_,_,_,_,hrest,hvi',hwi',by omega,hL',hR⟩
     |false=>
      rw[if_neg (λq=>absurd (hiff.mpr q) QY)]at hL';cases hL';have hri:=LW A.in1 ⟨hp,g,d,tk,os⟩ a t c u prog w
      wp_walk using hri
      exact⟨_,rfl,by simpa using hR⟩
  case fin=>
   rintro⟨b1,b2⟩ s' ⟨hb',rfl,vs,ws,ns',ms',hz,hvi,hwi,hlen,hL,hR⟩;simp only at hb';subst hb';have hv:r=decide (items.size<items2.size):=by
    have l1:=hvi.length;have l2:=hwi.length;cases ns' with
    |nil=>
     cases ms' with
     |nil=>
      simp only[Rr]at hlen;cases hL;exact(decide_eq_false ‹0›).symm
     |cons c u=>
      simp only[Rr,QZ]at hlen;cases hL;exact(decide_eq_true ‹0›).symm
    |cons a t=>
     cases ms' with
     |nil=>
      simp only[Rr,QZ]at hlen;cases hL;exact(decide_eq_false ‹0›).symm
     |cons c u=>
      have:=congrArg List.length hz
      simp only[Rr,List.length_zip,l1,l2,QZ]at this;omega
   rw[hv]at hR
   wp_walk
   exact⟨_,rfl,by simpa [Builtin.Tuple.tupleCompareSizes]using hR⟩
  case h=>
   exact⟨rfl,rfl,items.toList,items2.toList,ns,ms,rfl,hi,hj,by omega,hr,h⟩
end
section
variable{X:Cx}
def wa{α:Type}{c:Bool}{o:Option α}{a:α}(h:(if c then o else none)=some a):c=true/\o=some a:=by
 cases c with
 |true=>exact⟨rfl,h⟩
 |false=>cases h
def A6{prog:UL}{w:UK}{A:UV}{E:UJ->UW->Prop}{s:UW}{l b:UM}{items items2:Array UJ}{ns ms:List D}{r:Bool}{Q:UJ->UW->Prop}(hl:UQ s.heap l items)(hb:UQ s.heap b items2)(hi:gL items.toList ns)(hj:gL items2.toList ms)(hr:eR ns ms=some r)
  (hu:A.units<Vo) (h:Q (.bool r) s):UY (model prog w) A (Ve .Lt (.ref l) (.ref b)) Q E s:=by
 obtain⟨⟨cls,dd,data,sl⟩,ho,hc,n,hd⟩:=id hl;obtain⟨⟨cls2,dd2,data2,sl2⟩,ho2,hc2,n2,hd2⟩:=id hb;simp only at hc hd hc2 hd2;subst hc hd hc2 hd2;exact richCompare_meets_room (op:=.Lt) ⟨_,ho,rfl⟩ ⟨_,ho2,rfl⟩ PySem.F.slot_tuple_lt PySem.F.entry_tuple_lt (PySem.F.args_tuple_lt_2 _ _) (u9 l b items items2 n n2 dd dd2 sl sl2 ns ms r hi hj hr)
  ⟨ho,ho2,show Value.bool r≠Value.notImplemented/\Q (.bool r) s from⟨(λx=>nomatch x),h⟩⟩ hu
def rX:List D->Bool
 |[]=>true
 |.int _::r=>rX r
 |.str _::r=>rX r
 |_=>false
def lx{K:Tt}{H:Hp}:∀{ds:List D}{vs:List V}{us:List UJ},rX ds=true->bb K H ds vs->Vals vs us->gL us ds
 |[],vs,us,_,h,r=>by
  rw[cI]at h;subst h;cases r;exact .nil
 |d::ds,vs,us,hf,h,r=>by
  obtain⟨v,r',e,h1,h2⟩:=bo.mp h;subst e;cases r with
  |cons q1 q2=>
   cases d with
   |int i=>
    rw[fw]at h1;subst h1;obtain⟨t,rfl⟩:=q1;exact .int i t (lx hf h2 q2)
   |str x=>
    rw[fJ]at h1;subst h1;obtain⟨t,rfl⟩:=q1;exact .str x t (lx hf h2 q2)
   |_=>cases hf
def tI(a b:D):Option D:=match a,b with
 |.int i,.int j=>some (.bl (decide (i<j)))
 |.str x,.str y=>some (.bl (decide (x.cps.toList<y.cps.toList)))
 |.tup xs,.tup ys=>if rX xs&&rX ys then(eR xs ys).bind λr=>some (.bl r)else none
 |_,_=>none
def oZ(hu:X.A.units+64<Vo):kn X (Ve .Lt) (rD X.K tI):=by
 intro pins s σ H x y u v Q I rx ry ⟨O,a,b,d,hO,ha,hb,hg,q⟩;cases a with
 |int i=>
  cases b with
  |int j=>
   cases hg;exact Mf pins s σ H x y u v Q I rx ry ⟨i,j,fw.mp ha,fw.mp hb,q _ H (bj.refl H) (lY.mpr rfl)⟩
  |_=>cases hg
 |str i=>
  cases b with
  |str j=>
   cases hg;exact Dc pins s σ H x y u v Q I rx ry ⟨i,j,fJ.mp ha,fJ.mp hb,q _ H (bj.refl H) (lY.mpr rfl)⟩
  |_=>cases hg
 |tup xs=>
  cases b with
  |tup ys=>
   obtain⟨h1,h2⟩:=wa hg;obtain⟨r,e1,e2⟩:=bind_some h2;cases e2;rw[Rj]at h1;obtain⟨p,vs,ex,g1,g2⟩:=cK.mp ha;obtain⟨p',vs',ey,g1',g2'⟩:=cK.mp hb;subst ex ey;cases rx;cases ry;obtain⟨its,r1,t1,_⟩:=I.tuple (bU (aB H O) g1);obtain⟨its2,r2,t2,_⟩:=I.tuple (bU (aB H O) g1');exact A6 t1 t2 (lx h1.1 g2 r1) (lx h1.2 g2' r2) e1 ‹0› (Gg I (q _ H (bj.refl H) (lY.mpr rfl)) rfl)
  |_=>cases hg
 |_=>cases hg
end
end TG
namespace TG
open PySem PySem.Spec L2
variable[aU]
def mM(x:Str)(n:Int):Str:=if(n==1||x.length==0)=true then x else⟨(List.replicate n.toNat x.cps).foldl (·++·) #[]⟩
def foldl_size:∀(n:Nat)(c a:Array Nat),((List.replicate n c).foldl (·++·) a).size=a.size+n*c.size
 |0,_,a=>by simp
 |n+1,c,a=>by
  rw[Sn,Sq,foldl_size n c,Array.size_append,Nat.succ_mul];omega
def Aa{x:Str}{n:Int}(h:1<=n):(mM x n).length=n.toNat*x.length:=by
 unfold mM;split
 ·rename_i q;rw[RM]at q;rcases q with q|q
  ·have:n=1:=(by simpa using q);rw[this];simp
  ·have:x.length=0:=(by simpa using q);rw[this];simp
 ·show((List.replicate n.toNat x.cps).foldl (·++·) #[]).size=n.toNat*x.cps.size;rw[foldl_size];simp
def yE(a b:D):Option D:=match a,b with
 |.int i,.int j=>o5 (.int i) (.int j)
 |.str x,.int n=>if decide (1<=n/\n<=1000/\x.length<=1000)then some (.str (mM x n))else none
 |_,_=>none
section
variable{X:Cx}
def xS:kn X (Vd .Mult) (rD X.K yE):=by
 intro pins s σ H x y u v Q I rx ry ⟨O,a,b,d,hO,ha,hb,hg,q⟩;cases a with
 |int i=>
  cases b with
  |int j=>exact kG pins s σ H x y u v Q I rx ry (kz (.int i) (.int j) d x y O H Q hO hg ha hb q)
  |_=>cases hg
 |str z=>
  cases b with
  |int n=>
   obtain⟨h1,h2⟩:=bI hg;subst h2;obtain⟨n1,n2,zl⟩:=of_decide_eq_true h1;rw[fJ]at ha;rw[fw]at hb;subst ha hb;obtain⟨t,rfl⟩:=rx;obtain⟨t',rfl⟩:=ry;have zn:z.length*n.toNat<=1000*1000:=Nat.mul_le_mul zl ‹0›;refine P.mul_str (by rw[decide_eq_false ‹0›,decide_eq_false ‹0›];rfl) (λ_ _=>?_) (λ_ _=>?_) ?_
   ·have:(2^63-1:Int)/n>=(2^63-1)/1000:=by
     rw[ge_iff_le,Int.le_ediv_iff_mul_le ‹0›];have h3:(2^63-1:Int)/1000*n<=(2^63-1)/1000*1000:=Int.mul_le_mul_of_nonneg_left n2 (by decide);have h4:(2^63-1:Int)/1000*1000<=2^63-1:=(by decide);omega
    have h5:(2^63-1:Int)/1000=9223372036854775:=(by decide);omega
   ·unfold Builtin.Str.tooLong;rw[decide_eq_false];rw[Vh];omega
   ·rw[if_neg ‹0›];have fin:∀tk,EP X pins σ Q (.str (mM z n) tk) {s with toks:=s.toks+1}/\EP X pins σ Q (.str (mM z n) tk) s:=λtk=>⟨⟨.str (mM z n),H,I.tok _,⟨_,rfl⟩,q _ H (bj.refl H) (fJ.mpr rfl)⟩,⟨.str (mM z n),H,I,⟨_,rfl⟩,q _ H (bj.refl H) (fJ.mpr rfl)⟩⟩
    by_cases e:(n==1||z.length==0)=true
    ·rw[if_pos e]
     have:mM z n=z:=(by unfold mM;rw[if_pos e]);rw[this]at fin;exact(fin t).2
    ·rw[if_neg e];have e2:mM z n=⟨(List.replicate n.toNat z.cps).foldl (·++·) #[]⟩:=(by unfold mM;rw[if_neg e]);rw[e2]at fin;refine⟨?_,(fin _).1⟩;have rl:=Aa (x:=z) (n:=n) ‹0›;rw[e2]at rl;rw[rl,Vh,Nat.mul_comm];omega
  |_=>cases hg
 |_=>cases hg
end
end TG
namespace TG
open PySem PySem.Spec PyProof.Rows PySem.W L2
variable[aU]
def uR:∀a:List Nat,¬a<a
 |[]=>Sr _
 |x::xs=>λh=>by
  rcases List.cons_lt_cons_iff.mp h with h|⟨_,h⟩
  ·omega
  ·exact uR xs h
def nG:∀{a b c:List Nat},a<b->b<c->a<c
 |_,_,[],_,h=>absurd h (Sr _)
 |_,[],_::_,h,_=>absurd h (Sr _)
 |[],_::_,_::_,_,_=>Ss _ _
 |x::xs,y::ys,z::zs,h,h'=>by
  rw[Su]at h h' ⊢;rcases h with h|⟨e,h⟩<;>rcases h' with h'|⟨e',h'⟩
  ·exact .inl ‹0›
  ·exact .inl ‹0›
  ·exact .inl ‹0›
  ·exact .inr ⟨by omega,nG h h'⟩
def EJ:∀a b:List Nat,a<b\/a=b\/b<a
 |[],[]=>.inr (.inl rfl)
 |[],_::_=>.inl (Ss _ _)
 |_::_,[]=>.inr (.inr (Ss _ _))
 |x::xs,y::ys=>by
  rw[Su,Su];rcases Nat.lt_trichotomy x y with h|h|h
  ·exact .inl (.inl h)
  ·rcases EJ xs ys with q|q|q
   ·exact .inl (.inr ⟨h,q⟩)
   ·exact .inr (.inl (by rw[h,q]))
   ·exact .inr (.inr (.inr ⟨h.symm,q⟩))
  ·exact .inr (.inr (.inl h))
def Ge{x y:Str}(h:x.cps.toList=y.cps.toList):x=y:=by
 cases x;cases y;congr 1;exact Array.toList_inj.mp h
inductive Sh:List Bool->List D->Prop where
 |nil:Sh [] []
 |int (i:Int) {bs:List Bool} {ds:List D} (h:Sh bs ds):Sh (true::bs) (.int i::ds)
 |str (x:Str) {bs:List Bool} {ds:List D} (h:Sh bs ds):Sh (false::bs) (.str x::ds)
def Sh.length:∀{σ:List Bool}{a:List D},Sh σ a->a.length=σ.length
 |_,_,.nil=>rfl
 |_,_,.int _ h=>by rw[QZ,QZ,h.length]
 |_,_,.str _ h=>by rw[QZ,QZ,h.length]
def sN:∀{σ:List Bool}{a:List D},Sh σ a->rX a=true
 |_,_,.nil=>rfl
 |_,_,.int i h=>by
  unfold rX;exact sN h
 |_,_,.str i h=>by
  unfold rX;exact sN h
def ql(i j:Int)(as bs:List D):eR (.int i::as) (.int j::bs)=if i=j then eR as bs else some (decide (i<j)):=by rw[eR]
def qb(x y:Str)(as bs:List D):eR (.str x::as) (.str y::bs)=if x=y then eR as bs else some (decide (x.cps.toList<y.cps.toList)):=by rw[eR]
def GC:eR [] []=some false:=by rw[eR]
def me:∀{σ:List Bool}{a:List D},Sh σ a->eR a a=some false
 |_,_,.nil=>GC
 |_,_,.int i h=>by rw[ql,if_pos rfl];exact me h
 |_,_,.str x h=>by rw[qb,if_pos rfl];exact me h
def n0:∀{σ:List Bool}{a b:List D},Sh σ a->Sh σ b->(eR a b=some true/\eR b a=some false/\a≠b)\/a=b\/(eR b a=some true/\eR a b=some false/\a≠b)
 |_,_,_,.nil,.nil=>.inr (.inl rfl)
 |_,_,_,.int i h,.int j h'=>by
  rw[ql,ql];by_cases e:i=j
  ·subst e;rw[if_pos rfl,if_pos rfl];rcases n0 h h' with⟨q1,q2,q3⟩|q|⟨q1,q2,q3⟩
   ·exact .inl ⟨q1,q2,λz=>q3 (by injection z)⟩
   ·exact .inr (.inl (by rw[q]))
   ·exact .inr (.inr ⟨q1,q2,λz=>q3 (by injection z)⟩)
  ·rw[if_neg e,if_neg (λz=>e z.symm)];rcases Int.lt_or_gt_of_ne e with q|q
   ·exact .inl ⟨by rw[decide_eq_true q],by rw[decide_eq_false ‹0›],λz=>e (by injection z with z1;injection z1)⟩
   ·exact .inr (.inr ⟨by rw[decide_eq_true q],by rw[decide_eq_false ‹0›],λz=>e (by injection z with z1;injection z1)⟩)
 |_,_,_,.str x h,.str y h'=>by
  rw[qb,qb];by_cases e:x=y
  ·subst e;rw[if_pos rfl,if_pos rfl];rcases n0 h h' with⟨q1,q2,q3⟩|q|⟨q1,q2,q3⟩
   ·exact .inl ⟨q1,q2,λz=>q3 (by injection z)⟩
   ·exact .inr (.inl (by rw[q]))
   ·exact .inr (.inr ⟨q1,q2,λz=>q3 (by injection z)⟩)
  ·rw[if_neg e,if_neg (λz=>e z.symm)];rcases EJ x.cps.toList y.cps.toList with q|q|q
   ·exact .inl ⟨by rw[decide_eq_true q],by rw[decide_eq_false λz=>uR _ (nG q z)],λz=>e (by injection z with z1;injection z1)⟩
   ·exact absurd (Ge q) e
   ·exact .inr (.inr ⟨by rw[decide_eq_true q],by rw[decide_eq_false λz=>uR _ (nG q z)],λz=>e (by injection z with z1;injection z1)⟩)
def oM:∀{σ:List Bool}{a b c:List D},Sh σ a->Sh σ b->Sh σ c->eR a b=some true->eR b c=some true->eR a c=some true
 |_,_,_,_,.nil,.nil,.nil,h,_=>by rw[GC]at h;cases h
 |_,_,_,_,.int i h,.int j h',.int k h'',q,q'=>by
  rw[ql]at q q' ⊢;by_cases e:i=j
  ·subst e;rw[if_pos rfl]at q;by_cases e':i=k
   ·subst e';rw[if_pos rfl]at q' ⊢;exact oM h h' h'' q q'
   ·rw[if_neg e']at q' ⊢;exact q'
  ·rw[if_neg e]at q;have q1:=of_decide_eq_true (Option.some.inj q);by_cases e':j=k
   ·subst e';rw[if_neg e,decide_eq_true q1]
   ·rw[if_neg e']at q';have q2:=of_decide_eq_true (Option.some.inj q');rw[if_neg ‹0›,decide_eq_true ‹0›]
 |_,_,_,_,.str i h,.str j h',.str k h'',q,q'=>by
  rw[qb]at q q' ⊢;by_cases e:i=j
  ·subst e;rw[if_pos rfl]at q;by_cases e':i=k
   ·subst e';rw[if_pos rfl]at q' ⊢;exact oM h h' h'' q q'
   ·rw[if_neg e']at q' ⊢;exact q'
  ·rw[if_neg e]at q;have q1:=of_decide_eq_true (Option.some.inj q);by_cases e':j=k
   ·subst e';rw[if_neg e,decide_eq_true q1]
   ·rw[if_neg e']at q';have q2:=of_decide_eq_true (Option.some.inj q');rw[if_neg (show¬i=k from λz=>by rw[z]at q1;exact uR _ (nG q1 q2)),decide_eq_true (nG q1 q2)]
def zH{σ:List Bool}{a b:List D}(h:Sh σ a)(h':Sh σ b)(q:eR a b=some true):eR b a=some false:=by
 rcases n0 h h' with⟨_,q2,_⟩|e|⟨_,q2,_⟩
 ·exact q2
 ·subst e;rw[me h]at q;cases q
 ·rw[q2]at q;cases q
def kLt(a b:List D):Bool:=eR a b==some true
def IK{a b:List D}:kLt a b=true↔eR a b=some true:=by unfold kLt;simp
section
variable{α:Type}
def Dy(key:α->List D)(x:α):List α->List α
 |[]=>[x]
 |y::ys=>if kLt (key x) (key y)then x::y::ys else y::Dy key x ys
def ku(key:α->List D):List α->List α
 |[]=>[]
 |x::xs=>Dy key x (ku key xs)
def qG(key:α->List D)(x:α):∀ys:List α,(Dy key x ys).Perm (x::ys)
 |[]=>.refl _
 |y::ys=>by
  unfold Dy;split
  ·exact .refl _
  ·exact(List.Perm.cons y (qG key x ys)).trans (.swap x y ys)
def iq(key:α->List D):∀xs:List α,(ku key xs).Perm xs
 |[]=>.refl _
 |x::xs=>(qG key x _).trans (.cons x (iq key xs))
def zU(key:α->List D)(xs:List α):Prop:=xs.Pairwise λx y=>eR (key x) (key y)=some true
def zi{key:α->List D}{σ:List Bool}{x:α}(hx:Sh σ (key x)):∀{ys:List α},(∀y∈ys,Sh σ (key y)/\key x≠key y)->zU key ys->zU key (Dy key x ys)
 |[],_,_=>Sv _ _
 |y::ys,h,p=>by
  have p':=List.pairwise_cons.mp p;obtain⟨hy,ne⟩:=h y QN;unfold Dy;split
  ·rename_i q;have q:=IK.mp q;refine List.pairwise_cons.mpr ⟨λz hz=>?_,p⟩;rcases List.mem_cons.mp hz with rfl|hz
   ·exact q
   ·exact oM hx hy (h z (QO _ hz)).1 q (p'.1 z hz)
  ·rename_i q;have q:eR (key y) (key x)=some true:=by
    rcases n0 hx hy with⟨z,_⟩|z|⟨z,_⟩
    ·exact absurd (IK.mpr z) q
    ·exact absurd z ne
    ·exact z
   refine List.pairwise_cons.mpr ⟨λz hz=>?_,zi hx (λz hz=>h z (QO _ hz)) p'.2⟩;rcases List.mem_cons.mp ((qG key x ys).mem_iff.mp hz)with rfl|hz
   ·exact q
   ·exact p'.1 z hz
def rB{key:α->List D}{σ:List Bool}:∀{xs:List α},(∀x∈xs,Sh σ (key x))->xs.Pairwise (λx y=>key x≠key y)->zU key (ku key xs)
 |[],_,_=>List.Pairwise.nil
 |x::xs,h,p=>by
  have p':=List.pairwise_cons.mp p;refine zi (h x QN) (λy hy=>?_) (rB (λy hy=>h y (QO _ hy)) p'.2);have hy:=(iq key xs).mem_iff.mp hy;exact⟨h y (QO _ hy),p'.1 y hy⟩
def BV{key:α->List D}{σ:List Bool}:∀{xs ys:List α},(∀x∈xs,Sh σ (key x))->zU key xs->zU key ys->xs.Perm ys->xs=ys
 |[],ys,_,_,_,e=>(List.perm_nil.mp e.symm).symm
 |x::xs,[],_,_,_,e=>List.perm_nil.mp e
 |x::xs,y::ys,h,p,q,e=>by
  have p':=List.pairwise_cons.mp p;have q':=List.pairwise_cons.mp q;have exy:x=y:=by
   rcases List.mem_cons.mp (e.mem_iff.mp QN)with z|z
   ·exact z
   ·have w1:=q'.1 x z;rcases List.mem_cons.mp (e.symm.mem_iff.mp QN)with z'|z'
    ·exact z'.symm
    ·have w2:=p'.1 y z'
     have:=zH (h x QN) (h y (QO _ z')) w2
     rw[w1]at this;cases this
  subst exy;rw[BV (λz hz=>h z (QO _ hz)) p'.2 q'.2 (List.Perm.cons_inv e)]
def zY{key:α->List D}{σ:List Bool}{xs ys:List α}(h:∀x∈xs,Sh σ (key x))(p:xs.Pairwise λx y=>key x≠key y)(q:zU key ys)(e:ys.Perm xs):ku key xs=ys:=
 BV (λx hx=>h x ((iq key xs).mem_iff.mp hx)) (rB h p) q ((iq key xs).trans e.symm)
def rank(ks:List (List D))(i:Nat):Nat:=(ks.filter λk=>kLt k (ks.getD i [])).length
def sG{ks:List (List D)}{σ:List Bool}(h:∀k∈ks,Sh σ k){i j:Nat}(hi:i<ks.length)(hj:j<ks.length):decide (rank ks i<rank ks j)=kLt (ks.getD i []) (ks.getD j []):=by
 have gi:ks.getD i []=ks[i]:=by simp[hi]
 have gj:ks.getD j []=ks[j]:=by simp[hj]
 have mono:∀a b:List D,Sh σ a->Sh σ b->eR a b=some true->∀l:List (List D),(∀k∈l,Sh σ k)->(l.filter λk=>kLt k a).length<=(l.filter λk=>kLt k b).length/\(a∈l->(l.filter λk=>kLt k a).length<(l.filter λk=>kLt k b).length):=by
  intro a b ha hb hab l
  induction l with
  |nil=>exact λ_=>⟨QT _,λz=>nomatch z⟩
  |cons k l ih=>
   intro hl;obtain⟨i1,i2⟩:=ih λz hz=>hl z (QO _ hz);have hk:=hl k QN;by_cases q:kLt k a=true
   ·have q':kLt k b=true:=IK.mpr (oM hk ha hb (IK.mp q) hab);rw[Sw (p:=λk=>kLt k a) q,Sw (p:=λk=>kLt k b) q',QZ,QZ];refine⟨by omega,λz=>?_⟩;rcases List.mem_cons.mp z with rfl|z
    ·rw[IK,me ha]at q;cases q
    ·have:=i2 z;omega
   ·rw[Sx (p:=λk=>kLt k a) q];by_cases q':kLt k b=true
    ·rw[Sw (p:=λk=>kLt k b) q',QZ];exact⟨by omega,λ_=>by omega⟩
    ·rw[Sx (p:=λk=>kLt k b) q'];refine⟨i1,λz=>?_⟩;rcases List.mem_cons.mp z with rfl|z
     ·exact absurd (IK.mpr hab) q'
     ·exact i2 z
 unfold rank;rw[gi,gj];have hi':=h _ (Sy hi);have hj':=h _ (Sy hj);rcases n0 hi' hj' with⟨z,_⟩|z|⟨z,z',_⟩
 ·rw[IK.mpr z];exact decide_eq_true ((mono _ _ hi' hj' z ks h).2 (Sy hi))
 ·rw[z]
  have:kLt ks[j] ks[j]=false:=by unfold kLt;rw[me hj'];rfl
  rw[this];exact decide_eq_false (QI _)
 ·have e:kLt ks[i] ks[j]=false:=by unfold kLt;rw[z'];rfl
  rw[e];exact decide_eq_false (Nat.not_lt.mpr (mono _ _ hj' hi' z ks h).1)
end
section
variable{cmp:Nat->Nat->(Bool->UW->Prop)->UW->Prop}{r:Nat->Nat}{N:Nat}
def nK(cmp:Nat->Nat->(Bool->UW->Prop)->UW->Prop)(r:Nat->Nat)(N:Nat)(s:UW):Prop:=∀(i j:Nat)(C:Bool->UW->Prop),i<N->j<N->C (decide (r i<r j)) s->cmp i j C s
def PM(N:Nat)(p:Array Nat):Prop:=p.Perm (List.toArray (List.range N))
def PM.size{p:Array Nat}(h:PM N p):p.size=N:=by
 have:=h.size_eq;simpa using this
def PM.lt{p:Array Nat}(h:PM N p){i:Nat}(hi:i<N):p.getD i 0<N:=by
 have hs:=h.size;have e:p.getD i 0=p[i]'‹0›:=by simp[Array.getD,hs,hi]
 rw[e];have m:p[i]'‹0›∈p:=Array.getElem_mem _
 have:=(h.mem_iff (a:=p[i]'‹0›)).mp m
 simpa using this
def PM.rev{p:Array Nat}(h:PM N p)(i j:Nat):PM N (kas_rev p i j):=(mirror_perm p i j _).trans h
abbrev Rk(r:Nat->Nat)(p:Array Nat)(i:Nat):Nat:=r (p.getD i 0)
def x6{p:Array Nat}{i j:Nat}(hj:j<=p.size)(k:Nat):Rk r (kas_rev p i j) k=if i<=k/\k<j then Rk r p (i+j-1-k)else Rk r p k:=by
 have e:=getElem?_mirror_all (xs:=p) (i:=i) (j:=j) hj k;have g:∀(q:Array Nat)(k:Nat),q.getD k 0=(q[k]?).getD 0:=λq k=>by simp
 show r ((kas_rev p i j).getD k 0)=_;rw[g];show r (((mirror p i j ((j-i)/2))[k]?).getD 0)=_;rw[e];split
 ·show _=r (p.getD _ 0);rw[g]
 ·show _=r (p.getD _ 0);rw[g]
def FP{p:Array Nat}{src d:Nat}(hs:src<p.size)(hd:d<=src)(k:Nat):Rk r (bubble p src d) k=if k=src-d then Rk r p src else if src-d<k/\k<=src then Rk r p (k-1)else Rk r p k:=by
 have e:=getElem?_bubble (xs:=p) hs d hd k;have g:∀(q:Array Nat)(k:Nat),q.getD k 0=(q[k]?).getD 0:=λq k=>by simp
 show r ((bubble p src d).getD k 0)=_;rw[g,e];split
 ·show _=r (p.getD _ 0);rw[g]
 ·split
  ·show _=r (p.getD _ 0);rw[g]
  ·show _=r (p.getD _ 0);rw[g]
def Up(r:Nat->Nat)(p:Array Nat)(k:Nat):Prop:=∀i j,i<=j->j<k->Rk r p i<=Rk r p j
def Dn(r:Nat->Nat)(p:Array Nat)(k:Nat):Prop:=∀i j,i<=j->j<k->Rk r p j<=Rk r p i
variable{s:UW}
def AG(hc:nK cmp r N s){p:Array Nat}(hp:PM N p){G:Nat->UW->Prop}:∀(f n:Nat),1<=n->n+f<=N->Up r p n->(∀m,n<=m->m<=n+f->Up r p m->(m=n+f\/Rk r p m<Rk r p (m-1))->G m s)->(kas_asc p f n).kasWp cmp G s
 |0,n,_,_,u,h=>h n (QT _) (QT _) u (.inl rfl)
 |f+1,n,h1,h2,u,h=>by
  refine hc _ _ _ (hp.lt ‹0›) (hp.lt ‹0›) ?_;by_cases q:Rk r p n<Rk r p (n-1)
  ·rw[decide_eq_true q];dsimp only;rw[if_pos rfl];exact h n (QT _) ‹0› u (.inr q)
  ·rw[decide_eq_false q];dsimp only;rw[if_neg QY];refine AG hc hp f (n+1) ‹0› ‹0› (λi j hij hj=>?_) λm a b=>?_
   ·by_cases hjn:j<n
    ·exact u i j hij hjn
    ·have ej:j=n:=(by omega);subst ej;by_cases ei:i=j
     ·subst ei;exact QT _
     ·have:=u i (j-1) ‹0› ‹0›
      omega
   ·intro um hm;exact h m ‹0› ‹0› um (by rcases hm with z|z;exact .inl ‹0›;exact .inr z)
def GZ{p:Array Nat}{n q:Nat}(hn:n<=p.size)(hq:q+1<=n)(he:∀i,n-(q+1)<=i->i<n->Rk r p i=Rk r p (n-1))(k:Nat):Rk r (kas_rev p (n-(q+1)) n) k=Rk r p k:=by
 rw[x6 hn];split
 ·rename_i h;rw[he _ ‹0› ‹0›,he k h.1 h.2]
 ·rfl
def sJ(hc:nK cmp r N s){G:Array Nat×Nat×Nat->UW->Prop}:∀(f:Nat)(p:Array Nat)(n q:Nat),PM N p->1<=n->n+f<=N->Dn r p n->q+1<=n->(∀i,n-(q+1)<=i->i<n->Rk r p i=Rk r p (n-1))->
  (∀p' m q',PM N p'->n<=m->m<=n+f->Dn r p' m->q'+1<=m->(∀i,m-(q'+1)<=i->i<m->Rk r p' i=Rk r p' (m-1))->G (p',m,q') s)->(kas_desc f p n q).kasWp cmp G s
 |0,p,n,q,hp,_,_,d,hq,he,h=>h p n q hp (QT _) (QT _) d hq he
 |f+1,p,n,q,hp,h1,h2,d,hq,he,h=>by
  have hs:=hp.size;have step:∀p',(∀k,Rk r p' k=Rk r p k)->Rk r p n<=Rk r p (n-1)->Dn r p' (n+1):=λp' hk hl i j hij hj=>by
   rw[hk,hk];by_cases hjn:j<n
   ·exact d i j hij hjn
   ·have ej:j=n:=(by omega);subst ej;by_cases ei:i=j
    ·subst ei;exact QT _
    ·have:=d i (j-1) ‹0› ‹0›
     omega
  refine hc _ _ _ (hp.lt ‹0›) (hp.lt ‹0›) ?_;by_cases q1:Rk r p n<Rk r p (n-1)
  ·rw[decide_eq_true q1];dsimp only;rw[if_pos rfl];by_cases hq0:q>0
   ·rw[if_pos hq0];refine sJ hc f _ (n+1) 0 (hp.rev _ _) ‹0› ‹0› (step _ (GZ ‹0› hq he) ‹0›) ‹0› (λi a b=>by rw[show i=n+1-1 by omega]) λp' m q' a b c=>h p' m q' a ‹0› ‹0›
   ·rw[if_neg hq0];refine sJ hc f _ (n+1) 0 hp ‹0› ‹0› (step _ (λ_=>rfl) ‹0›) ‹0› (λi a b=>by rw[show i=n+1-1 by omega]) λp' m q' a b c=>h p' m q' a ‹0› ‹0›
  ·rw[decide_eq_false q1];dsimp only;rw[if_neg QY];refine hc _ _ _ (hp.lt ‹0›) (hp.lt ‹0›) ?_;by_cases q2:Rk r p (n-1)<Rk r p n
   ·rw[decide_eq_true q2];dsimp only;rw[if_pos rfl];exact h p n q hp (QT _) ‹0› d hq he
   ·rw[decide_eq_false q2];dsimp only;rw[if_neg QY];refine sJ hc f _ (n+1) (q+1) hp ‹0› ‹0› (step _ (λ_=>rfl) ‹0›) ‹0› (λi a b=>?_) λp' m q' a b c=>h p' m q' a ‹0› ‹0›;rw[show n+1-1=n by omega];by_cases ei:i=n
    ·subst ei;rfl
    ·have:=he i ‹0› ‹0›
     omega
def zA(hc:nK cmp r N s){p:Array Nat}(hp:PM N p){n:Nat}(h1:1<=n)(hn:n<=N)(d:Dn r p n){G:Nat×Array Nat->UW->Prop}(h:∀m p',PM N p'->1<=m->m<=N->Up r p' m->G (m,p') s):(kas_tail3 n N p).kasWp cmp G s:=by
 unfold kas_tail3;rw[KasT.kasWp_bind];have hs:=hp.size;refine AG hc (hp.rev 0 n) _ _ h1 ‹0› (λi j hij hj=>?_) λm a b u _=>h m _ (hp.rev 0 n) ‹0› ‹0› u;rw[x6 ‹0›,x6 ‹0›,if_pos ‹0›,if_pos ‹0›];exact d _ _ ‹0› ‹0›
def rP(hc:nK cmp r N s){p:Array Nat}(hp:PM N p){n:Nat}(hn:n+1<=N)(d:Dn r p (n+1)){G:Nat×Array Nat->UW->Prop}(h:∀m p',PM N p'->1<=m->m<=N->Up r p' m->G (m,p') s):(kas_descPart n N p).kasWp cmp G s:=by
 unfold kas_descPart;rw[KasT.kasWp_bind];refine sJ hc _ _ _ _ hp ‹0› ‹0› d ‹0› (λi a b=>by rw[show i=n+1-1 by omega]) λp' m q' hp' a b d' hq he=>?_;have hs:=hp'.size;dsimp only;by_cases hq0:q'>0
 ·rw[if_pos hq0];refine zA hc (hp'.rev _ _) ‹0› ‹0› (λi j hij hj=>?_) h;rw[GZ ‹0› hq he,GZ ‹0› hq he];exact d' i j hij hj
 ·rw[if_neg hq0];exact zA hc hp' ‹0› ‹0› d' h
def Fb(hc:nK cmp r N s)(h1:1<=N){p:Array Nat}(hp:PM N p){G:Nat×Array Nat->UW->Prop}(h:∀m p',PM N p'->1<=m->m<=N->Up r p' m->G (m,p') s):(kas_count N p).kasWp cmp G s:=by
 unfold kas_count;rw[KasT.kasWp_bind];have hs:=hp.size;refine AG hc hp _ _ (QT _) ‹0› (λi j hij hj=>by rw[show i=j by omega];exact QT _) λn a b u hor=>?_;by_cases hn:n=N
 ·rw[if_pos (by simpa using hn)];exact h n p hp a ‹0› u
 ·rw[if_neg (by simpa using hn)];have hlt:Rk r p n<Rk r p (n-1):=by
   rcases hor with z|z
   ·omega
   ·exact z
  by_cases hg:n>1
  ·rw[if_pos hg];refine hc _ _ _ (hp.lt ‹0›) (hp.lt ‹0›) ?_;by_cases q:Rk r p 0<Rk r p (n-1)
   ·rw[decide_eq_true q];dsimp only;rw[if_pos rfl];exact h n p hp a ‹0› u
   ·rw[decide_eq_false q];dsimp only;rw[if_neg QY];have hall:∀k,k<n->Rk r p k=Rk r p (n-1):=λk hk=>by
     have a1:=u 0 k ‹0› hk;have a2:=u k (n-1) ‹0› ‹0›;omega
    have hr:∀k,Rk r (kas_rev p 0 n) k=Rk r p k:=λk=>by
     rw[x6 ‹0›];split
     ·rename_i z;rw[hall _ ‹0›,hall k z.2]
     ·rfl
    refine rP hc (hp.rev _ _) ‹0› (λi j hij hj=>?_) h;rw[hr,hr];by_cases hjn:j<n
    ·rw[hall i ‹0›,hall j hjn];exact QT _
    ·have ej:j=n:=(by omega);subst ej;by_cases ei:i=j
     ·subst ei;exact QT _
     ·rw[hall i ‹0›];omega
  ·rw[if_neg hg];have en:n=1:=(by omega);subst en;refine rP hc hp ‹0› (λi j hij hj=>?_) h;by_cases ei:i=j
   ·subst ei;exact QT _
   ·have e0:i=0:=(by omega);have e1:j=1:=(by omega);subst e0 e1;exact QL hlt
def t6(hc:nK cmp r N s){p:Array Nat}(hp:PM N p){k:Nat}(hk:k<N)(u:Up r p k){G:Nat->UW->Prop}(h:∀l,l<=k->(∀i,i<l->Rk r p i<=Rk r p k)->(∀i,l<=i->i<k->Rk r p k<Rk r p i)->G l s):
  ∀(f l t:Nat),t-l<=f->l<=t->t<=k->(∀i,i<l->Rk r p i<=Rk r p k)->(∀i,t<=i->i<k->Rk r p k<Rk r p i)->(kas_place p k f l t).kasWp cmp G s
 |0,l,t,a,b,c,d,e=>h l ‹0› d λi x y=>e i ‹0› y
 |f+1,l,t,a,b,c,d,e=>by
  unfold kas_place;by_cases hl:l>=t
  ·rw[if_pos hl];exact h l ‹0› d λi x y=>e i ‹0› y
  ·rw[if_neg hl];refine hc _ _ _ (hp.lt hk) (hp.lt ‹0›) ?_;by_cases q:Rk r p k<Rk r p ((l+t)/2)
   ·rw[decide_eq_true q];dsimp only;rw[if_pos rfl];refine t6 hc hp hk u h f l ((l+t)/2) ‹0› ‹0› ‹0› d λi x y=>?_
    have:=u ((l+t)/2) i x y
    omega
   ·rw[decide_eq_false q];dsimp only;rw[if_neg QY];refine t6 hc hp hk u h f ((l+t)/2+1) t ‹0› ‹0› ‹0› (λi x=>?_) e
    have:=u i ((l+t)/2) ‹0› ‹0›
    omega
def Gy(hc:nK cmp r N s){G:Array Nat->UW->Prop}(h:∀p,PM N p->Up r p N->G p s):∀(f:Nat)(p:Array Nat)(k:Nat),PM N p->k+f=N->Up r p k->(kas_bin f p k).kasWp cmp G s
 |0,p,k,hp,e,u=>h p hp (by rw[<-e];exact u)
 |f+1,p,k,hp,e,u=>by
  unfold kas_bin;rw[KasT.kasWp_bind];have hs:=hp.size;refine t6 hc hp ‹0› u (λl hl d e'=>?_) k 0 k ‹0› (Q3 _) (QT _) (λi x=>by omega) λi x y=>by omega
  refine Gy hc h f _ (k+1) ((bubble_perm p k _).trans hp) ‹0› λi j hij hj=>?_;rw[FP ‹0› ‹0›,FP ‹0› ‹0›,show k-(k-l)=l by omega];have U:=u;by_cases i1:i=l
  ·rw[if_pos i1];by_cases j1:j=l
   ·rw[if_pos j1];exact QT _
   ·rw[if_neg j1,if_pos ‹0›];exact QL (e' (j-1) ‹0› ‹0›)
  ·rw[if_neg i1];by_cases i2:l<i/\i<=k
   ·rw[if_pos i2,if_neg ‹0›,if_pos ‹0›];exact U _ _ ‹0› ‹0›
   ·rw[if_neg i2];by_cases j1:j=l
    ·rw[if_pos j1];exact d i ‹0›
    ·rw[if_neg j1];by_cases j2:l<j/\j<=k
     ·rw[if_pos j2];exact U _ _ ‹0› ‹0›
     ·rw[if_neg j2];exact U _ _ hij ‹0›
def BP(hc:nK cmp r N s)(h2:1<=N){G:Array Nat->UW->Prop}(h:∀p,PM N p->Up r p N->G p s):(kas_sort N).kasWp cmp G s:=by
 unfold kas_sort;rw[KasT.kasWp_bind];refine Fb hc h2 (Array.Perm.refl _) λm p' hp a b u=>?_;dsimp only;by_cases hm:m<N
 ·rw[if_pos hm,show max m 1=m by omega];exact Gy hc h _ p' m hp ‹0› u
 ·rw[if_neg hm];exact h p' hp (by rw[show N=m by omega];exact u)
end
section
variable{prog:UL}{w:UK}{A:UV}{E:UJ->UW->Prop}{s:UW}
def vA{a:UM}{vs:List UJ}{n:Nat}{P:PySem.Fin->UW->Prop}{κ:V6}{r:Nat->Nat}(ho:s.heap.get? a=some (seqObj "list" vs.toArray n))(h64:vs.length<64)
  (hk:2<=vs.length->∀h':UO,(∀b o,b≠a->s.heap.get? b=some o->h'.get? b=some o)->∀(Q:V6->UW->Prop),Q κ {s with heap:=h'}->UY (model prog w) A (keyKind' vs.toArray) Q E {s with heap:=h'})
  (hr:2<=vs.length->∀h':UO,(∀b o,b≠a->s.heap.get? b=some o->h'.get? b=some o)->nK (V7 prog w A κ vs) r vs.length {s with heap:=h'})
  (h:∀p:Array Nat,PM vs.length p->Up r p vs.length->P (.done (.ret .none)) {s with heap:=sortedHeap s.heap a vs (List.toArray (p.toList.map λi=>vs.getD i Value.none))}):
  UY (model prog w) A (Builtin.«list.sort» ⟨[.ref a],[]⟩) P E s:=by
 rw[list_sort_plain];have ha:a<s.heap.objs.size:=Ub ho;refine U7 (listItems_at ho rfl ?_);refine U7 (V8 ho rfl ?_ (by rw[QX,Vh];omega) (Q3 _));obtain⟨e1,ho1⟩:∃e1,(s.heap.update a (Obj.mapSeq λ_=>(#[]:Array UJ))).get? a=some (seqObj "list" #[] e1):=⟨_,V9 ho (λ_=>#[])⟩
 refine U7 (Wa ho1 rfl ?_);refine U7 (V2 ?_ (by show vs.length<=_;rw[Vh];omega));refine U7 (Wb ?_ (Q3 _));refine VD ?_;have ho6:(((s.heap.update a (Obj.mapSeq λ_=>(#[]:Array UJ))).push (seqObj "tuple" vs.toArray 0)).push (seqObj "list" #[] 0)).get? a=some (seqObj "list" #[] e1):=by
  rw[Ul _ _ _ (by rw[size_push',Um];exact QJ (Rz ha)),Ul _ _ _ (by rw[Um];exact QJ ha)];exact ho1
 have kept:∀b o,b≠a->s.heap.get? b=some o->(((s.heap.update a (Obj.mapSeq λ_=>(#[]:Array UJ))).push (seqObj "tuple" vs.toArray 0)).push (seqObj "list" #[] 0)).get? b=some o:=λb o hb e=>
  Ue _ (Ue _ (by rw[Uo _ _ _ _ hb];exact e))
 show UY (model prog w) A _ P E {s with heap:=((s.heap.update a (Obj.mapSeq λ_=>(#[]:Array UJ))).push (seqObj "tuple" vs.toArray 0)).push (seqObj "list" #[] 0)};dsimp only;have hsz:vs.toArray.size=vs.length:=by simp
 by_cases h2:vs.toArray.size<2
 ·rw[if_pos h2,if_pos h2];refine U7 (U6 ?_);rw[StateT.run_pure];refine U7 (U6 ?_);dsimp only;refine U7 (Wa ho6 rfl ?_);have hout:(arrOf (SortSt.mk' general' (vs.toArray.zip vs.toArray) #[] 7 none)).map (·.2)=List.toArray ((List.toArray (List.range vs.length)).toList.map λi=>vs.getD i Value.none):=by
   refine kat_snds rfl ?_;show vs.toArray.zip vs.toArray=_;have e:=kas_range (vs.toArray.zip vs.toArray);rw[show(vs.toArray.zip vs.toArray).size=vs.length by simp]at e;exact e.symm
  rw[hout];refine U7 (V8 ho6 rfl ?_ (Q3 _) (by rw[QX,Q1,Vh];simp;omega));simp only[bne_self_eq_false,Ry,if_false];refine U6 (h _ (Array.Perm.refl _) λi j hij hj=>?_)
  have:i=j:=by omega
  subst this;exact QT _
 ·rw[if_neg h2,if_neg h2];have h2':2<=vs.length:=by omega
  refine U7 (hk h2' _ kept _ ?_);refine U7 (U2 (kat_run (Q:=λst' s'=>∃p:Array Nat,arrOf st'=p.map (kas_item (vs.toArray.zip vs.toArray))/\failedOf st'=none/\PM vs.length p/\Up r p vs.length/\s'={s with heap:=((s.heap.update a (Obj.mapSeq λ_=>(#[]:Array UJ))).push (seqObj "tuple" vs.toArray 0)).push (seqObj "list" #[] 0)})
   (G:=λp s'=>PM vs.length p/\Up r p vs.length/\s'={s with heap:=((s.heap.update a (Obj.mapSeq λ_=>(#[]:Array UJ))).push (seqObj "tuple" vs.toArray 0)).push (seqObj "list" #[] 0)})
   rfl h2' h64 (λp' st' s' a1 a2 a3 a4=>⟨p',a2,a3,a4.1,a4.2.1,a4.2.2⟩) (BP (hr h2' _ kept) ‹0› λp hp hu=>⟨hp,hu,rfl⟩)) ?_ λ_ _ e=>e)
  rintro⟨⟨⟩,st'⟩ s' ⟨p,har,hf,hp,hu,rfl⟩;dsimp only;refine U7 (Wa ho6 rfl ?_);have hout:=kat_snds rfl har;rw[hout];refine U7 (V8 ho6 rfl ?_ (Q3 _) (by rw[QX,Q1,Array.length_toList,hp.size,Vh];omega));rw[hf];simp only[bne_self_eq_false,Ry,if_false];exact U6 (h p hp hu)
def tH{src:UJ}{vs:List UJ}{Q:UJ->UW->Prop}{κ:V6}{r:Nat->Nat}(h64:vs.length<64)
  (hcol:∀(Q':List UJ->UW->Prop),(∀h' tk,(∀b o,s.heap.get? b=some o->h'.get? b=some o)->Q' vs {s with heap:=h',toks:=tk})->UY (model prog w) A.in1 (collect src) Q' E s)
  (hk:2<=vs.length->∀(h':UO)(tk:Nat),(∀b o,s.heap.get? b=some o->h'.get? b=some o)->∀(Q:V6->UW->Prop),Q κ {s with heap:=h',toks:=tk}->UY (model prog w) A.in1.in1 (keyKind' vs.toArray) Q E {s with heap:=h',toks:=tk})
  (hr:2<=vs.length->∀(h':UO)(tk:Nat),(∀b o,s.heap.get? b=some o->h'.get? b=some o)->nK (V7 prog w A.in1.in1 κ vs) r vs.length {s with heap:=h',toks:=tk})
  (h:∀(p:Array Nat)(h1 h':UO)(l:UM)(e tk:Nat),PM vs.length p->Up r p vs.length->(∀b o,s.heap.get? b=some o->h1.get? b=some o)->(∀b o,h1.get? b=some o->h'.get? b=some o)->h1.objs.size<=l->h'.get? l=some (seqObj "list" (List.toArray (p.toList.map λi=>vs.getD i Value.none)) e)->Q (.ref l) {s with heap:=h',toks:=tk}):
  UY (model prog w) A (call (.builtin "sorted") [src]) Q E s:=by
 refine Calls.call_function_entry kind_sorted plain_sorted entry_sorted (args_sorted1 _) ?_;unfold Builtin.«sorted»;refine U7 (m:=checkCount "sorted" 1 1 _) (U6 ?_);refine U7 (hcol _ λh1 tk k1=>?_);refine U7 (Wb ?_ (by rw[Vh];omega));have hoL:(h1.push (seqObj "list" vs.toArray 0)).get? h1.objs.size=some (seqObj "list" vs.toArray 0):=Ug _ rfl;have k2:∀b o,s.heap.get? b=some o->(h1.push (seqObj "list" vs.toArray 0)).get? b=some o:=λb o e=>Ue _ (k1 b o e);have ne:∀b o,s.heap.get? b=some o->b≠h1.objs.size:=λb o e=>QJ (Ub (k1 b o e));refine U7 (VD (VF slot_list_sort ⟨_,hoL,rfl⟩ entry_list_sort (vA (s:={s with heap:=h1.push (seqObj "list" vs.toArray 0),toks:=tk}) (r:=r) (κ:=κ) hoL h64
  (λh2 h' k=>hk h2 h' tk λb o e=>k b o (ne b o e) (k2 b o e)) (λh2 h' k=>hr h2 h' tk λb o e=>k b o (ne b o e) (k2 b o e)) λp hp hu=>⟨_,rfl,?_⟩) (args_list_sort _)))
 refine U6 ⟨_,rfl,?_⟩;obtain⟨e,he⟩:=sortedHeap_at (vs:=vs) (out:=List.toArray (p.toList.map λi=>vs.getD i Value.none)) hoL;exact h p h1 _ h1.objs.size e tk hp hu k1 (λb o q=>by rw[sortedHeap_old (QJ (Ub q)) (by rw[size_push'];exact Rz (Ub q))];exact Ue _ q) (QT _) he
end
def eV:D->List D
 |.tup ks=>ks
 |_=>[]
def oneOf(d:D):List D:=[d]
def JX(xs:List D):Prop:=xs.length<64/\∃σ:List Bool,σ≠[]/\(∀x∈xs,∃k,x=.tup k/\Sh σ k)/\xs.Pairwise λx y=>eV x≠eV y
def ML(xs:List D):Prop:=xs.length<64/\∃b:Bool,(∀x∈xs,Sh [b] [x])/\xs.Pairwise λx y=>oneOf x≠oneOf y
open Classical in
noncomputable def rQ(xs:List D):Option D:=if JX xs then some (.lst (ku eV xs))else if ML xs then some (.lst (ku oneOf xs))else none
noncomputable def iD:List D->Option D
 |[.lst xs]=>rQ xs
 |[.tup xs]=>rQ xs
 |_=>none
def j3{prog:UL}{w:UK}{A:UV}{s:UW}{Q:Bool->UW->Prop}{fin:Bool}(hf:fin=false):∀{σ:List Bool}{ns ms:List D}{xs ys:List UJ}{i:Nat},Sh σ ns->Sh σ ms->gL xs ns->gL ys ms->Q (kLt ns ms) s->KatLex prog w A true fin Q (xs.zip ys) i s
 |_,_,_,_,_,i,.nil,.nil,.nil,.nil,h=>by
  subst hf;exact kat_nil (by simpa [kLt,eR]using h)
 |_,_,_,_,_,i,.int a h1,.int c h2,.int _ t f1,.int _ u f2,h=>by
  rw[Sb];obtain⟨e,he,hiff⟩:=Jf A s a t c u;refine kat_cons (he prog w _ _ ?_);cases e with
  |true=>
   have ac:=hiff.mp rfl;refine kat_yes (j3 hf h1 h2 f1 f2 ?_);unfold kLt at h ⊢;rw[ql,if_pos ac]at h;exact h
  |false=>
   have ac:¬a=c:=λq=>absurd (hiff.mpr q) QY;have h':Q (decide (a<c)) s:=by
    unfold kLt at h;rw[ql,if_neg ac]at h;cases hd:decide (a<c)<;>rw[hd]at h<;>exact h
   refine kat_no ?_;cases hi:(i==0)with
   |true=>exact oneLt_int h'
   |false=>exact kat_one _ _ (PySem.P.lt_int (show T2 Q (.bool _) s from h'))
 |_,_,_,_,_,i,.str a h1,.str c h2,.str _ t f1,.str _ u f2,h=>by
  rw[Sb];obtain⟨e,he,hiff⟩:=Jo A s a t c u;refine kat_cons (he prog w _ _ ?_);cases e with
  |true=>
   have ac:=hiff.mp rfl;refine kat_yes (j3 hf h1 h2 f1 f2 ?_);unfold kLt at h ⊢;rw[qb,if_pos ac]at h;exact h
  |false=>
   have ac:¬a=c:=λq=>absurd (hiff.mpr q) QY;have h':Q (decide (a.cps.toList<c.cps.toList)) s:=by
    unfold kLt at h;rw[qb,if_neg ac]at h;cases hd:decide (a.cps.toList<c.cps.toList)<;>rw[hd]at h<;>exact h
   refine kat_no ?_;cases hi:(i==0)with
   |true=>exact oneLt_str h'
   |false=>exact kat_one _ _ (PySem.P.lt_str (show T2 Q (.bool _) s from h'))
def pA{h:UO}{PT:UJ->Prop}:∀{its:List UJ},(∀v∈its,∃a o xs n f,v=.ref a/\h.get? a=some o/\o.cls=.type "tuple"/\o.data=.seq xs n/\xs[0]?=some f/\PT f)->∃fs,KatTups h its fs/\fs.length=its.length/\∀f∈fs,PT f
 |[],_=>⟨[],.nil,rfl,λ_ h=>nomatch h⟩
 |v::its,hh=>by
  obtain⟨a,o,xs,n,f,rfl,h1,h2,h3,h4,h5⟩:=hh v QN;obtain⟨fs,k1,k2,k3⟩:=pA (its:=its) λu hu=>hh u (QO _ hu);refine⟨f::fs,.cons h1 h2 h3 h4 k1,by rw[QZ,QZ,k2],λg hg=>?_⟩;rcases List.mem_cons.mp hg with rfl|z
  ·exact h5
  ·exact k3 g z
def gL.first{σ:List Bool}{b:Bool}{xs:List UJ}{ns:List D}(f:gL xs ns)(h:Sh (b::σ) ns):∃v,xs[0]?=some v/\typeOf v=pure (.type (if b then"int"else"str")):=by
 cases f with
 |nil=>cases h
 |int i t f=>cases h;exact⟨_,rfl,rfl⟩
 |str i t f=>cases h;exact⟨_,rfl,rfl⟩
def rJ{key:D->List D}{σ:List Bool}{ds:List D}(h:∀x∈ds,Sh σ (key x))(pw:ds.Pairwise λx y=>key x≠key y){p:Array Nat}(hp:PM ds.length p)(hu:Up (rank (ds.map key)) p ds.length):p.toList.map (λi=>ds.getD i .non)=ku key ds:=by
 have hr:p.toList.Perm (List.range ds.length):=by
  have:=Array.perm_iff_toList_perm.mp hp
  simpa using this
 have hmap:(List.range ds.length).map (λi=>ds.getD i .non)=ds:=by
  apply List.ext_getElem
  ·simp
  ·intro i h1 h2;simp at h1;simp[h1]
 have hperm:(p.toList.map λi=>ds.getD i .non).Perm ds:=by
  have:=hr.map (λi=>ds.getD i .non)
  rwa [hmap]at this
 have hn:p.toList.Nodup:=hr.nodup_iff.mpr List.nodup_range;refine(zY h pw ?_ hperm).symm;have hl:p.toList.length=ds.length:=by rw[hr.length_eq,RU]
 have kd:∀i,i<ds.length->(ds.map key).getD i []=key (ds.getD i .non):=λi hi=>by simp[hi]
 have hsh:∀k∈ds.map key,Sh σ k:=λk hk=>by
  obtain⟨x,hx,rfl⟩:=List.mem_map.mp hk;exact h x hx
 unfold zU;rw[Sz,List.pairwise_iff_getElem];intro i j hi hj hij;have hi':p.toList[i]<ds.length:=by simpa using hr.mem_iff.mp (Sy hi)
 have hj':p.toList[j]<ds.length:=by simpa using hr.mem_iff.mp (Sy hj)
 have ne:p.toList[i]≠p.toList[j]:=List.pairwise_iff_getElem.mp hn i j hi hj hij;have up:=hu i j ‹0› ‹0›;have gi:p.getD i 0=p.toList[i]:=by
  have:i<p.size:=by rw[<-Array.length_toList];exact hi
  simp[Array.getD,this]
 have gj:p.getD j 0=p.toList[j]:=by
  have:j<p.size:=by rw[<-Array.length_toList];exact hj
  simp[Array.getD,this]
 unfold Rk at up;rw[gi,gj]at up;have rl:=sG hsh (i:=p.toList[j]) (j:=p.toList[i]) (by rw[Q1];exact hj') (by rw[Q1];exact hi');rw[kd _ hj',kd _ hi',decide_eq_false ‹0›]at rl;have ei:ds.getD p.toList[i] .non=ds[p.toList[i]]:=by rw[SA,RJ hi'];rfl
 have ej:ds.getD p.toList[j] .non=ds[p.toList[j]]:=by rw[SA,RJ hj'];rfl
 have s1:=h _ (show ds.getD p.toList[i] .non∈ds by rw[ei];exact Sy hi');have s2:=h _ (show ds.getD p.toList[j] .non∈ds by rw[ej];exact Sy hj');rcases n0 s1 s2 with⟨z,_⟩|z|⟨z,_⟩
 ·exact z
 ·exfalso;have pw':=List.pairwise_iff_getElem.mp pw;rw[ei,ej]at z;rcases Nat.lt_or_gt_of_ne ne with q|q
  ·exact pw' _ _ hi' hj' q z
  ·exact pw' _ _ hj' hi' q z.symm
 ·rw[IK.mpr z]at rl;cases rl
def qT{vs:List V}{us:List UJ}(r:Vals vs us):∀l:List Nat,(∀i∈l,i<vs.length)->Vals (l.map λi=>vs.getD i .non) (l.map λi=>us.getD i Value.none)
 |[],_=>.nil
 |i::l,h=>by
  have hi:=h i QN;obtain⟨u,e,q⟩:=r.get (i:=i) (x:=vs[i]) (by simp[hi]);refine .cons ?_ (qT r l λj hj=>h j (QO _ hj));have e1:vs.getD i .non=vs[i]:=by simp[hi]
  have e2:us.getD i Value.none=u:=by simp[SA,e]
  show L2.RelV (vs.getD i .non) (us.getD i Value.none);rw[e1,e2];exact q
def qJ{K:Tt}{H:Hp}{ds:List D}{vs:List V}(g:bb K H ds vs):∀l:List Nat,(∀i∈l,i<ds.length)->bb K H (l.map λi=>ds.getD i .non) (l.map λi=>vs.getD i .non)
 |[],_=>cI.mpr rfl
 |i::l,h=>by
  have hi:=h i QN;obtain⟨v,e,q⟩:=g.get (i:=i) (d:=ds[i]) (by simp[hi]);refine bo.mpr ⟨_,_,rfl,?_,qJ g l λj hj=>h j (QO _ hj)⟩;have e1:ds.getD i .non=ds[i]:=by simp[hi]
  have e2:vs.getD i .non=v:=by simp[SA,e]
  show cJ K H (ds.getD i .non) (vs.getD i .non);rw[e1,e2];exact q
section
variable{X:Cx}{pins:List (UM×Obj)}{s:UW}{σ:L2.St}{H:Hp}{O:List UM}
def we{u:UJ}{ds:List D}{vs:List V}{its:List UJ}{d:D}{Q:VK}(I:Inv X pins σ H s)(hO:dS H O)(dn:bb X.K (hid H O) ds vs)(rv:Vals vs its)(hs:rQ ds=some d)
  (hcol:∀(Q':List UJ->UW->Prop),(∀h' tk,(∀b o,s.heap.get? b=some o->h'.get? b=some o)->Q' its {s with heap:=h',toks:=tk})->UY (model X.prog X.w) X.A.in1 (collect u) Q' X.xe s)
  (q:∀v H',bj H H'->cJ X.K (hid H' O) d v->Q v H'):UY (model X.prog X.w) X.A (call (.builtin "sorted") [u]) (EP X pins σ Q) X.xe s:=by
 have l1:=dn.length;have l2:=rv.length;have fin:∀(key:D->List D)(σ':List Bool),(∀x∈ds,Sh σ' (key x))->ds.Pairwise (λx y=>key x≠key y)->ds.length<64->d=.lst (ku key ds)->∀(p:Array Nat)(h1 h':UO)(l:UM)(e tk:Nat),PM its.length p->Up (rank (ds.map key)) p its.length->(∀b o,s.heap.get? b=some o->h1.get? b=some o)->(∀b o,h1.get? b=some o->h'.get? b=some o)->h1.objs.size<=l->
   h'.get? l=some (seqObj "list" (List.toArray (p.toList.map λi=>its.getD i Value.none)) e)->EP X pins σ Q (.ref l) {s with heap:=h',toks:=tk}:=by
  intro key σ' hsh pw h64 ed p h1 h' l e tk hp hu k1 k2 hl he;have el:its.length=ds.length:=by omega
  rw[el]at hp hu;have ps:=rJ hsh pw hp hu;have hr:p.toList.Perm (List.range ds.length):=by
   have:=Array.perm_iff_toList_perm.mp hp
   simpa using this
  have hlt:∀i∈p.toList,i<ds.length:=λi hi=>by simpa using hr.mem_iff.mp hi
  have I1:Inv X pins σ H {s with heap:=h1,toks:=tk}:=I.kept k1;have hn:H l=none:=I1.hok.fresh hl;have rv':=qT rv p.toList λi hi=>by have:=hlt i hi;omega
  have dn':=qJ dn p.toList hlt;have hlen:p.toList.length=ds.length:=by rw[hr.length_eq,RU]
  refine⟨.ref l,_,Inv.laid (s:={s with heap:=h1,toks:=tk}) (t':=tk) I1 k2 hl (show cH X.prog X.w _ h' _ (.lst (p.toList.map λi=>vs.getD i .non))from⟨by rw[Q1,hlen,Vh];omega,_,e,rv',he⟩),rfl,?_⟩;refine q _ _ (bL hn _) ?_;rw[ed,<-ps];exact dF hO hn dn'
 unfold rQ at hs;split at hs
 ·rename_i h;cases hs;obtain⟨h64,σ',hσ,hsh,pw⟩:=h;obtain⟨b,σ1,rfl⟩:∃b σ1,σ'=b::σ1:=by
   cases σ' with
   |nil=>exact absurd rfl hσ
   |cons b σ1=>exact⟨b,σ1,rfl⟩
  have hsh':∀x∈ds,Sh (b::σ1) (eV x):=λx hx=>by
   obtain⟨k,rfl,hk⟩:=hsh x hx;exact hk
  have at':∀i (hi:i<ds.length),∃a o xs n,its[i]?=some (.ref a)/\s.heap.get? a=some o/\o.cls=.type "tuple"/\o.data=.seq xs n/\gL xs.toList (eV ds[i]):=λi hi=>by
   obtain⟨v,e1,dv⟩:=dn.get (i:=i) (d:=ds[i]) (by simp[hi]);obtain⟨w,e2,rw'⟩:=rv.get e1;obtain⟨k,ek,hk⟩:=hsh _ (Sy hi);rw[ek]at dv ⊢;obtain⟨a,ws,rfl,ha,dk⟩:=cK.mp dv;cases rw';obtain⟨it2,r2,⟨o,ho,hc,n,hd⟩,_⟩:=I.tuple (bU (aB H O) ha);exact⟨a,o,_,n,e2,ho,hc,hd,by simpa [eV]using lx (sN hk) dk r2⟩
  refine tH (κ:=tuples' true) (r:=rank (ds.map eV)) ‹0› hcol (λh2 h' tk kp Q' hQ=>?_) (λh2 h' tk kp i j C hi hj hC=>?_) (fin eV _ hsh' pw h64 rfl)
  ·obtain⟨fs,t1,t2,t3⟩:=pA (h:=h') (PT:=λf=>typeOf f=pure (.type (if b then"int"else"str"))) (its:=its) λv hv=>by
    obtain⟨i,hi,rfl⟩:=RN hv;obtain⟨a,o,xs,n,e1,ho,hc,hd,ff⟩:=at' i ‹0›;obtain⟨f,ef,tf⟩:=ff.first (hsh' _ (Sy _));refine⟨a,o,xs,n,f,?_,kp _ _ ho,hc,hd,by simpa using ef,tf⟩
    have:=RJ hi
    rw[e1]at this;exact(Option.some.inj this).symm
   refine kat_kind (T:=.type (if b then"int"else"str")) t1 ‹0› (λf hf=>Looks.of_pure (t3 f hf)) (by cases b<;>rfl) ?_
   have:(Value.type (if b then"int"else"str") !=Value.type "tuple")=true:=(by cases b<;>rfl);rw[this];exact hQ
  ·obtain⟨a,o,xs,n,e1,ho,hc,hd,ff⟩:=at' i ‹0›;obtain⟨a2,o2,xs2,n2,e2,ho2,hc2,hd2,ff2⟩:=at' j ‹0›;unfold V7;have g1:its.getD i Value.none=.ref a:=(by simp[SA,e1]);have g2:its.getD j Value.none=.ref a2:=(by simp[SA,e2]);rw[g1,g2];have hi':i<ds.length:=(by omega);have hj':j<ds.length:=(by omega);have sh1:=hsh' _ (Sy hi');have sh2:=hsh' _ (Sy hj');have rl:=sG (ks:=ds.map eV) (σ:=b::σ1) (λk hk=>by obtain⟨x,hx,rfl⟩:=List.mem_map.mp hk;exact hsh' x hx) (i:=i) (j:=j) (by rw[Q1];exact hi') (by rw[Q1];exact hj');have k1:(ds.map eV).getD i []=eV ds[i]:=(by simp[hi']);have k2:(ds.map eV).getD j []=eV ds[j]:=(by simp[hj']);rw[k1,k2]at rl;rw[rl]at hC;refine kat_lt (kp _ _ ho) hd (kp _ _ ho2) hd2 (j3 ?_ sh1 sh2 ff ff2 hC);have z1:xs.size=(eV ds[i]).length:=(by have:=ff.length;simpa using this);have z2:xs2.size=(eV ds[j]).length:=(by have:=ff2.length;simpa using this);have z3:(eV ds[i]).length=(eV ds[j]).length:=(by rw[Sh.length sh1,Sh.length sh2]);exact decide_eq_false ‹0›
 ·split at hs
  ·rename_i _ h;cases hs;obtain⟨h64,b,hsh,pw⟩:=h;have at':∀i (hi:i<ds.length),(∃(n:Int)(t:Tok),b=true/\its[i]?=some (.int n t)/\ds[i]=.int n)\/∃(x:Str)(t:Tok),b=false/\its[i]?=some (.str x t)/\ds[i]=.str x:=λi hi=>by
    obtain⟨v,e1,dv⟩:=dn.get (i:=i) (d:=ds[i]) (by simp[hi]);obtain⟨w,e2,rw'⟩:=rv.get e1;have hk:=hsh _ (Sy hi);generalize ds[i]=di at dv hk;cases hk with
    |int n _=>
     rw[fw]at dv;subst dv;obtain⟨t,rfl⟩:=rw';exact .inl ⟨n,t,rfl,e2,rfl⟩
    |str x _=>
     rw[fJ]at dv;subst dv;obtain⟨t,rfl⟩:=rw';exact .inr ⟨x,t,rfl,e2,rfl⟩
   refine tH (κ:=oneType') (r:=rank (ds.map oneOf)) ‹0› hcol (λh2 h' tk kp Q' hQ=>?_) (λh2 h' tk kp i j C hi hj hC=>?_) (fin oneOf [b] hsh pw h64 rfl)
   ·refine kas_kind (T:=.type (if b then"int"else"str")) h2 (λv hv=>?_) (by cases b<;>rfl) (by cases b<;>rfl) hQ;obtain⟨i,hi,rfl⟩:=RN hv;have hg:=RJ hi;rcases at' i ‹0›with⟨n,t,rfl,e,_⟩|⟨x,t,rfl,e,_⟩
    ·rw[hg]at e;rw[Option.some.inj e];exact Looks.of_pure rfl
    ·rw[hg]at e;rw[Option.some.inj e];exact Looks.of_pure rfl
   ·have hi':i<ds.length:=(by omega);have hj':j<ds.length:=(by omega);unfold V7;have rl:=sG (ks:=ds.map oneOf) (σ:=[b]) (λk hk=>by obtain⟨x,hx,rfl⟩:=List.mem_map.mp hk;exact hsh x hx) (i:=i) (j:=j) (by rw[Q1];exact hi') (by rw[Q1];exact hj');have k1:(ds.map oneOf).getD i []=[ds[i]]:=(by simp[hi',oneOf]);have k2:(ds.map oneOf).getD j []=[ds[j]]:=(by simp[hj',oneOf]);rw[k1,k2]at rl;rw[rl]at hC;rcases at' i hi' with⟨n,t,hb,e1,q1⟩|⟨x,t,hb,e1,q1⟩
    ·rcases at' j hj' with⟨n2,t2,hb2,e2,q2⟩|⟨x2,t2,hb2,e2,q2⟩
     ·have g1:its.getD i Value.none=.int n t:=(by simp[SA,e1]);have g2:its.getD j Value.none=.int n2 t2:=(by simp[SA,e2]);rw[g1,g2,keyLt'_oneType];refine oneLt_int ?_;rw[q1,q2]at hC;unfold kLt at hC;rw[ql]at hC;by_cases z:n=n2
      ·rw[if_pos z]at hC;rw[decide_eq_false ‹0›];exact hC
      ·rw[if_neg z]at hC;cases hd:decide (n<n2)<;>rw[hd]at hC<;>exact hC
     ·rw[hb]at hb2;cases hb2
    ·rcases at' j hj' with⟨n2,t2,hb2,e2,q2⟩|⟨x2,t2,hb2,e2,q2⟩
     ·rw[hb]at hb2;cases hb2
     ·have g1:its.getD i Value.none=.str x t:=(by simp[SA,e1]);have g2:its.getD j Value.none=.str x2 t2:=(by simp[SA,e2]);rw[g1,g2,keyLt'_oneType];refine oneLt_str ?_;rw[q1,q2]at hC;unfold kLt at hC;rw[qb]at hC;by_cases z:x=x2
      ·rw[if_pos z]at hC;rw[decide_eq_false (by rw[z];exact uR _)];exact hC
      ·rw[if_neg z]at hC;cases hd:decide (x.cps.toList<x2.cps.toList)<;>rw[hd]at hC<;>exact hC
  ·cases hs
def qm:dY X (.builtin "sorted") (yd X.K iD):=by
 intro pins s σ H xs us Q I r ⟨O,ds,d,hO,hd,hg,q⟩;unfold iD at hg;split at hg
 ·obtain⟨v,rfl,h1⟩:=hd.one;obtain⟨p,ws,rfl,g1,g2⟩:=cT.mp h1;obtain⟨u,rfl,ru⟩:=vals1 r;cases ru;obtain⟨its,rv,pl,hz⟩:=I.list ((aB H O).seq g1);have hlen:=rv.length;obtain⟨o,ho,hc,n,hd'⟩:=pl.isList;exact we I hO g2 rv hg (λQ' hQ=>Wc p (.inl rfl) ho hc hd' (λh' k=>by simpa using hQ h' s.toks k) (by simp only[QX]<;>omega)) q
 ·obtain⟨v,rfl,h1⟩:=hd.one;obtain⟨p,ws,rfl,g1,g2⟩:=cK.mp h1;obtain⟨u,rfl,ru⟩:=vals1 r;cases ru;obtain⟨its,rv,⟨o,ho,hc,n,hd'⟩,hz⟩:=I.tuple (bU (aB H O) g1);have hlen:=rv.length;exact we I hO g2 rv hg (λQ' hQ=>Wc p (.inr rfl) ho hc hd' (λh' k=>by simpa using hQ h' s.toks k) (by simp only[QX]<;>omega)) q
 ·cases hg
end
end TG
namespace TG
open PySem PySem.Spec L2
variable[aU]
section
variable{X:Cx}{tg:UZ}
end
end TG
namespace TG
open PySem PySem.Spec L2
variable[aU]
end TG
namespace TG
open PySem PySem.Spec L2
variable[aU]
end TG
namespace TG
open PySem PySem.Spec L2
variable[aU]
def keyOf:D->Option Key
 |.int i=>some (.inl i)
 |.str x=>some (.inr x)
 |_=>none
def keysOf:List D->Option (List Key)
 |[]=>some []
 |d::r=>(keyOf d).bind λk=>(keysOf r).map (k::·)
def jS:D->Option (List Key)
 |.tup ds=>keysOf ds
 |_=>none
def tL{d:D}{k:Key}(h:keyOf d=some k):d=bx k:=by
 cases d with
 |int i=>cases h;rfl
 |str x=>cases h;rfl
 |_=>cases h
def oB:∀{ds:List D}{ks:List Key},keysOf ds=some ks->ds=ks.map bx
 |[],_,h=>by cases h;rfl
 |d::r,ks,h=>by
  unfold keysOf at h;cases e1:keyOf d with
  |none=>rw[e1]at h;cases h
  |some k=>
   rw[e1]at h;cases e2:keysOf r with
   |none=>rw[e2]at h;cases h
   |some ks'=>rw[e2]at h;cases h;rw[tL e1,oB e2];rfl
def oj{d:D}{k:List Key}(h:jS d=some k):d=.tup (k.map bx):=by
 cases d with
 |tup ds=>rw[oB (show keysOf ds=some k from h)]
 |_=>cases h
def cP:∀ks:List Key,keysOf (ks.map bx)=some ks
 |[]=>rfl
 |k::r=>by
  show(keyOf (bx k)).bind _=_;have e:keyOf (bx k)=some k:=by cases k<;>rfl
  rw[e];show(keysOf (r.map bx)).map (k::·)=_;rw[cP r];rfl
def ud{K:Tt}{H:Hp}{k:Key}{v:V}(h:cJ K H (bx k) v):v=kV k:=by
 cases k with
 |inl i=>exact fw.mp h
 |inr x=>exact fJ.mp h
def jw{K:Tt}{H:Hp}:∀{ks:List Key}{vs:List V},bb K H (ks.map bx) vs->vs=ks.map kV
 |[],vs,h=>by rw[Ro,cI]at h;exact h
 |k::r,vs,h=>by
  rw[Q0,bo]at h;obtain⟨v,r',e1,h1,h2⟩:=h;rw[e1,ud h1,jw h2];rfl
section
variable{P:UL}{w:UK}{H H':Hp}{h:UO}{a:UM}
def GH(x:cH P w H h a (.dK [])):cH P w H' h a (.dT []):=by
 obtain⟨z,hd,vs,rel,o,es,ep,h1,h2,h3,h4,h5,h6⟩:=x;have e:vs=[]:=by have:=rel.length;simpa using this.symm
 subst e;refine⟨Q3 _,hd,[],.nil,o,es,ep,h1,h2,h3,?_,by simp⟩
 have:=h5.length
 simpa using this
def yG(x:cH P w H h a (.dT [])):cH P w H' h a (.dK []):=by
 obtain⟨z,hd,xs,rel,o,es,ep,h1,h2,h3,h4,h5⟩:=x;have e:xs=[]:=by have:=rel.length;simpa using this.symm
 subst e;have e2:es=#[]:=by simpa using h4
 subst e2;exact⟨Q3 _,hd,[],.nil,o,#[],ep,h1,h2,h3,λe he=>by simp at he,.nil,by simp⟩
end
section
variable{X:Cx}{pins:List (UM×Obj)}{σ:St}{H:Hp}{s:UW}{a:UM}
def Eu(I:Inv X pins σ H s)(h1:H a=some (.dK [])):Inv X pins σ (upd H a (.dT [])) s:=by
 have hx:=I.hok a _ h1;have hq:∃q,s.heap.get? a=some q:=by obtain⟨_,_,_,_,o,_,_,e,_⟩:=id hx;exact⟨o,e⟩
 exact oo (ob:=.dT []) (h':=s.heap) (t':=s.toks) I (by rw[h1];exact trivial) ⟨rfl,λ_ _=>rfl⟩ hq (GH hx)
def Ma(I:Inv X pins σ H s)(h1:H a=some (.dT [])):Inv X pins σ (upd H a (.dK [])) s:=by
 have hx:=I.hok a _ h1;have hq:∃q,s.heap.get? a=some q:=by obtain⟨_,_,_,_,o,_,_,e,_⟩:=id hx;exact⟨o,e⟩
 exact oo (ob:=.dK []) (h':=s.heap) (t':=s.toks) I (by rw[h1];exact trivial) ⟨rfl,λ_ _=>rfl⟩ hq (yG hx)
end
def Gp{H:Hp}{a:UM}{o1 o2:HO}(h:H a=some o1):upd (upd H a o2) a o1=H:=by
 funext b;by_cases e:b=a
 ·subst e;rw[aX,h]
 ·rw[aD e,aD e]
def kH:List D->List D->Option (List (List Key×D))
 |[],[]=>some []
 |k::ks,d::ds=>(jS k).bind λk=>(kH ks ds).map ((k,d)::·)
 |_,_=>none
abbrev encK(al:List (List Key×D)):List D:=al.map λp=>.tup (p.1.map bx)
abbrev dB(al:List (List Key×D)):D:=.dct (encK al) (al.map (·.2))
def jt:∀{ks ds:List D}{al:List (List Key×D)},kH ks ds=some al->ks=encK al/\ds=al.map (·.2)
 |[],[],_,h=>by cases h;exact⟨rfl,rfl⟩
 |k::ks,d::ds,al,h=>by
  unfold kH at h;cases e1:jS k with
  |none=>rw[e1]at h;cases h
  |some k'=>
   rw[e1]at h;cases e2:kH ks ds with
   |none=>rw[e2]at h;cases h
   |some al'=>
    rw[e2]at h;cases h;obtain⟨h1,h2⟩:=jt e2;rw[oj e1,h1,h2];exact⟨rfl,rfl⟩
 |[],_::_,_,h=>by cases h
 |_::_,[],_,h=>by cases h
def kX:∀al:List (List Key×D),kH (encK al) (al.map (·.2))=some al
 |[]=>rfl
 |p::r=>by
  show(jS (.tup (p.1.map bx))).bind _=_;have e:jS (.tup (p.1.map bx))=some p.1:=cP p.1;rw[e];show(kH (encK r) (r.map (·.2))).map ((p.1,p.2)::·)=_;rw[kX r];rfl
def mZ:∀{al:List (List Key×D)}{ks:List (List Key)},encK al=ks.map (λk=>.tup (k.map bx))->al.map (·.1)=ks
 |[],[],_=>rfl
 |p::r,k::ks,h=>by
  have h:D.tup (p.1.map bx)::encK r=D.tup (k.map bx)::ks.map (λk=>.tup (k.map bx)):=h;injection h with h1 h2;injection h1 with h1;have e:some p.1=some k:=by rw[<-cP p.1,h1,cP k]
  rw[Q0,Option.some.inj e,mZ h2]
 |[],_::_,h=>by cases h
 |_::_,[],h=>by cases h
def Pr{K:Tt}{H:Hp}{O:List UM}{a:UM}{al:List (List Key×D)}(h:dG K H O a (dB al)):
  (∃kvs:List (List Key×V),H a=some (.dT kvs)/\kvs.map (·.1)=al.map (·.1)/\bb K (hid H O) (al.map (·.2)) (kvs.map (·.2)))\/(H a=some (.dK [])/\al=[]):=by
 obtain⟨o,vs,h1,h2,h3⟩:=h;rcases h3 with⟨kvs,e,e1,e2⟩|⟨kvs,e,e1,e2⟩
 ·subst e;cases kvs with
  |nil=>
   refine .inr ⟨h1,?_⟩
   simpa using e1
  |cons p r=>
   cases al with
   |nil=>cases e1
   |cons q r'=>
    have e1:D.tup (q.1.map bx)::encK r'=bx p.1::r.map (λp=>bx p.1):=e1;injection e1 with e1 _;rcases p with⟨k,v⟩
    cases k<;>cases e1
 ·subst e;refine .inl ⟨kvs,h1,?_,by rw[<-e2];exact h2⟩;exact(mZ (ks:=kvs.map (·.1)) (by rw[SD];exact e1)).symm
def Ff{kvs:List (List Key×V)}{ks:List (List Key)}(e:kvs.map (·.1)=ks)(k:List Key):(jN kvs k).isSome=ks.any λq=>decide (q=k):=by
 subst e
 induction kvs with
 |nil=>rfl
 |cons p r ih=>
  rw[Q0,Rq,<-ih];by_cases e:p.1=k
  ·rw[kQ e];simp[e]
  ·rw[jI e];simp[e]
def wY(ks ds:List D)(k:D):Option D:=(kH ks ds).bind λal=>(jS k).bind λk=>some (.bl (al.any λp=>decide (p.1=k)))
def Qy(i:Nat)(f:FX):FX:=λρ=>(f ρ).bind λk=>match ρ[i]? with
 |some (some (.own (.dct ks ds)))=>rO (wY ks ds k)
 |_=>un
def Bo{ks ds:List D}{k d:D}(h:wY ks ds k=some d):∃al q,ks=encK al/\ds=al.map (·.2)/\k=.tup (q.map bx)/\d=.bl (al.any λp=>decide (p.1=q)):=by
 unfold wY at h;cases e1:kH ks ds with
 |none=>rw[e1]at h;cases h
 |some al=>
  rw[e1]at h;cases e2:jS k with
  |none=>rw[e2]at h;cases h
  |some q=>
   rw[e2]at h;cases h;obtain⟨h1,h2⟩:=jt e1;exact⟨al,q,h1,h2,oj e2,rfl⟩
def jb(al:List (List Key×D))(k:List Key)(v:D):List (List Key×D):=if(al.any λp=>decide (p.1=k))=true then al.map (λp=>if p.1=k then(p.1,v)else p)else al++[(k,v)]
def wJ(ks ds:List D)(k v:D):Option (List (List Key×D)):=(kH ks ds).bind λal=>(jS k).bind λk=>if small al.length then some (jb al k v)else none
def wU(i:Nat)(fk fv:FX):cm:=λk ρ=>match ρ[i]? with
 |some (some (.own (.dct ks ds)))=>sZ ((fv ρ).bind λv=>(fk ρ).bind λq=>rO (wJ ks ds q v)) k ρ λal=>k.nx (ρ.set i (some (.own (dB al))))
 |_=>un
def AJ{ks ds:List D}{k v:D}{al':List (List Key×D)}(h:wJ ks ds k v=some al'):∃al q,ks=encK al/\ds=al.map (·.2)/\k=.tup (q.map bx)/\small al.length=true/\al'=jb al q v:=by
 unfold wJ at h;cases e1:kH ks ds with
 |none=>rw[e1]at h;cases h
 |some al=>
  rw[e1]at h;cases e2:jS k with
  |none=>rw[e2]at h;cases h
  |some q=>
   rw[e2]at h;obtain⟨h3,h4⟩:=bI (show(if small al.length then some (jb al q v)else none)=some al' from h);obtain⟨h1,h2⟩:=jt e1;exact⟨al,q,h1,h2,oj e2,h3,h4.symm⟩
def zR{kvs:List (List Key×V)}{al:List (List Key×D)}(e:kvs.map (·.1)=al.map (·.1))(k:List Key)(w:V)(d:D):(putK kvs k w).map (·.1)=(jb al k d).map (·.1):=by
 have e2:(kvs.any λp=>decide (p.1=k))=(al.any λp=>decide (p.1=k)):=by
  have:=congrArg (λl=>l.any λq=>decide (q=k)) e
  simpa [Sj,Function.comp_def]using this
 unfold putK jb;rw[e2];split
 ·have e3:∀(l:List (List Key×V)),(l.map λkv=>if kv.1=k then(kv.1,w)else kv).map (·.1)=l.map (·.1):=λl=>by
   rw[SD];refine RP λp _=>?_;show(if p.1=k then(p.1,w)else p).1=p.1;split<;>rfl
  have e4:∀(l:List (List Key×D)),(l.map λkv=>if kv.1=k then(kv.1,d)else kv).map (·.1)=l.map (·.1):=λl=>by
   rw[SD];refine RP λp _=>?_;show(if p.1=k then(p.1,d)else p).1=p.1;split<;>rfl
  rw[e3,e4,e]
 ·rw[RQ,RQ,e];rfl
def y9{K:Tt}{H:Hp}{k:List Key}{w:V}{d:D}(hw:cJ K H d w):∀{kvs:List (List Key×V)}{al:List (List Key×D)},kvs.map (·.1)=al.map (·.1)->bb K H (al.map (·.2)) (kvs.map (·.2))->
  bb K H ((al.map λp=>if p.1=k then(p.1,d)else p).map (·.2)) ((kvs.map λp=>if p.1=k then(p.1,w)else p).map (·.2))
 |[],[],_,h=>h
 |p::r,q::r',e,h=>by
  rw[Q0,Q0]at e;injection e with e1 e2;rw[Q0,Q0,bo]at h;obtain⟨v,ws,h0,h1,h2⟩:=h;injection h0 with h0 h0';subst h0 h0';have ih:=y9 (k:=k) hw e2 h2;rw[Q0,Q0,Q0,Q0,bo];refine⟨_,_,rfl,?_,ih⟩;rw[e1];split
  ·exact hw
  ·exact h1
 |[],_::_,e,_=>by cases e
 |_::_,[],e,_=>by cases e
def Cz{K:Tt}{H:Hp}{k:List Key}{w:V}{d:D}(hw:cJ K H d w){kvs:List (List Key×V)}{al:List (List Key×D)}(e:kvs.map (·.1)=al.map (·.1))(h:bb K H (al.map (·.2)) (kvs.map (·.2))):
  bb K H ((jb al k d).map (·.2)) ((putK kvs k w).map (·.2)):=by
 have e2:(kvs.any λp=>decide (p.1=k))=(al.any λp=>decide (p.1=k)):=by
  have:=congrArg (λl=>l.any λq=>decide (q=k)) e
  simpa [Sj,Function.comp_def]using this
 unfold putK jb;rw[e2];split
 ·exact y9 hw e h
 ·rw[RQ,RQ];exact h.append (bo.mpr ⟨w,[],rfl,hw,cI.mpr rfl⟩)
def uq{kvs:List (List Key×V)}{al:List (List Key×D)}(e:kvs.map (·.1)=al.map (·.1)):encK al=kvs.map λp=>D.tup (p.1.map bx):=by
 have:=congrArg (List.map λk:List Key=>D.tup (k.map bx)) e
 rw[SD,SD]at this;exact this.symm
def uc{H:Hp}{a:UM}{o1 o2:HO}:upd (upd H a o1) a o2=upd H a o2:=by
 funext b;by_cases e:b=a
 ·subst e;rw[aX,aX]
 ·rw[aD e,aD e,aD e]
def KR(td ty tv:TE):TS:=λD σ H=>tv σ H λv H1=>td σ H1 λx H2=>ty σ H2 λy H3=>∃a k b kvs,x=.ref a/\y=.ref b/\H3 b=some (.tup (k.map kV))/\(H3 a=some (.dT kvs)\/(H3 a=some (.dK [])/\kvs=[]))/\kvs.length<UP/\D.nx σ (upd H3 a (.dT (putK kvs k v)))
section
variable{X:Cx}{o idx value:UZ}{pos pos':Pos}{td ty tv:TE}
def FR(hu:X.A.units+1<Vo)(ho:PE X o td)(hi:PE X idx ty)(hv:PE X value tv)(hs:swapsWith value (some (.Subscript o idx pos')) pos.line X.env=pure false):PS X (.Assign [.Subscript o idx pos'] value pos) (KR td ty tv):=by
 intro pins s σ H D I h;refine wpAny_Assign_Subscript (dM (hv pins s σ H _ I h) λr s1 ⟨v,H1,I1,rv,q1⟩=>dM (ho pins s1 σ H1 _ I1 q1) λu s2 ⟨x,H2,I2,rx,q2⟩=>dM (hi pins s2 σ H2 _ I2 q2) λiv s3 ⟨y,H3,I3,ry,a,k,b,kvs,ex,ey,hb,ha,hl,q3⟩=>?_) hs;subst ex ey;obtain rfl:u=Value.ref a:=rx;rcases ha with ha|⟨ha,rfl⟩
 ·exact oA hu I3 (JT.t ha hb hl) ry rv λs4 I4=>⟨σ,_,I4,q3⟩
 ·have ne:b≠a:=λz=>by rw[z,ha]at hb;cases hb
  refine oA hu (Eu I3 ha) (JT.t aX (by rw[aD ne];exact hb) hl) ry rv λs4 I4=>⟨σ,_,I4,?_⟩
  rw[uc];exact q3
end
def ND{X:Cx}{i:Nat}{x:Str}{idx value:UZ}{fk fv:FX}{npos tpos pos:Pos}(hu:X.A.units+64<Vo)(hx:PE X (.Name x npos) (qF i))(hi:FE X idx fk)(hv:FE X value fv)
  (hs:swapsWith value (some (.Subscript (.Name x npos) idx tpos)) pos.line X.env=pure false:=by rfl):
  FS X (.Assign [.Subscript (.Name x npos) idx tpos] value pos) (wU i fk fv):=λHb Ob pins s σ H E I ⟨O,ρ,k,rr,S,hF,hk⟩=>by
 unfold wU at hF;split at hF
 ·rename_i ks ds hxs;obtain⟨a,ha,haO,hat⟩:=S.env.own i _ hxs;have hP:=js.on hF hk S (Q:=λal=>k.nx (ρ.set i (some (.own (dB al))))=rr) λp e=>e;refine FR ‹0› hx hi hv hs pins s σ H E I ⟨O,ρ,S.env,(js.bind hP).imp λy hP v H1 s1 d1=>?_⟩;have S1:=S.same s1;refine⟨.ref a,ha,O,ρ,S1.env,((js.bind hP).mono s1).imp λj hP w H2 s2 d2=>?_⟩;have S2:=S1.same s2;obtain⟨al',hg,e⟩:=js.rO hP;obtain⟨al,q,f1,f2,f3,f4,f5⟩:=AJ hg;subst f1 f2 f3 f5;have s12:=s1.trans s2;obtain⟨b,ws,eb,g1,g2⟩:=cK.mp d2;rw[jw g2]at g1;have hat2:dG X.K H2 O a (dB al):=hat.mono (let ⟨_,z⟩:=hat.some;sQ s12 z) (bN s12);have dv:cJ X.K (hid H2 O) y v:=d1.mono (bN s2);have fin:∀kvs:List (List Key×V),kvs.map (·.1)=al.map (·.1)->bb X.K (hid H2 O) (al.map (·.2)) (kvs.map (·.2))->dG X.K (upd H2 a (.dT (putK kvs q v))) O a (dB (jb al q y)):=λkvs k2 k3=>
   ⟨_,_,aX,(Cz dv k2 k3).mono (iz haO),.inr ⟨putK kvs q v,rfl,uq (zR k2 q v y),rfl⟩⟩
  rcases Pr hat2 with⟨kvs,k1,k2,k3⟩|⟨k1,rfl⟩
  ·have hl:kvs.length=al.length:=(by have:=congrArg List.length k2;simpa using this);exact⟨a,q,b,kvs,rfl,eb,(aB H2 O) _ _ g1,.inl k1,by rw[hl];exact RZ (of_decide_eq_true f4) (by decide),hk.nx O _ σ _ (S2.setO hxs ha trivial (fin kvs k2 k3)) e⟩
  ·exact⟨a,q,b,[],rfl,eb,(aB H2 O) _ _ g1,.inr ⟨k1,rfl⟩,by decide,hk.nx O _ σ _ (S2.setO hxs ha trivial (fin [] rfl (cI.mpr rfl))) e⟩
 ·exact absurd hF.symm hk.ne
end TG
namespace TG
open PySem PySem.Spec L2
variable[aU]
end TG
namespace TG
open PySem PySem.Spec PySem.W PySem.Calls PyProof.Rows Builtin Builtin.ObjectAttr Builtin.Getset_descriptor
variable[aU]
end TG
namespace TG
open PySem PySem.Spec L2
variable[aU]
open PyProof.Rows (AllBare OwnCls)
end TG
namespace TG
open PySem PySem.Spec L2
variable[aU]
end TG
namespace TG
open PySem PySem.Spec L2
variable[aU]
def v7(val:Nat->Int):Nat->Int
 |0=>0
 |1=>val 0
 |n+2=>if val (n+1)>v7 val (n+1)then val (n+1)else v7 val (n+1)
def nM:List D->Option (List Int)
 |[]=>some []
 |.int i::r=>(nM r).map (i::·)
 |_=>none
def wW:∀{xs:List D}{ns:List Int},nM xs=some ns->xs=ns.map .int
 |[],_,h=>by cases h;rfl
 |d::r,ns,h=>by
  cases d with
  |int i=>
   cases e:nM r with
   |none=>rw[show nM (.int i::r)=(nM r).map (i::·)from rfl,e]at h;cases h
   |some ms=>rw[show nM (.int i::r)=(nM r).map (i::·)from rfl,e]at h;cases h;rw[wW e];rfl
  |_=>cases h
def zB:∀ns:List Int,nM (ns.map .int)=some ns
 |[]=>rfl
 |n::ns=>by show(nM (ns.map .int)).map (n::·)=_;rw[zB ns];rfl
def se(i:Int)(d:D):Option D:=match d with
 |.lst xs=>(nM xs).map λns=>.int (if ns.length=0 then i else v7 (λk=>ns.getD k 0) ns.length)
 |_=>none
section
variable{prog:UL}{w:UK}{A:UV}{R:Vi->UW->Prop}{I:UM}{fp wr:List UM}{n:Nat}{P:Nat->UJ->Prop}{St:Nat->UO->Prop}
def C5(W:Walks prog w A.in1 I fp wr n P St)(val:Nat->Int)(hv:∀i v,P i v->∃t,v=.int (val i) t)(dv:UJ)(Z:UM)(hZ:Z∉fp):
  ∀(k j:Nat)(s:UW)(cs:Array UJ)(c:Nat),n-j=k->j<=n->St j s.heap->(cs=#[]/\j=0\/0<j/\∃t,cs=#[.int (v7 val j) t,.int (v7 val j) t])->
   s.heap.get? Z=some {cls:=.type "list",dict:=none,data:=.seq cs c,slots:=#[]}->
   (∀v h' tk,(n=0/\v=dv\/0<n/\∃t,v=.int (v7 val n) t)->(∀b o,b∉wr->b≠Z->s.heap.get? b=some o->h'.get? b=some o)->R (.ok (.ret v)) {s with heap:=h',toks:=tk})->
   Vj (model prog w) A (.builtin "max.loop" ⟨[.ref I,.none,.ref Z],[(Str.ofString "default",dv)]⟩) R s:=by
 have zw:Z∉wr:=λh=>hZ (W.sub _ h);have nm:(toString "max"++toString ".loop":String)="max.loop":=by
  decide
 intro k
 induction k with
 |zero=>
  intro j s cs c hk hj hst hcs hl hR;have en:j=n:=by omega
  subst en;refine Wd F.entry_max_loop ?_;rw[Around.under_plainId F.plain_max_loop _];refine U7 (m:=seqItems? (.ref Z)) (VQ hl rfl ?_);refine U7 (m:=tryCatch (pyNext (.ref I)) _)
   (We (W.done s _ _ hst λh' tk hk'=>?_))
  have hl':=hk' Z _ zw hl;rcases hcs with⟨rfl,rfl⟩|⟨hp,t,rfl⟩
  ·refine U7 (VN ?_);exact U6 (hR dv h' tk (.inl ⟨rfl,rfl⟩) λb o hb _ e=>hk' b o hb e)
  ·refine U7 (m:=updateSeq Z λ_=>#[]) (Wf hl' rfl
    (U7 (V0 (U6 (hR _ _ tk (.inr ⟨hp,t,rfl⟩) λb o hb hz e=>?_)))))
   exact(Ui _ _ hz.symm).trans (hk' b o hb e)
 |succ k ih=>
  intro j s cs c hk hj hst hcs hl hR;have hlt:j<n:=by omega
  refine Wd F.entry_max_loop ?_;rw[Around.under_plainId F.plain_max_loop _];refine U7 (m:=seqItems? (.ref Z)) (VQ hl rfl ?_);refine U7 (m:=tryCatch (pyNext (.ref I)) _)
   (We (W.item j s _ _ hlt hst λv h' tk hP hst' hk'=>?_))
  have hl':=hk' Z _ zw hl;obtain⟨tv,rfl⟩:=hv j v hP;have next:∀(h2:UO)(cs2:Array UJ)(c2:Nat),(∀b o,b≠Z->h'.get? b=some o->h2.get? b=some o)->h2.get? Z=some {cls:=.type "list",dict:=none,data:=.seq cs2 c2,slots:=#[]}->(∃t,cs2=#[.int (v7 val (j+1)) t,.int (v7 val (j+1)) t])->
    Vj (model prog w) A (.builtin "max.loop" ⟨[.ref I,.none,.ref Z],[(Str.ofString "default",dv)]⟩) R {s with heap:=h2,toks:=tk}:=λh2 cs2 c2 k2 l2 hc2=>by
   refine ih (j+1) _ cs2 c2 ‹0› hlt (W.frame _ _ _ hst' λb hb o e=>k2 b o (λz=>hZ (z ▸ hb)) e) (.inr ⟨by omega,hc2⟩) l2 λv' h'' tk'' hv' hk''=>?_;exact hR v' h'' tk'' hv' λb o hb hz e=>hk'' b o hb hz (k2 b o hz (hk' b o hb e))
  rcases hcs with⟨rfl,rfl⟩|⟨hp,t,rfl⟩
  ·refine U7 (U6 ?_);refine U7 (m:=updateSeq Z λ_=>#[.int (val 0) tv,.int (val 0) tv]) (Wf hl' rfl ?_);rw[nm];exact U6 ⟨Wg F.plain_max_loop _,next _ _ _ (λb o hz e=>(Ui _ _ hz.symm).trans e) (Uj _ hl' rfl) ⟨tv,rfl⟩⟩
  ·obtain⟨m,rfl⟩:∃m,j=m+1:=⟨j-1,by omega⟩
   refine U7 (U6 ?_);refine U7 (m:=tryCatch _ _) (We (VD
    (U7 (CmpOf.ints_gt (P:=λi v=>∃t,v=.int (if i=0 then val (m+1)else v7 val (m+1)) t) (λi=>if i=0 then val (m+1)else v7 val (m+1)) (λi v h=>h) 0 1 _ _ _ _ _ ⟨tv,rfl⟩ ⟨t,rfl⟩ ?_))))
   refine U7 (VD (U4 ?_));refine U7 (V0
    (U6 ?_))
   split
   ·rename_i hz;have hb:val (m+1)>v7 val (m+1):=of_decide_eq_true (show decide (val (m+1)>v7 val (m+1))=true from hz);refine U7 (m:=updateSeq Z λ_=>#[.int (val (m+1)) tv,.int (val (m+1)) tv])
     (Wf hl' rfl (U7 (V0 ?_)))
    rw[nm];exact U6 ⟨Wg F.plain_max_loop _,next _ _ _ (λb o hz e=>(Ui _ _ hz.symm).trans e) (Uj _ hl' rfl) ⟨tv,by rw[v7,if_pos hb]⟩⟩
   ·rename_i hz;have hb:¬val (m+1)>v7 val (m+1):=λz=>hz (show decide (val (m+1)>v7 val (m+1))=true from decide_eq_true z);refine U7 (V0 ?_);rw[nm];exact U6 ⟨Wg F.plain_max_loop _,next _ _ _ (λb o _ e=>e) hl' ⟨t,by rw[v7,if_neg hb]⟩⟩
def CM(a v:UJ):argsOk "max" ⟨[a],[(Str.ofString "default",v)]⟩:=by
 unfold argsOk
 kernel_rfl
def DG:UU "max"=some (.builtin "max"):=by first|rfl|decide +kernel
def CU{E:UJ->UW->Prop}{s:UW}{l:UM}{its:List UJ}{ns:List Int}{dv:UJ}{Q:UJ->UW->Prop}(hh:A.handled=none)(hl:s.heap.IsList l its.toArray)(hi:∀(i:Nat)(v:UJ),its[i]?=some v->∃t,v=.int (ns.getD i 0) t)(hn:its.length=ns.length)
  (hQ:∀v h' tk,(ns.length=0/\v=dv\/0<ns.length/\∃t,v=.int (v7 (λk=>ns.getD k 0) ns.length) t)->(∀b o,s.heap.get? b=some o->h'.get? b=some o)->Q v {s with heap:=h',toks:=tk}):
  UY (model prog w) A (call (.builtin "max") [.ref l] [(Str.ofString "default",dv)]) Q E s:=by
 have nm:(toString "max"++toString ".loop":String)="max.loop":=by
  decide
 have hlt:l<s.heap.objs.size:=by obtain⟨_,e,_⟩:=hl;exact Ub e
 refine Vr (codeAny_call_builtin F.plain_max F.entry_max ?_);have go:UY (model prog w) A.in1 (Builtin.«max» ⟨[.ref l],[(Str.ofString "default",dv)]⟩) (λfin s'=>match fin with
   |.done f=>(match(Except.ok f:Vi)with|.ok (.ret v)=>Q v s'|.ok _=>False|.error e=>E e s')
   |.again c'=>c'.quiet=true/\Vj (model prog w) A c' (λr s'=>match r with|.ok (.ret v)=>Q v s'|.ok _=>False|.error e=>E e s') s') E s:=by
  show UY _ A.in1 (Builtin.Builtins.bindParams "max" ["key","default"] 0 ⟨[],[(Str.ofString "default",dv)]⟩ >>= _) _ _ s;refine U7 (VS (show Builtin.Builtins.bindParams "max" ["key","default"] 0 ⟨[],[(Str.ofString "default",dv)]⟩=pure [none,some dv]from rfl) ?_);refine U7 (U6 ?_);refine U7 (U9 hl ?_);refine U7 (VH ?_);rw[nm];have hne:l≠s.heap.objs.size:=QJ hlt;refine U6 ⟨Wg F.plain_max_loop _,C5 (Walks.list (A:=A.in1) hh s.heap.objs.size l hne its.toArray) (λk=>ns.getD k 0) (λi v h=>hi i v (by simpa using h)) dv _ (λhm=>?_) _ 0 _ #[] _ rfl (Q3 _) ⟨⟨_,Ue _ (Ug _ rfl),rfl,rfl⟩,(hl.push _).push _⟩ (.inl ⟨rfl,rfl⟩) (Ug _ rfl) λv h' tk hv hk=>?_⟩
  ·simp only[Uh,R3,SE,or_false]at hm;rcases hm with hm|hm
   ·exact Nat.succ_ne_self _ hm
   ·rw[<-hm]at hlt;exact QI _ (Nat.lt_of_succ_lt hlt)
  ·have e:its.toArray.size=ns.length:=(by rw[QX,hn]);rw[e]at hv;refine hQ v h' tk hv λb o q=>hk b o (λz=>?_) (λz=>?_) (Ue _ (Ue _ q))
   ·have h1:=Ub q;simp only[R3,SE,or_false]at z;rw[z]at h1;exact QI _ h1
   ·have h1:=Ub q;rw[z,Uh]at h1;exact QI _ (Nat.lt_of_succ_lt h1)
 simp only[checkBuiltinCall,F.kind_max];cases hsig:Manifest.signature? "max"with
 |none=>exact U6 go
 |some sig=>
  have ha:Bind.checkArgs "max" sig ⟨[.ref l],[(Str.ofString "default",dv)]⟩=pure ():=by
   have:=CM (.ref l) dv
   unfold argsOk at this;rw[hsig]at this;exact this
  simp only[ha];exact U6 go
end
section
variable{X:Cx}{p pos kp:Pos}{e:UZ}
def BA{K:Tt}{H:Hp}:∀{ns:List Int}{ys:List V}{its:List UJ},bb K H (ns.map .int) ys->Vals ys its->∀(k:Nat)(v:UJ),its[k]?=some v->∃t,v=.int (ns.getD k 0) t
 |[],ys,its,h,r,k,v,e=>by
  rw[Ro,cI]at h;subst h;cases r;simp at e
 |n::ns,ys,its,h,r,k,v,e=>by
  rw[Q0,bo]at h;obtain⟨y,ys',rfl,h1,h2⟩:=h;cases r with
  |cons r1 r2=>
   cases k with
   |zero=>
    rw[fw]at h1;subst h1;obtain⟨t,rfl⟩:=r1;simp at e;exact⟨t,e.symm⟩
   |succ k=>
    simp only[R6]at e;exact BA h2 r2 k v e
def Nm{f:FX}{i:Int}{j:Nat}{cp:Pos}(hc:X.calm=true)(hg:Gl X "max")(hm:X.mg "max"=none)(he:FE X e f)(hns:noStar e=true:=by rfl):
  FE X (.Call (.Name "max" p) [e] [⟨some "default",.Constant (.int i) j cp,kp⟩] pos) (f1 (se i) f):=by
 intro pins s σ H Q I ⟨O,ρ,E,hF⟩;refine Vt (kF I hg hm DG ?_);have st:backTo pos (U0 [e] X.env)=(false,eval e X.env)::backTo pos (U0 [] X.env):=by rw[cY hns];rfl
 refine Uv ?_ ?_ (gB (by rw[RG,hns];rfl))
 ·refine dM (km he pD (cY hns) pos pins s σ H (λvs H1=>∃v d a,vs=[v]/\bj H H1/\se i a=some d/\cJ X.K (hid H1 O) a v/\∀v H',bj H H'->cJ X.K (hid H' O) d v->Q v H') I ⟨O,ρ,E,(js.bind hF).imp λa hF v H1 s1 d1=>?_⟩) λus s1 ⟨vs,H1,I1,rv,v,d,a,ev,s1',hd,dn,q⟩=>?_
  ·obtain⟨d,e,q⟩:=js.rO hF;exact⟨v,d,a,rfl,s1,e,d1,q⟩
  ·subst ev;refine dM (Hv (kws:=[]) ER KQ pos pins s1 σ H1 (λzs H2=>zs=[.int i]/\H2=H1) I1 ⟨rfl,rfl⟩) λws s2 ⟨zs,H2,I2,rz,ez,eh⟩=>?_;subst ez eh;obtain⟨u,eu,ru⟩:=vals1 rv;obtain⟨wv,ew,rw'⟩:=vals1 rz;subst eu ew;unfold se at hd;split at hd
   ·rename_i xs;cases ei:nM xs with
    |none=>rw[ei]at hd;cases hd
    |some ns=>
     rw[ei]at hd;cases hd;have exs:=wW ei;subst exs;obtain⟨l,ys,el,g1,g2⟩:=cT.mp dn;subst el;cases ru;obtain⟨its,ri,pl,hz⟩:=I2.list ((aB H2 O).seq g1);have hlen:its.length=ns.length:=(by rw[<-ri.length,<-g2.length,Q1]);refine CU (I2.ok.hd hc) pl.isList (ns:=ns) (λk v hk=>?_) hlen λv h' tk hv kk=>?_
     ·exact BA g2 ri k v hk
     ·have I3:=I2.kept (t':=tk) kk;have q:∀(v:V)(H':Hp),bj H H'->cJ X.K (hid H' O) (.int (if ns.length=0 then i else v7 (λk=>ns.getD k 0) ns.length)) v->Q v H':=q;rcases hv with⟨z,rfl⟩|⟨z,t,rfl⟩
      ·rw[if_pos z]at q;exact⟨.int i,H2,I3,rw',q _ H2 s1' (fw.mpr rfl)⟩
      ·rw[if_neg ‹0›]at q;exact⟨.int _,H2,I3,⟨t,rfl⟩,q _ H2 s1' (fw.mpr rfl)⟩
   ·cases hd
 ·exact st
end
end TG
namespace TG
open PySem PySem.Spec L2
variable[aU]
end TG
namespace TG
open PySem PySem.Spec L2
def pT(P:UM)(pos:Pos)(q:Str):(UM->Prop)->UO->Prop:=λS h=>h.get? P=some (T3 #[])\/∃c,S c/\h.get? P=some (T3 #[rawInt pos.line,rawInt pos.col,.ref c])/\h.CodeRec (.ref c) q
def pT.stay{P:UM}{pos:Pos}{q:Str}{S1 S2:UM->Prop}{h1 h2:UO}(x:pT P pos q S1 h1)(s:∀b,S1 b->S2 b)(k:∀b o,(b=P\/S1 b)->h1.get? b=some o->h2.get? b=some o):pT P pos q S2 h2:=by
 rcases x with e|⟨c,hc,e,c',o,vs,t,ec,e1,r⟩
 ·exact .inl (k _ _ (.inl rfl) e)
 ·cases ec;exact .inr ⟨c,s c hc,k _ _ (.inl rfl) e,c,o,vs,t,rfl,k _ _ (.inr hc) e1,r⟩
def pT.ok{Pg:UL}{w:UK}{H:Hp}{h:UO}{P:UM}{pos:Pos}{q:Str}(x:pT P pos q (λb=>H b=some (.own P)) h):cH Pg w H h P (.ext (pT P pos q)):=
 ⟨x,by rcases x with e|⟨_,_,e,_⟩<;>exact⟨_,e⟩,λ_ _ _ _ x s k=>x.stay s k⟩
abbrev xW(P:UM)(pos:Pos)(q:Str):aU:=⟨λH=>H P=some (.ext (pT P pos q)),λh e=>e _ _ h,λ{H p o o'} h hp m=>by
 rw[aD]
 ·exact h
 ·rintro rfl;rw[h]at hp;cases hp;exact m⟩
open PySem PySem.Spec PyProof.Rows PySem.W L2
variable[aU]
def uX(key:List D)(h:UO)(k:UJ):Prop:=∃b o xs n,k=.ref b/\h.get? b=some o/\o.cls=.type "tuple"/\o.data=.seq xs n/\gL xs.toList key
def uX.keep{key:List D}{h h':UO}{k:UJ}(x:uX key h k)(kp:∀b o,h.get? b=some o->h'.get? b=some o):uX key h' k:=by
 obtain⟨b,o,xs,n,e,ho,r⟩:=x;exact⟨b,o,xs,n,e,kp _ _ ho,r⟩
def uX.stay{key:List D}{h h':UO}{k:UJ}{c:UM}{xs:Array UJ}{n:Nat}(x:uX key h k)(hc:h.get? c=some (seqObj "list" xs n))(kp:∀b o,b≠c->h.get? b=some o->h'.get? b=some o):uX key h' k:=by
 obtain⟨b,o,ys,m,e,ho,hk,r⟩:=x;refine⟨b,o,ys,m,e,kp _ _ (λz=>?_) ho,hk,r⟩;subst z;rw[hc]at ho;cases ho;revert hk;show¬(Value.type "list"=Value.type "tuple");simp
section
variable{prog:UL}{w:UK}{A:UV}{E:UJ->UW->Prop}{s:UW}
def DL{ks:List UJ}{keys:List (List D)}{σ:List Bool}{b:Bool}{Q:V6->UW->Prop}(hl:ks.length=keys.length)(hsh:∀k∈keys,Sh (b::σ) k)(h1:1<=ks.length)
  (hk:∀i,i<ks.length->uX (keys.getD i []) s.heap (ks.getD i Value.none)) (h:Q (tuples' true) s):UY (model prog w) A (keyKind' ks.toArray) Q E s:=by
 obtain⟨fs,t1,t2,t3⟩:=pA (h:=s.heap) (PT:=λf=>typeOf f=pure (.type (if b then"int"else"str"))) (its:=ks) λv hv=>by
  obtain⟨i,hi,rfl⟩:=RN hv;obtain⟨a,o,xs,n,e1,ho,hc,hd,ff⟩:=hk i hi;have hi':i<keys.length:=by omega
  have gk:keys.getD i []=keys[i]:=by simp[hi']
  rw[gk]at ff;obtain⟨f,ef,tf⟩:=ff.first (hsh _ (Sy hi'));have gv:ks.getD i Value.none=ks[i]:=by simp[hi]
  rw[gv]at e1;exact⟨a,o,xs,n,f,e1,ho,hc,hd,by simpa using ef,tf⟩
 refine kat_kind (T:=.type (if b then"int"else"str")) t1 ‹0› (λf hf=>Looks.of_pure (t3 f hf)) (by cases b<;>rfl) ?_
 have:(Value.type (if b then"int"else"str") !=Value.type "tuple")=true:=by cases b<;>rfl
 rw[this];exact h
def Aj{ks:List UJ}{keys:List (List D)}{σ:List Bool}{b:Bool}(hl:ks.length=keys.length)(hsh:∀k∈keys,Sh (b::σ) k)
  (hk:∀i,i<ks.length->uX (keys.getD i []) s.heap (ks.getD i Value.none)):nK (V7 prog w A (tuples' true) ks) (rank keys) ks.length s:=by
 intro i j C hi hj hC;obtain⟨a,o,xs,n,e1,ho,hc,hd,ff⟩:=hk i hi;obtain⟨a2,o2,xs2,n2,e2,ho2,hc2,hd2,ff2⟩:=hk j hj;unfold V7;rw[e1,e2];have hi':i<keys.length:=by omega
 have hj':j<keys.length:=by omega
 have gi:keys.getD i []=keys[i]:=by simp[hi']
 have gj:keys.getD j []=keys[j]:=by simp[hj']
 have sh1:=hsh _ (Sy hi');have sh2:=hsh _ (Sy hj');have rl:=sG (ks:=keys) hsh hi' hj';rw[rl]at hC;rw[gi]at ff;rw[gj]at ff2;rw[gi,gj]at hC;refine kat_lt ho hd ho2 hd2 (j3 ?_ sh1 sh2 ff ff2 hC);have z1:xs.size=keys[i].length:=by have:=ff.length;simpa using this
 have z2:xs2.size=keys[j].length:=by have:=ff2.length;simpa using this
 have z3:keys[i].length=keys[j].length:=by rw[Sh.length sh1,Sh.length sh2]
 exact decide_eq_false ‹0›
def EZ{f:UJ}{a:UM}{vs:List UJ}{n:Nat}{keys:List (List D)}{σ:List Bool}{b:Bool}{P:PySem.Fin->UW->Prop}
  (ho:s.heap.get? a=some (seqObj "list" vs.toArray n)) (h64:vs.length<64) (hl:keys.length=vs.length) (hsh:∀k∈keys,Sh (b::σ) k)
  (hc:∀ (i:Nat) (v:UJ) (h':UO) (tk:Nat) (Q':UJ->UW->Prop),vs[i]?=some v->(∀ c o,c≠a->s.heap.get? c=some o->h'.get? c=some o) ->
   (∀k h'' tk',(∀c o,h'.get? c=some o->h''.get? c=some o)->uX (keys.getD i []) h'' k->Q' k {s with heap:=h'',toks:=tk'})->UY (model prog w) A (call f [v]) Q' (λ_ _=>False) {s with heap:=h',toks:=tk})
  (h:∀ (p:Array Nat) (h':UO) (e tk:Nat),PM vs.length p->Up (rank keys) p vs.length->(∀ c o,c≠a->s.heap.get? c=some o->h'.get? c=some o)->h'.get? a=some (seqObj "list" (List.toArray (p.toList.map fun i=>vs.getD i Value.none)) e) ->
   P (.done (.ret .none)) {s with heap:=h',toks:=tk}):UY (model prog w) A (ksk_tree a f false) P E s:=by
 have ha:a<s.heap.objs.size:=Ub ho;obtain⟨e1,ho1⟩:∃e1,(s.heap.update a (Obj.mapSeq λ_=>(#[]:Array UJ))).get? a=some (seqObj "list" #[] e1):=⟨_,V9 ho (λ_=>#[])⟩
 unfold ksk_tree;refine U7 (listItems_at ho rfl ?_);refine U7 (V8 ho rfl ?_ (by rw[QX,Vh];omega) (Q3 _));refine U7 (Wa ho1 rfl ?_);refine U7 (V2 ?_ (by show vs.length<=_;rw[Vh];omega));refine U7 (Wb ?_ (Q3 _));refine VD ?_;have hkS:((s.heap.update a (Obj.mapSeq λ_=>(#[]:Array UJ))).push (seqObj "tuple" vs.toArray 0)).objs.size=s.heap.objs.size+1:=by rw[size_push',Um]
 show UY (model prog w) A (ksk_rest a f false vs.toArray e1 (.ref ((s.heap.update a (Obj.mapSeq λ_=>(#[]:Array UJ))).push (seqObj "tuple" vs.toArray 0)).objs.size)) P E {s with heap:=((s.heap.update a (Obj.mapSeq λ_=>(#[]:Array UJ))).push (seqObj "tuple" vs.toArray 0)).push (seqObj "list" #[] 0)};rw[hkS];have hS0:(((s.heap.update a (Obj.mapSeq λ_=>(#[]:Array UJ))).push (seqObj "tuple" vs.toArray 0)).push (seqObj "list" #[] 0)).get? (s.heap.objs.size+1)=some (seqObj "list" #[] 0):=by rw[<-hkS];exact Ug _ rfl
 have hA0:(((s.heap.update a (Obj.mapSeq λ_=>(#[]:Array UJ))).push (seqObj "tuple" vs.toArray 0)).push (seqObj "list" #[] 0)).get? a=some (seqObj "list" #[] e1):=Ue _ (Ue _ ho1);have hK0:∀b o,b≠a->s.heap.get? b=some o->(((s.heap.update a (Obj.mapSeq λ_=>(#[]:Array UJ))).push (seqObj "tuple" vs.toArray 0)).push (seqObj "list" #[] 0)).get? b=some o:=λb o hb e=>
  Ue _ (Ue _ (by rw[Uo _ _ _ _ hb];exact e))
 have hne:a≠s.heap.objs.size+1:=QJ (Rz ha);have hold:∀c o,s.heap.get? c=some o->c≠s.heap.objs.size+1:=λc o e=>QJ (Rz (Ub e));generalize (((s.heap.update a (Obj.mapSeq λ_=>(#[]:Array UJ))).push (seqObj "tuple" vs.toArray 0)).push (seqObj "list" #[] 0))=h0 at hS0 hA0 hK0;generalize s.heap.objs.size+1=kS at hS0 hne hold;unfold ksk_rest;refine U7 (VN ?_)
 first
  |rw[List.forIn_toArray]
  |(rw[<-Array.forIn_toList];simp only[SF])
  |rw[<-Array.forIn_toList]
 refine U7 (ksk_fold (λi s'=>∃(ks:List UJ)(e:Nat)(h':UO)(tk:Nat),s'={s with heap:=h',toks:=tk}/\ks.length=i/\i<=vs.length/\h'.get? kS=some (seqObj "list" (List.toArray ks) e)/\h'.get? a=some (seqObj "list" #[] e1)/\
  (∀c o,c≠a->s.heap.get? c=some o->h'.get? c=some o)/\∀j,j<i->uX (keys.getD j []) h' (ks.getD j Value.none)) vs 0 _ ⟨[],0,h0,s.toks,rfl,rfl,Q3 _,hS0,hA0,hK0,λj hj=>absurd hj (Nat.not_lt_zero _)⟩ ?_ ?_)
 ·rintro j x s' hx ⟨ks,e,h',tk,rfl,hlen,hle,hS,hA,hK,hT⟩;rw[Sa]at hlen hle hT;have hj:j<vs.length:=by
   rcases SG j vs.length with z|z
   ·exact z
   ·rw[SH z]at hx;cases hx
  refine U7 (V3 (U2 (hc j x h' tk (λk s''=>∃h'' tk',s''={s with heap:=h'',toks:=tk'}/\(∀c o,h'.get? c=some o->h''.get? c=some o)/\uX (keys.getD j []) h'' k) hx hK λk h'' tk' kp tK=>⟨h'',tk',rfl,kp,tK⟩) (λk s'' hk=>?_) λ_ _ hF=>hF.elim));obtain⟨h'',tk',rfl,kp,tK⟩:=hk;have nk:=kp _ _ hS;have s1:∀c o,c≠kS->h''.get? c=some o->(h''.update kS (Obj.mapSeq (·.push k))).get? c=some o:=λc o hc' e=>by rw[Uo _ _ _ _ hc'];exact e
  have ea:(List.toArray ks).push k=List.toArray (ks++[k]):=by simp
  obtain⟨c2,hc2⟩:∃c2,(h''.update kS (Obj.mapSeq (·.push k))).get? kS=some (seqObj "list" (List.toArray (ks++[k])) c2):=⟨_,by rw[<-ea];exact V9 nk (·.push k)⟩
  try dsimp only
  refine U7 (V8 nk rfl ?_ (by rw[QX,Vh];omega) (QK (Q2 (Array.size_push ..)) (by rw[QX,Vh];omega)));refine U6 ⟨rfl,ks++[k],c2,_,tk',rfl,by rw[Rg,Rm];omega,by omega,hc2,s1 _ _ hne (kp _ _ hA),λc o h1 h2=>s1 _ _ (hold c o h2) (kp _ _ (hK c o h1 h2)),λi hi=>?_⟩;refine uX.stay (c:=kS) ?_ nk s1;by_cases z:i=j
  ·subst z
   have:(ks++[k]).getD i Value.none=k:=(by simp[SA,<-hlen]);rw[this];exact tK
  ·have hi':i<ks.length:=by omega
   have:(ks++[k]).getD i Value.none=ks.getD i Value.none:=(by simp[SA,Ra hi']);rw[this];exact(hT i ‹0›).keep kp
 ·rintro s' ⟨ks,e,h',tk,rfl,hlen,hle,hS,hA,hK,hT⟩;rw[Sa]at hlen hT
  try dsimp only
  refine U7 (listItems_at hS rfl ?_);have tail:∀(p:Array Nat)(st:SortSt),(arrOf st).map (·.2)=List.toArray (p.toList.map λi=>vs.getD i Value.none)->failedOf st=none->PM vs.length p->Up (rank keys) p vs.length->UY (model prog w) A (ksk_tail a false e1 (.ref kS) st) P E {s with heap:=h',toks:=tk}:=by
   intro p st hout hf hp hu;obtain⟨ck,hck⟩:∃ck,(h'.update kS (Obj.mapSeq λ_=>(#[]:Array UJ))).get? kS=some (seqObj "list" #[] ck):=⟨_,V9 hS λ_=>#[]⟩
   have hA2:(h'.update kS (Obj.mapSeq λ_=>(#[]:Array UJ))).get? a=some (seqObj "list" #[] e1):=(by rw[Uo _ _ _ _ hne];exact hA);obtain⟨c2,hc2⟩:∃c2,((h'.update kS (Obj.mapSeq λ_=>(#[]:Array UJ))).update a (Obj.mapSeq λ_=>List.toArray (p.toList.map λi=>vs.getD i Value.none))).get? a=some (seqObj "list" (List.toArray (p.toList.map λi=>vs.getD i Value.none)) c2):=⟨_,V9 hA2 λ_=>List.toArray (p.toList.map λi=>vs.getD i Value.none)⟩
   unfold ksk_tail
   try dsimp only
   rw[hout];refine U7 (V8 hS rfl ?_ (by rw[QX,Vh];omega) (Q3 _));refine U7 (V0 ?_);refine U7 (Wa hA2 rfl ?_);simp only[Ry,if_false];refine U7 (V8 hA2 rfl ?_ (Q3 _) (by rw[QX,Q1,Array.length_toList,hp.size,Vh];omega));rw[hf];simp only[bne_self_eq_false,Ry,if_false];exact U6 (h p _ c2 tk hp hu (λc o h1 h2=>by rw[Uo _ _ _ _ h1,Uo _ _ _ _ (hold c o h2)];exact hK c o h1 h2) hc2)
  unfold ksk_end
  try dsimp only
  simp only[Ry,if_false];have hl2:ks.length=vs.length:=hlen;by_cases h2:vs.toArray.size<2
  ·rw[if_pos h2,if_pos h2];refine U7 (U6 ?_);rw[StateT.run_pure];refine U7 (U6 ?_);dsimp only;refine tail (List.toArray (List.range vs.length)) _ ?_ rfl (Array.Perm.refl _) λi j hij hj=>?_
   ·refine kat_snds hl2 ?_;show(List.toArray ks).zip vs.toArray=_;have e:=kas_range ((List.toArray ks).zip vs.toArray);rw[show((List.toArray ks).zip vs.toArray).size=vs.length by simp[hl2]]at e;exact e.symm
   ·have:vs.length<2:=by simpa using h2
    have:i=j:=(by omega);subst this;exact QT _
  ·have h2':2<=vs.length:=by
    have:¬vs.length<2:=(by simpa using h2);omega
   rw[if_neg h2,if_neg h2];refine U7 (DL (s:={s with heap:=h',toks:=tk}) ‹0› hsh ‹0› (λi hi=>hT i ‹0›) ?_);refine U7 (U2 (kat_run (Q:=λst' s'=>∃p:Array Nat,arrOf st'=p.map (kas_item ((List.toArray ks).zip vs.toArray))/\failedOf st'=none/\PM vs.length p/\Up (rank keys) p vs.length/\s'={s with heap:=h',toks:=tk})
    (G:=λp s'=>PM vs.length p/\Up (rank keys) p vs.length/\s'={s with heap:=h',toks:=tk})
    hl2 h2' h64 (λp' st' s' a1 a2 a3 a4=>⟨p',a2,a3,a4.1,a4.2.1,a4.2.2⟩) (by
     have:=Aj (prog:=prog) (w:=w) (A:=A) (s:={s with heap:=h',toks:=tk}) (ks:=ks) (keys:=keys) ‹0› hsh (λi hi=>hT i ‹0›)
     rw[hl2]at this;exact BP this ‹0› λp hp hu=>⟨hp,hu,rfl⟩)) ?_ λ_ _ e=>e)
   rintro⟨⟨⟩,st'⟩ s' ⟨p,har,hf,hp,hu,rfl⟩;dsimp only;exact tail p st' (kat_snds hl2 har) hf hp hu
def zr{src:UJ}{f:UM}{vs:List UJ}{keys:List (List D)}{σ:List Bool}{b:Bool}{Q:UJ->UW->Prop}(h64:vs.length<64)(hl:keys.length=vs.length)(hsh:∀k∈keys,Sh (b::σ) k)
  (hcol:∀(Q':List UJ->UW->Prop),(∀h' tk,(∀b o,s.heap.get? b=some o->h'.get? b=some o)->Q' vs {s with heap:=h',toks:=tk})->UY (model prog w) A.in1 (collect src) Q' E s)
  (hc:∀ (i:Nat) (v:UJ) (h':UO) (tk:Nat) (Q':UJ->UW->Prop),vs[i]?=some v->(∀ c o,s.heap.get? c=some o->h'.get? c=some o) ->
   (∀k h'' tk',(∀c o,h'.get? c=some o->h''.get? c=some o)->uX (keys.getD i []) h'' k->Q' k {s with heap:=h'',toks:=tk'})->UY (model prog w) A.in1.in1 (call (.ref f) [v]) Q' (λ_ _=>False) {s with heap:=h',toks:=tk})
  (h:∀(p:Array Nat)(h1 h':UO)(l:UM)(e tk:Nat),PM vs.length p->Up (rank keys) p vs.length->(∀b o,s.heap.get? b=some o->h1.get? b=some o)->(∀b o,h1.get? b=some o->h'.get? b=some o)->h1.objs.size<=l->h'.get? l=some (seqObj "list" (List.toArray (p.toList.map λi=>vs.getD i Value.none)) e)->Q (.ref l) {s with heap:=h',toks:=tk}):
  UY (model prog w) A (call (.builtin "sorted") [src] [(Str.ofString "key",.ref f)]) Q E s:=by
 refine PyProof.Rows.call_function_entry_kw kind_sorted plain_sorted entry_sorted (ksk_s1 _ _) ?_;unfold Builtin.«sorted»;refine U7 (m:=checkCount "sorted" 1 1 _) (U6 ?_);refine U7 (hcol _ λh1 tk k1=>?_);refine U7 (Wb ?_ (by rw[Vh];omega));have hoL:(h1.push (seqObj "list" vs.toArray 0)).get? h1.objs.size=some (seqObj "list" vs.toArray 0):=Ug _ rfl;have k2:∀b o,s.heap.get? b=some o->(h1.push (seqObj "list" vs.toArray 0)).get? b=some o:=λb o e=>Ue _ (k1 b o e);have ne:∀b o,s.heap.get? b=some o->b≠h1.objs.size:=λb o e=>QJ (Ub (k1 b o e));refine U7 (VD (wpAny_call_entry_kw slot_list_sort ⟨_,hoL,rfl⟩ entry_list_sort ?body (ksk_l1 _ _)))
 case body=>
  show UY (model prog w) A.in1.in1 (Builtin.«list.sort» ⟨[.ref h1.objs.size],[(Str.ofString "key",.ref f)]⟩) _ _ _;rw[ksk_t1];refine EZ (s:={s with heap:=h1.push (seqObj "list" vs.toArray 0),toks:=tk}) hoL h64 hl hsh (λi v h' tk' Q' hv hk hq=>hc i v h' tk' Q' hv (λc o e=>hk c o (ne c o e) (k2 c o e)) hq) λp h' e tk' hp hu hk he=>⟨_,rfl,?_⟩
  refine U6 ⟨_,rfl,?_⟩;exact h p h1 h' h1.objs.size e tk' hp hu k1 (λb o q=>hk b o (QJ (Ub q)) (Ue _ q)) (QT _) he
end
end TG
namespace TG
open PySem PySem.Spec PyProof.Rows PySem.W L2
variable[aU]
abbrev cutE(row many:Str)(np mp p2 pos:Pos):UZ:=.Subscript (.Name row np) (.Slice none (some (.Name many mp)) none p2) pos
section
variable{prog:UL}{w:UK}{A:UV}{E:UJ->UW->Prop}{s:UW}
def Gd{env:Env}{row many:Str}{np mp p2 pos:Pos}{r c:UM}{items:Array UJ}{i:Int}{t:Tok}{m:Str->Option UJ}{Q:UJ->UW->Prop}
  (hk:env.scope.kind=.function) (hr:env.kindOf row=some .local) (hm:env.kindOf many=some .free) (hn:s.heap.Ns env.locals m) (hrow:m row=some (.ref r)) (hc:env.cells.lookup many=some c) (hcell:s.heap.IsCell c (some (.int i t)))
  (ht:UQ s.heap r items) (hz:items.size<=UP) (d1:(row==("__debug__":Str))=false) (d2:(many==("__debug__":Str))=false) (d3:(many==("__classdict__":Str))=false)
  (h:∀b h',(∀c o,s.heap.get? c=some o->h'.get? c=some o)->UQ h' b (List.toArray (items.toList.take (HT.sIx items.size items.size (some i))))->Q (.ref b) {s with heap:=h'}):
  UY (model prog w) A (eval (cutE row many np mp p2 pos) env) Q E s:=by
 refine VJ (U3 (wpAny_loadName_local hk hr hn hrow ?_) d1);refine wpAny_Slice ?_;rw[VI,evalPart_some];refine U6 (U3 (wpAny_loadName_free hk hm hc hcell ?_ d3) d2);refine U6 ?_;have kp:∀c o,s.heap.get? c=some o->(s.heap.push {cls:=.type "slice",data:=.fields #[.none,.int i t,.none]}).get? c=some o:=λc o q=>Ue _ q;have ht':UQ (s.heap.push {cls:=.type "slice",data:=.fields #[.none,.int i t,.none]}) r items:=by
  obtain⟨o,e,q⟩:=ht;exact⟨o,kp _ _ e,q⟩
 have hs:(s.heap.push {cls:=.type "slice",data:=.fields #[.none,.int i t,.none]}).IsSliceOf s.heap.objs.size .none (.int i t) .none:=Heap.IsSliceOf.new ..
 show UY (model prog w) A (subscriptTail (.Name row np) (.Slice none (some (.Name many mp)) none p2) (.ref r) (.ref s.heap.objs.size)) Q E {s with heap:=s.heap.push {cls:=.type "slice",data:=.fields #[.none,.int i t,.none]}};refine tail_any (ops:=[.ref s.heap.objs.size,.ref r]) ht'.typeIs slot_tuple_getitem.lookup ?_ (by with_unfolding_all rfl);by_cases hw:HT.sIx items.size 0 none=0/\HT.sIx items.size items.size (some i)=items.size
 ·refine jd (s:={s with heap:=s.heap.push {cls:=.type "slice",data:=.fields #[.none,.int i t,.none]}}) ht' hs .none (.int i t) hw ?_;refine h r _ kp ?_;rw[hw.2]
  have:items.toList.take items.size=items.toList:=SJ (by simp)
  rw[this]
  simpa using ht'
 ·refine HT.BM (s:={s with heap:=s.heap.push {cls:=.type "slice",data:=.fields #[.none,.int i t,.none]}}) ht' hs .none (.int i t) hw ?_ hz;refine h _ _ (λc o q=>Ue _ (kp c o q)) ?_;have e0:HT.sIx items.size 0 none=0:=rfl;rw[e0,RE,RW];exact⟨_,Ug _ rfl,rfl,_,rfl⟩
def Fm{f c' cc r:UM}{row many qual:Str}{params:Vx}{scope:UX}{np mp p2 pos:Pos}{pm ctv:UJ}{items:Array UJ}{i:Int}{t:Tok}{Q:UJ->UW->Prop}
  (hf:s.heap.get? f=some (Wh "<lambda>" qual params (cutE row many np mp p2 pos) scope [(many,cc)] pm c' ctv)) (hcd:s.heap.CodeRec (.ref c') qual) (hroom:A.depth<Vn) (hlim:s.heap.NoLimit)
  (hbind:∀v,bindArgs (kla_fn "<lambda>" qual params (cutE row many np mp p2 pos) scope [(many,cc)] pm (.ref c') ctv) ⟨[v],[]⟩=pure [(row,v)])
  (hco:scope.isCoroutine=false) (hgen:scope.isGenerator=false) (hk:scope.kind=.function) (hno:∀x∈scope.names,x.2≠.cell) (hr:scope.names.lookup row=some .local) (hm:scope.names.lookup many=some .free)
  (hcell:s.heap.IsCell cc (some (.int i t))) (ht:UQ s.heap r items) (hz:items.size<=UP) (d1:(row==("__debug__":Str))=false) (d2:(many==("__debug__":Str))=false) (d3:(many==("__classdict__":Str))=false)
  (h:∀b h' tk,(∀c o,s.heap.get? c=some o->h'.get? c=some o)->UQ h' b (List.toArray (items.toList.take (HT.sIx items.size items.size (some i))))->Q (.ref b) {s with heap:=h',toks:=tk}):
  UY (model prog w) A (call (.ref f) [.ref r]) Q E s:=by
 refine Vr (kla_callFunE hroom hf rfl hco hgen rfl hcd ?_);rw[hbind];refine U6 (wpAny_newFunctionEnv hno (λx hx=>?_) (λh₁ hns hsb=>⟨hlim.fresh _ hsb,?_⟩) hk)
 ·rw[SK]at hx;subst hx;exact hr
 ·show Vj _ _ (.expr (cutE row many np mp p2 pos) (envX qual scope s.heap.objs.size f (.ref c') [(many,cc)])) _ _;have hk₁:∀b o,s.heap.get? b=some o->h₁.get? b=some o:=λb o e=>hsb.extBut b o (QJ (Ub e)) (Ue _ e);refine kla_codeExpr (Gd (m:=λx=>[(row,Value.ref r)].reverse.lookup x) (r:=r) (c:=cc) (t:=t) hk hr hm hns ?_ ?_ ?_ ?_ hz d1 d2 d3 λb h' kp tb=>h b h' _ (λc o e=>kp c o (hk₁ c o e)) tb)
  ·simp
  ·simp
  ·obtain⟨o,e,q⟩:=hcell;exact⟨o,hk₁ _ _ e,q⟩
  ·obtain⟨o,e,q⟩:=ht;exact⟨o,hk₁ _ _ e,q⟩
end
end TG
namespace TG
open PySem PySem.Spec PyProof.Rows PySem.W L2
variable[aU]
def C7(mg:Str->Option UJ)(base:UO)(c P:UM):Prop:=CodeHd base c P/\∃bm ob,mg "__builtins__"=some (.ref bm)/\bm≠UT/\base.get? bm=some ob/\ob.cls=.type "module"/\ob.dict=some UT/\ob.data=.plain
section
variable{fs ex:List UM}{Pg:UL}{w:UK}{H:Hp}{h h':UO}{P c':UM}{φ:(UM->Prop)->UO->Prop}
def Ky(hP:H P=some (.ext φ))(k:∀b o,b≠P->h.get? b=some o->h'.get? b=some o)(hp:∃o,h'.get? P=some o)(hc:h.objs.size<=c')(hn:H c'=none):Un fs ex H (upd H c' (.own P)) h h' where
 keep:=λb u q n _ _=>k b u (λz=>by rw[z,hP]at n;cases n) q
 slot:=λb u q n _ _=>⟨u.slots,k b u (λz=>by rw[z,hP]at n;cases n) q⟩
 free:=λb u q n _=>by rw[aD (QJ (QH (Ub q) hc))];exact n
 there:=λb u q _=>by
  by_cases z:b=P
  ·rw[z];exact hp
  ·exact⟨u,k b u z q⟩
 tups:=λb xs q=>by rw[aD (bc q hn)];exact q
 frzs:=λb u xs q=>by rw[aD (bc q hn)];exact q
 tbls:=λb ps q=>⟨#[],by rw[aD (bc q hn),q];simp⟩
def Iw(x:qq Pg w H h)(hP:H P=some (.ext φ))(k:∀b o,b≠P->h.get? b=some o->h'.get? b=some o)(hc:h.objs.size<=c')(ho:∃o,h'.get? c'=some o)(new:cH Pg w (upd H c' (.own P)) h' P (.ext φ)):qq Pg w (upd H c' (.own P)) h':=λb u e=>by
 have hn:=x.fresh hc;by_cases hb:b=c'
 ·subst hb;rw[aX]at e;cases e;exact ho
 ·rw[aD hb]at e;by_cases hb2:b=P
  ·subst hb2;rw[hP]at e;cases e;exact new
  ·refine(x b u e).stay (λc v hc' q=>k c v ?_ q) (λc q=>by rw[aD (bc q hn)];exact q) λc xs q=>by rw[aD (bc q hn)];exact q
   rcases hc' with rfl|hc'
   ·exact hb2
   ·rintro rfl;rw[hP]at hc';cases hc'
end
def C7.blt{mg:Str->Option UJ}{base h:UO}{c P:UM}{m:Str->Option UJ}(B:C7 mg base c P)(kp:∀b o,base.get? b=some o->h.get? b=some o)(hP:base.get? P=none)(hg:base.Ns UR m):h.BuiltinsAt mg P:=by
 obtain⟨_,bm,ob,b1,b2,b3,b4,b5,b6⟩:=B;refine⟨bm,ob,b1,b2,λz=>?_,λz=>?_,kp _ _ b3,b4,b5,b6⟩
 ·subst z;obtain⟨o,es,ep,e,hd,_⟩:=hg;rw[e]at b3;cases b3;rw[hd]at b6;cases b6
 ·subst z;rw[hP]at b3;cases b3
section
variable{X:Cx}{pins:List (UM×Obj)}{s:UW}{σ:L2.St}{H:Hp}{E:UJ->UW->Prop}
def EB{c P:UM}{lpos:Pos}{params:Vx}{body:UZ}{scope:UX}{clos:List (Str×UM)}{Q:UJ->UW->Prop}(I:Inv X pins σ H s)(B:C7 X.mg X.base c P)(hcode:X.env.code=.ref c)(hP:H P=some (.ext (pT P lpos (X.env.qual++"<lambda>"))))
  (hdef:defaultsOf params X.env=([],[])) (hcl:closureFor scope X.env=pure clos)
  (h:∀f c' ctv s' H',Inv X pins σ H' s'->bj H H'->s'.heap.get? f=some (Wh "<lambda>" (X.env.qual++"<lambda>") params body scope clos ((X.mg "__name__").getD .none) c' ctv)->s'.heap.CodeRec (.ref c') (X.env.qual++"<lambda>")->Q (.ref f) s'):
  UY (model X.prog X.w) X.A (eval (.Lambda params body scope lpos) X.env) Q E s:=by
 have hg:s.heap.Ns UR X.mg:=I.mod.glob.keeps I.bk;have hPn:X.base.get? P=none:=by
  cases q:X.base.get? P with
  |none=>rfl
  |some o=>have:=(I.bs P o q).2;rw[hP]at this;cases this
 have hgP:UR≠P:=λz=>by
  obtain⟨o,es,ep,e,_⟩:=I.mod.glob;rw[z,hPn]at e;cases e
 have hb:=B.blt I.bk hPn I.mod.glob;have C:=B.1.keeps I.bk;obtain⟨tb,_,_⟩:=I.hok P _ hP;refine kla_eval hdef ?_;rcases tb with e|⟨c',hc',e,hrec⟩
 ·refine kla_makeFunction hcl I.ok.glob hg hcode C e trivial rfl hgP hb λc' ctv h' tk hx hge hlt hrec htb=>?_;have hn:=I.hok.fresh hge;have htb':h'.get? P=some (tabObj #[rawInt lpos.line,rawInt lpos.col,.ref c']):=by simpa using htb
  have kp:∀b o,b≠P->s.heap.get? b=some o->(h'.push (Wh "<lambda>" (X.env.qual++"<lambda>") params body scope clos ((X.mg "__name__").getD .none) c' ctv)).get? b=some o:=λb o hb' q=>Ue _ (hx b o hb' q);have hrec':(h'.push (Wh "<lambda>" (X.env.qual++"<lambda>") params body scope clos ((X.mg "__name__").getD .none) c' ctv)).CodeRec (.ref c') (X.env.qual++"<lambda>"):=by
   obtain⟨c2,oc,vs,t,ec,eo,r⟩:=hrec;exact⟨c2,oc,vs,t,ec,Ue _ eo,r⟩
  have hco:∃o,(h'.push (Wh "<lambda>" (X.env.qual++"<lambda>") params body scope clos ((X.mg "__name__").getD .none) c' ctv)).get? c'=some o:=by
   obtain⟨c2,oc,vs,t,ec,eo,r⟩:=hrec;cases ec;exact⟨oc,Ue _ eo⟩
  refine h _ c' ctv _ (upd H c' (.own P)) (I.un (Ky hP kp ⟨_,Ue _ htb'⟩ hge hn) (Iw I.hok hP kp hge hco (pT.ok (.inr ⟨c',aX,Ue _ htb',hrec'⟩)))) (bL hn _) (Ug _ rfl) hrec'
 ·refine kla_makeFunctionHit (cv:=.ref c') hcl I.ok.glob hg hcode C e trivial ?_ hb λctv h' tk hk hsz=>?_
  ·show(if((lpos.line:Int)==(lpos.line:Int)&&(lpos.col:Int)==(lpos.col:Int))=true then some (Value.ref c')else _)=_;simp
  ·have kp:∀b o,s.heap.get? b=some o->(h'.push (Wh "<lambda>" (X.env.qual++"<lambda>") params body scope clos ((X.mg "__name__").getD .none) c' ctv)).get? b=some o:=λb o q=>Ue _ (hk b o q);refine h _ c' ctv _ H (I.kept kp) (bj.refl H) (Ug _ rfl) ?_;obtain⟨c2,oc,vs,t,ec,eo,r⟩:=hrec;exact⟨c2,oc,vs,t,ec,kp _ _ eo,r⟩
end
def uV(m:Nat):D->List D
 |.tup ks=>ks.take m
 |_=>[]
def LY(m:Nat)(xs:List D):Prop:=xs.length<64/\∃σ:List Bool,σ≠[]/\(∀x∈xs,∃k,x=.tup k/\Sh σ (k.take m))/\xs.Pairwise λx y=>uV m x≠uV m y
open Classical in
noncomputable def uw(m:Nat)(xs:List D):Option D:=if LY m xs then some (.lst (ku (uV m) xs))else none
noncomputable def qA:D->D->Option D
 |.lst xs,.int i=>if 0<=i then uw i.toNat xs else none
 |.tup xs,.int i=>if 0<=i then uw i.toNat xs else none
 |_,_=>none
def vB:∀{vs:List V}{us:List UJ}(n:Nat),Vals vs us->Vals (vs.take n) (us.take n)
 |_,_,0,_=>by rw[RB,RB];exact .nil
 |_,_,_+1,.nil=>.nil
 |_,_,n+1,.cons r t=>by rw[RD,RD];exact .cons r (vB n t)
def Hc{i:Int}(h:0<=i)(n:Nat):HT.sIx n n (some i)=min i.toNat n:=by
 show(if i<0 then _ else _)=_;rw[if_neg ‹0›]
def mr:UU "sorted"=some (.builtin "sorted"):=by first|rfl|decide +kernel
section
variable{X:Cx}{pins:List (UM×Obj)}{s:UW}{σ:L2.St}{H:Hp}{O:List UM}
def Ay{u:UJ}{ds:List D}{vs:List V}{its:List UJ}{d:D}{i:Int}{t:Tok}{c' cc f:UM}{row many qual:Str}{params:Vx}{scope:UX}{np mp p2 pos:Pos}{pm ctv:UJ}{Q:VK}
  (I:Inv X pins σ H s) (hO:dS H O) (dn:bb X.K (hid H O) ds vs) (rv:Vals vs its) (h0:0<=i) (hs:uw i.toNat ds=some d)
  (hf:s.heap.get? f=some (Wh "<lambda>" qual params (cutE row many np mp p2 pos) scope [(many,cc)] pm c' ctv)) (hcd:s.heap.CodeRec (.ref c') qual) (hroom:X.A.depth<Vn)
  (hbind:∀v,bindArgs (kla_fn "<lambda>" qual params (cutE row many np mp p2 pos) scope [(many,cc)] pm (.ref c') ctv) ⟨[v],[]⟩=pure [(row,v)])
  (hco:scope.isCoroutine=false) (hgen:scope.isGenerator=false) (hk:scope.kind=.function) (hno:∀x∈scope.names,x.2≠.cell) (hr:scope.names.lookup row=some .local) (hm:scope.names.lookup many=some .free)
  (hcell:s.heap.IsCell cc (some (.int i t))) (d1:(row==("__debug__":Str))=false) (d2:(many==("__debug__":Str))=false) (d3:(many==("__classdict__":Str))=false)
  (hcol:∀(Q':List UJ->UW->Prop),(∀h' tk,(∀b o,s.heap.get? b=some o->h'.get? b=some o)->Q' its {s with heap:=h',toks:=tk})->UY (model X.prog X.w) X.A.in1 (collect u) Q' X.xe s)
  (q:∀v H',bj H H'->cJ X.K (hid H' O) d v->Q v H'):UY (model X.prog X.w) X.A (call (.builtin "sorted") [u] [(Str.ofString "key",.ref f)]) (EP X pins σ Q) X.xe s:=by
 have l1:=dn.length;have l2:=rv.length;unfold uw at hs;split at hs
 ·rename_i hS;cases hs;obtain⟨h64,σ',hσ,hsh,pw⟩:=hS;obtain⟨b,σ1,rfl⟩:∃b σ1,σ'=b::σ1:=by
   cases σ' with
   |nil=>exact absurd rfl hσ
   |cons b σ1=>exact⟨b,σ1,rfl⟩
  have hsh':∀x∈ds,Sh (b::σ1) (uV i.toNat x):=λx hx=>by
   obtain⟨k,rfl,hk⟩:=hsh x hx;exact hk
  refine zr (keys:=ds.map (uV i.toNat)) (σ:=σ1) (b:=b) ‹0› (by rw[Q1];omega) (λk hk=>by obtain⟨x,hx,rfl⟩:=List.mem_map.mp hk;exact hsh' x hx) hcol (λj v h' tk Q' hv kp hq=>?_) λp h1 h' l e tk hp hu k1 k2 hl he=>?_
  ·have hj:j<its.length:=by
    rcases SG j its.length with z|z
    ·exact z
    ·rw[SH z]at hv;cases hv
   have hj':j<ds.length:=(by omega);obtain⟨v0,e1,dv⟩:=dn.get (i:=j) (d:=ds[j]) (by simp[hj']);obtain⟨w,e2,rw'⟩:=rv.get e1;rw[hv]at e2;cases e2;obtain⟨k,ek,hk'⟩:=hsh _ (Sy hj');have ekey:(ds.map (uV i.toNat)).getD j []=k.take i.toNat:=by
    have:(ds.map (uV i.toNat)).getD j []=uV i.toNat ds[j]:=(by simp[hj']);rw[this,ek];rfl
   rw[ekey]at hq;rw[ek]at dv;obtain⟨a,ws,rfl,ha,dk⟩:=cK.mp dv;cases rw';obtain⟨it2,r2,ht,hz⟩:=I.tuple (bU (aB H O) ha);have hz':it2.toArray.size<=UP:=(by rw[QX,<-r2.length];exact hz);refine Fm (s:={s with heap:=h',toks:=tk}) (i:=i) (t:=t) (kp _ _ hf) ?_ hroom (I.nolimit.keeps kp) hbind hco hgen hk hno hr hm ?_ (items:=it2.toArray) ?_ hz' d1 d2 d3 λb2 h'' tk' kp2 tb=>?_
   ·obtain⟨c2,oc,vs',t',ec,eo,r⟩:=hcd;exact⟨c2,oc,vs',t',ec,kp _ _ eo,r⟩
   ·obtain⟨o,e,q⟩:=hcell;exact⟨o,kp _ _ e,q⟩
   ·obtain⟨o,e,q⟩:=ht;exact⟨o,kp _ _ e,q⟩
   ·refine hq _ h'' tk' kp2 ?_;obtain⟨o,eo,hc,n,hd⟩:=tb;refine⟨b2,o,_,n,rfl,eo,hc,hd,?_⟩;have e3:(List.toArray (it2.toArray.toList.take (HT.sIx it2.toArray.size it2.toArray.size (some i)))).toList=it2.take i.toNat:=by
     rw[Hc h0];simp only[QX,SF];rcases SL i.toNat it2.length with z|z
     ·rw[SM z]
     ·rw[SN z,SJ (QT _),SJ z]
    rw[e3];exact lx (sN hk') (dk.take i.toNat) (vB i.toNat r2)
  ·have el:its.length=ds.length:=(by omega);rw[el]at hp hu;have ps:=rJ (key:=uV i.toNat) hsh' pw hp hu;have hr:p.toList.Perm (List.range ds.length):=by
    have:=Array.perm_iff_toList_perm.mp hp
    simpa using this
   have hlt:∀i∈p.toList,i<ds.length:=λi hi=>by simpa using hr.mem_iff.mp hi
   have I1:Inv X pins σ H {s with heap:=h1,toks:=tk}:=I.kept k1;have hn:H l=none:=I1.hok.fresh hl;have rv':=qT rv p.toList λi hi=>by have:=hlt i hi;omega
   have dn':=qJ dn p.toList hlt;have hlen:p.toList.length=ds.length:=(by rw[hr.length_eq,RU]);refine⟨.ref l,_,Inv.laid (s:={s with heap:=h1,toks:=tk}) (t':=tk) I1 k2 hl (show cH X.prog X.w _ h' _ (.lst (p.toList.map λi=>vs.getD i .non))from⟨by rw[Q1,hlen,Vh];omega,_,e,rv',he⟩),rfl,?_⟩;refine q _ _ (bL hn _) ?_;rw[<-ps];exact dF hO hn dn'
 ·cases hs
def Nb{f:FX}{j:Nat}{k:Nat}{c P cc:UM}{e:UZ}{p lpos kp pos np mp p2 spos:Pos}{row many:Str}{params:Vx}{scope:UX}
  (hr:fX k X.A) (hg:Gl X "sorted") (hm:X.mg "sorted"=none) (B:C7 X.mg X.base c P) (hcode:X.env.code=.ref c) (hT:∀H,aU.tab H->H P=some (.ext (pT P lpos (X.env.qual++"<lambda>"))))
  (he:FE X e f) (hN:X.N[j]?=some many) (hkm:X.env.kindOf many=some .cell) (hv:Lh X.env.scope many) (hcc:X.env.cells.lookup many=some cc) (hcl:closureFor scope X.env=pure [(many,cc)]) (hdef:defaultsOf params X.env=([],[]))
  (hbind:∀cdv ctv v,bindArgs (T5 "<lambda>" (X.env.qual++"<lambda>") params (cutE row many np mp p2 spos) scope [(many,cc)] ((X.mg "__name__").getD .none) cdv ctv) ⟨[v],[]⟩=pure [(row,v)])
  (hco:scope.isCoroutine=false) (hgen:scope.isGenerator=false) (hk:scope.kind=.function) (hno:∀x∈scope.names,x.2≠.cell) (hlr:scope.names.lookup row=some .local) (hlm:scope.names.lookup many=some .free)
  (d1:(row==("__debug__":Str))=false) (d2:(many==("__debug__":Str))=false) (d3:(many==("__classdict__":Str))=false) (hns:noStar e=true:=by rfl):
  FE X (.Call (.Name "sorted" p) [e] [⟨some "key",.Lambda params (cutE row many np mp p2 spos) scope lpos,kp⟩] pos) (f2 qA f (ah j)):=by
 intro pins s σ H Q I ⟨O,ρ,E,hF⟩;refine Vt (kF I hg hm mr ?_);have st:backTo pos (U0 [e] X.env)=(false,eval e X.env)::backTo pos (U0 [] X.env):=by rw[cY hns];rfl
 refine Uv ?_ ?_ (gB (by rw[RG,hns];rfl))
 ·refine dM (km he pD (cY hns) pos pins s σ H (λvs H1=>∃v d a m,vs=[v]/\bj H H1/\ρ[j]?=some (some (.val m))/\qA a m=some d/\cJ X.K (hid H1 O) a v/\∀v H',bj H H'->cJ X.K (hid H' O) d v->Q v H') I ⟨O,ρ,E,(js.bind hF).imp λa hF v H1 s1 d1=>?_⟩) λus s1 ⟨vs,H1,I1,rv,v,d,a,m,ev,s1',em,hd,dn,q⟩=>?_
  ·obtain⟨m,em,hF⟩:=v9 (js.bind hF);obtain⟨d,e,q⟩:=js.rO hF;exact⟨v,d,a,m,rfl,s1,em,e,d1,q⟩
  ·subst ev;obtain⟨u,eu,ru⟩:=vals1 rv;subst eu;have E1:=E.same s1';show UY _ _ (evalAll ((do let v<-eval (.Lambda params (cutE row many np mp p2 spos) scope lpos) X.env;standAt pos;pure v)::[])) _ _ s1;refine wpAny_evalAll_cons (U7 (EB I1 B hcode (hT _ E1.all.1) hdef hcl λfa c' ctv s2 H2 I2 s2' hfa hcr=>U7 (Vv (U6 (wpAny_evalAll_nil ?_)))));show UY (model X.prog X.w) X.A (call (.builtin "sorted") [u] [(Str.ofString "key",.ref fa)]) (EP X pins σ Q) X.xe s2;have E2:=E1.same s2';obtain⟨vm,e3,dm⟩:=E2.val j m em;have core:∀(i:Int)(xs:List D),m=.int i->0<=i->uw i.toNat xs=some d->∀(ys:List V)(its:List UJ),bb X.K (hid H2 O) xs ys->Vals ys its->
     (∀(Q':List UJ->UW->Prop),(∀h' tk,(∀b o,s2.heap.get? b=some o->h'.get? b=some o)->Q' its {s2 with heap:=h',toks:=tk})->UY (model X.prog X.w) X.A.in1 (collect u) Q' X.xe s2)->
     UY (model X.prog X.w) X.A (call (.builtin "sorted") [u] [(Str.ofString "key",.ref fa)]) (EP X pins σ Q) X.xe s2:=by
    intro i xs ei h0 hs ys its dl ri hcol;subst ei;rw[fw]at dm;subst dm;obtain⟨mm,hns',hl⟩:=I2.loc;obtain⟨uv,ruv,lk⟩:=hl j many (.int i) hN e3 hv;obtain⟨t,rfl⟩:=ruv;have hcell:s2.heap.IsCell cc (some (.int i t)):=by
     rcases lk with⟨z,_⟩|⟨_,c2,ec,hc2⟩
     ·rw[hkm]at z;cases z
     ·rw[hcc]at ec;cases ec;exact hc2
    have dp:=hr.dp;exact Ay I2 E2.all dl ri h0 hs hfa hcr ‹0› (λv=>hbind (.ref c') ctv v) hco hgen hk hno hlr hlm hcell d1 d2 d3 hcol λv H' sm dd=>q v H' ((s1'.trans s2').trans sm) dd
   have dn2:=dn.mono (bN (O:=O) s2');unfold qA at hd;split at hd
   ·rename_i xs i;split at hd
    ·rename_i h0;obtain⟨l,ys,el,g1,g2⟩:=cT.mp dn2;subst el;cases ru;obtain⟨its,ri,pl,hz⟩:=I2.list ((aB H2 O).seq g1);have hlen:=ri.length;obtain⟨o,ho,hc,n,hd'⟩:=pl.isList;exact core i xs rfl h0 hd ys its g2 ri λQ' hQ=>Wc l (.inl rfl) ho hc hd' (λh' k=>by simpa using hQ h' s2.toks k) (by simp only[QX]<;>omega)
    ·cases hd
   ·rename_i xs i;split at hd
    ·rename_i h0;obtain⟨l,ys,el,g1,g2⟩:=cK.mp dn2;subst el;cases ru;obtain⟨its,ri,⟨o,ho,hc,n,hd'⟩,hz⟩:=I2.tuple (bU (aB H2 O) g1);have hlen:=ri.length;exact core i xs rfl h0 hd ys its g2 ri λQ' hQ=>Wc l (.inr rfl) ho hc hd' (λh' k=>by simpa using hQ h' s2.toks k) (by simp only[QX]<;>omega)
    ·cases hd
   ·cases hd
 ·exact st
end
end TG
namespace TG
open PySem PySem.Spec PyProof.Rows PySem.W L2
section
variable[aU]{P:UL}{w:UK}{K:Tt}{mg:Str->Option UJ}{base:UO}
def wg(K:Tt)(f:UM)(cdv:UJ):Prop:=∃oc od fd sl,K.lookup f=some ⟨oc,od,.func fd,sl⟩/\fd.code=cdv
def wg.one{f:UM}{a b:UJ}(h:wg K f a)(h':wg K f b):a=b:=by
 obtain⟨oc,od,fd,sl,e,r⟩:=h;obtain⟨oc',od',fd',sl',e',r'⟩:=h';rw[e]at e';cases e';rw[<-r,<-r']
structure yc(P:UL)(w:UK)(K:Tt)(mg:Str->Option UJ)(base:UO)(k:Nat)(N:List Str)(qual:Str)(st:U1)(f:UM)(B:cm):Prop where
 h:∀(cdv:UJ)(A:UV)(outer:List Env)(s:UW)(H:Hp)(E:XK),wg K f cdv->fX k (A.deeper (envOfC qual (ax st) s.heap.objs.size f cdv))->Va (model P w) (A.deeper (envOfC qual (ax st) s.heap.objs.size f cdv)) (envOfC qual (ax st) s.heap.objs.size f cdv) (kC (oY P w) P w K mg base N qual (ax st) f cdv A outer s H E).xe->
  Ad (kC (oY P w) P w K mg base N qual (ax st) f cdv A outer s H E) (fA st) B
def Gz{x qual:Str}{st:U1}{f:UM}{fd:Vp}{N ps:List Str}{k:Nat}{B:cm}(F:uT K x qual st f fd)(SC:aP N ps (ax st))(hb:yc P w K mg base k N qual st f B):
  jV P w K mg base (oY P w) (k+1) f fd ps (Ek K ps.length (aK B ps.length N.length)):=by
 obtain⟨oc,od,kV,doc,pm,an,cd,ct,osl,rfl,lk,hcd⟩:=F.ex;refine EV lk hcd SC (λvs H Q E h=>?_) λA outer s H vs Q E hr h=>?_
 ·obtain⟨O,ds,h1,_⟩:=h;exact h1
 ·obtain⟨O,ds,h1,h2,h3,h4⟩:=h;have hl:ds.length=ps.length:=h3.length.trans h1;have e4:aK B ps.length N.length ds=B K0 (env0 N.length ds):=by unfold aK;rw[if_pos hl]
  rw[e4]at h4;refine⟨_,hb.h cd A outer s H E ⟨_,_,_,_,lk,rfl⟩ hr PassesOwn.leaving H O,O,env0 N.length ds,K0,_,⟨uy h2 h3,⟨bj.refl H,λ_ z=>z,λa z=>.inl z⟩,λi xs a e=>?_,λi d e=>by obtain⟨d',_,e2⟩:=jO i _ e;cases e2⟩,rfl,?_⟩
  ·obtain⟨d',_,e2⟩:=jO i _ e;cases e2
  ·generalize B K0 (env0 N.length ds)=r at h4;refine⟨λz=>by rw[z]at h4;exact h4,λO' ρ' σ' H' S e=>?_,λO' ρ' σ' H' S e=>?_,λO' ρ' σ' H' S e=>?_,λd O' v H' e b dv=>?_,λO' ρ' σ' H' x S e=>?_⟩
   ·have e:(.ok .non:R D)=r:=e;subst e;exact h4 .non H' S.base.same (mz.mpr rfl)
   ·have e:(un:R D)=r:=e;subst e;exact h4.elim
   ·have e:(un:R D)=r:=e;subst e;exact h4.elim
   ·subst e;exact h4 v H' b.same (dv.mono (iI b.sub))
   ·have e:(.error (some x):R D)=r:=e;subst e;exact EX h4 S.base.same S.base.sub
def Bc{x qual:Str}{st:U1}{f:UM}{fd:Vp}{N ps:List Str}{k:Nat}{B:cm}(F:uT K x qual st f fd)(b:Binds K fd ps [])(m:mg x=some (.ref f))(SC:aP N ps (ax st))(hb:yc P w K mg base k N qual st f B):
  Callee P w K mg base (k+1) x ps (aK B ps.length N.length):=⟨f,fd,Gz F SC hb,b,F.kp,m⟩
end
def Ba(mg:Str->Option UJ)(base:UO):Prop:=∃bm ob,mg "__builtins__"=some (.ref bm)/\bm≠UT/\base.get? bm=some ob/\ob.cls=.type "module"/\ob.dict=some UT/\ob.data=.plain
def IG{K:Tt}{mg:Str->Option UJ}{base:UO}{c P:UM}(X:K.In base)(e:codeHdIn K c P=true)(b:Ba mg base):C7 mg base c P:=⟨codeHd_of_K X e,b⟩
def Iy{P:UL}{w:UK}{K:Tt}{mg mb:Str->Option UJ}{CX:Ae}{k:Nat}{fa a c T:UM}{lpos:Pos}{q:Str}{fd:Vp}{x:Str}{sp:Sp}{s₁:UW}{vs:List UJ}{ns:List Int}
  (KX:K.In s₁.heap) (hns:s₁.heap.Ns UR mg) (hb:s₁.heap.Ns UT mb) (hbb:∀x:Str,x≠"__name__"->mb x=UU x) (hlim:s₁.heap.NoLimit) (hg:s₁.gens=#[]) (hbm:Ba mg s₁.heap)
  (hT:s₁.heap.get? T=some (tabObj #[])) (hC:codeHdIn K c T=true) (hKT:K.lookup T=none)
  (ha:s₁.heap.get? a=some {cls:=.type "list",data:=.seq vs.toArray}) (hi:IntsAre vs ns) (hl:ns.length<=UP) (hr:fX k callerA)
  (F:∀base:UO,K.In base->base.Ns UR mg->Ba mg base->jV P w K mg base CX k fa fd [x] sp) (hbind:∀(s:UW)(u:UJ),Vq s fd ⟨[u],[]⟩ [(x,u)])
  (hsp:∀H:Hp,H T=some (.ext (pT T lpos q))->pH K H a (ns.map V.int)->sp [.ref a] H (λv H'=>v=.bl true/\bj H H') λ_ _ _=>False)
  (hCX:∀H e s',CX [] H s₁ (λ_ _ _=>False) e s'->False):
  Vj (model P w) callerA (.call (.ref fa) ⟨[.ref a],[]⟩) (λr s'=>r=.ok (.ret (.bool true))/\OldK s₁.heap s'.heap/\s'.os=s₁.os/\AllBare s'.gens) s₁:=by
 have rv:=wB hi;have lenV:=hi.length;have aT:a≠T:=λz=>by rw[z,hT]at ha;cases ha
 obtain⟨H,hH⟩:∃H:Hp,H=λb=>if b=T then some (.ext (pT T lpos q))else if b=a/\(K.lookup a).isNone=true then some (.frz {cls:=.type "list",data:=.seq vs.toArray} (.lst (ns.map V.int)))else none:=⟨_,rfl⟩
 have hHT:H T=some (.ext (pT T lpos q)):=by rw[hH];exact if_pos rfl
 have cases':∀b u,H b=some u->(b=T/\u=.ext (pT T lpos q))\/(b=a/\K.lookup a=none/\u=.frz {cls:=.type "list",data:=.seq vs.toArray} (.lst (ns.map V.int))):=λb u e=>by
  rw[hH]at e;by_cases z:b=T
  ·have e:=(if_pos z).symm.trans e;cases e;exact .inl ⟨z,rfl⟩
  ·have e:=(if_neg z).symm.trans e;by_cases z':b=a/\(K.lookup a).isNone=true
   ·have e:=(if_pos z').symm.trans e;cases e;exact .inr ⟨z'.1,by simpa using z'.2,rfl⟩
   ·have e:=(if_neg z').symm.trans e;cases e
 have free:∀b o,s₁.heap.get? b=some o->o.cls≠.none->o.cls≠.type "list"->H b=none:=λb o e h1 h2=>by
  cases z:H b with
  |none=>rfl
  |some u=>
   rcases cases' b u z with⟨e1,_⟩|⟨e1,_⟩
   ·rw[e1,hT]at e;cases e;exact absurd rfl h1
   ·rw[e1,ha]at e;cases e;exact absurd rfl h2
 have freeD:∀b o es ep,s₁.heap.get? b=some o->o.data=.dict es ep->H b=none:=λb o es ep e d=>by
  cases z:H b with
  |none=>rfl
  |some u=>
   rcases cases' b u z with⟨e1,_⟩|⟨e1,_⟩
   ·rw[e1,hT]at e;cases e;cases d
   ·rw[e1,ha]at e;cases e;have d':Data.seq vs.toArray _=Data.dict es ep:=d;cases d'
 have hS:pH K H a (ns.map V.int):=by
  cases hk:K.lookup a with
  |some o=>
   have e:=KX a o hk;rw[ha]at e;cases e;exact .inr ⟨_,vs.toArray,_,hk,rfl,rfl,rfl,by rw[QX,lenV];exact hl,by simpa using rv⟩
  |none=>
   refine .inl (.inr ⟨{cls:=.type "list",data:=.seq vs.toArray},?_⟩);rw[hH];exact(if_neg aT).trans (if_pos ⟨rfl,by rw[hk];rfl⟩)
 have hok:qq P w H s₁.heap:=λb u e=>by
  rcases cases' b u e with⟨e1,e2⟩|⟨e1,_,e2⟩
  ·subst e1 e2;exact pT.ok (.inl hT)
  ·subst e1 e2;exact⟨ha,by rw[Q1];exact hl,vs,_,rv,ha⟩
 have nsK:∀{b:UM}{m:Str->Option UJ},s₁.heap.Ns b m->(xn s₁.heap H).Ns b m:=λ{b m} ⟨o,es,ep,e,d,r⟩=>⟨o,es,ep,uk e (freeD b o es ep e d),d,r⟩
 have hKb:K.In (xn s₁.heap H):=λb o e=>uk (KX b o e) (by
  cases z:H b with
  |none=>rfl
  |some u=>
   rcases cases' b u z with⟨e1,_⟩|⟨e1,e2,_⟩
   ·rw[e1,hKT]at e;cases e
   ·rw[e1,e2]at e;cases e)
 have hbm':Ba mg (xn s₁.heap H):=by
  obtain⟨bm,ob,b1,b2,b3,b4,b5,b6⟩:=hbm;refine⟨bm,ob,b1,b2,uk b3 (free bm ob b3 ?_ ?_),b4,b5,b6⟩
  ·rw[b4];simp
  ·rw[b4];simp
 have hM:Mod K mg (xn s₁.heap H):=⟨hKb,nsK hns,⟨mb,nsK hb,hbb⟩,let ⟨mc,h1,h2⟩:=hlim;⟨mc,nsK h1,h2⟩⟩
 have e0:DC P w K mg (xn s₁.heap H) callerA [] s₁ H:=⟨rfl,hM,λb o e=>IL e,Q2 (CL _ _),trivial,λb hb=>absurd (show b∈([]:List UM)from hb) (by simp),hok,.of_eq hg⟩
 refine Vs ((F _ hKb (nsK hns) hbm').run callerA [] s₁ H ⟨[.ref a],[]⟩ [.ref a] [.ref a] _ _ hr e0 (hbind s₁ (.ref a)) (.cons rfl .nil) (hsp H hHT hS)) λr s' h=>?_;cases r with
 |error e=>exact(hCX H e s' h).elim
 |ok fl=>
  cases fl with
  |next=>exact False.elim h
  |brk=>exact False.elim h
  |cont=>exact False.elim h
  |ret u=>
   obtain⟨v,H',os,bare,unn,hok',r',q'⟩:=h;obtain⟨ev,sm⟩:v=.bl true/\bj H H':=q';subst ev;obtain rfl:u=Value.bool true:=r';have tb:=(hok' T _ (sm _ _ hHT)).1;obtain⟨ps,hps⟩:∃ps,s'.heap.get? T=some (tabObj ps):=by
    rcases tb with e|⟨_,_,e,_⟩
    ·exact⟨_,e⟩
    ·exact⟨_,e⟩
   have keep:∀b o,b≠T->s₁.heap.get? b=some o->s'.heap.get? b=some o:=λb o hb e=>by
    cases z:H b with
    |none=>exact unn.keep b o e z (by intro z;exact absurd (show b∈([]:List UM)from z) (by simp)) (by simp)
    |some u=>
     rcases cases' b u z with⟨e1,_⟩|⟨e1,_,e2⟩
     ·exact absurd e1 hb
     ·subst e2;have z2:=sm _ _ z;obtain⟨e3,_⟩:=hok' b _ z2;rw[e1,ha]at e;cases e;exact e3
   refine⟨rfl,⟨λb o e=>?_,λb o e=>?_⟩,os,bare⟩
   ·by_cases hb:b=T
    ·subst hb;rw[hT]at e;cases e;exact .inr (.inl ⟨((codeHd_of_K KX hC).tab hT).isCodeTable,rfl,#[],ps,rfl,by rw[Array.empty_append];exact hps⟩)
    ·exact .inl (keep b o hb e)
   ·by_cases hb:b=T
    ·subst hb;exact⟨_,hps⟩
    ·exact⟨o,keep b o hb e⟩
def Fv{l:T6}{n k:Nat}{q:UL}{loose:List Str}{XP:(Str->Option UJ)->UO->Prop}{YP:UK->UO->Prop}{d:DefRec}{K:Params->Tt}{CX:UK->Ae}{sp:UK->Sp}{x qn:Str}{T:UM}{lpos:Pos}
  (hn:l.most=some n) (hn2:n<=UP) (hdf:d.params.defaults=[]) (hr:fX k callerA)
  (hY:∀(w:UK)(h:UO),YP w h->(K w.params).In h/\h.get? T=some (tabObj #[]))
  (F:∀ (w:UK) (mg:Str->Option UJ) (fa:UM) (h:UO),(K w.params).In h->h.Ns UR mg->mg d.name=some (.ref fa) ->
   (∃c,codeHdIn (K w.params) c T=true)/\(K w.params).lookup T=none/\∃fd:Vp,(∀(s:UW)(u:UJ),Vq s fd ⟨[u],[]⟩ [(x,u)])/\
    ∀base:UO,(K w.params).In base->base.Ns UR mg->Ba mg base->jV l.prog w (K w.params) mg base (CX w) k fa fd [x] (sp w))
  (hsp:∀(w:UK)(H:Hp)(a:UM)(ns:List Int),ns.length<=n->H T=some (.ext (pT T lpos qn))->pH (K w.params) H a (ns.map V.int)->sp w [.ref a] H (λv H'=>v=.bl true/\bj H H') λ_ _ _=>False)
  (hCX:∀(w:UK)(H:Hp)(s:UW)(e:UJ)(s':UW),CX w [] H s (λ_ _ _=>False) e s'->False):
  PySem.W.WalkO q loose XP YP l.row.toRowW d [] (λf vs=>PySem.call f vs):=by
 refine Att.Jt hn hdf λw s₀ s₁ mg mb fa o pm cd doc a vs ns G Y ho hd hcd hmg hobj hints hlen hg=>?_;obtain⟨KX,hT⟩:=hY w _ Y;obtain⟨⟨c,hC⟩,hKT,fd,hb,hF⟩:=F w mg fa _ KX G.T.g hmg;exact Iy KX G.T.g G.T.b G.T.builtins G.T.nolimit hg G.T.bmain hT hC hKT hobj hints (QK hlen hn2) hr hF hb (λH hO hS=>hsp w H a ns hlen hO hS) λH e s'=>hCX w H s₁ e s'
open PySem PySem.Spec PySem.Calls L2
open PySem.SeqAt (EqAt list_indexAt)
variable[aU]
section
variable{X:Cx}{p pos:Pos}{e:UZ}
end
end TG
namespace TG
open PySem PySem.Spec L2
variable[aU]
end TG
namespace TG
open PySem PySem.Spec PySem.Calls L2
open PySem.SeqAt (EqAt list_countAt)
variable[aU]
def xR:=Lq (λ_ j=>decide (0<=j)) λi j=>i/2^j.toNat
def Ai{K:Tt}:cX K (rI (λ_ j=>0<=j) λi j=>.int (i/2^j.toNat)) xR:=kN λ_ _ h=>of_decide_eq_true h
def rR:=Jv λi j=>.int (Builtin.bitAnd i j)
def AO{K:Tt}:cX K (Df λi j=>.int (Builtin.bitAnd i j)) rR:=uE
def rV:List D->List D->Option (List (Key×D))
 |[],[]=>some []
 |k::ks,d::ds=>(keyOf k).bind λk=>(rV ks ds).map ((k,d)::·)
 |_,_=>none
abbrev iN(al:List (Key×D)):List D:=al.map λp=>bx p.1
abbrev zo(al:List (Key×D)):D:=.dct (iN al) (al.map (·.2))
def mB(k:Key):keyOf (bx k)=some k:=by cases k<;>rfl
def tR{a b:Key}(h:bx a=bx b):a=b:=by
 have e:=congrArg keyOf h;rw[mB,mB]at e;exact Option.some.inj e
def ye:∀{ks ds:List D}{al:List (Key×D)},rV ks ds=some al->ks=iN al/\ds=al.map (·.2)
 |[],[],_,h=>by cases h;exact⟨rfl,rfl⟩
 |k::ks,d::ds,al,h=>by
  unfold rV at h;cases e1:keyOf k with
  |none=>rw[e1]at h;cases h
  |some k'=>
   rw[e1]at h;cases e2:rV ks ds with
   |none=>rw[e2]at h;cases h
   |some al'=>
    rw[e2]at h;cases h;obtain⟨h1,h2⟩:=ye e2;rw[tL e1,h1,h2];exact⟨rfl,rfl⟩
 |[],_::_,_,h=>by cases h
 |_::_,[],_,h=>by cases h
def vX:∀al:List (Key×D),rV (iN al) (al.map (·.2))=some al
 |[]=>rfl
 |p::r=>by
  show(keyOf (bx p.1)).bind _=_;rw[mB];show(rV (iN r) (r.map (·.2))).map ((p.1,p.2)::·)=_;rw[vX r];rfl
def vV:∀{al:List (Key×D)}{ks:List Key},iN al=ks.map bx->al.map (·.1)=ks
 |[],[],_=>rfl
 |p::r,k::ks,h=>by
  have h:bx p.1::iN r=bx k::ks.map bx:=h;injection h with h1 h2;rw[Q0,tR h1,vV h2]
 |[],_::_,h=>by cases h
 |_::_,[],h=>by cases h
def Oc{K:Tt}{H:Hp}{O:List UM}{a:UM}{al:List (Key×D)}(h:dG K H O a (zo al)):
  (∃kvs:List (Key×V),H a=some (.dK kvs)/\kvs.map (·.1)=al.map (·.1)/\bb K (hid H O) (al.map (·.2)) (kvs.map (·.2)))\/(H a=some (.dT [])/\al=[]):=by
 obtain⟨o,vs,h1,h2,h3⟩:=h;rcases h3 with⟨kvs,e,e1,e2⟩|⟨kvs,e,e1,e2⟩
 ·subst e;refine .inl ⟨kvs,h1,?_,by rw[<-e2];exact h2⟩;exact(vV (ks:=kvs.map (·.1)) (by rw[SD];exact e1)).symm
 ·subst e;cases kvs with
  |nil=>
   refine .inr ⟨h1,?_⟩
   simpa using e1
  |cons p r=>
   cases al with
   |nil=>cases e1
   |cons q r'=>
    have e1:bx q.1::iN r'=D.tup (p.1.map bx)::r.map (λp=>D.tup (p.1.map bx)):=e1;injection e1 with e1 _;rcases q with⟨k,v⟩
    cases k<;>cases e1
section
variable{κ:Type}[DecidableEq κ]
def sB(al:List (κ×D))(k:κ)(v:D):List (κ×D):=if(al.any λp=>decide (p.1=k))=true then al.map (λp=>if p.1=k then(p.1,v)else p)else al++[(k,v)]
def Ej{kvs:List (κ×V)}{al:List (κ×D)}(e:kvs.map (·.1)=al.map (·.1))(k:κ)(w:V)(d:D):(putK kvs k w).map (·.1)=(sB al k d).map (·.1):=by
 have e2:(kvs.any λp=>decide (p.1=k))=(al.any λp=>decide (p.1=k)):=by
  have:=congrArg (λl=>l.any λq=>decide (q=k)) e
  simpa [Sj,Function.comp_def]using this
 unfold putK sB;rw[e2];split
 ·have e3:∀(l:List (κ×V)),(l.map λkv=>if kv.1=k then(kv.1,w)else kv).map (·.1)=l.map (·.1):=λl=>by
   rw[SD];refine RP λp _=>?_;show(if p.1=k then(p.1,w)else p).1=p.1;split<;>rfl
  have e4:∀(l:List (κ×D)),(l.map λkv=>if kv.1=k then(kv.1,d)else kv).map (·.1)=l.map (·.1):=λl=>by
   rw[SD];refine RP λp _=>?_;show(if p.1=k then(p.1,d)else p).1=p.1;split<;>rfl
  rw[e3,e4,e]
 ·rw[RQ,RQ,e];rfl
def v6{K:Tt}{H:Hp}{k:κ}{w:V}{d:D}(hw:cJ K H d w):∀{kvs:List (κ×V)}{al:List (κ×D)},kvs.map (·.1)=al.map (·.1)->bb K H (al.map (·.2)) (kvs.map (·.2))->
  bb K H ((al.map λp=>if p.1=k then(p.1,d)else p).map (·.2)) ((kvs.map λp=>if p.1=k then(p.1,w)else p).map (·.2))
 |[],[],_,h=>h
 |p::r,q::r',e,h=>by
  rw[Q0,Q0]at e;injection e with e1 e2;rw[Q0,Q0,bo]at h;obtain⟨v,ws,h0,h1,h2⟩:=h;injection h0 with h0 h0';subst h0 h0';have ih:=v6 (k:=k) hw e2 h2;rw[Q0,Q0,Q0,Q0,bo];refine⟨_,_,rfl,?_,ih⟩;rw[e1];split
  ·exact hw
  ·exact h1
 |[],_::_,e,_=>by cases e
 |_::_,[],e,_=>by cases e
def FJ{K:Tt}{H:Hp}{k:κ}{w:V}{d:D}(hw:cJ K H d w){kvs:List (κ×V)}{al:List (κ×D)}(e:kvs.map (·.1)=al.map (·.1))(h:bb K H (al.map (·.2)) (kvs.map (·.2))):
  bb K H ((sB al k d).map (·.2)) ((putK kvs k w).map (·.2)):=by
 have e2:(kvs.any λp=>decide (p.1=k))=(al.any λp=>decide (p.1=k)):=by
  have:=congrArg (λl=>l.any λq=>decide (q=k)) e
  simpa [Sj,Function.comp_def]using this
 unfold putK sB;rw[e2];split
 ·exact v6 hw e h
 ·rw[RQ,RQ];exact h.append (bo.mpr ⟨w,[],rfl,hw,cI.mpr rfl⟩)
end
def vF(ks ds:List D)(k v:D):Option (List (Key×D)):=(rV ks ds).bind λal=>(keyOf k).bind λk=>if small al.length then some (sB al k v)else none
def pZ(i:Nat)(fk fv:FX):cm:=λk ρ=>match ρ[i]? with
 |some (some (.own (.dct ks ds)))=>sZ ((fv ρ).bind λv=>(fk ρ).bind λq=>rO (vF ks ds q v)) k ρ λal=>k.nx (ρ.set i (some (.own (zo al))))
 |_=>un
def Bt{ks ds:List D}{k v:D}{al':List (Key×D)}(h:vF ks ds k v=some al'):∃al q,ks=iN al/\ds=al.map (·.2)/\k=bx q/\small al.length=true/\al'=sB al q v:=by
 unfold vF at h;cases e1:rV ks ds with
 |none=>rw[e1]at h;cases h
 |some al=>
  rw[e1]at h;cases e2:keyOf k with
  |none=>rw[e2]at h;cases h
  |some q=>
   rw[e2]at h;obtain⟨h3,h4⟩:=bI (show(if small al.length then some (sB al q v)else none)=some al' from h);obtain⟨h1,h2⟩:=ye e1;exact⟨al,q,h1,h2,tL e2,h3,h4.symm⟩
def Ih{kvs:List (Key×V)}{al:List (Key×D)}(e:kvs.map (·.1)=al.map (·.1)):iN al=kvs.map λp=>bx p.1:=by
 have:=congrArg (List.map bx) e
 rw[SD,SD]at this;exact this.symm
def KD(td ty tv:TE):TS:=λD σ H=>tv σ H λv H1=>td σ H1 λx H2=>ty σ H2 λy H3=>∃a k kvs,x=.ref a/\y=kV k/\(H3 a=some (.dK kvs)\/(H3 a=some (.dT [])/\kvs=[]))/\kvs.length<UP/\D.nx σ (upd H3 a (.dK (putK kvs k v)))
section
variable{X:Cx}{o idx value:UZ}{pos pos':Pos}{td ty tv:TE}
def Gb(hu:X.A.units+1<Vo)(ho:PE X o td)(hi:PE X idx ty)(hv:PE X value tv)(hs:swapsWith value (some (.Subscript o idx pos')) pos.line X.env=pure false):PS X (.Assign [.Subscript o idx pos'] value pos) (KD td ty tv):=by
 intro pins s σ H D I h;refine wpAny_Assign_Subscript (dM (hv pins s σ H _ I h) λr s1 ⟨v,H1,I1,rv,q1⟩=>dM (ho pins s1 σ H1 _ I1 q1) λu s2 ⟨x,H2,I2,rx,q2⟩=>dM (hi pins s2 σ H2 _ I2 q2) λiv s3 ⟨y,H3,I3,ry,a,k,kvs,ex,ey,ha,hl,q3⟩=>?_) hs;subst ex ey;obtain rfl:u=Value.ref a:=rx;rcases ha with ha|⟨ha,rfl⟩
 ·exact oA hu I3 (JT.k ha hl) ry rv λs4 I4=>⟨σ,_,I4,q3⟩
 ·refine oA hu (Ma I3 ha) (JT.k aX hl) ry rv λs4 I4=>⟨σ,_,I4,?_⟩
  rw[uc];exact q3
end
def Nt{X:Cx}{i:Nat}{x:Str}{idx value:UZ}{fk fv:FX}{npos tpos pos:Pos}(hu:X.A.units+64<Vo)(hx:PE X (.Name x npos) (qF i))(hi:FE X idx fk)(hv:FE X value fv)
  (hs:swapsWith value (some (.Subscript (.Name x npos) idx tpos)) pos.line X.env=pure false:=by rfl):
  FS X (.Assign [.Subscript (.Name x npos) idx tpos] value pos) (pZ i fk fv):=λHb Ob pins s σ H E I ⟨O,ρ,k,rr,S,hF,hk⟩=>by
 unfold pZ at hF;split at hF
 ·rename_i ks ds hxs;obtain⟨a,ha,haO,hat⟩:=S.env.own i _ hxs;have hP:=js.on hF hk S (Q:=λal=>k.nx (ρ.set i (some (.own (zo al))))=rr) λp e=>e;refine Gb ‹0› hx hi hv hs pins s σ H E I ⟨O,ρ,S.env,(js.bind hP).imp λy hP v H1 s1 d1=>?_⟩;have S1:=S.same s1;refine⟨.ref a,ha,O,ρ,S1.env,((js.bind hP).mono s1).imp λj hP w H2 s2 d2=>?_⟩;have S2:=S1.same s2;obtain⟨al',hg,e⟩:=js.rO hP;obtain⟨al,q,f1,f2,f3,f4,f5⟩:=Bt hg;subst f1 f2 f3 f5;have s12:=s1.trans s2;have hat2:dG X.K H2 O a (zo al):=hat.mono (let ⟨_,z⟩:=hat.some;sQ s12 z) (bN s12);have dv:cJ X.K (hid H2 O) y v:=d1.mono (bN s2);have fin:∀kvs:List (Key×V),kvs.map (·.1)=al.map (·.1)->bb X.K (hid H2 O) (al.map (·.2)) (kvs.map (·.2))->dG X.K (upd H2 a (.dK (putK kvs q v))) O a (zo (sB al q y)):=λkvs k2 k3=>
   ⟨_,_,aX,(FJ dv k2 k3).mono (iz haO),.inl ⟨putK kvs q v,rfl,Ih (Ej k2 q v y),rfl⟩⟩
  rcases Oc hat2 with⟨kvs,k1,k2,k3⟩|⟨k1,rfl⟩
  ·have hl:kvs.length=al.length:=(by have:=congrArg List.length k2;simpa using this);exact⟨a,q,kvs,rfl,ud d2,.inl k1,by rw[hl];exact RZ (of_decide_eq_true f4) (by decide),hk.nx O _ σ _ (S2.setO hxs ha trivial (fin kvs k2 k3)) e⟩
  ·exact⟨a,q,[],rfl,ud d2,.inr ⟨k1,rfl⟩,by decide,hk.nx O _ σ _ (S2.setO hxs ha trivial (fin [] rfl (cI.mpr rfl))) e⟩
 ·exact absurd hF.symm hk.ne
section
variable{X:Cx}
def MQ{pins:List (UM×Obj)}{σ:St}{H:Hp}{s:UW}{O:List UM}{ks ds:List D}{v:V}{qs:List Key}(I:Inv X pins σ H s)(h:cJ X.K (hid H O) (.dct ks ds) v)(hk:keysOf ks=some qs):
  ∃a vs,v=.ref a/\qs.length<=UP/\(a==sysModules)=false/\s.heap.DictOf (bY X.prog X.w) a vs/\vs.map (·.1)=qs:=by
 obtain⟨a,vs,e,_,h2⟩:=Nw.mp h;have ek:=oB hk;rcases h2 with⟨kvs,h3,h4,_⟩|⟨kvs,h3,h4,_⟩|⟨kvs,o,h3,h4,_⟩
 rotate_left 2
 ·rw[h4]at hk;cases hk
 ·obtain⟨z,hd,us,rel,dd⟩:=JA I.hok ((aB H O) _ _ h3);have e1:kvs.map (·.1)=qs:=by
   have:(kvs.map (·.1)).map bx=qs.map bx:=(by rw[SD,<-ek,h4];rfl);have e2:=congrArg keysOf this;rw[cP,cP]at e2;exact Option.some.inj e2
  refine⟨a,us,e,?_,hd,dd,?_⟩
  ·have:=congrArg List.length e1
   rw[Q1]at this;omega
  ·rw[<-rel.keys,e1]
 ·cases kvs with
  |nil=>
   rw[h4]at hk;cases hk;obtain⟨z,hd,us,rel,dd⟩:=(show cH X.prog X.w H s.heap a (.dK [])from yG (I.hok a _ ((aB H O) _ _ h3)))
   refine⟨a,us,e,Q3 _,hd,dd,?_⟩;rw[<-rel.keys];rfl
  |cons p r=>
   rw[h4]at hk;cases hk
def vL:List D->Option D
 |[.dct ks _]=>(keysOf ks).bind λqs=>some (.int qs.length)
 |_=>none
def Du:dY X (.builtin "len") (yd X.K vL):=by
 intro pins s σ H xs us Q I r ⟨O,ds,d,hO,hd,hg,q⟩;unfold vL at hg;split at hg
 ·rename_i ks vs0;cases hk:keysOf ks with
  |none=>rw[hk]at hg;cases hg
  |some qs=>
   rw[hk]at hg;cases hg;obtain⟨v,ev,h1⟩:=hd.one;obtain⟨a,vs,e,z,hs,dd,e1⟩:=MQ I h1 hk;subst ev e;obtain⟨u,rfl,ru⟩:=vals1 r;cases ru;have hl:vs.length=qs.length:=(by have:=congrArg List.length e1;simpa using this);refine call_len_dict hs dd (by rw[Vh]at z;omega) ?_;rw[hl];exact⟨.int qs.length,H,I.tok _,⟨_,rfl⟩,q _ H (bj.refl H) (fw.mpr rfl)⟩
 ·cases hg
def C2{k:Key}{v:UJ}(h:sd k v=true):RelV (kV k) v:=by
 rcases dq h with⟨i,t,rfl,rfl⟩|⟨x,t,rfl,rfl⟩
 ·exact⟨_,rfl⟩
 ·exact⟨_,rfl⟩
def wj{P:UL}{w:UK}:∀{vs:List (Key×UJ)}{its:List UJ},its.length=vs.length->(∀(j:Nat)(v:UJ),its[j]?=some v->∃(k:Key)(x:UJ),vs[j]?=some (k,x)/\(bY P w).is k v=true)->Vals (vs.map λp=>kV p.1) its
 |[],[],_,_=>.nil
 |p::r,u::us,hl,h=>by
  obtain⟨k,x,e,hk⟩:=h 0 u rfl;cases e;exact .cons (C2 (by rw[Bj]at hk;exact hk)) (wj (by simpa using hl) λj v e=>h (j+1) v (by simpa using e))
 |[],_::_,hl,_=>by cases hl
 |_::_,[],hl,_=>by cases hl
def wu{K:Tt}{H:Hp}:∀qs:List Key,bb K H (qs.map bx) (qs.map kV)
 |[]=>cI.mpr rfl
 |k::r=>bo.mpr ⟨kV k,_,rfl,by cases k with
  |inl i=>exact fw.mpr rfl
  |inr x=>exact fJ.mpr rfl,wu r⟩
def qx:List D->Option D
 |[.dct ks _]=>(keysOf ks).bind λ_=>some (.lst ks)
 |_=>none
def A8(hc:X.calm=true):dY X (.type "list") (yd X.K qx):=by
 intro pins s σ H xs us Q I r ⟨O,ds,d,hO,hd,hg,q⟩;unfold qx at hg;split at hg
 ·rename_i ks vs0;cases hk:keysOf ks with
  |none=>rw[hk]at hg;cases hg
  |some qs=>
   rw[hk]at hg;cases hg;obtain⟨v,ev,h1⟩:=hd.one;obtain⟨a,vs,e,z,hs,dd,e1⟩:=MQ I h1 hk;subst ev e;obtain⟨u,rfl,ru⟩:=vals1 r;cases ru;have hl:vs.length=qs.length:=(by have:=congrArg List.length e1;simpa using this);obtain⟨ep,da⟩:=dd.dictAt;refine T7 (PySem.W.kdl_dict hs) (I.ok.hd hc) da ‹0› λh' tk acc' c' kp e2 it=>?_;have rv:Vals (qs.map kV) acc'.toList:=by
    have:=wj (P:=X.prog) (w:=X.w) (vs:=vs) (its:=acc'.toList) (by rw[Array.length_toList];exact it.1) λj v e=>it.2 j v (by rw[<-Array.getElem?_toList];exact e)
    rw[<-e1,SD];exact this
   refine⟨.ref s.heap.objs.size,_,I.laid (t':=tk) kp (QT _) (show cH X.prog X.w _ h' _ (.lst (qs.map kV))from⟨by rw[Q1];exact z,acc'.toList,c',rv,by simpa using e2⟩),rfl,?_⟩;have hf:=I.hok.fresh (QT s.heap.objs.size);refine q _ _ (bL hf _) ?_;rw[oB hk];exact dF hO hf (wu qs)
 ·cases hg
end
end TG
namespace TG
open PySem PySem.Spec L2
variable[aU]
end TG
namespace TG
open PySem PySem.Spec PySem.Calls L2
variable[aU]
def CI:typeLookup (.type "list") "keys"=pure none:=by rw[typeLookup_type,builtinLookup_eq_fast];kernel_rfl
def HS{prog:UL}{w:UK}{A:UV}{E:UJ->UW->Prop}{s:UW}{a:UM}{o:Obj}{xs:Array UJ}{k:Nat}{u:Tok}{Q:UJ->UW->Prop}
  (hx:s.heap.get? a=some o) (hc:o.cls=.type "list") (hdat:o.data=.seq xs k) (hd:o.dict=none) (hA:A.handled=none)
  (h:∀h' tk e,Heap.NewExcOf s.heap h' e "AttributeError"->E (.ref e) {s with heap:=h',toks:=tk}):
  UY (model prog w) A (getAttrBy (.ref a) (.str "keys" u) false) Q E s:=by
 obtain⟨c,dct,dat,sl⟩:=o;simp only at hc hdat hd;subst hc hdat hd;obtain⟨hp,g,d,tk,os⟩:=s;have hT:∀tk',(⟨hp,g,d,tk',os⟩:UW).TypeIs (.ref a) "list":=λ_=>⟨_,hx,rfl⟩
 have f1:=sub_AttributeError;have f3:=F.slot_list_getattribute.lookup;have f4:=F.slot_list_getattribute.bind (.ref a);have f5:=am_list_getattr_none;unfold getAttrBy
 repeat (any_goals (first|assumption|exact hT _|((with_reducible show UY _ _ (call (Value.builtin "list.__getattribute__") _ _) _ _ _);refine call_meets F.slot_list_getattribute (hT _) am_entry_list_getattribute (F.args_list_getattribute_2 _ _) (meets_getattribute_miss_list a xs k sl "keys" _ CI (by decide +kernel) (by decide +kernel)) ⟨hx,hA,λh' tk' e hx'=>?_⟩)|wp_step))
 obtain⟨t',u',he⟩:=hx'.there;show UY _ _ (getattributeRaised _ _ _ _ _ _ _) _ _ _;unfold getattributeRaised
 repeat (any_goals (first|assumption|wp_step))
 exact h _ _ _ hx'.of
def IM{prog:UL}{w:UK}{A:UV}{E:UJ->UW->Prop}{s:UW}{a:UM}{o:Obj}{xs:Array UJ}{k:Nat}{Q:Option UJ->UW->Prop}
  (hx:s.heap.get? a=some o) (hc:o.cls=.type "list") (hdat:o.data=.seq xs k) (hd:o.dict=none) (hA:A.handled=none)
  (h:∀h' tk,(∀b o,s.heap.get? b=some o->h'.get? b=some o)->Q none {s with heap:=h',toks:=tk}):
  UY (model prog w) A (getAttr? (.ref a) "keys") Q E s:=by
 obtain⟨hp,g,d,tk,os⟩:=s;have f1:=sub_AttributeError;unfold getAttr? getAttrBy?;refine U7 (wpAny_mkText ?_);refine U7 (V3 (HS (s:=⟨hp,g,d,tk+1,os⟩) hx hc hdat hd hA λh' tk' e ne=>?_));obtain⟨ob,vs,e1,e2,_⟩:=ne.there;refine U7 (V4 (s:=⟨h',g,d,tk',os⟩) ⟨ob,e1,e2⟩ f1 ?_);exact U6 (h h' tk' ne.keeps)
abbrev Keeps(h0 h:UO):Prop:=∀b o,h0.get? b=some o->h.get? b=some o
section
variable{prog:UL}{w:UK}{A:UV}{E:UJ->UW->Prop}{K:Type}[DecidableEq K]{knd:HeapKind prog w K}{d:UM}{h0:UO}
def DI(knd:HeapKind prog w K)(h0:UO)(d:UM)(h:UO)(xs:List (K×UM×UJ)):Prop:=
 (∃o es ep,h.get? d=some o/\o.ExactDict/\o.data=.dict es ep/\es.toList=xs.map (entryOfKey knd)/\(xs.map (·.1)).Nodup)/\∀x∈xs,∀h,Keeps h0 h->knd.is h x.1 x.2.1
def DI.dict{h:UO}{xs:List (K×UM×UJ)}(x:DI knd h0 d h xs)(k:Keeps h0 h):h.DictOfH knd d xs:=by
 obtain⟨⟨o,es,ep,h1,h2,h3,h4,h5⟩,h6⟩:=x;exact⟨o,es,ep,h1,h2,h3,h4,λy hy=>h6 y hy h k,h5⟩
def DI.stay{h h':UO}{xs:List (K×UM×UJ)}(x:DI knd h0 d h xs)(k:∀o,h.get? d=some o->h'.get? d=some o):DI knd h0 d h' xs:=by
 obtain⟨⟨o,es,ep,h1,r⟩,h6⟩:=x;exact⟨⟨o,es,ep,k o h1,r⟩,h6⟩
def mem_storedH{xs:List (K×UM×UJ)}{k:K}{a:UM}{v:UJ}{x:K×UM×UJ}(h:x∈storedH xs k a v):(∃y∈xs,y.1=x.1/\y.2.1=x.2.1)\/(x.1=k/\x.2.1=a):=by
 unfold storedH at h;split at h
 ·obtain⟨y,hy,rfl⟩:=List.mem_map.mp h;refine .inl ⟨y,hy,?_⟩;unfold putAt;split<;>exact⟨rfl,rfl⟩
 ·rcases List.mem_append.mp h with z|z
  ·exact .inl ⟨x,z,rfl,rfl⟩
  ·rw[SK]at z;subst z;exact .inr ⟨rfl,rfl⟩
def DI.put{h h':UO}{xs:List (K×UM×UJ)}{k:K}{a:UM}{v:UJ}(x:DI knd h0 d h xs)(hk:∀h,Keeps h0 h->knd.is h k a)(dd:h'.DictOfH knd d (storedH xs k a v)):DI knd h0 d h' (storedH xs k a v):=by
 obtain⟨o,es,ep,h1,h2,h3,h4,_,h5⟩:=dd;refine⟨⟨o,es,ep,h1,h2,h3,h4,h5⟩,λy hy g kg=>?_⟩;rcases mem_storedH hy with⟨z,hz,e1,e2⟩|⟨e1,e2⟩
 ·rw[<-e1,<-e2];exact x.2 z hz g kg
 ·rw[e1,e2];exact hk g kg
def zL(xs:List (K×UM×UJ))(k:K)(a:UM)(v:UJ):(storedH xs k a v).length<=xs.length+1:=by
 unfold storedH;split
 ·rw[Q1];omega
 ·simp
def yQ:entryFor table "dict.update.loop"=some Builtin.«dict.update.loop»:=entryFor_of_tree (by kernel_rfl)
def qi:plainId "dict.update.loop"=true:=by decide +kernel
def CJ{R:Vi->UW->Prop}{I:UM}{fp wr:List UM}{P:Nat->UJ->Prop}{St:Nat->UO->Prop}{L:List (K×UM×UJ)}(W:Walks prog w A.in1 I fp wr L.length P St)(hwr:∀b∈wr,h0.get? b=none)(hdn:h0.get? d=none)(hdf:d∉fp)
  (hn:L.length<=UP) (hu:knd.room A.in1) (hP:∀i v,P i v->∃x t,L[i]?=some x/\v=.ref t/\∀h,Keeps h0 h->h.IsTuple t #[.ref x.2.1,x.2.2]) (hK:∀x∈L,∀h,Keeps h0 h->knd.is h x.1 x.2.1) (res:UJ):
  ∀(m i:Nat)(s:UW)(xs:List (K×UM×UJ))(j:Int)(u:Tok),i+m=L.length->St i s.heap->Keeps h0 s.heap->DI knd h0 d s.heap xs->xs.length<=i->
  (∀h' tk,Keeps h0 h'->DI knd h0 d h' ((L.drop i).foldl (λxs x=>storedH xs x.1 x.2.1 x.2.2) xs)->R (.ok (.ret res)) {s with heap:=h',toks:=tk})->
  Vj (model prog w) A (.builtin "dict.update.loop" ⟨[.ref d,.ref I,.int j u,res],[]⟩) R s:=by
 have hdw:d∉wr:=λh=>hdf (W.sub _ h);intro m
 induction m with
 |zero=>
  intro i s xs j u hi st kp di hl hR;have hin:i=L.length:=by omega
  subst hin;refine Wd yQ ?_;rw[Around.under_plainId qi _];show UY _ A.in1 (pyNext (.ref I) >>= _) _ _ s;refine U7 (W.done s _ _ st λh' tk hk=>?_);refine U7 (U6 (U6 ?_))
  have:=hR h' tk (λb o q=>hk b o (λz=>by have:=hwr b z;rw[q]at this;cases this) (kp b o q)) (by
   rw[R1,List.foldl_nil];exact di.stay λo q=>hk d o hdw q)
  exact this
 |succ m ih=>
  intro i s xs j u hi st kp di hl hR;refine Wd yQ ?_;rw[Around.under_plainId qi _];show UY _ A.in1 (pyNext (.ref I) >>= _) _ _ s;refine U7 (W.item i s _ _ ‹0› st λv h' tk hv st' hk=>?_);obtain⟨x,t,hx,rfl,ht⟩:=hP i v hv;have kp':Keeps h0 h':=λb o q=>hk b o (λz=>by have:=hwr b z;rw[q]at this;cases this) (kp b o q);obtain⟨o,ho,hc,n,hd⟩:=ht h' kp';have xm:x∈L:=Rf hx;refine U7 (VD (U7 (We ?_)));unfold Builtin.Dict.pairItems;refine U7 (VG (T:="tuple") ⟨o,ho,hc⟩ ?_);rw[if_pos (by decide)];refine U7 (VQ ho hd (U6 ?_));show UY _ _ (holding [.ref x.2.1,x.2.2] (dictSet d (.ref x.2.1) x.2.2)) _ _ _;have di':DI knd h0 d h' xs:=di.stay λo q=>hk d o hdw q;refine VD (wpAny_dictSet_heap (s:={s with heap:=h',toks:=tk}) (hsz:=by omega) hu (hK x xm h' kp') (di'.dict kp') λh2 dd sb=>?_);have kp2:Keeps h0 h2:=λb o q=>(sb.2 b (λz=>by rw[z,hdn]at q;cases q)).trans (kp' b o q);refine U6 ⟨Wg qi _,?_⟩;refine ih (i+1) _ (storedH xs x.1 x.2.1 x.2.2) (j+1) 0 ‹0› (W.frame _ _ _ st' λb hb o q=>(sb.2 b (λz=>hdf (by rw[<-z];exact hb))).trans q) kp2 (di'.put (hK x xm) dd) (by have:=zL xs x.1 x.2.1 x.2.2;omega) λh3 tk3 kp3 di3=>?_;refine hR h3 tk3 kp3 ?_;have e:L.drop i=x::L.drop (i+1):=by
   have hil:i<L.length:=(by omega);rw[RY hil];rw[RJ hil]at hx;rw[Option.some.inj hx]
  rw[e,Sq];exact di3
def nO{s:UW}{Q:UJ->UW->Prop}{l:UM}{o:Obj}{items:Array UJ}{n:Nat}{L:List (K×UM×UJ)}(ho:s.heap.get? l=some o)(hc:o.cls=.type "list")(hd:o.data=.seq items n)(hdd:o.dict=none)(hh:A.handled=none)(hu:knd.room A.in1.in1)
  (hl:items.size=L.length) (hn:L.length<=UP) (hP:∀(i:Nat) v,items[i]?=some v->∃x t,L[i]?=some x/\v=.ref t/\s.heap.IsTuple t #[.ref x.2.1,x.2.2]) (hK:∀x∈L,∀h,Keeps s.heap h->knd.is h x.1 x.2.1)
  (hQ:∀h' tk,Keeps s.heap h'->DI knd s.heap s.heap.objs.size h' (L.foldl (λxs x=>storedH xs x.1 x.2.1 x.2.2) [])->Q (.ref s.heap.objs.size) {s with heap:=h',toks:=tk}):
  UY (model prog w) A (call (.type "dict") [.ref l]) Q E s:=by
 refine callType_codes (Q₁:=λobj s₁=>obj=.ref s.heap.objs.size/\s₁={s with heap:=s.heap.push {cls:=.type "dict",data:=.dict #[]}}) F.kt_called_dict (F.kt_typeCall_dict_1 _) F.entry_dict_init (kt_code_dict_new _ ⟨rfl,rfl⟩) ?_;rintro obj s₁ ⟨rfl,rfl⟩;have hnew:(s.heap.push {cls:=.type "dict",data:=.dict #[]}).DictOfH knd s.heap.objs.size []:=Heap.DictOfH.new s.heap;have hlt:=Ub ho;have hl1:(s.heap.push {cls:=.type "dict",data:=.dict #[]}).get? l=some o:=Ue _ ho;refine⟨hnew.typeIs,F.args_dict_init_2 _ _,?_⟩;unfold Builtin.«dict.__init__»;refine U7 ?_;unfold Builtin.Dict.selfAndRest;refine U7 (Wi hnew.typeIs ?_);show UY _ _ (pure (s.heap.objs.size,[Value.ref l])) _ _ _;refine U6 ?_;show UY _ _ (Builtin.Dict.updateFrom "dict.__init__" s.heap.objs.size (.ref l) [] .none) _ _ _;unfold Builtin.Dict.updateFrom;refine U7 (VG (T:="list") ⟨o,hl1,hc⟩ ?_);rw[if_pos (by decide)];refine U7 (IM hl1 hc hd hdd hh λh1 tk1 k1=>?_);rw[if_pos (show(none:Option UJ).isNone=true from rfl)];refine U7 (VN ?_);have hd1:h1.get? s.heap.objs.size=some {cls:=.type "dict",data:=.dict #[]}:=k1 _ _ (Ug _ rfl);have hl2:h1.IsList l items:=⟨o,k1 _ _ hl1,hc,n,hd⟩
 have dlt:=Ub hd1;refine U7 (U9 (s:={s with heap:=h1,toks:=tk1}) hl2 ?_);refine U6 ⟨Wg qi _,?_⟩;have W:=Walks.list (prog:=prog) (w:=w) (A:=A.in1.in1) hh h1.objs.size l (QJ (Ru hlt dlt)) items;rw[hl]at W;refine CJ (A:=A.in1) (knd:=knd) (h0:=s.heap) (d:=s.heap.objs.size) W (λb hb=>?_) (Uc (QT _)) (λz=>?_) hn hu (λi v hv=>?_) hK .none L.length 0 _ [] 0 0 ‹0› ?_ (λb o q=>?_) ⟨⟨_,#[],0,Ue _ hd1,⟨rfl,rfl,rfl⟩,rfl,rfl,Rv⟩,λx hx=>by simp at hx⟩ (QT _) λh' tk kp di=>?_
 ·rw[SK]at hb;subst hb;exact Uc (QL dlt)
 ·simp only[R3,R4,or_false]at z;rcases z with z|z
  ·exact absurd z (QJ dlt)
  ·exact absurd z.symm (QJ hlt)
 ·obtain⟨x,t,e1,e2,e3⟩:=hP i v hv;obtain⟨ob,q1,q2⟩:=e3;exact⟨x,t,e1,e2,λh kh=>⟨ob,kh _ _ q1,q2⟩⟩
 ·exact⟨⟨_,Ug _ rfl,rfl,rfl⟩,let ⟨ob,q1,q2⟩:=hl2;⟨ob,Ue _ q1,q2⟩⟩
 ·exact Ue _ (k1 _ _ (Ue _ q))
 ·exact⟨rfl,hQ h' tk kp di⟩
end
def zI:D->Option (List Key×D)
 |.tup [k,v]=>(jS k).map λq=>(q,v)
 |_=>none
def i5:List D->Option (List (List Key×D))
 |[]=>some []
 |d::r=>(zI d).bind λp=>(i5 r).map (p::·)
def vQ(ps:List (List Key×D)):List (List Key×D):=ps.foldl (λal p=>jb al p.1 p.2) []
def xI:List D->Option D
 |[.lst xs]=>(i5 xs).bind λps=>if small ps.length then some (dB (vQ ps))else none
 |_=>none
def GI{d:D}{p:List Key×D}(h:zI d=some p):d=.tup [.tup (p.1.map bx),p.2]:=by
 unfold zI at h;split at h
 ·rename_i k v;cases e:jS k with
  |none=>rw[e]at h;cases h
  |some q=>rw[e]at h;cases h;rw[oj e]
 ·cases h
def qK:∀{xs:List D}{ps:List (List Key×D)},i5 xs=some ps->xs=ps.map λp=>.tup [.tup (p.1.map bx),p.2]
 |[],_,h=>by cases h;rfl
 |d::r,ps,h=>by
  unfold i5 at h;cases e1:zI d with
  |none=>rw[e1]at h;cases h
  |some p=>
   rw[e1]at h;cases e2:i5 r with
   |none=>rw[e2]at h;cases h
   |some ps'=>rw[e2]at h;cases h;rw[GI e1,qK e2];rfl
section
variable{X:Cx}
def qR{pins:List (UM×Obj)}{σ:St}{H:Hp}{s:UW}{O:List UM}(I:L2.Inv X pins σ H s):∀{ps:List (List Key×D)}{ws:List V}{its:List UJ},bb X.K (hid H O) (ps.map λp=>.tup [.tup (p.1.map bx),p.2]) ws->Vals ws its->
  ∃(L:List (List Key×UM×UJ))(ks:List (List Key×V)),its.length=L.length/\(∀(i:Nat)(v:UJ),its[i]?=some v->∃(x:List Key×UM×UJ)(t:UM),L[i]?=some x/\v=.ref t/\s.heap.IsTuple t #[.ref x.2.1,x.2.2])/\KT H ks L/\ks.map (·.1)=ps.map (·.1)/\bb X.K (hid H O) (ps.map (·.2)) (ks.map (·.2))
 |[],ws,its,h,r=>by
  rw[Ro,cI]at h;subst h;cases r;exact⟨[],[],rfl,(λi v e=>by simp at e),.nil,rfl,cI.mpr rfl⟩
 |p::ps,ws,its,h,r=>by
  rw[Q0,bo]at h;obtain⟨w,ws',rfl,h1,h2⟩:=h;cases r with
  |@cons _ u _ us ru rr=>
   obtain⟨L,ks,l1,l2,l3,l4,l5⟩:=qR I h2 rr;obtain⟨t,vs,rfl,t1,t2⟩:=cK.mp h1;obtain⟨v1,v2,rfl,d1,d2⟩:=t2.two;obtain⟨a,ks1,rfl,a1,a2⟩:=cK.mp d1;rw[jw a2]at a1;obtain⟨its',r',⟨o,q1,q2⟩,_⟩:=I.tuple (bU (K:=X.K) (aB H O) t1);obtain⟨x1,x2,rfl,rx1,rx2⟩:=vals2 r';cases rx1;obtain rfl:u=Value.ref t:=ru;refine⟨(p.1,a,x2)::L,(p.1,v2)::ks,by rw[QZ,QZ,l1],λi v e=>?_,.cons ⟨rfl,(aB H O) _ _ a1,rx2⟩ l3,by rw[Q0,Q0,l4],bo.mpr ⟨v2,_,rfl,d2,l5⟩⟩;cases i with
   |zero=>
    have e:Value.ref t=v:=(by simpa using e);subst e;exact⟨_,t,rfl,rfl,o,q1,q2⟩
   |succ i=>exact l2 i v (by simpa using e)
def uF{K:Tt}{H:Hp}{H0:Hp}:∀{ps:List (List Key×D)}{ks:List (List Key×V)}{L:List (List Key×UM×UJ)}{al:List (List Key×D)}{kvs:List (List Key×V)}{xs:List (List Key×UM×UJ)},KT H ks L->ks.map (·.1)=ps.map (·.1)->bb K H0 (ps.map (·.2)) (ks.map (·.2))->
  KT H kvs xs->kvs.map (·.1)=al.map (·.1)->bb K H0 (al.map (·.2)) (kvs.map (·.2))->
  KT H (ks.foldl (λm p=>putK m p.1 p.2) kvs) (L.foldl (λxs x=>storedH xs x.1 x.2.1 x.2.2) xs)/\(ks.foldl (λm p=>putK m p.1 p.2) kvs).map (·.1)=(ps.foldl (λal p=>jb al p.1 p.2) al).map (·.1)/\
   bb K H0 ((ps.foldl (λal p=>jb al p.1 p.2) al).map (·.2)) ((ks.foldl (λm p=>putK m p.1 p.2) kvs).map (·.2))/\(ks.foldl (λm p=>putK m p.1 p.2) kvs).length<=kvs.length+ks.length
 |[],[],_,al,kvs,xs,.nil,_,_,h1,h2,h3=>⟨h1,h2,h3,by simp⟩
 |p::ps,q::ks,_,al,kvs,xs,.cons (b:=x) hq hr,e,d,h1,h2,h3=>by
  rw[Q0,Q0]at e;injection e with e1 e2;rw[Q0,Q0,bo]at d;obtain⟨v,vs,d0,d1,d2⟩:=d;injection d0 with d0 d0';subst d0 d0';obtain⟨y1,y2,y3⟩:=hq;have z1:=KT.put h1 q.1 y2 y3;rw[y1]at z1;have z2:=zR h2 q.1 q.2 p.2;have z3:=Cz (k:=q.1) d1 h2 h3
  have:=uF (kvs:=putK kvs q.1 q.2) (al:=jb al q.1 p.2) (xs:=storedH xs x.1 x.2.1 x.2.2) hr e2 d2 (by rw[y1];exact z1) z2 z3
  rw[Sq,Sq,Sq,<-e1];refine⟨this.1,this.2.1,this.2.2.1,QK this.2.2.2 ?_⟩
  have:=kr kvs q.1 q.2
  rw[QZ];omega
 |[],_::_,_,_,_,_,_,e,_,_,_,_=>by cases e
 |_::_,[],_,_,_,_,_,e,_,_,_,_=>by cases e
def Be(hc:X.calm=true)(hu:X.A.units+64<Vo):dY X (.type "dict") (yd X.K xI):=by
 intro pins s σ H xs us Q I r ⟨O,ds,d,hO,hd,hg,q⟩;unfold xI at hg;split at hg
 ·rename_i ys;cases hp:i5 ys with
  |none=>rw[hp]at hg;cases hg
  |some ps=>
   rw[hp]at hg;obtain⟨sm,rfl⟩:=bI (show(if small ps.length then some (dB (vQ ps))else none)=some d from hg);obtain⟨v,rfl,h1⟩:=hd.one;obtain⟨p,ws,rfl,g1,g2⟩:=cT.mp h1;obtain⟨u,rfl,ru⟩:=vals1 r;cases ru;obtain⟨its,rv,⟨o,n,ho,hcl,hd',hdd⟩,hz⟩:=I.list ((aB H O).seq g1);rw[qK hp]at g2;obtain⟨L,ks,l1,l2,l3,l4,l5⟩:=qR I g2 rv;have kl:ks.length=ps.length:=(by have:=congrArg List.length l4;simpa using this);have ll:ks.length=L.length:=Paired.length l3;have key:∀{ks:List (List Key×V)}{L:List (List Key×UM×UJ)},KT H ks L->∀x∈L,∀h,Keeps s.heap h->(tupleKind (bY X.prog X.w)).is h x.1 x.2.1:=λ{ks L} kt=>by
    induction kt with
    |nil=>intro x hx;cases hx
    |cons hq _ ih=>
     intro x hx h kh;rcases List.mem_cons.mp hx with z|z
     ·subst z;obtain⟨e1,e2,_⟩:=hq;rw[e1]at e2;obtain⟨o,xs,n,k1,k2⟩:=o6 I.hok e2;exact⟨o,xs,n,kh _ _ k1,k2⟩
     ·exact ih x z h kh
   obtain⟨f1,f2,f3,f4⟩:=uF (K:=X.K) (H:=H) (H0:=hid H O) (al:=[]) (kvs:=[]) (xs:=[]) l3 l4 l5 .nil rfl (cI.mpr rfl);have hsz:ps.length<=100000:=of_decide_eq_true sm;have sl:UP=16777216:=Vh;refine nO (knd:=tupleKind (bY X.prog X.w)) (L:=L) ho hcl hdd hd' (I.ok.hd hc) (VL (by rw[in1_units];omega)) (by simpa using l1) ‹0› (λi v e=>l2 i v (by simpa using e)) (key l3) λh' tk kp di=>?_;have hf:=I.hok.fresh (QT s.heap.objs.size);obtain⟨⟨od,es,ep,k1,k2,k3,k4,k5⟩,_⟩:=di;have kt':KT (upd H s.heap.objs.size (.dT (ks.foldl (λm p=>putK m p.1 p.2) []))) (ks.foldl (λm p=>putK m p.1 p.2) []) (L.foldl (λxs x=>storedH xs x.1 x.2.1 x.2.2) []):=KT.keeps f1 λb ys eb=>by rw[aD (λz=>by rw[z,hf]at eb;cases eb)];exact eb
   refine⟨.ref s.heap.objs.size,_,I.laid (t':=tk) kp (QT _) (show cH X.prog X.w _ h' _ (.dT (ks.foldl (λm p=>putK m p.1 p.2) []))from⟨by simp only[Rr]at f4;omega,beq_eq_false_iff_ne.mpr (Ne.symm (QJ I.big)),_,kt',od,es,ep,k1,k2,k3,k4,k5⟩),rfl,?_⟩;refine q _ _ (bL hf _) ?_;have pO:=hO.not hf;refine Nw.mpr ⟨s.heap.objs.size,_,rfl,f3.mono (sF hf),.inr (.inl ⟨_,by rw[i7 pO];exact aX,uq f2,rfl⟩)⟩
 ·cases hg
end
def qW(al:List (List Key×D))(q:List Key):Option D:=(al.find? λp=>decide (p.1=q)).map (·.2)
def MU(ks ds:List D)(k x:D):Option D:=(kH ks ds).bind λal=>(jS k).bind λq=>some ((qW al q).getD x)
def OT(fo fk fx:FX):FX:=λρ=>(fo ρ).bind λdd=>match dd with
 |.dct ks ds=>(fk ρ).bind λk=>(fx ρ).bind λx=>rO (MU ks ds k x)
 |_=>un
def za{K:Tt}{H:Hp}{v:V}{al:List (List Key×D)}(h:cJ K H (dB al) v):
  ∃a,v=.ref a/\((∃kvs:List (List Key×V),H a=some (.dT kvs)/\kvs.map (·.1)=al.map (·.1)/\bb K H (al.map (·.2)) (kvs.map (·.2)))\/(H a=some (.dK [])/\al=[])):=by
 obtain⟨a,vs,e0,h2,h3⟩:=Nw.mp h;refine⟨a,e0,?_⟩;rcases h3 with⟨kvs,e,e1,e2⟩|⟨kvs,e,e1,e2⟩|⟨kvs,o,e,e1,e2⟩
 rotate_left 2
 ·cases al with
  |nil=>cases e1
  |cons _ _=>injection e1 with e1 _;cases e1
 ·cases kvs with
  |nil=>exact .inr ⟨e,by simpa using e1⟩
  |cons p r=>
   cases al with
   |nil=>cases e1
   |cons q r'=>
    have e1:D.tup (q.1.map bx)::encK r'=bx p.1::r.map (λp=>bx p.1):=e1;injection e1 with e1 _;rcases p with⟨k,v⟩
    cases k<;>cases e1
 ·refine .inl ⟨kvs,e,?_,by rw[<-e2];exact h2⟩;exact(mZ (ks:=kvs.map (·.1)) (by rw[SD];exact e1)).symm
def zh{K:Tt}{H:Hp}(q:List Key):∀{kvs:List (List Key×V)}{al:List (List Key×D)},kvs.map (·.1)=al.map (·.1)->bb K H (al.map (·.2)) (kvs.map (·.2))->(jN kvs q=none/\qW al q=none)\/∃v d,jN kvs q=some v/\qW al q=some d/\cJ K H d v
 |[],[],_,_=>.inl ⟨rfl,rfl⟩
 |p::r,a::al,e,h=>by
  rw[Q0,Q0]at e;injection e with e1 e2;rw[Q0,Q0,bo]at h;obtain⟨v,ws,h0,h1,h2⟩:=h;injection h0 with h0 h0';subst h0 h0';by_cases z:p.1=q
  ·refine .inr ⟨p.2,a.2,kQ z,?_,h1⟩;unfold qW;rw[SR (by rw[<-e1];simpa using z)];rfl
  ·have ih:=zh q e2 h2;have g:qW (a::al) q=qW al q:=by
    unfold qW;rw[SU (by rw[<-e1];simpa using z)]
   rw[jI z,g];exact ih
 |[],_::_,e,_=>by cases e
 |_::_,[],e,_=>by cases e
def xl(x y:D):Option D:=match y with
 |.dct ks ds=>(wY ks ds x).bind GN
 |_=>none
section
variable{X:Cx}
def Dg(hu:X.A.units+64<Vo):kn X (Ve .NotIn) (rD X.K xl):=by
 intro pins s σ H x y u v Q I rx ry ⟨O,a,b,d,hO,ha,hb,hg,q⟩;cases b with
 |dct ks ds=>
  have hg:(wY ks ds a).bind GN=some d:=hg;cases e0:wY ks ds a with
  |none=>rw[e0]at hg;cases hg
  |some d0=>
  rw[e0]at hg;obtain⟨al,qk,f1,f2,f3,f4⟩:=Bo e0;subst f1 f2 f3 f4;cases hg;obtain⟨p,ey,hh⟩:=za hb;obtain⟨c,ws,ex,g1,g2⟩:=cK.mp ha;rw[jw g2]at g1;have g1':=(aB H O) _ _ g1;subst ex ey;cases ry;rcases hh with⟨kvs,k1,k2,k3⟩|⟨k1,rfl⟩
  ·have hv:=Ff k2 qk;rw[Sj]at hv;refine BF ‹0› I (GQ.t ((aB H O) _ _ k1) g1') rx λs3 I3=>⟨.bl (!(jN kvs qk).isSome),H,I3,rfl,q _ H (bj.refl H) (lY.mpr ?_)⟩
   rw[hv];rfl
  ·have k1':=(aB H O) _ _ k1;have ne:c≠p:=λz=>by rw[z,k1']at g1';cases g1'
   refine BF (o:=jN [] qk) ‹0› (Eu I k1') (GQ.t aX (by rw[aD ne];exact g1')) rx λs3 I4=>⟨.bl true,H,?_,rfl,q _ H (bj.refl H) (lY.mpr rfl)⟩
   have I5:=Ma I4 aX;rw[Gp k1']at I5;exact I5
 |_=>cases hg
end
end TG
namespace TG
open PySem PySem.Spec L2
variable[aU]
end TG
namespace TG
open PySem PySem.Spec L2
variable[aU]
end TG
namespace TG
open PySem PySem.Spec L2
variable[aU]
end TG
namespace TG
open PySem PySem.Spec PySem.Calls L2
section
variable{prog:UL}{w:UK}{K:Type}[DecidableEq K]{knd:HeapKind prog w K}{A:UV}{E:UJ->UW->Prop}{s:UW}{d a:UM}{k:K}{xs:List (K×UM×UJ)}
def zt{v:UJ}{Q:UJ->UW->Prop}(hu:knd.room A)(hkey:knd.is s.heap k a)(hm:s.heap.DictOfH knd d xs)(hsz:xs.length<=UP)
  (h1:∀p,atKey xs k=some p->Q p.2 {s with toks:=s.toks+knd.draws k})
  (h2:atKey xs k=none->∀h',h'.DictOfH knd d (storedH xs k a v)->Ud d s.heap h'->Q v {s with heap:=h',toks:=s.toks+knd.draws k}):
  UY (model prog w) A (dictSetDefault d (.ref a) v) Q E s:=by
 obtain⟨o,es,ep,ho,hc,hd,he,his,hn⟩:=hm;unfold dictSetDefault
 try with_reducible refine VD ?_
 refine U7 (knd.pyHash hu hkey (U7 (wpAny_dictFind_heap (s:={s with toks:=s.toks+knd.draws k}) hu hkey ho hd he his hn (λhno=>?_) λj p hj=>?_)))
 ·have hnone:=atKey_none_of_get hno;refine U7 (VN (U7 (wpAny_updateDictKeys (hz:=by have e:=size_of_entries he;omega) (s:={s with toks:=s.toks+knd.draws k}) ho hd (U6 (h2 hnone _ ⟨_,_,ep+1,Uj _ ho (Obj.isFreed_of_dict (Obj.data_mapDictKeys hd _)),hc.mapDictKeys _,Obj.data_mapDictKeys hd _,?_,?_,?_⟩ (Heap.SameBut.update ..))))))
  ·rw[storedH_new hnone];simp[he,entryOfKey]
  ·rw[storedH_new hnone];intro x hx;rcases List.mem_append.mp hx with hx|hx
   ·exact knd.keeps (his x hx) ho hd (Heap.SameBut.update ..)
   ·rw[SK]at hx;subst hx;exact knd.keeps hkey ho hd (Heap.SameBut.update ..)
  ·rw[storedH_new hnone,RQ,Sf];refine⟨hn,by simp,λx hx y hy=>?_⟩;simp only[Q0,Ro,SK]at hy;subst hy;exact λe=>not_mem_keys_of_get hno (e ▸ hx)
 ·refine U7 (Wj (s:={s with toks:=s.toks+knd.draws k}) ho hd ?_);rw[entry_at he j,hj];exact U7 (VN (U6 (h1 p (atKey_of_get hn hj))))
def zP{v:UJ}{Q:UJ->UW->Prop}(hu:knd.room A.in1)(hkey:knd.is s.heap k a)(hm:s.heap.DictOfH knd d xs)(hsm:(d==sysModules)=false)(hsz:xs.length<=UP)
  (h1:∀p,atKey xs k=some p->Q p.2 {s with toks:=s.toks+knd.draws k})
  (h2:atKey xs k=none->∀h',h'.DictOfH knd d (storedH xs k a v)->Ud d s.heap h'->Q v {s with heap:=h',toks:=s.toks+knd.draws k}):
  UY (model prog w) A (call (.builtin "dict.setdefault") [.ref d,.ref a,v]) Q E s:=by
 refine VF PySem.F.slot_dict_setdefault hm.typeIs PySem.F.entry_dict_setdefault ?_ (PySem.F.args_dict_setdefault_3 _ _ _);unfold Builtin.«dict.setdefault»;refine U7 ?_;unfold Builtin.Dict.keyAndDefault;refine U7 (Wi hm.typeIs ?_);show UY _ _ (pure (d,Value.ref a,some v)) _ _ s;refine U6 ?_;show UY _ _ (if(d==sysModules)=true then _ else(dictSetDefault d (.ref a) v >>= _)) _ _ s;rw[if_neg (by rw[hsm];exact QY)];exact U7 (zt hu hkey hm hsz (λp hp=>U6 ⟨_,rfl,h1 p hp⟩) λhn h' hm' hs'=>U6 ⟨_,rfl,h2 hn h' hm' hs'⟩)
end
def DP{o:Option V}{w:UJ}(h:ua o (some w)):∃v,o=some v/\RelV v w:=by
 cases o with
 |none=>exact h.elim
 |some v=>exact⟨v,rfl,h⟩
def DV{o:Option V}(h:ua o none):o=none:=by
 cases o with
 |none=>rfl
 |some v=>exact h.elim
section
variable{X:Cx}{pins:List (UM×Obj)}{σ:St}{H:Hp}{s:UW}{a b:UM}{v:V}{r:UJ}{kvs:List (List Key×V)}{k:List Key}{A:UV}{E:UJ->UW->Prop}
def yC{Q:UJ->UW->Prop}(hu:A.units+1<Vo)(I:Inv X pins σ H s)(e:H a=some (.dT kvs))(eb:H b=some (.tup (k.map kV)))(hl:kvs.length<UP)(rv:RelV v r)
  (h1:∀v' w' s',jN kvs k=some v'->Inv X pins σ H s'->RelV v' w'->Q w' s') (h2:jN kvs k=none->∀s',Inv X pins σ (upd H a (.dT (putK kvs k v))) s'->Q r s'):
  UY (model X.prog X.w) A (call (.builtin "dict.setdefault") [.ref a,.ref b,r]) Q E s:=by
 obtain⟨z,hd,xs,rel,dd⟩:=JM I.hok e;have hz:xs.length<=UP:=by rw[<-Paired.length rel];exact z
 have hl2:(putK kvs k v).length<=UP:=by have:=kr kvs k v;omega
 have q:=rel.val k;refine zP (VL hu) (o6 I.hok eb) dd hd hz (λp hp=>?_) λhn h' dd' hs=>?_
 ·rw[hp]at q;obtain⟨v',ev,rv'⟩:=DP q;exact h1 v' _ _ ev (I.tok _) rv'
 ·rw[hn]at q;refine h2 (DV q) _ ?_;obtain⟨q,es,ep,hq,g2,g3,g4,_,g5⟩:=dd';refine oo I (by rw[e];exact True.intro) hs ⟨q,hq⟩ ⟨hl2,hd,_,(rel.put k eb rv).keeps λc ys ec=>?_,q,es,ep,hq,g2,g3,g4,g5⟩;rw[aD (E6 ec e (λz=>nomatch z))];exact ec
end
variable[aU]
def L6:V->List V->Hp->VK->Prop:=λx vs H Q=>∃a b k kvs v,x=.ref a/\vs=[.ref b,v]/\H b=some (.tup (k.map kV))/\(H a=some (.dT kvs)\/(H a=some (.dK [])/\kvs=[]))/\kvs.length<UP/\(∀v',jN kvs k=some v'->Q v' H)/\(jN kvs k=none->Q v (upd H a (.dT (putK kvs k v))))
def HC{X:Cx}(hu:X.A.units+64<Vo):Mj X "dict.setdefault" L6:=by
 intro pins s σ H x vs v us Q I rx rv h;obtain⟨a,b,k,kvs,v',rfl,rfl,hb,ha,hl,h1,h2⟩:=h;cases rx;obtain⟨u1,u,rfl,r1,ru⟩:=rv.two;obtain rfl:u1=Value.ref b:=r1;rcases ha with ha|⟨ha,rfl⟩
 ·exact yC ‹0› I ha hb hl ru (λv1 w1 s1 e I1 r=>⟨v1,H,I1,r,h1 v1 e⟩) λe s1 I1=>⟨v',_,I1,ru,h2 e⟩
 ·have ne:b≠a:=λz=>by rw[z,ha]at hb;cases hb
  refine yC ‹0› (Eu I ha) aX (by rw[aD ne];exact hb) hl ru (λv1 w1 s1 e=>by cases e) λe s1 I1=>⟨v',_,?_,ru,h2 e⟩
  rw[uc]at I1;exact I1
end TG
namespace TG
open PySem PySem.Spec L2
variable[aU]
def e8.setN{K:Tt}{Hb:Hp}{Ob O O':List UM}{H H':Hp}{ρ:aq}{σ:St}(S:e8 K Hb Ob O H ρ σ){i:Nat}{d d':D}(hi:ρ[i]?=some (some (.nest d)))(sub:∀b∈O,b∈O')(s:bj (hid H O) (hid H' O'))(hb:Base Hb Ob H' O')(all:dS H' O')
  (keep:∀(j:Nat) xs b,ρ[j]?=some (some (.own xs))->σ[j]?=some (some (.ref b))->H b=H' b) (new:Cu K Hb Ob O' H' (ρ.set i (some (.nest d'))) σ i d'):e8 K Hb Ob O' H' (ρ.set i (some (.nest d'))) σ:=by
 have own:∀(j:Nat) xs,(ρ.set i (some (.nest d')))[j]?=some (some (.own xs))->ρ[j]?=some (some (.own xs)):=λj xs e=>by
  rcases bh e with⟨_,q⟩|⟨_,q⟩
  ·cases q
  ·exact q
 refine⟨⟨λj d1 e=>?_,λj xs e=>?_,λj l xs ys a e1 e2 e3 e4=>S.env.one j l xs ys a (own j xs e1) (own l ys e2) e3 e4,all⟩,hb,λj xs a e1 e2=>S.mine j xs a (own j xs e1) e2,λj dn e=>?_⟩
 ·rcases bh e with⟨_,q⟩|⟨_,q⟩
  ·cases q
  ·obtain⟨v,q1,q2⟩:=S.env.val j d1 q;exact⟨v,q1,q2.mono s⟩
 ·obtain⟨a,q1,q2,q3⟩:=S.env.own j xs (own j xs e);exact⟨a,q1,sub a q2,q3.mono (keep j xs a (own j xs e) q1) s⟩
 ·rcases bh e with⟨hj,q⟩|⟨ne,q⟩
  ·cases q;rw[hj];exact new
  ·obtain⟨_,_,_,_,_,_,one⟩:=S.nst i d hi;exact absurd (one j dn q) ne
def My:aq->Bool
 |[]=>true
 |some (.nest _)::_=>false
 |_::ρ=>My ρ
def pN:∀{ρ:aq},My ρ=true->∀(j:Nat) d,ρ[j]?≠some (some (.nest d))
 |[],_,j,d,e=>by simp at e
 |none::ρ,h,j,d,e=>by
  cases j with
  |zero=>simp at e
  |succ j=>exact pN (ρ:=ρ) h j d (by simpa using e)
 |some (.val _)::ρ,h,j,d,e=>by
  cases j with
  |zero=>simp at e
  |succ j=>exact pN (ρ:=ρ) h j d (by simpa using e)
 |some (.own _)::ρ,h,j,d,e=>by
  cases j with
  |zero=>simp at e
  |succ j=>exact pN (ρ:=ρ) h j d (by simpa using e)
 |some (.nest _)::ρ,h,j,d,e=>by cases h
def e8.setNewN{K:Tt}{Hb:Hp}{Ob O:List UM}{H H':Hp}{ρ:aq}{σ:St}(E:e8 K Hb Ob O H ρ σ){i:Nat}{p:UM}(hi:i<σ.length)(sm:bj H H')(hp:H p=none)(m:∃o,H' p=some o/\sy o)(hn:My ρ=true)(new:dG K H' (p::O) p (.dct [] [])):
  e8 K Hb Ob (p::O) H' (ρ.set i (some (.nest (.dct [] [])))) (σ.set i (some (.ref p))):=by
 have T:=E.setNew hi sm hp m new;have key:∀(j:Nat)(x:S),(ρ.set i (some (.nest (.dct [] []))))[j]?=some (some x)->(j=i/\x=.nest (.dct [] []))\/(j≠i/\(ρ.set i (some (.own (.dct [] []))))[j]?=some (some x)):=λj x e=>by
  rcases bh e with⟨hj,q⟩|⟨ne,q⟩
  ·cases q;exact .inl ⟨hj,rfl⟩
  ·exact .inr ⟨ne,by rw[QR (Ne.symm ne)];exact q⟩
 refine⟨⟨λj d e=>?_,λj xs e=>?_,λj l xs ys a e1 e2 e3 e4=>?_,T.env.all⟩,T.base,λj xs a e1 e2=>?_,λj dn e=>?_⟩
 ·rcases key j _ e with⟨_,q⟩|⟨_,q⟩
  ·cases q
  ·exact T.env.val j d q
 ·rcases key j _ e with⟨_,q⟩|⟨_,q⟩
  ·cases q
  ·exact T.env.own j xs q
 ·rcases key j _ e1 with⟨_,q⟩|⟨_,q1⟩
  ·cases q
  ·rcases key l _ e2 with⟨_,q⟩|⟨_,q2⟩
   ·cases q
   ·exact T.env.one j l xs ys a q1 q2 e3 e4
 ·rcases key j _ e1 with⟨_,q⟩|⟨_,q⟩
  ·cases q
  ·exact T.mine j xs a q e2
 ·rcases key j _ e with⟨hj,q⟩|⟨ne,q⟩
  ·cases q;subst hj;refine⟨p,[],QQ hi,⟨[],trivial,?_⟩,by simp,λb hb=>?_,λl d' w=>?_⟩
   ·obtain⟨o,vs,h1,h2,h3⟩:=new;rcases h3 with⟨kvs,e1,e2,_⟩|⟨kvs,e1,e2,_⟩
    ·have:kvs=[]:=(by cases kvs with|nil=>rfl|cons _ _=>cases e2);subst this e1;exact .inr (.inr ⟨rfl,rfl,h1⟩)
    ·have:kvs=[]:=(by cases kvs with|nil=>rfl|cons _ _=>cases e2);subst this e1;exact .inr (.inl ⟨[],rfl,h1,rfl⟩)
   ·rw[List.mem_singleton.mp hb];refine⟨QN,E.base.same.free hp,λz=>E.env.all.not hp (E.base.sub p z),λl d' w z=>?_⟩;rcases key l _ w with⟨_,q⟩|⟨nl,q⟩
    ·cases q
    ·exact nl (T.env.one l j d' (.dct [] []) p q (QQ (by
      have:=(List.getElem?_eq_some_iff.mp e).1
      rw[List.length_set]at this;exact this)) z (QQ hi))
   ·rcases key l _ w with⟨hl,_⟩|⟨nl,q⟩
    ·exact hl
    ·rw[QR (Ne.symm nl)]at q;exact absurd q (pN hn l d')
  ·rw[QR (Ne.symm ne)]at q;exact absurd q (pN hn j dn)
def zg(i:Nat):cm:=λk ρ=>if My ρ then k.nx (ρ.set i (some (.nest (.dct [] []))))else un
section
variable{X:Cx}{pos:Pos}
def Nh{i:Nat}{x:Str}{dp pos':Pos}(hN:X.N.Nodup)(hi:X.N[i]?=some x)(hx:Loc X.env.scope x)(hs:swapsWith (.Dict [] [] dp) (some (.Name x pos')) pos.line X.env=pure false:=by rfl)(hf:X.fn x=true\/X.env.scope.names.lookup x=some .local:=by first|exact .inl rfl|exact .inr rfl|assumption):
  FS X (.Assign [.Name x pos'] (.Dict [] [] dp) pos) (zg i):=λHb Ob pins s σ H E I ⟨O,ρ,k,r,S,hF,hk⟩=>by
 unfold zg at hF;cases hn:My ρ with
 |false=>rw[hn]at hF;exact absurd hF.symm hk.ne
 |true=>
  rw[hn]at hF;exact A3 hN hi hx EC hs hf pins s σ H E I ⟨O,ρ,S.env,λp H1 s1 hp m o=>hk.nx _ _ _ H1 (S.setNewN (by rw[I.len];exact(List.getElem?_eq_some_iff.mp hi).1) s1 hp m hn o) hF⟩
end
def mU.den{K:Tt}{H:Hp}{O O':List UM}(s:bj (hid H O) (hid H O')):∀{bs:List UM}{xs:List D},mU K H O bs xs->(∀b∈bs,b∉O')->bb K (hid H O') xs (bs.map .ref)
 |[],[],_,_=>cI.mpr rfl
 |b::bs,x::xs,h,n=>bo.mpr ⟨_,_,rfl,h.1.den s (n b QN),mU.den s h.2 λb' hb=>n b' (QO _ hb)⟩
 |[],_::_,h,_=>h.elim
 |_::_,[],h,_=>h.elim
end TG
namespace TG
open PySem PySem.Spec L2
variable[aU]
def vd:List (List Key×D)->List Key->D->Option (List (List Key×D))
 |[],q,v=>some [(q,.lst [v])]
 |p::r,q,v=>if p.1=q then(match p.2 with
   |.lst ys=>if small (ys.length+1)then some ((p.1,.lst (ys++[v]))::r)else none
   |_=>none)else(vd r q v).map (p::·)
def yw(ks xs:List D)(k v:D):Option (List (List Key×D)):=(kH ks xs).bind λal=>(jS k).bind λq=>if small al.length then vd al q v else none
def CQ{ks ds:List D}{k v:D}{al':List (List Key×D)}(h:yw ks ds k v=some al'):∃al q,ks=encK al/\ds=al.map (·.2)/\k=.tup (q.map bx)/\small al.length=true/\vd al q v=some al':=by
 unfold yw at h;cases e1:kH ks ds with
 |none=>rw[e1]at h;cases h
 |some al=>
  rw[e1]at h;cases e2:jS k with
  |none=>rw[e2]at h;cases h
  |some q=>
   rw[e2]at h;obtain⟨h3,h4⟩:=wa (show(if small al.length then vd al q v else none)=some al' from h);exact⟨al,q,(jt e1).1,(jt e1).2,oj e2,h3,h4⟩
def mU.imp{K:Tt}{H H':Hp}{O O':List UM}:∀{bs:List UM}{xs:List D},mU K H O bs xs->(∀c∈bs,∀x,dG K H O c x->dG K H' O' c x)->mU K H' O' bs xs
 |[],[],_,_=>trivial
 |b::bs,x::xs,h,f=>⟨f b QN x h.1,mU.imp h.2 λc hc=>f c (QO _ hc)⟩
 |[],_::_,h,_=>h.elim
 |_::_,[],h,_=>h.elim
def mU.snoc{K:Tt}{H:Hp}{O:List UM}{b:UM}{x:D}(hx:dG K H O b x):∀{bs:List UM}{xs:List D},mU K H O bs xs->mU K H O (bs++[b]) (xs++[x])
 |[],[],_=>⟨hx,trivial⟩
 |b'::bs,x'::xs,h=>⟨h.1,mU.snoc hx h.2⟩
 |[],_::_,h=>h.elim
 |_::_,[],h=>h.elim
def xo{K:Tt}{H:Hp}{O:List UM}{q:List Key}{v:D}:∀{al al':List (List Key×D)}{kvs:List (List Key×V)}{bs:List UM},kvs.map (·.1)=al.map (·.1)->kvs.map (·.2)=bs.map .ref->mU K H O bs (al.map (·.2))->bs.Nodup->vd al q v=some al'->
  (∃b ys,jN kvs q=some (.ref b)/\b∈bs/\dG K H O b (.lst ys)/\small (ys.length+1)=true/\al'.map (·.1)=al.map (·.1)/\∀H' O',(∀c∈bs,c≠b->∀x,dG K H O c x->dG K H' O' c x)->dG K H' O' b (.lst (ys++[v]))->mU K H' O' bs (al'.map (·.2))) \/
  (jN kvs q=none/\al'=al++[(q,.lst [v])])
 |[],al',kvs,bs,e1,e2,h,nd,g=>by
  cases kvs with
  |cons _ _=>cases e1
  |nil=>cases g;exact .inr ⟨rfl,rfl⟩
 |p::al,al',kvs,bs,e1,e2,h,nd,g=>by
  cases kvs with
  |nil=>cases e1
  |cons p' kvs=>
   cases bs with
   |nil=>cases e2
   |cons b bs=>
    rw[Q0,Q0]at e1 e2;injection e1 with f1 f2;injection e2 with f3 f4;obtain⟨n1,n2⟩:=List.nodup_cons.mp nd;have h:dG K H O b p.2/\mU K H O bs (al.map (·.2)):=h;unfold vd at g;by_cases eq:p.1=q
    ·rw[if_pos eq]at g;left;split at g
     ·rename_i ys hp;obtain⟨g1,g2⟩:=bI g;subst g2;rw[hp]at h;refine⟨b,ys,by rw[kQ (f1.trans eq),f3],QN,h.1,g1,rfl,λH' O' oth new=>⟨new,h.2.imp λc hc=>oth c (QO _ hc) λz=>n1 (by rw[<-z];exact hc)⟩⟩
     ·cases g
    ·rw[if_neg eq]at g;cases g2:vd al q v with
     |none=>rw[g2]at g;cases g
     |some al2=>
      rw[g2]at g;cases g;rcases xo f2 f4 h.2 n2 g2 with⟨c,ys,w1,w2,w3,w4,w5,w6⟩|⟨w1,w2⟩
      ·refine .inl ⟨c,ys,by rw[jI (by rw[f1];exact eq)];exact w1,QO _ w2,w3,w4,by rw[Q0,Q0,w5],λH' O' oth new=>⟨oth b QN (λz=>n1 (by rw[z];exact w2)) _ h.1,w6 H' O' (λc' hc=>oth c' (QO _ hc)) new⟩⟩
      ·exact .inr ⟨by rw[jI (by rw[f1];exact eq)];exact w1,by rw[w2];rfl⟩
def wq{kvs:List (List Key×V)}{q:List Key}{v:V}(h:jN kvs q=none):putK kvs q v=kvs++[(q,v)]:=by
 unfold putK;rw[tS,h];rfl
def DF(i:Nat)(fk fv:FX):cm:=λk ρ=>match ρ[i]? with
 |some (some (.nest (.dct ks xs)))=>((Ab (fk ρ)).bind λq=>(Ab (fv ρ)).bind λv=>rO (yw ks xs q v)).bind λal=>k.nx (ρ.set i (some (.nest (dB al))))
 |_=>un
def De{i:Nat}{fk fv:FX}{k:Ks}{ρ:aq}{r:R D}(h:DF i fk fv k ρ=r)(hr:r≠un):∃al q v al',ρ[i]?=some (some (.nest (dB al)))/\fk ρ=.ok (.tup (q.map bx))/\fv ρ=.ok v/\small al.length=true/\vd al q v=some al'/\k.nx (ρ.set i (some (.nest (dB al'))))=r:=by
 unfold DF at h;split at h
 ·rename_i ks xs hi;cases e1:fk ρ with
  |error z=>rw[e1]at h;exact absurd h.symm hr
  |ok qd=>
   rw[e1]at h;cases e2:fv ρ with
   |error z=>rw[e2]at h;exact absurd h.symm hr
   |ok v=>
    rw[e2]at h;have h':(rO (yw ks xs qd v)).bind (λal=>k.nx (ρ.set i (some (.nest (dB al)))))=r:=h;clear h;cases e3:yw ks xs qd v with
    |none=>rw[e3]at h';exact absurd h'.symm hr
    |some al'=>
     rw[e3]at h';obtain⟨al,q,f1,f2,f3,f4,f5⟩:=CQ e3;subst f1 f2 f3;exact⟨al,q,v,al',hi,rfl,rfl,f4,f5,h'⟩
 ·exact absurd h.symm hr
def uC{K:Tt}{H:Hp}{O:List UM}{a:UM}{bs:List UM}{al:List (List Key×D)}(h:yi K H O a bs (dB al)):∃kvs:List (List Key×V),(H a=some (.dT kvs)\/(H a=some (.dK [])/\kvs=[]))/\kvs.map (·.1)=al.map (·.1)/\kvs.map (·.2)=bs.map .ref/\mU K H O bs (al.map (·.2)):=by
 obtain⟨xs,h1,h2⟩:=h;rcases h2 with⟨e,_⟩|⟨kvs,e,q,e2⟩|⟨e,e2,q⟩
 ·cases e
 ·injection e with f1 f2;subst f2;refine⟨kvs,.inl q,?_,e2,h1⟩;exact(mZ (ks:=kvs.map (·.1)) (by rw[SD];exact f1)).symm
 ·injection e with f1 f2;subst f2 e2
  have:al=[]:=by
   cases al with
   |nil=>rfl
   |cons _ _=>cases f1
  subst this;exact⟨[],.inr ⟨q,rfl⟩,rfl,rfl,h1⟩
section
variable{X:Cx}
def Pn{i:Nat}{x:Str}{ke ve:UZ}{fk fv:FX}{npos ap1 cp1 lp ap2 cp2 pos:Pos}(hu:X.A.units+64<Vo)(hx:PE X (.Name x npos) (qF i))(hke:FE X ke fk)(hve:FE X ve fv)(hn1:noStar ke=true:=by rfl)(hn2:noStar ve=true:=by rfl)
  (hb1:Vk (.Name x npos) "setdefault" X.env (eval (.Name x npos) X.env)=eval (.Name x npos) X.env:=by rfl)
  (hf1:((backTo cp1 (U0 [ke,.List [] lp] X.env)).all (λx=>!x.1)&&(backToKw cp1 (Vm [] X.env)).all (λx=>x.1.isSome)&&decide (([ke,.List [] lp]:List UZ).length+([]:List Vu).length+(if([]:List Vu).isEmpty then 0 else 1)<30))=true:=by rfl)
  (hl1:(ap1.endLine==cp1.line)=true:=by rfl) (hp1:(backTo cp1 (U0 [.List [] lp] X.env)).any (·.1)=false:=by rfl)
  (hb2:Vk (.Call (.Attribute (.Name x npos) "setdefault" ap1) [ke,.List [] lp] [] cp1) "append" X.env (eval (.Call (.Attribute (.Name x npos) "setdefault" ap1) [ke,.List [] lp] [] cp1) X.env)=eval (.Call (.Attribute (.Name x npos) "setdefault" ap1) [ke,.List [] lp] [] cp1) X.env:=by rfl)
  (hf2:((backTo cp2 (U0 [ve] X.env)).all (λx=>!x.1)&&(backToKw cp2 (Vm [] X.env)).all (λx=>x.1.isSome)&&decide (([ve]:List UZ).length+([]:List Vu).length+(if([]:List Vu).isEmpty then 0 else 1)<30))=true:=by rfl)
  (hl2:(ap2.endLine==cp2.line)=true:=by rfl) (hp2:(backTo cp2 (U0 [] X.env)).any (·.1)=false:=by rfl)
  (hsw:swapsWith (.Call (.Attribute (.Call (.Attribute (.Name x npos) "setdefault" ap1) [ke,.List [] lp] [] cp1) "append" ap2) [ve] [] cp2) none pos.line X.env=pure false:=by rfl):
  FS X (.Expr (.Call (.Attribute (.Call (.Attribute (.Name x npos) "setdefault" ap1) [ke,.List [] lp] [] cp1) "append" ap2) [ve] [] cp2) pos) (DF i fk fv):=λHb Ob pins s σ H E I ⟨O,ρ,k,rr,S,hF,hk⟩=>by
 obtain⟨al,q,v,al',hi,hfk,hfv,hsm,hg,hnx⟩:=De hF hk.ne;obtain⟨a,bs,ha,hat,nd,hbs,one⟩:=S.nst i _ hi;obtain⟨kvs,hH,ek,ev,hO⟩:=uC hat;obtain⟨na,nb⟩:=List.nodup_cons.mp nd;obtain⟨aO,aHb,aOb,aS⟩:=hbs a QN;have hlen:kvs.length<UP:=by
  have:kvs.length=al.length:=by have:=congrArg List.length ek;simpa using this
  rw[this];exact RZ (of_decide_eq_true hsm) (by decide)
 refine xr (BU F.plainAttrs_list F.slot_list_append F.type_list_append eP (BU F.plainAttrs_dict F.slot_dict_setdefault F.type_dict_setdefault (HC hu) hx (km hke (km (AA pD) pD) (cY hn1)) hb1 hf1 hl1 (cY hn1) hp1) (Hs hve JQ hn2) hb2 hf2 hl2 (cY hn2) hp2) hsw pins s σ H E I ?_;refine⟨.ref a,ha,.inr (.inr (.inl ⟨rfl,?_⟩)),O,ρ,S.env,?_⟩
 ·rcases hH with h|⟨h,_⟩
  ·exact .inr ⟨_,h⟩
  ·exact .inl ⟨_,h⟩
 rw[hfk];intro y H1 s1 d1;refine⟨Q3 _,λp hp=>?_⟩;obtain⟨b,ws,eb,g1,g2⟩:=cK.mp d1;rw[jw g2]at g1;have hb1':H1 b=some (.tup (q.map kV)):=(aB H1 O) _ _ g1;have bp:b≠p:=bc hb1' hp;have ap:a≠p:=by
  rcases hH with h|⟨h,_⟩
  ·exact bc (s1 _ _ h) hp
  ·exact bc (s1 _ _ h) hp
 have pHb:Hb p=none:=(S.base.same.trans s1).free hp;have pO:p∉O:=(S.env.all.same s1).not hp;have pOb:p∉Ob:=λz=>pO (S.base.sub p z);have bsp:∀c∈bs,c≠p:=λc hc=>by
  obtain⟨o,ho⟩:=hO.some c hc;exact bc (s1 _ _ ho) hp
 have E2:d9 X.K (p::O) (upd H1 p (.lst [])) ρ σ:=(S.env.same s1).hideNew trivial hp;have sm2:bj (hid H O) (hid (upd H1 p (.lst [])) (p::O)):=(bN s1).trans (tU hp);have sH2:bj H (upd H1 p (.lst [])):=s1.trans (bL hp _);have pS:∀(j:Nat) d',ρ[j]?=some (some (.own d'))->σ[j]?≠some (some (.ref p)):=λj d' w z=>by
  obtain⟨c,e1,e2,_⟩:=S.env.own j d' w;rw[z]at e1;cases e1;exact pO e2
 have fin:∀(H3:Hp)(l:UM)(wl:List V)(ys:List D)(bs':List UM)(kvs':List (List Key×V)),d9 X.K (p::O) H3 ρ σ->bj (hid (upd H1 p (.lst [])) (p::O)) (hid H3 (p::O))->(∀c o,c≠a->(upd H1 p (.lst [])) c=some o->H3 c=some o)->l∈bs'->l≠a->H3 l=some (.lst wl)->bb X.K (hid H3 (p::O)) ys wl->ys.length+1<=100000->
   (H3 a=some (.dT kvs'))->kvs'.map (·.1)=al'.map (·.1)->kvs'.map (·.2)=bs'.map .ref->(a::bs').Nodup->(∀c∈bs',c∈bs\/c=p)->
   (∀H' O',(∀c∈bs',c≠l->∀x,dG X.K H3 (p::O) c x->dG X.K H' O' c x)->dG X.K H' O' l (.lst (ys++[v]))->mU X.K H' O' bs' (al'.map (·.2)))->
   Oo X.K "list" (.ref l) H3/\Np X (af fv aw) σ H3 λvs H4=>w8 (.ref l) vs H4 λ_ H5=>E.nx σ H5:=by
  intro H3 l wl ys bs' kvs' E3 sm3 keep3 lb la hl3 dl ln ha3 k1 k2 nd' mem new;refine⟨.inl ⟨rfl,wl,pH.of hl3⟩,p::O,ρ,E3,?_⟩;have e1:(af fv aw) ρ=.ok [v]:=by
   show(fv ρ).bind _=_;rw[hfv];rfl
  rw[e1];intro vs H4 s4 dv;obtain⟨y',rfl,dy⟩:=dv.one;have lO:l∈p::O:=by
   rcases mem l lb with z|z
   ·exact QO _ (hbs l (QO _ z)).1
   ·rw[z];exact QN
  have lHb:Hb l=none:=by
   rcases mem l lb with z|z
   ·exact(hbs l (QO _ z)).2.1
   ·rw[z];exact pHb
  have lS:∀(j:Nat) d',ρ[j]?=some (some (.own d'))->σ[j]?≠some (some (.ref l)):=by
   rcases mem l lb with z|z
   ·exact(hbs l (QO _ z)).2.2.2
   ·rw[z];exact pS
  have hl4:=s4 _ _ hl3;have sm5:bj (hid H3 (p::O)) (hid (upd H4 l (.lst (wl++[y']))) (p::O)):=(bN s4).trans (iz lO);have wlen:=dl.length;refine⟨l,wl,y',rfl,rfl,hl4,by rw[<-wlen];exact QH (Nat.lt_of_succ_le ln) (by decide),hk.nx (p::O) _ σ _ (S.setN hi (λc hc=>QO _ hc) ((sm2.trans sm3).trans sm5) ⟨λc u h=>?_,λc hc=>QO _ (S.base.sub c hc),λc hc=>?_⟩ ((E3.all.same s4).upd lO trivial) (λj xs c w1 w2=>?_) ?_) hnx⟩
  ·have ca:c≠a:=λz=>by rw[z,aHb]at h;cases h
   have cl:c≠l:=λz=>by rw[z,lHb]at h;cases h
   rw[aD cl];exact s4 _ _ (keep3 c u ca (sH2 _ _ (S.base.same c u h)))
  ·rcases List.mem_cons.mp hc with z|z
   ·rw[z];exact .inr pHb
   ·exact S.base.new c z
  ·obtain⟨c',q1,q2,q3⟩:=S.env.own j xs w1;rw[w2]at q1;cases q1;obtain⟨o,ho⟩:=q3.some;have ca:c≠a:=λz=>aS j xs w1 (by rw[<-z];exact w2);have cl:c≠l:=λz=>lS j xs w1 (by rw[<-z];exact w2);rw[ho,aD cl];exact(s4 _ _ (keep3 c o ca (sH2 _ _ ho))).symm
  ·refine⟨a,bs',ha,⟨al'.map (·.2),new _ _ (λc hc ne x hx=>hx.mono ?_ sm5) ⟨_,_,aX,rfl,?_⟩,.inr (.inl ⟨kvs',?_,?_,k2⟩)⟩,nd',λc hc=>?_,λj d' w=>?_⟩
   ·obtain⟨o,ho⟩:=hx.some;rw[aD ne,ho,s4 _ _ ho]
   ·exact(dl.mono sm5).append (bo.mpr ⟨y',[],rfl,dy.mono (iz lO),cI.mpr rfl⟩)
   ·show D.dct (encK al') _=_;rw[uq k1]
   ·rw[aD (Ne.symm la)];exact s4 _ _ ha3
   ·have own:∀(j:Nat) d',(ρ.set i (some (.nest (dB al'))))[j]?=some (some (.own d'))->ρ[j]?=some (some (.own d')):=λj d' w=>by
     rcases bh w with⟨_,z⟩|⟨_,z⟩
     ·cases z
     ·exact z
    rcases List.mem_cons.mp hc with z|z
    ·rw[z];exact⟨QO _ aO,aHb,aOb,λj d' w=>aS j d' (own j d' w)⟩
    ·rcases mem c z with z'|z'
     ·obtain⟨w1,w2,w3,w4⟩:=hbs c (QO _ z');exact⟨QO _ w1,w2,w3,λj d' w=>w4 j d' (own j d' w)⟩
     ·rw[z'];exact⟨QN,pHb,pOb,λj d' w=>pS j d' (own j d' w)⟩
   ·rcases bh w with⟨hj,_⟩|⟨_,z⟩
    ·exact hj
    ·exact one j d' z
 have hH2:upd H1 p (.lst []) a=some (.dT kvs)\/(upd H1 p (.lst []) a=some (.dK [])/\kvs=[]):=by
  rw[aD ap];rcases hH with h|⟨h,z⟩
  ·exact .inl (s1 _ _ h)
  ·exact .inr ⟨s1 _ _ h,z⟩
 have hO2:mU X.K (upd H1 p (.lst [])) (p::O) bs (al.map (·.2)):=hO.mono sm2 λc hc ⟨o,ho⟩=>by rw[aD (bsp c hc),ho,s1 _ _ ho]
 refine⟨a,b,q,kvs,.ref p,rfl,by rw[eb],by rw[aD bp];exact hb1',hH2,hlen,λv' hv=>?_,λhv=>?_⟩
 ·rcases xo ek ev hO2 nb hg with⟨c,ys,w1,w2,w3,w4,w5,w6⟩|⟨w1,_⟩
  ·rw[w1]at hv;cases hv;obtain⟨o,wl,h1,h2,h3⟩:=w3;subst h2;rcases hH2 with hH2|⟨_,z⟩
   ·exact fin _ c wl ys bs kvs E2 (λ_ _ z=>z) (λ_ _ _ z=>z) w2 (λz=>na (by rw[<-z];exact w2)) h1 h3 (of_decide_eq_true w4) hH2 (ek.trans w5.symm) ev nd (λ_ z=>.inl z) w6
   ·subst z;cases w1
  ·rw[w1]at hv;cases hv
 ·rcases xo ek ev hO2 nb hg with⟨c,ys,w1,_⟩|⟨_,w2⟩
  ·rw[w1]at hv;cases hv
  ·subst w2;have aO2:a∈p::O:=QO _ aO;refine fin (upd (upd H1 p (.lst [])) a (.dT (putK kvs q (.ref p)))) p [] [] (bs++[p]) (putK kvs q (.ref p)) (E2.rewrite (show sy (.dT (putK kvs q (.ref p)))from trivial) aO2 aS) (iz aO2) (λc o ne z=>by rw[aD ne];exact z) (by simp) (Ne.symm ap) (by rw[aD (Ne.symm ap)];exact aX) (cI.mpr rfl) (by decide) aX ?_ ?_ ?_ (λc hc=>?_) λH' O' oth new=>?_
   ·rw[wq hv,RQ,RQ,ek];rfl
   ·rw[wq hv,RQ,RQ,ev];rfl
   ·refine List.nodup_cons.mpr ⟨λz=>?_,List.nodup_append.mpr ⟨nb,by simp,λc hc c' hc' e=>?_⟩⟩
    ·rcases List.mem_append.mp z with z|z
     ·exact na z
     ·exact ap (List.mem_singleton.mp z)
    ·rw[List.mem_singleton.mp hc']at e;exact bsp c hc e
   ·rcases List.mem_append.mp hc with z|z
    ·exact .inl z
    ·exact .inr (List.mem_singleton.mp z)
   ·rw[RQ];refine mU.snoc new (hO2.imp λc hc x hx=>oth c (QP _ hc) (bsp c hc) x (hx.mono ?_ (iz aO2)));exact(aD λz=>na (by rw[<-z];exact hc)).symm
end
end TG
namespace TG
open PySem PySem.Spec L2
section
variable{prog:UL}{w:UK}{A:UV}{E:UJ->UW->Prop}{s:UW}{it d v:UM}{i ep:Nat}{o:Obj}{es:Array Wk}{ok ov:UJ}
def Bf{Q:UJ->UW->Prop}(ho:s.heap.get? d=some o)(hx:o.ExactDict)(hd:(d==sysModules)=false)(h:Q (.ref s.heap.objs.size) {s with heap:=s.heap.push {cls:=.type "dict_items",data:=.fields #[.ref d]}}):
  UY (model prog w) A (call (.builtin "dict.items") [.ref d]) Q E s:=by
 refine VF PySem.F.slot_dict_items ⟨o,ho,hx.1⟩ PySem.F.entry_dict_items ?_ (PySem.F.args_dict_items_1 _);unfold Builtin.«dict.items»;refine U7 ?_;unfold Builtin.Dict.noArgs;refine U7 (Wi ⟨o,ho,hx.1⟩ ?_);show UY _ _ (pure d) _ _ s;refine U6 ?_;show UY _ _ (Builtin.Dict.showsAll d >>= _) _ _ s;unfold Builtin.Dict.showsAll;rw[if_neg (by rw[hd];exact QY)];exact U7 (U6 (U7 (VH (U6 ⟨_,rfl,h⟩))))
def Bd{Q:UJ->UW->Prop}(hv:s.heap.IsItemsView v d)(ho:s.heap.get? d=some o)(hdat:o.data=.dict es ep)
  (hQ:Q (.ref s.heap.objs.size) {s with heap:=s.heap.push {cls:=.type "dict_itemiterator",data:=.fields #[.none,.bool false,.ref d,.int 0 0,.int es.size 0,.int ep 0,.none,.none]}}):UY (model prog w) A (pyIter (.ref v)) Q E s:=by
 obtain⟨w1,hov,hcv,hdv⟩:=id hv;refine wpAny_pyIter_slot hv.typeIs F.slot_dict_items_iter (VF F.slot_dict_items_iter hv.typeIs F.entry_dict_items_iter ?_ (F.args_dict_items_iter_1 _));unfold Builtin.«dict_items.__iter__»;refine U7 (U6 (U7 ?_));unfold Builtin.Dict_items.dictOf;refine U7 (VC hov hdv (x:=.ref d) rfl (U6 (U7 ?_)));unfold Builtin.Dict_items.newIterator;refine U7 (Wj ho hdat (U7 (Wl ho hdat ?_)));simp only[show Builtin.Dict_items.ownsTuple "dict_itemiterator"=true by decide,if_true];refine VH (U6 ⟨_,rfl,"dict_itemiterator",_,⟨_,Ug _ rfl,rfl⟩,F.slot_dict_itemiterator_next.lookup,?_⟩) (by simp only[sizeOk,Builtin.Dict_items.ownedTupleFields,QX,Rg,QZ,Rr,Vh];omega)
 simpa [rawInt,Builtin.Dict_items.ownedTupleFields]using hQ
def Af{Q:Option UJ->UW->Prop}(hit:Wm s.heap it d i es.size ep ok ov)(hod:s.heap.get? d=some o)(hdd:o.data=.dict es ep)(hlt:i<es.size)
  (hQ:∀ h',Wn h' it d (i+1) es.size ep es[i].key es[i].val s.heap.objs.size->h'.get? s.heap.objs.size=some { cls:=.type "tuple",data:=.seq #[es[i].key,es[i].val] }->h'.objs.size=s.heap.objs.size+1 ->
   (∀b o,b≠it->s.heap.get? b=some o->h'.get? b=some o)->Q (some (.ref s.heap.objs.size)) {s with heap:=h'}):UY (model prog w) A (pyNext (.ref it)) Q E s:=by
 obtain⟨hp,g,dr,tk,os⟩:=s;have hT:Shared.TypeIs ⟨hp,g,dr,tk,os⟩ (.ref it) "dict_itemiterator":=⟨_,hit,rfl⟩
 unfold pyNext;refine U7 (V3 (VE (name:=Str.ofString "__next__") hT F.slot_dict_itemiterator_next (VF F.slot_dict_itemiterator_next hT F.entry_dict_itemiterator_next ?_ (F.args_dict_itemiterator_next_1 _))));refine U7 (U6 (U7 (U7 ?_)));first|refine U7 (Wo hT (U6 ?_))|refine U7 (Wp hT (U6 ?_))
 refine U7 (Wq hit rfl ?_);have hown:Builtin.Dict_items.ownsTuple "dict_itemiterator"=true:=by decide
 simp only[hown,if_true];show UY _ _ (if(Value.ref d==Value.none)=true then _ else _) _ _ _;rw[if_neg (show¬((Value.ref d==Value.none)=true)from QY)];refine U7 (U6 (U7 (Wj hod hdd ?_)));rw[if_neg (by simp)];refine U7 (U6 (U7 (Wl hod hdd ?_)));rw[if_neg (by simp)];refine U6 ?_;simp only[show¬((i:Int)<0)from by omega,if_false,Rh,Array.getElem?_eq_getElem hlt];refine U7 ?_;first|refine U7 (Wo hT (U6 ?_))|refine U7 (Wp hT (U6 ?_))
 refine U7 (Wr hT ?_);show UY _ _ (setField (.ref it) 3 (rawInt ((i:Int)+1)) >>= _) _ _ ⟨hp,g,dr,tk,os⟩;refine U7 (VX hit (by simp) λh₁ he₁ hs₁=>?_);replace hs₁:Ud it hp h₁:=hs₁
 replace he₁:Wm h₁ it d (i+1) es.size ep ok ov:=by
  have e:((i+1:Nat):Int)=(i:Int)+1:=by omega
  unfold Wm;rw[e];simpa [rawInt]using he₁
 have hT₁:Shared.TypeIs ⟨h₁,g,dr,tk,os⟩ (.ref it) "dict_itemiterator":=⟨_,he₁,rfl⟩
 refine U7 (VD (U7 (Wr hT₁ (U7 (Wr hT₁ ?_)))));show UY _ _ (Builtin.Dict_items.pairFromOwner (.ref it) 6 es[i].key es[i].val) _ _ ⟨h₁,g,dr,tk,os⟩;unfold Builtin.Dict_items.pairFromOwner;refine U7 (V2 ?_);have he₂:Wm (h₁.push {cls:=.type "tuple",data:=.seq #[es[i].key,es[i].val]}) it d (i+1) es.size ep ok ov:=Ue _ he₁;generalize hh₂:h₁.push {cls:=.type "tuple",data:=.seq #[es[i].key,es[i].val]}=h₂ at he₂;have hz₁:h₁.objs.size=hp.objs.size:=hs₁.1;have hil:it<hp.objs.size:=Ub hit;have ht₂:h₂.get? hp.objs.size=some {cls:=.type "tuple",data:=.seq #[es[i].key,es[i].val]}:=by rw[<-hh₂,<-hz₁];exact Ug _ rfl
 have hz₂:h₂.objs.size=hp.objs.size+1:=by rw[<-hh₂,Uh,hz₁]
 have hk₂:∀b o,b≠it->hp.get? b=some o->h₂.get? b=some o:=λb o hb e=>by rw[<-hh₂];exact Ue _ (hs₁.extBut b o hb e)
 show UY _ _ (Builtin.Dict_items.ownedTupleIsFree (.ref it) >>= _) _ _ ⟨h₂,g,dr,tk,os⟩;rw[hz₁];clear hh₂ he₁ hs₁ hT₁ hz₁ h₁;refine U7 ?_;unfold Builtin.Dict_items.ownedTupleIsFree;refine U7 (VC he₂ rfl (x:=.none) rfl (U6 ?_));simp only[if_true];refine U7 (VC he₂ rfl (x:=ok) rfl (U7 (VC he₂ rfl (x:=ov) rfl ?_)));refine U7 (VX he₂ (by simp) λh₃ he₃ hs₃=>?_);replace hs₃:Ud it h₂ h₃:=hs₃
 replace he₃:Wm h₃ it d (i+1) es.size ep es[i].key ov:=he₃
 refine U7 (VX he₃ (by simp) λh₄ he₄ hs₄=>?_);replace hs₄:Ud it h₃ h₄:=hs₄
 replace he₄:Wm h₄ it d (i+1) es.size ep es[i].key es[i].val:=he₄
 refine U7 (VX he₄ (by simp) λh₅ he₅ hs₅=>?_);replace hs₅:Ud it h₄ h₅:=hs₅
 replace he₅:Wn h₅ it d (i+1) es.size ep es[i].key es[i].val hp.objs.size:=he₅
 refine U7 (VX he₅ (by simp) λh₆ he₆ hs₆=>?_);replace hs₆:Ud it h₅ h₆:=hs₆
 replace he₆:Wn h₆ it d (i+1) es.size ep es[i].key es[i].val hp.objs.size:=he₆
 refine U7 (V0 (U6 (U6 ⟨_,rfl,U6 (hQ h₆ he₆ ?_ ?_ ?_)⟩)))
 ·have n:=QS hil;exact hs₆.extBut _ _ n (hs₅.extBut _ _ n (hs₄.extBut _ _ n (hs₃.extBut _ _ n ht₂)))
 ·show h₆.objs.size=hp.objs.size+1;rw[hs₆.1,hs₅.1,hs₄.1,hs₃.1,hz₂]
 ·exact λb o hb e=>hs₆.extBut b o hb (hs₅.extBut b o hb (hs₄.extBut b o hb (hs₃.extBut b o hb (hk₂ b o hb e))))
def Dj{Q:Option UJ->UW->Prop}(hh:A.handled=none)(hit:Wm s.heap it d i es.size ep ok ov)(hod:s.heap.get? d=some o)(hdd:o.data=.dict es ep)(hge:es.size<=i)
  (hQ:∀h',Uk it s.heap h'->Q none {s with heap:=h'}):UY (model prog w) A (pyNext (.ref it)) Q E s:=by
 have hT:s.TypeIs (.ref it) "dict_itemiterator":=⟨_,hit,rfl⟩
 unfold pyNext;refine U7 (V3 (VE (name:=Str.ofString "__next__") hT F.slot_dict_itemiterator_next (VF F.slot_dict_itemiterator_next hT F.entry_dict_itemiterator_next ?_ (F.args_dict_itemiterator_next_1 _))));refine U7 (U6 (U7 (U7 ?_)));first|refine U7 (Wo hT (U6 ?_))|refine U7 (Wp hT (U6 ?_))
 refine U7 (Wq hit rfl ?_);have hown:Builtin.Dict_items.ownsTuple "dict_itemiterator"=true:=by decide
 simp only[hown,if_true];show UY _ _ (if(Value.ref d==Value.none)=true then _ else _) _ _ s;rw[if_neg (show¬((Value.ref d==Value.none)=true)from QY)];refine U7 (U6 (U7 (Wj hod hdd ?_)));rw[if_neg (by simp)];refine U7 (U6 (U7 (Wl hod hdd ?_)));rw[if_neg (by simp)];refine U6 ?_;simp only[show¬((i:Int)<0)from by omega,if_false,Rh,Array.getElem?_eq_none hge];refine U7 ?_;first|refine U7 (Wo hT (U6 ?_))|refine U7 (Wp hT (U6 ?_))
 show UY _ _ (setField (.ref it) 2 .none >>= _) _ _ s;refine U7 (VR hit rfl (by simp) ?_);show UY _ _ (newExc (.type "StopIteration") [] >>= _) _ _ _;refine U7 ?_;simp only[newExc,newTuple];refine U7 (VH ?_ (by size_fits));refine U7 (m:=firstArgMember _ _) (VS (a:=Value.none) (by first|rfl|(simp only[firstArgMember];rfl)) ?_);refine VH ?_ (by size_fits);simp only[raiseNew];refine U7 (VU ?_);rw[show A.in1.handled=none from hh];refine U7 (U6 (wpAny_throw ?_));refine U7 (V4 (T:="StopIteration") (b:=true) ⟨_,Ug _ rfl,rfl⟩ V5 ?_);exact U6 (hQ _ (((Heap.SameBut.update ..).extBut.push _).push _))
end
variable[aU]
abbrev oR(al:List (List Key×D)):D:=.dct (.non::encK al) (al.map (·.2))
def Br{X:Cx}{pins:List (UM×Obj)}{σ:St}{H:Hp}{s:UW}{a:UM}{o:Obj}{kvs:List (List Key×V)}(I:Inv X pins σ H s)(e:H a=some (.frz o (.dT kvs))):s.heap.get? a=some o/\o.ExactDict/\(a==sysModules)=false/\∃es ep xs,o.data=.dict es ep/\KT H kvs xs/\es.toList=xs.map (entryOfKey (tupleKind (bY X.prog X.w))):=by
 obtain⟨ho,z,hd,xs,rel,o',es,ep,h1,h2,h3,h4,h5⟩:=(show cH X.prog X.w H s.heap a (.frz o (.dT kvs))from I.hok a _ e)
 rw[ho]at h1;cases h1;exact⟨ho,h2,hd,es,ep,xs,h3,rel,h4⟩
def OC(a:UM)(o:Obj)(kvs:List (List Key×V)):It:=
  ⟨fun i H=>H a=some (.frz o (.dT kvs))/\i < kvs.length,
   λi H v H'=>∃p b q w,v=.ref p/\H p=none/\H'=upd H p (.tup [.ref b,w])/\kvs[i]?=some (q,w)/\H b=some (.tup (q.map kV)),
   λi H=>H a=some (.frz o (.dT kvs))/\i=kvs.length⟩
def ub{α β:Type}{R:α->β->Prop}:∀{xs:List α}{ys:List β},UN R xs ys->∀{i:Nat}{x:α},xs[i]?=some x->∃y,ys[i]?=some y/\R x y:=λh=>by
 induction h with
 |nil=>intro i x e;simp at e
 |cons hq _ ih=>
  intro i x e;cases i with
  |zero=>rw[R5]at e;cases e;exact⟨_,rfl,hq⟩
  |succ i=>rw[R6]at e ⊢;exact ih e
def AQ{P:UL}{w:UK}{K:Tt}{es':List UZ}{k:Nat}{pos:Pos}{a it:UM}{o:Obj}{es:Array Wk}{ep:Nat}{kvs:List (List Key×V)}(hda:o.data=.dict es ep):Turn P w K (.Tuple es' k pos) (OC a o kvs) [it] it (λi h=>∃ok ov,Wm h it a i es.size ep ok ov)where
 mem:=by simp
 obj:=λi h ⟨ok,ov,hz⟩ c hc=>by rw[List.mem_singleton.mp hc];exact⟨_,hz,λv q=>by cases q⟩
 keep:=λi h h' ⟨ok,ov,hz⟩ kp=>⟨ok,ov,kp it (by simp) _ hz⟩
 item:=by
  intro X hP hw hK hc i pins s σ H E I hf ⟨ok,ov,hit⟩ ⟨ha,hi⟩;subst hP hw hK;obtain⟨ho,hx,_,es2,ep2,xs,h3,rel,h4⟩:=Br I ha;rw[hda]at h3;cases h3;have hl:es.size=xs.length:=by rw[<-Array.length_toList,h4,Q1]
  have hkl:kvs.length=xs.length:=Paired.length rel;have hlt:i<es.size:=by omega
  obtain⟨x,ex,f1,f2,f3⟩:=ub rel (i:=i) (x:=kvs[i]) (by simp[hi]);have ee:es[i]=entryOfKey (tupleKind (bY X.prog X.w)) x:=by
   have:es.toList[i]?=some (entryOfKey (tupleKind (bY X.prog X.w)) x):=(by rw[h4,Rb,ex];rfl);rw[Array.getElem?_toList,Array.getElem?_eq_getElem hlt]at this;exact Option.some.inj this
  refine Af hit ho hda hlt λh' out tp sz kp=>⟨_,rfl,wpAny_letOwnedTupleGo_items out λh2 hit2 sb=>?_⟩
  have hpz:s.heap.objs.size≠it:=QS (Ub hit);have tp2:=sb.extBut _ _ hpz tp;rw[ee]at tp2;have I':Inv X pins σ (upd H s.heap.objs.size (.tup [.ref x.2.1,kvs[i].2])) {s with heap:=h2}:=Inv.turnedL (ch:=[it]) (t':=s.toks) I hf (λc u hc e=>by
   have hc:c≠it:=(by simpa using hc);exact sb.extBut _ _ hc (kp c u hc e)) (QT _) ⟨by show 2<=UP;decide,[.ref x.2.1,x.2.2],.cons rfl (.cons f3 .nil),_,tp2,rfl,_,rfl⟩
  refine⟨.ref s.heap.objs.size,_,I',rfl,⟨_,x.2.1,kvs[i].1,kvs[i].2,rfl,I.fresh,rfl,by simp[hi],f2⟩,⟨_,_,hit2⟩,λc hc=>?_⟩;rw[List.mem_singleton.mp hc,aD (Ne.symm hpz)];exact(hf it (by simp)).1
 done:=by
  intro X hP hw hK hc i pins s σ H E I hf ⟨ok,ov,hit⟩ ⟨ha,hi⟩;subst hP hw hK;obtain⟨ho,hx,_,es2,ep2,xs,h3,rel,h4⟩:=Br I ha;rw[hda]at h3;cases h3;have hl:es.size=xs.length:=by rw[<-Array.length_toList,h4,Q1]
  have hkl:kvs.length=xs.length:=Paired.length rel;exact Dj (I.ok.hd hc) hit ho hda ‹0› λh' eb=>⟨rfl,Inv.turned0 (ch:=[it]) I hf λc u hc e=>eb c u (by simpa using hc) e⟩
 self:=λ_ _ _ _ _ ⟨_,_,hz⟩ h=>PySem.W.kcp_self hz h
def xM{K:Tt}{H:Hp}:∀q:List Key,bb K H (q.map bx) (q.map kV)
 |[]=>cI.mpr rfl
 |k::q=>bo.mpr ⟨kV k,_,rfl,by cases k with|inl i=>exact fw.mpr rfl|inr x=>exact fJ.mpr rfl,xM q⟩
abbrev kP(p:List Key×D):D:=.tup [.tup (p.1.map bx),p.2]
def Am{K:Tt}{Hd:Hp}{a:UM}{o:Obj}{kvs:List (List Key×V)}{al:List (List Key×D)}(h:Hd a=some (.frz o (.dT kvs)))(e1:kvs.map (·.1)=al.map (·.1))(e2:bb K Hd (al.map (·.2)) (kvs.map (·.2))):Walk K Hd (OC a o kvs) (al.map kP):=λHn O' i hO sm=>by
 have s':bj Hd Hn:=sm.trans (aB Hn O');have hl:kvs.length=al.length:=by have:=congrArg List.length e1;simpa using this
 refine⟨λd e=>?_,λhl'=>⟨s' _ _ h,by rw[hl',Q1,hl]⟩⟩;rw[Rb]at e;cases ep:al[i]? with
 |none=>rw[ep]at e;cases e
 |some p=>
  rw[ep]at e;cases e;have hi:i<al.length:=(List.getElem?_eq_some_iff.mp ep).1;refine⟨⟨s' _ _ h,by omega⟩,λx H2 ⟨c,b,q,w,ex,hc,eH,ek,hb⟩=>?_⟩;subst ex eH;have k1:q=p.1:=by
   have:=congrArg (λl=>l[i]?) e1
   simp only[Rb,ek,ep]at this;exact Option.some.inj this
  obtain⟨w',ew,dw⟩:=e2.get (i:=i) (d:=p.2) (by rw[Rb,ep];rfl);rw[Rb,ek]at ew;cases ew;subst k1;have bO:b∉O':=λz=>by
   obtain⟨u,q1,q2⟩:=hO.2 b z;rw[hb]at q1;cases q1;exact q2
  exact⟨bL hc _,eX hO hc (bo.mpr ⟨.ref b,_,rfl,cK.mpr ⟨b,_,rfl,by rw[i7 bO];exact hb,xM p.1⟩,bo.mpr ⟨w,_,rfl,dw.mono sm,cI.mpr rfl⟩⟩)⟩
def Aq:D->Option (List D)
 |.dct (.non::ks) ds=>(kH ks ds).map λal=>al.map kP
 |_=>none
def jk(f:FX):aq->R (List D):=λρ=>(f ρ).bind λd=>rO (Aq d)
def zF{K:Tt}{H:Hp}{v:V}{al:List (List Key×D)}(h:cJ K H (oR al) v):∃a o kvs,v=.ref a/\H a=some (.frz o (.dT kvs))/\kvs.map (·.1)=al.map (·.1)/\bb K H (al.map (·.2)) (kvs.map (·.2)):=by
 obtain⟨a,vs,e0,h2,h3⟩:=Nw.mp h;rcases h3 with⟨kvs,e,e1,e2⟩|⟨kvs,e,e1,e2⟩|⟨kvs,o,e,e1,e2⟩
 ·cases kvs with
  |nil=>cases e1
  |cons p r=>
   injection e1 with e1 _;rcases p with⟨k,v⟩
   cases k<;>cases e1
 ·cases kvs with
  |nil=>cases e1
  |cons p r=>injection e1 with e1 _;cases e1
 ·injection e1 with _ e1;subst e2;exact⟨a,o,kvs,e0,e,(mZ (ks:=kvs.map (·.1)) (by rw[SD];exact e1)).symm,h2⟩
section
variable{X:Cx}
def LU{o:UZ}{es:List UZ}{k:Nat}{tpos:Pos}{f:FX}{apos cpos:Pos}(ho:FE X o f)(hbase:Vk o "items" X.env (eval o X.env)=eval o X.env:=by rfl)(hline:(apos.endLine==cpos.line)=true:=by rfl):FI X (.Tuple es k tpos) (.Call (.Attribute o "items" apos) [] [] cpos) (jk f):=by
 intro pins s σ H RR I ⟨O,ρ,E,hG⟩;refine wpAny_Call_method0_late hbase hline (dM (ho pins s σ H (λv H1=>∃a o kvs,v=.ref a/\H1 a=some (.frz o (.dT kvs))/\RR (OC a o kvs) H1) I ⟨O,ρ,E,(js.bind hG).imp λd hG v H1 s1 d1=>?_⟩) λv s1 ⟨x,H1,I1,r1,a,o,kvs,ex,ha,hR⟩=>?_)
 ·obtain⟨ds,hg,q⟩:=js.rO hG;unfold Aq at hg;split at hg
  ·rename_i ks dl;cases e1:kH ks dl with
   |none=>rw[e1]at hg;cases hg
   |some al=>
    rw[e1]at hg;cases hg;obtain⟨f1,f2⟩:=jt e1;subst f1 f2;obtain⟨a,o,kvs,q1,q2,q3,q4⟩:=zF d1;exact⟨a,o,kvs,q1,(aB H1 O) _ _ q2,q _ H1 s1 (Am q2 q3 q4)⟩
  ·cases hg
 ·subst ex;cases r1;obtain⟨hob,hx,hsm,es2,ep,xs,hda,_⟩:=Br I1 ha;refine⟨"dict","dict.items",F.plainAttrs_dict,F.slot_dict_items,F.type_dict_items,⟨o,hob,hx.1⟩,λc e=>by cases e;exact⟨o,hob,hx.2.1⟩,Calls.callWith_builtin rfl (PySem.evalArgs_none ?_)⟩;refine Bf hob hx hsm (Bd ⟨_,Ug _ rfl,rfl,rfl⟩ (Ue _ hob) hda ?_);have le:s1.heap.objs.size<=(s1.heap.push {cls:=.type "dict_items",data:=.fields #[.ref a]}).objs.size:=by rw[Uh];exact Q5 _
  refine⟨_,_,_,_,H1,rfl,I1.kept (t':=s1.toks) λb u e=>Ue _ (Ue _ e),AQ hda,⟨_,_,Ug _ rfl⟩,λb hb=>?_,hR⟩;rw[List.mem_singleton.mp hb];exact I1.fpOk le (I1.hok.fresh le)
end
def e8.frzG{K:Tt}{Hb:Hp}{Ob O:List UM}{H H':Hp}{ρ:aq}{σ:St}(E:e8 K Hb Ob O H ρ σ){i:Nat}{d d':D}(hd:ρ[i]?=some (some (.nest d))){a:UM}{bs:List UM}(h1:σ[i]?=some (some (.ref a)))(h4:∀b∈a::bs,b∈O/\Hb b=none/\b∉Ob/\∀(j:Nat) d',ρ[j]?=some (some (.own d'))->σ[j]?≠some (some (.ref b)))(h5:∀(j:Nat) d',ρ[j]?=some (some (.nest d'))->j=i)
  (hH:∀b,b≠a->H' b=H b) (tab:aU.tab H') (dn:bj (hid H O) (hid H' (O.filter λb=>decide (b∉a::bs)))->(∀b∈a::bs,b∉O.filter λb=>decide (b∉a::bs))->cJ K (hid H' (O.filter λb=>decide (b∉a::bs))) d' (.ref a)):e8 K Hb Ob (O.filter λb=>decide (b∉a::bs)) H' (TG.setV i d' ρ) σ:=by
 have sub:∀b∈O.filter (λb=>decide (b∉a::bs)),b∈O:=λb hb=>(List.mem_filter.mp hb).1;have na:∀b∈a::bs,b∉O.filter λb=>decide (b∉a::bs):=λb hb z=>(of_decide_eq_true (List.mem_filter.mp z).2) hb;have aO:=(h4 a QN).1;have s:bj (hid H O) (hid H' (O.filter λb=>decide (b∉a::bs))):=λb u e=>by
  unfold hid at e ⊢;by_cases hb:b∈O
  ·rw[if_pos hb]at e;cases e
  ·rw[if_neg hb]at e;rw[if_neg λz=>hb (sub b z),hH b λz=>hb (by rw[z];exact aO)];exact e
 have bk:∀(l:Nat) x,(TG.setV i d' ρ)[l]?=some (some x)->(∀d,x≠.val d)->ρ[l]?=some (some x):=λl x e nv=>by
  rcases bh e with⟨_,q⟩|⟨_,q⟩
  ·cases q;exact absurd rfl (nv _)
  ·exact q
 refine⟨⟨λj d1 e=>?_,λj xs e=>?_,λj l xs ys b e1 e2 e3 e4=>E.env.one j l xs ys b (bk j _ e1 (λ_ z=>nomatch z)) (bk l _ e2 (λ_ z=>nomatch z)) e3 e4,⟨tab,λb hb=>?_⟩⟩,⟨λb u e=>?_,λb hb=>?_,λb hb=>E.base.new b (sub b hb)⟩,λj xs b e1 e2=>E.mine j xs b (bk j _ e1 (λ_ z=>nomatch z)) e2,λj dn e=>?_⟩
 ·rcases bh e with⟨hj,q⟩|⟨ne,q⟩
  ·cases q;rw[hj];exact⟨.ref a,h1,dn s na⟩
  ·obtain⟨w,q1,q2⟩:=E.env.val j d1 q;exact⟨w,q1,q2.mono s⟩
 ·obtain⟨b,q1,q2,q3⟩:=E.env.own j xs (bk j _ e (λ_ z=>nomatch z));have nb:b∉a::bs:=λz=>(h4 b z).2.2.2 j xs (bk j _ e (λ_ z=>nomatch z)) q1;exact⟨b,q1,List.mem_filter.mpr ⟨q2,decide_eq_true nb⟩,q3.mono (hH b λz=>nb (by rw[z];exact QN)).symm s⟩
 ·rw[hH b λz=>na b (by rw[z];exact QN) hb];exact E.env.all.2 b (sub b hb)
 ·rw[hH b λz=>by rw[z,(h4 a QN).2.1]at e;cases e];exact E.base.same b u e
 ·exact List.mem_filter.mpr ⟨E.base.sub b hb,decide_eq_true λz=>(h4 b z).2.2.1 hb⟩
 ·have q:=bk j _ e (λ_ z=>nomatch z);have hj:=h5 j dn q;subst hj;rcases bh e with⟨_,q⟩|⟨ne,_⟩
  ·cases q
  ·exact absurd rfl ne
def LN{X:Cx}{pins:List (UM×Obj)}{σ:St}{H:Hp}{s:UW}{a:UM}{kvs:List (List Key×V)}(I:Inv X pins σ H s)(h1:H a=some (.dT kvs)):∃o,Inv X pins σ (upd H a (.frz o (.dT kvs))) s:=by
 obtain⟨z,hd,xs,rel,o,es,ep,g1,g2⟩:=(show cH X.prog X.w H s.heap a (.dT kvs)from I.hok a _ h1)
 refine⟨o,oo (ob:=.frz o (.dT kvs)) (h':=s.heap) (t':=s.toks) I (by rw[h1];exact trivial) ⟨rfl,λ_ _=>rfl⟩ ⟨o,g1⟩ ⟨g1,z,hd,xs,KT.keeps rel λb ys eb=>?_,o,es,ep,g1,g2⟩⟩;rw[aD (E6 eb h1 (λz=>nomatch z))];exact eb
def MM(i:Nat)(ρ:aq):aq:=match ρ[i]? with
 |some (some (.nest (.dct ks ds)))=>match kH ks ds with
  |some al=>setV i (oR al) ρ
  |none=>ρ
 |_=>ρ
def vC(i:Nat)(F:cm):cm:=λk ρ=>F k (MM i ρ)
def Nc{X:Cx}{st:List U1}{F:cm}(i:Nat)(h:Ad X st F):Ad X st (vC i F):=λHb Ob pins s σ H E I ⟨O,ρ,k,r,S,hF,hk⟩=>by
 unfold vC MM at hF;split at hF
 ·rename_i ks ds hd;split at hF
  ·rename_i al hal;obtain⟨f1,f2⟩:=jt hal;subst f1 f2;obtain⟨a,bs,h1,h2,h3,h4,h5⟩:=S.nst i _ hd;obtain⟨kvs,hH,ek,ev,hO⟩:=uC h2;obtain⟨na,_⟩:=List.nodup_cons.mp h3;have fin:∀(H0:Hp)(I0:Inv X pins σ H0 s),H0 a=some (.dT kvs)->(∀b,b≠a->H0 b=H b)->UY (model X.prog X.w) X.A (execs st X.env) (SP X pins E) X.xe s:=λH0 I0 ha0 hH0=>by
    obtain⟨o,I1⟩:=LN I0 ha0;have hH':∀b,b≠a->upd H0 a (.frz o (.dT kvs)) b=H b:=λb nb=>by rw[aD nb];exact hH0 b nb
    have tab:aU.tab (upd H0 a (.frz o (.dT kvs))):=by
     have:upd H0 a (.frz o (.dT kvs))=upd H a (.frz o (.dT kvs)):=by
      funext b;by_cases z:b=a
      ·rw[z,aX,aX]
      ·rw[aD z,aD z,hH0 b z]
     rw[this];obtain⟨u,q1,q2⟩:=S.env.all.2 a (h4 a QN).1;exact aU.own S.env.all.1 q1 q2
    refine h Hb Ob pins s σ _ E I1 ⟨_,_,k,r,S.frzG hd h1 h4 h5 hH' tab λsm nn=>?_,hF,hk⟩;have hO':mU X.K (upd H0 a (.frz o (.dT kvs))) O bs (al.map (·.2)):=hO.mono (λb u e=>by
     unfold hid at e ⊢;by_cases hb:b∈O
     ·rw[if_pos hb]at e;cases e
     ·rw[if_neg hb]at e;rw[if_neg hb,hH' b λz=>hb (by rw[z];exact(h4 a QN).1)];exact e) λb hb _=>hH' b λz=>na (by rw[<-z];exact hb)
    have sub:∀b∈O.filter (λb=>decide (b∉a::bs)),b∈O:=λb hb=>(List.mem_filter.mp hb).1;have g:=hO'.den (iI sub) λb hb=>nn b (QO _ hb);refine Nw.mpr ⟨a,_,rfl,g,.inr (.inr ⟨kvs,o,by rw[i7 (nn a QN)];exact aX,by rw[uq ek],ev.symm⟩)⟩
   rcases hH with hH|⟨hH,z⟩
   ·exact fin H I hH λ_ _=>rfl
   ·subst z;exact fin _ (Eu I hH) aX λb nb=>aD nb
  ·exact h Hb Ob pins s σ H E I ⟨O,ρ,k,r,S,hF,hk⟩
 ·exact h Hb Ob pins s σ H E I ⟨O,ρ,k,r,S,hF,hk⟩
end TG
namespace TG
open PySem PySem.Spec L2
section
variable{prog:UL}{w:UK}{A:UV}{E:UJ->UW->Prop}{s:UW}{it d:UM}{i ep:Nat}{o:Obj}{es:Array Wk}
def D8{Q:UJ->UW->Prop}(hd:(d==sysModules)=false)(ho:s.heap.get? d=some o)(hx:o.ExactDict)(hdat:o.data=.dict es ep)
  (hQ:Q (.ref s.heap.objs.size) {s with heap:=s.heap.push {cls:=.type "dict_keyiterator",data:=.fields #[.ref d,.int 0 0,.int es.size 0,.int ep 0]}}):UY (model prog w) A (pyIter (.ref d)) Q E s:=by
 have hT:s.TypeIs (.ref d) "dict":=⟨o,ho,hx.1⟩
 refine wpAny_pyIter_slot hT F.slot_dict_iter (VF F.slot_dict_iter hT F.entry_dict_iter ?_ (F.args_dict_iter_1 _));unfold Builtin.«dict.__iter__»;refine U7 ?_;unfold Builtin.Dict.dictSlotNone;refine U7 (Wi hT ?_);show UY _ _ (pure (Value.ref d)) _ _ s;refine U6 ?_;show UY _ _ (Builtin.Dict.showsAll d >>= _) _ _ s;unfold Builtin.Dict.showsAll;rw[if_neg (by rw[hd];exact QY)];refine U7 (U6 (U7 (Wj ho hdat (U7 (Wl ho hdat ?_)))));refine U7 (VH (U6 ⟨_,rfl,"dict_keyiterator",_,⟨_,Ug _ rfl,rfl⟩,F.slot_dict_keyiterator_next.lookup,?_⟩));simpa [rawInt]using hQ
def CY{Q:Option UJ->UW->Prop}(hit:s.heap.IsKeyIter it d i es.size ep)(hod:s.heap.get? d=some o)(hdd:o.data=.dict es ep)(hlt:i<es.size)
  (hQ:∀h',h'.IsKeyIter it d (i+1) es.size ep->Ud it s.heap h'->Q (some es[i].key) {s with heap:=h'}):UY (model prog w) A (pyNext (.ref it)) Q E s:=by
 obtain⟨oi,ho,hc,hd⟩:=id hit;unfold pyNext;refine U7 (V3 (VE (name:=Str.ofString "__next__") hit.typeIs F.slot_dict_keyiterator_next (VF F.slot_dict_keyiterator_next hit.typeIs F.entry_dict_keyiterator_next ?_ (F.args_dict_keyiterator_next_1 _))));refine U7 (U6 (U7 (U7 ?_)));first|refine U7 (Wt hit.typeIs (U6 ?_))|refine U7 (Wu hit.typeIs (U6 ?_))
 refine U7 (Wq ho hd ?_);have hown:Builtin.Dict_items.ownsTuple "dict_keyiterator"=false:=by decide
 simp only[hown,Ry,if_false];show UY _ _ (if(Value.ref d==Value.none)=true then _ else _) _ _ s;rw[if_neg (show¬((Value.ref d==Value.none)=true)from QY)];refine U7 (U6 (U7 (Wj hod hdd ?_)));rw[if_neg (by simp)];refine U7 (U6 (U7 (Wl hod hdd ?_)));rw[if_neg (by simp)];refine U6 ?_;simp only[show¬((i:Int)<0)from by omega,if_false,Rh,Array.getElem?_eq_getElem hlt];refine U7 ?_;first|refine U7 (Wt hit.typeIs (U6 ?_))|refine U7 (Wu hit.typeIs (U6 ?_))
 refine U7 (wpAny_isOneOf_keyiter hit.typeIs ?_);show UY _ _ (setField (.ref it) 1 (rawInt ((i:Int)+1)) >>= _) _ _ s;refine U7 (VR ho hd (by simp) ?_);have hit':(s.heap.update it (Obj.mapFields (·.setIfInBounds 1 (rawInt ((i:Int)+1))))).IsKeyIter it d (i+1) es.size ep:=⟨_,Uj _ ho (Obj.isFreed_of_fields (Obj.data_mapFields hd _)),(Obj.cls_mapFields ..).trans hc,by rw[Obj.data_mapFields hd];simp[rawInt]⟩
 refine U7 (VD (U7 (wpAny_isOneOf_keyiter (s:={s with heap:=s.heap.update it (Obj.mapFields (·.setIfInBounds 1 (rawInt ((i:Int)+1))))}) hit'.typeIs ?_)));show UY _ _ (pure es[i].key) _ _ _;exact U6 (U6 ⟨_,rfl,U6 (hQ _ hit' (Heap.SameBut.update ..))⟩)
def EQ{Q:Option UJ->UW->Prop}(hh:A.handled=none)(hit:s.heap.IsKeyIter it d i es.size ep)(hod:s.heap.get? d=some o)(hdd:o.data=.dict es ep)(hge:es.size<=i)(hQ:∀h',Uk it s.heap h'->Q none {s with heap:=h'}):UY (model prog w) A (pyNext (.ref it)) Q E s:=by
 obtain⟨oi,ho,hc,hd⟩:=id hit;unfold pyNext;refine U7 (V3 (VE (name:=Str.ofString "__next__") hit.typeIs F.slot_dict_keyiterator_next (VF F.slot_dict_keyiterator_next hit.typeIs F.entry_dict_keyiterator_next ?_ (F.args_dict_keyiterator_next_1 _))));refine U7 (U6 (U7 (U7 ?_)));first|refine U7 (Wt hit.typeIs (U6 ?_))|refine U7 (Wu hit.typeIs (U6 ?_))
 refine U7 (Wq ho hd ?_);have hown:Builtin.Dict_items.ownsTuple "dict_keyiterator"=false:=by decide
 simp only[hown,Ry,if_false];show UY _ _ (if(Value.ref d==Value.none)=true then _ else _) _ _ s;rw[if_neg (show¬((Value.ref d==Value.none)=true)from QY)];refine U7 (U6 (U7 (Wj hod hdd ?_)));rw[if_neg (by simp)];refine U7 (U6 (U7 (Wl hod hdd ?_)));rw[if_neg (by simp)];refine U6 ?_;simp only[show¬((i:Int)<0)from by omega,if_false,Rh,Array.getElem?_eq_none hge];refine U7 ?_;first|refine U7 (Wt hit.typeIs (U6 ?_))|refine U7 (Wu hit.typeIs (U6 ?_))
 show UY _ _ (setField (.ref it) 0 .none >>= _) _ _ s;refine U7 (VR ho hd (by simp) ?_);show UY _ _ (newExc (.type "StopIteration") [] >>= _) _ _ _;refine U7 ?_;simp only[newExc,newTuple];refine U7 (VH ?_ (by size_fits));refine U7 (m:=firstArgMember _ _) (VS (a:=Value.none) (by first|rfl|(simp only[firstArgMember];rfl)) ?_);refine VH ?_ (by size_fits);simp only[raiseNew];refine U7 (VU ?_);rw[show A.in1.handled=none from hh];refine U7 (U6 (wpAny_throw ?_));refine U7 (V4 (T:="StopIteration") (b:=true) ⟨_,Ug _ rfl,rfl⟩ V5 ?_);exact U6 (hQ _ (((Heap.SameBut.update ..).extBut.push _).push _))
def J9(d:UM)(o:Obj)(es:Array Wk)(ep:Nat)(h:UO):Prop:=h.get? d=some o/\o.ExactDict/\o.data=.dict es ep
def Bh(hh:A.handled=none)(I:UM)(hne:d≠I):Walks prog w A I [I,d] [I] es.size (λi v=>∃e,es[i]?=some e/\v=e.key) (λi h=>h.IsKeyIter I d i es.size ep/\J9 d o es ep h)where
 sub:=λb hb=>by simp at hb;simp[hb]
 frame:=λ_ _ _ st hk=>⟨st.1.at λo e=>hk I (by simp) o e,hk d (by simp) _ st.2.1,st.2.2⟩
 item:=λi s Q E hi st hQ=>CY st.1 st.2.1 st.2.2.2 hi λh' hit' hs'=>hQ _ h' s.toks ⟨es[i],by simp[hi],rfl⟩ ⟨hit',(hs'.2 d hne).trans st.2.1,st.2.2⟩ λb o hb e=>hs'.extBut b o (λh=>hb (by simp[h])) e
 done:=λs Q E st hQ=>EQ hh st.1 st.2.1 st.2.2.2 (QT _) λh' he'=>hQ h' s.toks λb o hb e=>he' b o (λh=>hb (by simp[h])) e
 self:=λ_ _ _ _ st hQ=>wpAny_pyIter_keyiter st.1 hQ
def Fq(lo:(d==sysModules)=false):PySem.W.KdlSrc prog w "dict" d d es.size (λi v=>∃e,es[i]?=some e/\v=e.key) (J9 d o es ep)where
 type:=λ_ hm=>⟨o,hm.1,hm.2.1.1⟩
 there:=λ_ hm=>⟨Ub hm.1,Ub hm.1⟩
 keep:=λ_ _ hm hk=>⟨hk d (.inl rfl) o hm.1,hm.2⟩
 notList:=by decide
 notTuple:=by decide
 hint:=λ_ _ _ _ hm hq=>PySem.W.kdl_hint_dict ⟨o,hm.1,hm.2.1.1⟩ hq
 iter:=λ_ _ hh hm=>⟨_,_,(λ_ _ hq=>D8 lo hm.1 hm.2.1 hm.2.2 hq),Bh (ep:=ep) (o:=o) hh _ (QJ (Ub hm.1)),⟨⟨_,Ug _ rfl,rfl,rfl⟩,Ue _ hm.1,hm.2⟩⟩
end
variable[aU]
def G5:List D->List D->Option (List (List Key×D))
 |.non::ks,ds=>kH ks ds
 |ks,ds=>kH ks ds
def B2{K:Tt}{H:Hp}{v:V}{ks ds:List D}{al:List (List Key×D)}(h:cJ K H (.dct ks ds) v)(e:G5 ks ds=some al):
  ∃a,v=.ref a/\((∃kvs:List (List Key×V),Rd H a (.dT kvs)/\kvs.map (·.1)=al.map (·.1)/\bb K H (al.map (·.2)) (kvs.map (·.2)))\/(H a=some (.dK [])/\al=[])):=by
 unfold G5 at e;split at e
 ·obtain⟨f1,f2⟩:=jt e;subst f1 f2;obtain⟨a,o,kvs,q1,q2,q3,q4⟩:=zF h;exact⟨a,q1,.inl ⟨kvs,.inr ⟨o,q2⟩,q3,q4⟩⟩
 ·obtain⟨f1,f2⟩:=jt e;subst f1 f2;obtain⟨a,q1,q2⟩:=za h;rcases q2 with⟨kvs,q2,q3⟩|q2
  ·exact⟨a,q1,.inl ⟨kvs,.inl q2,q3⟩⟩
  ·exact⟨a,q1,.inr q2⟩
section
variable{X:Cx}
def ra:List D->Option D
 |[.dct ks ds]=>(G5 ks ds).bind λal=>some (.lst (encK al))
 |_=>none
def Fh{pins:List (UM×Obj)}{σ:St}{H:Hp}{s:UW}(I:Inv X pins σ H s){a:UM}{kvs:List (List Key×V)}(e:Rd H a (.dT kvs)):kvs.length<=UP/\(a==sysModules)=false/\∃o es ep,J9 a o es ep s.heap/\es.size=kvs.length/\∀(i:Nat) u,es[i]?=some u->∃b q,u.key=.ref b/\kvs[i]?.map (·.1)=some q/\H b=some (.tup (q.map kV)):=by
 obtain⟨z,hd,xs,rel,o,es,ep,h1,h2,h3,h4,_⟩:=zv I.hok e;have hl:es.size=kvs.length:=by rw[<-Array.length_toList,h4,Q1];exact(Paired.length rel).symm
 refine⟨z,hd,o,es,ep,⟨h1,h2,h3⟩,hl,λi u eu=>?_⟩;have hi:i<kvs.length:=by
  have:=(Array.getElem?_eq_some_iff.mp eu).1
  omega
 obtain⟨x,ex,f1,f2,f3⟩:=ub rel (i:=i) (x:=kvs[i]) (by simp[hi])
 have:es.toList[i]?=some (entryOfKey (tupleKind (bY X.prog X.w)) x):=by rw[h4,Rb,ex];rfl
 rw[Array.getElem?_toList,eu]at this;cases this;exact⟨x.2.1,kvs[i].1,rfl,by simp[hi],f2⟩
def A9(hc:X.calm=true):dY X (.type "list") (yd X.K ra):=by
 intro pins s σ H xs us Q I r ⟨O,ds,d,hO,hd,hg,q⟩;unfold ra at hg;split at hg
 ·rename_i ks vs0;cases hk:G5 ks vs0 with
  |none=>rw[hk]at hg;cases hg
  |some al=>
   rw[hk]at hg;cases hg;obtain⟨v,ev,h1⟩:=hd.one;subst ev;obtain⟨a,ea,hh⟩:=B2 h1 hk;subst ea;obtain⟨u,rfl,ru⟩:=vals1 r;cases ru;have fin:∀(H0:Hp)(kvs:List (List Key×V)),Inv X pins σ H0 s->Rd H0 a (.dT kvs)->kvs.map (·.1)=al.map (·.1)->(∀b ys,H0 b=some (.tup ys)->H b=some (.tup ys))->UY (model X.prog X.w) X.A (call (.type "list") [.ref a]) (EP X pins σ Q) X.xe s:=λH0 kvs I0 hr hk2 ht=>by
    obtain⟨z,hs,o,es,ep,raw,hsz,hkey⟩:=Fh I0 hr;have hl:al.length=kvs.length:=(by have:=congrArg List.length hk2;simpa using this.symm);refine T7 (Fq hs) (I.ok.hd hc) raw (by rw[hsz];exact z) λh' tk acc' c' kp e2 it=>?_;have key:∃ws:List V,Vals ws acc'.toList/\bb X.K (hid H O) (encK al) ws:=by
     have hlen:acc'.toList.length=al.length:=(by rw[Array.length_toList,it.1,hsz,hl]);have each:∀(j:Nat)(u:UJ),acc'.toList[j]?=some u->∃b q,u=.ref b/\al[j]?.map (·.1)=some q/\H b=some (.tup (q.map kV)):=λj u e=>by
      obtain⟨en,e3,e4⟩:=it.2 j u (by rw[<-Array.getElem?_toList];exact e);obtain⟨b,q,w1,w2,w3⟩:=hkey j en e3;refine⟨b,q,by rw[e4,w1],?_,ht _ _ w3⟩
      have:=congrArg (λl=>l[j]?) hk2
      simp only[Rb]at this;rw[<-this];exact w2
     clear it e2;generalize acc'.toList=us at hlen each;clear hk hl hk2 h1 hh q
     induction us generalizing al with
     |nil=>
      cases al with
      |nil=>exact⟨[],.nil,cI.mpr rfl⟩
      |cons _ _=>cases hlen
     |cons u us ih=>
      cases al with
      |nil=>cases hlen
      |cons p al=>
       obtain⟨ws,w1,w2⟩:=ih (al:=al) (by simpa using hlen) λj u e=>by
        have:=each (j+1) u (by rw[R6];exact e)
        rw[R6]at this;exact this
       obtain⟨b,q,e1,e2,e3⟩:=each 0 u rfl;cases e2;have bO:b∉O:=λz=>by
        obtain⟨u',q1,q2⟩:=hO.2 b z;rw[e3]at q1;cases q1;exact q2
       exact⟨.ref b::ws,.cons (by rw[e1];rfl) w1,bo.mpr ⟨.ref b,ws,rfl,cK.mpr ⟨b,_,rfl,by rw[i7 bO];exact e3,xM p.1⟩,w2⟩⟩
    obtain⟨ws,rv,dn⟩:=key;have wl:ws.length<=UP:=(by rw[<-dn.length,Q1,hl];exact z);refine⟨.ref s.heap.objs.size,_,I.laid (t':=tk) kp (QT _) (show cH X.prog X.w _ h' _ (.lst ws)from⟨wl,acc'.toList,c',rv,by simpa using e2⟩),rfl,?_⟩;have hf:=I.hok.fresh (QT s.heap.objs.size);exact q _ _ (bL hf _) (dF hO hf dn)
   rcases hh with⟨kvs,hr,e1,_⟩|⟨hr,e1⟩
   ·refine fin H kvs I ?_ e1 λ_ _ z=>z;rcases hr with hr|⟨o,hr⟩
    ·exact .inl ((aB H O) _ _ hr)
    ·exact .inr ⟨o,(aB H O) _ _ hr⟩
   ·have ha:=(aB H O) _ _ hr;refine fin _ [] (Eu I ha) (.inl aX) (by rw[e1];rfl) λb ys eb=>?_;by_cases z:b=a
    ·rw[z,aX]at eb;cases eb
    ·rw[aD z]at eb;exact eb
 ·cases hg
end
end TG
namespace TG
open PySem PySem.Spec PySem.Calls L2
variable[aU]
def AW(dd k:D):Option D:=match dd with
 |.dct ks ds=>(G5 ks ds).bind λal=>(jS k).bind λq=>qW al q
 |_=>none
def Kk{H:Hp}{O:List UM}{a:UM}{u:HO}(h:Rd (hid H O) a u):Rd H a u:=by
 rcases h with h|⟨o,h⟩
 ·exact .inl ((aB H O) _ _ h)
 ·exact .inr ⟨o,(aB H O) _ _ h⟩
section
variable{X:Cx}
def N4{o e:UZ}{fo fk:FX}{pos:Pos}(hu:X.A.units+64<Vo)(ho:FE X o fo)(hi:FE X e fk)(hs:HB e):FE X (.Subscript o e pos) (f2 AW fo fk):=
 PE.weak (Ik ‹0› ho hi hs) λσ H Q ⟨O,ρ,E,hF⟩=>⟨O,ρ,E,(js.bind hF).imp λdd hF v H1 s1 d1=>⟨O,ρ,E.same s1,((js.bind hF).mono s1).imp λk hF y H2 s2 d2=>by
  obtain⟨d,hg,q⟩:=js.rO hF;cases dd with
  |dct ks ds=>
   have hg:(G5 ks ds).bind (λal=>(jS k).bind λq=>qW al q)=some d:=hg;cases hk:G5 ks ds with
   |none=>rw[hk]at hg;cases hg
   |some al=>
    rw[hk]at hg;cases ht:jS k with
    |none=>rw[ht]at hg;cases hg
    |some qk=>
     rw[ht]at hg;have hg:qW al qk=some d:=hg;obtain⟨a,ea,hh⟩:=B2 (d1.mono (bN s2)) hk;rw[oj ht]at d2;obtain⟨b,ws,eb,g1,g2⟩:=cK.mp d2;rw[jw g2]at g1;rcases hh with⟨kvs,hr,e1,e2⟩|⟨_,rfl⟩
     ·rcases zh qk e1 e2 with⟨_,z2⟩|⟨w,d',z1,z2,z3⟩
      ·rw[z2]at hg;cases hg
      ·rw[z2]at hg;cases hg;exact⟨a,w,ea,by rw[<-z1];exact .inr ⟨kvs,qk,b,Kk hr,eb,(aB H2 O) _ _ g1,rfl⟩,q w H2 (s1.trans s2) z3⟩
     ·cases hg
  |_=>cases hg⟩⟩
end
def ED(i:Nat)(f:FX):cm:=λk ρ=>match ρ[i]? with
 |some (some (.own (.lst xs)))=>sZ (f ρ) k ρ λd=>match d with
  |.lst ys=>if small (xs.length+ys.length)then k.nx (ρ.set i (some (.own (.lst (xs++ys)))))else un
  |_=>un
 |_=>un
def O0{X:Cx}{i:Nat}{x:Str}{e:UZ}{f:FX}{npos apos cpos pos:Pos}(hx:PE X (.Name x npos) (qF i))(he:FN X e f)(hns:noStar e=true:=by rfl)
  (hbase:Vk (.Name x npos) "extend" X.env (eval (.Name x npos) X.env)=eval (.Name x npos) X.env:=by rfl)
  (hfew:((backTo cpos (U0 [e] X.env)).all (λx=>!x.1)&&(backToKw cpos (Vm [] X.env)).all (λx=>x.1.isSome)&&decide (([e]:List UZ).length+([]:List Vu).length+(if([]:List Vu).isEmpty then 0 else 1)<30))=true:=by rfl)
  (hline:(apos.endLine==cpos.line)=true:=by rfl) (hplain:(backTo cpos (U0 [] X.env)).any (·.1)=false:=by rfl)
  (hsw:swapsWith (.Call (.Attribute (.Name x npos) "extend" apos) [e] [] cpos) none pos.line X.env=pure false:=by rfl):
  FS X (.Expr (.Call (.Attribute (.Name x npos) "extend" apos) [e] [] cpos) pos) (ED i f):=λHb Ob pins s σ H E I ⟨O,ρ,k,rr,S,hF,hk⟩=>by
 unfold ED at hF;split at hF
 ·rename_i xs hxs;obtain⟨a,ha,haO,hat⟩:=S.env.own i _ hxs;obtain⟨o,vs0,ho,eo,dn⟩:=hat;subst eo;refine xr (BU F.plainAttrs_list F.slot_list_extend F.type_list_extend DQ hx (km he pD (cY hns)) hbase hfew hline (cY hns) hplain) hsw pins s σ H E I ⟨.ref a,ha,.inl ⟨rfl,vs0,pH.of ho⟩,O,ρ,S.env,js.on hF hk S λd hr p H1 s1 hp m own=>?_⟩;have S1:=S.same s1;cases d with
  |lst ys=>
   have hr:(if small (xs.length+ys.length)then k.nx (ρ.set i (some (.own (.lst (xs++ys)))))else un)=rr:=hr;cases hsm:small (xs.length+ys.length)with
   |false=>rw[hsm]at hr;exact absurd hr.symm hk.ne
   |true=>
    rw[hsm]at hr;obtain⟨o,zs,h1,h2,h3⟩:=own;subst h2;have dz:bb X.K (hid H1 O) ys zs:=h3.mono (iI λb hb=>QO _ hb);have hz:=eN hsm;exact⟨a,p,vs0,zs,rfl,rfl,s1 _ _ ho,h1,by rw[<-dn.length,<-dz.length];exact hz,hk.nx O _ σ _ (S1.setO hxs ha trivial (rS haO ((dn.mono (bN s1)).append dz))) hr⟩
  |_=>exact absurd (show un=rr from hr).symm hk.ne
 ·exact absurd hF.symm hk.ne
def uo:List D->Option D
 |[.lst xs]=>(i5 xs).bind λps=>if small ps.length then some (oR (vQ ps))else none
 |_=>none
section
variable{X:Cx}
def Bn(hc:X.calm=true)(hu:X.A.units+64<Vo):dY X (.type "dict") (yd X.K uo):=by
 intro pins s σ H xs us Q I r ⟨O,ds,d,hO,hd,hg,q⟩;unfold uo at hg;split at hg
 ·rename_i ys;cases hp:i5 ys with
  |none=>rw[hp]at hg;cases hg
  |some ps=>
   rw[hp]at hg;obtain⟨sm,rfl⟩:=bI (show(if small ps.length then some (oR (vQ ps))else none)=some d from hg);obtain⟨v,rfl,h1⟩:=hd.one;obtain⟨p,ws,rfl,g1,g2⟩:=cT.mp h1;obtain⟨u,rfl,ru⟩:=vals1 r;cases ru;obtain⟨its,rv,⟨o,n,ho,hcl,hd',hdd⟩,hz⟩:=I.list ((aB H O).seq g1);rw[qK hp]at g2;obtain⟨L,ks,l1,l2,l3,l4,l5⟩:=qR I g2 rv;have kl:ks.length=ps.length:=(by have:=congrArg List.length l4;simpa using this);have ll:ks.length=L.length:=Paired.length l3;have key:∀{ks:List (List Key×V)}{L:List (List Key×UM×UJ)},KT H ks L->∀x∈L,∀h,Keeps s.heap h->(tupleKind (bY X.prog X.w)).is h x.1 x.2.1:=λ{ks L} kt=>by
    induction kt with
    |nil=>intro x hx;cases hx
    |cons hq _ ih=>
     intro x hx h kh;rcases List.mem_cons.mp hx with z|z
     ·subst z;obtain⟨e1,e2,_⟩:=hq;rw[e1]at e2;obtain⟨o,xs,n,k1,k2⟩:=o6 I.hok e2;exact⟨o,xs,n,kh _ _ k1,k2⟩
     ·exact ih x z h kh
   obtain⟨f1,f2,f3,f4⟩:=uF (K:=X.K) (H:=H) (H0:=hid H O) (al:=[]) (kvs:=[]) (xs:=[]) l3 l4 l5 .nil rfl (cI.mpr rfl);have hsz:ps.length<=100000:=of_decide_eq_true sm;have sl:UP=16777216:=Vh;refine nO (knd:=tupleKind (bY X.prog X.w)) (L:=L) ho hcl hdd hd' (I.ok.hd hc) (VL (by rw[in1_units];omega)) (by simpa using l1) ‹0› (λi v e=>l2 i v (by simpa using e)) (key l3) λh' tk kp di=>?_;have hf:=I.hok.fresh (QT s.heap.objs.size);obtain⟨⟨od,es,ep,k1,k2,k3,k4,k5⟩,_⟩:=di;have kt':KT (upd H s.heap.objs.size (.frz od (.dT (ks.foldl (λm p=>putK m p.1 p.2) [])))) (ks.foldl (λm p=>putK m p.1 p.2) []) (L.foldl (λxs x=>storedH xs x.1 x.2.1 x.2.2) []):=KT.keeps f1 λb ys eb=>by rw[aD (λz=>by rw[z,hf]at eb;cases eb)];exact eb
   refine⟨.ref s.heap.objs.size,_,I.laid (t':=tk) kp (QT _) (show cH X.prog X.w _ h' _ (.frz od (.dT (ks.foldl (λm p=>putK m p.1 p.2) [])))from⟨k1,by simp only[Rr]at f4;omega,beq_eq_false_iff_ne.mpr (Ne.symm (QJ I.big)),_,kt',od,es,ep,k1,k2,k3,k4,k5⟩),rfl,?_⟩;refine q _ _ (bL hf _) ?_;have pO:=hO.not hf;refine Nw.mpr ⟨s.heap.objs.size,_,rfl,f3.mono (sF hf),.inr (.inr ⟨_,od,by rw[i7 pO];exact aX,congrArg _ (uq f2),rfl⟩)⟩
 ·cases hg
end
end TG
namespace L2
open PySem PySem.Spec PyProof.Rows
def rangeSize_down(a b:Int):Builtin.Range.rangeSize a b (-1)=if b<a then a-b else 0:=by
 unfold Builtin.Range.rangeSize;simp only[show¬((-1:Int)>0)by decide,if_false];split<;>(try split)<;>(try simp)<;>omega
def small_down{a b:Int}(ha:-(2^62)<=a)(ha':a<2^62)(hb:-(2^62)<=b)(hb':b<2^62):Builtin.Range.small a b (-1)=true:=by
 unfold Builtin.Range.small;rw[rangeSize_down];simp only[Builtin.Range.rangeFitsLong,Rj,RM,decide_eq_true_eq,beq_iff_eq,show¬((-1:Int)>0)by decide,if_false];split<;>omega
def Nj(hi:Int)(n:Nat):It:=⟨λi _=>i<n,λi H x H'=>H'=H/\x=.int (hi-i),λi _=>n<=i⟩
def DX{P:UL}{w:UK}{K:Tt}{tg:UZ}(it:UM)(lo:Int)(n:Nat):Turn P w K tg (Nj lo n) [it] it (λi h=>U8 h it (lo+(i:Nat)*(-1)) ((n:Int)-(i:Nat)) (-1))where
 mem:=by simp
 obj:=λi h st b hb=>by
  have e:b=it:=by simpa using hb
  subst e;exact⟨_,st,λv z=>by
   have z':Data.fields _=Data.cell v:=z;cases z'⟩
 keep:=λi h h' st k=>k it (by simp) _ st
 item:=by
  intro X hP hw hK hc i pins s σ H E I hf st hg;subst hP hw hK;obtain⟨f0,f1,f2,f3,f4,f5⟩:=hf it (by simp);have W:=Walks.range (prog:=X.prog) (w:=X.w) (I.ok.hd hc) it lo (-1) n;refine W.item i s _ _ hg st λv h' tk hv st' kk=>?_;obtain⟨t,rfl⟩:=hv;have I1:Inv X pins σ H {s with heap:=h',toks:=tk}:=I.turned (λb o hb e=>kk b o (by simpa using hb) e) f0 f1 f3 f4 f5;refine⟨_,rfl,B6 (s:={s with heap:=h',toks:=tk}) (n:="range_iterator") st' rfl rfl (by decide) ⟨.int (lo-i),H,I1,⟨t,?_⟩,⟨rfl,rfl⟩,st',λb hb=>(hf b hb).1⟩⟩;rw[show lo+(i:Int)*(-1)=lo-i by omega]
 done:=by
  intro X hP hw hK hc i pins s σ H E I hf st hg;subst hP hw hK;obtain⟨f0,f1,f2,f3,f4,f5⟩:=hf it (by simp);exact wpAny_pyNext_range_end (I.ok.hd hc) st (by have:n<=i:=hg;omega) λh' eb=>⟨rfl,I.turned (t':=s.toks) (λb o hb e=>eb b o hb e) f0 f1 f3 f4 f5⟩
 self:=λ_ _ _ _ _ st h=>wpAny_pyIter_rangeiter st h
section
variable{X:Cx}{tg:UZ}
def IC{pins:List (UM×Obj)}{σ:St}{H:Hp}{s:UW}{R:It->Hp->Prop}{E:UJ->UW->Prop}{lo hi:Int}{t u v:Tok}{tk:Nat}(I:Inv X pins σ H s)(h1:-(2^62)<=lo)(h2:lo<2^62)(h3:-(2^62)<=hi)(h4:hi<2^62)
  (q:R (Nj lo (lo-hi).toNat) H):UY (model X.prog X.w) X.A (pyIter (.ref s.heap.objs.size)) (PIE X pins σ tg R) E {s with heap:=s.heap.push {cls:=.type "range",data:=.fields #[.int lo t,.int hi u,.int (-1) v]},toks:=tk}:=by
 refine wpAny_pyIter_range (IsRange.new ..) (small_down h1 h2 h3 h4) ?_;have I1:Inv X pins σ H {s with heap:=s.heap.push {cls:=.type "range",data:=.fields #[.int lo t,.int hi u,.int (-1) v]},toks:=tk}:=I.kept λb o e=>Ue _ e;refine⟨(s.heap.push {cls:=.type "range",data:=.fields #[.int lo t,.int hi u,.int (-1) v]}).objs.size,[(s.heap.push {cls:=.type "range",data:=.fields #[.int lo t,.int hi u,.int (-1) v]}).objs.size],_,_,H,rfl,
  I1.kept (t':=tk) λb o e=>Ue _ e,DX _ lo (lo-hi).toNat,?_,λb hb=>?_,q⟩
 ·have e1:lo+((0:Nat):Int)*(-1)=lo:=by simp
  have e2:(((lo-hi).toNat:Nat):Int)-((0:Nat):Int)=Builtin.Range.rangeSize lo hi (-1):=by rw[rangeSize_down];split<;>omega
  show U8 _ _ (lo+((0:Nat):Int)*(-1)) ((((lo-hi).toNat:Nat):Int)-((0:Nat):Int)) (-1);rw[e1,e2];exact Ug _ rfl
 ·have e:b=(s.heap.push {cls:=.type "range",data:=.fields #[.int lo t,.int hi u,.int (-1) v]}).objs.size:=by simpa using hb
  subst e;exact I1.fpOk (QT _) (I1.hok.fresh (QT _))
def LK(ta:TA):TI:=λσ H R=>ta σ H λvs H1=>∃i j:Int,vs=[.int i,.int j,.int (-1)]/\(-(2^62)<=i/\i<2^62/\-(2^62)<=j/\j<2^62)/\R (Nj i (i-j).toNat) H1
def C6{a b c:UZ}{ta:TA}{p pos:Pos}(hg:Gl X "range")(hm:X.mg "range"=none)(ha:PA X [a,b,c] ta)(hs:U0 [a,b,c] X.env=[(false,eval a X.env),(false,eval b X.env),(false,eval c X.env)]:=by rfl)(hs2:U0 [b,c] X.env=[(false,eval b X.env),(false,eval c X.env)]:=by rfl):
  PI X tg (.Call (.Name "range" p) [a,b,c] [] pos) (LK ta):=by
 intro pins s σ H R I h;refine Call_ (kF I hg hm boot_range (Uq (dM (ha pos pins s σ H _ I h) λus s1 ⟨vs,H1,I1,r1,q1⟩=>?_) (by rw[hs,hs2]) (by rw[hs2];rfl)));obtain⟨i,j,e,⟨q1,q2,q3,q4⟩,q⟩:=q1;subst e;cases r1 with
 |cons r rr=>
  cases rr with
  |cons r' rr=>
   cases rr with
   |cons r'' rr=>
    cases rr;obtain⟨t,rfl⟩:=r;obtain⟨t',rfl⟩:=r';obtain⟨t'',rfl⟩:=r'';exact call_range_3 (by decide) (IC I1 q1 q2 q3 q4 q) (.inl (PyProof.noPylong_small ‹0›))
end
end L2
namespace TG
open PySem PySem.Spec L2
variable[aU]
def sf(hi:Int)(n:Nat):List D:=(List.range n).map λ(k:Nat)=>D.int (hi-(k:Int))
def rh(hi:Int)(n:Nat):(sf hi n).length=n:=by unfold sf;rw[Q1,RU]
def Dp{K:Tt}{Hd:Hp}(lo:Int)(n:Nat):Walk K Hd (Nj lo n) (sf lo n):=λHn O' i hO s=>
  ⟨fun d e=>by
    unfold sf at e;rw[Rb]at e;cases hi:(List.range n)[i]? with
    |none=>rw[hi]at e;cases e
    |some k=>
      rw[hi]at e;cases e;have hlt:i<n:=by
        have:=(List.getElem?_eq_some_iff.mp hi).1
        rwa [RU]at this
      have ek:k=i:=by
        rw[RX hlt]at hi;exact(Option.some.inj hi).symm
      subst ek;exact⟨hlt,λx H2 ⟨e1,e2⟩=>by subst e1;exact⟨bj.refl _,fw.mpr e2⟩⟩,
   λhl=>by rw[rh]at hl;exact Q2 hl.symm⟩
def sE:List D->Option (List D)
 |[.int i,.int j,.int k]=>if decide (k=-1)&&(okR i&&okR j)then some (sf i (i-j).toNat)else none
 |_=>none
def pR(f:aq->R (List D)):aq->R (List D):=λρ=>(f ρ).bind λds=>rO (sE ds)
section
variable{X:Cx}{tg:UZ}
def Ly{a b c:UZ}{f:aq->R (List D)}{p pos:Pos}(hg:Gl X "range")(hm:X.mg "range"=none)(ha:FA X [a,b,c] f)(hs:U0 [a,b,c] X.env=[(false,eval a X.env),(false,eval b X.env),(false,eval c X.env)]:=by rfl)(hs2:U0 [b,c] X.env=[(false,eval b X.env),(false,eval c X.env)]:=by rfl):FI X tg (.Call (.Name "range" p) [a,b,c] [] pos) (pR f):=by
 intro pins s σ H R I ⟨O,ρ,E,hG⟩;refine C6 hg hm ha hs hs2 pins s σ H R I ⟨O,ρ,E,(js.bind hG).imp λes hG' vs H1 s1 d1=>?_⟩;clear hG;obtain⟨ds,hG,q⟩:=js.rO hG';clear hG';unfold sE at hG;split at hG
 ·rename_i i j k;obtain⟨h1,h2⟩:=bI hG;subst h2;rw[Rj,Rj]at h1;have hk:=of_decide_eq_true h1.1;obtain⟨i1,i2⟩:=of_decide_eq_true h1.2.1;obtain⟨j1,j2⟩:=of_decide_eq_true h1.2.2;obtain⟨v,vs',ev,dv,d2⟩:=bo.mp d1;obtain⟨w,u,ew,dw,du⟩:=d2.two;exact⟨i,j,by rw[ev,ew,fw.mp dv,fw.mp dw,fw.mp du,hk],⟨i1,i2,j1,j2⟩,q _ H1 s1 (Dp i _)⟩
 ·cases hG
end
end TG
namespace TX
open PySem PySem.Spec L2 TG
variable[aU]
structure XE(X:Cx)(e:UZ)(F:FX):Prop where h:FE X e F
structure XT(X:Cx)(e:UZ)(F:aq->R Bool):Prop where h:FT X e F
structure XW(X:Cx)(e:UZ)(F:aq->R Bool):Prop where h:FW X e F
structure XA(X:Cx)(e:List UZ)(F:aq->R (List D)):Prop where h:FA X e F
structure XS(X:Cx)(e:U1)(F:cm):Prop where h:FS X e F
structure Bk(X:Cx)(e:List U1)(F:cm):Prop where h:Ad X e F
structure XI(X:Cx)(t e:UZ)(F:aq->R (List D)):Prop where h:FI X t e F
structure XG(X:Cx)(e:UZ)(F:GF):Prop where h:FG X e F
structure NZ(X:Cx)(e:List UZ)(F:El):Prop where h:MY X e F
structure XO(X:Cx)(e:Option UZ)(F:aq->R (Option Int)):Prop where h:FO X e F
structure XN(X:Cx)(e:UZ)(F:FX):Prop where h:FN X e F
structure N8(X:Cx)(e:List UZ)(F:aq->R Bool):Prop where h:Nr X e F
structure XV(X:Cx)(e:UZ)(i:Nat):Prop where h:PE X e (qF i)
structure XB(X:Cx)(scope:UX)(N:List Str)(tg elt:UZ)(ifs:List UZ)(g:GF)(C:aq->R Bool)(Fe:FX)(cl:List (Str×UM))(C':UM)(fp:List UM)(s:UW)(H:Hp)(E:UJ->UW->Prop):Prop where
 a:XG (cO X scope N cl C' fp s H E) tg g
 b:N8 (cO X scope N cl C' fp s H E) ifs C
 c:XE (cO X scope N cl C' fp s H E) elt Fe
structure HA(X:Cx)(scope:UX)(N:List Str)(tg elt:UZ)(ifs:List UZ)(g:GF)(C:aq->R Bool)(Fe:FX):Prop where
 q:∀cl C' fp s H E,XB X scope N tg elt ifs g C Fe cl C' fp s H E
def HA.h{X:Cx}{scope:UX}{N:List Str}{tg elt:UZ}{ifs:List UZ}{g:GF}{C:aq->R Bool}{Fe:FX}(x:HA X scope N tg elt ifs g C Fe):MP X scope N tg elt ifs g C Fe:=λcl C' fp s H E=>⟨(x.q cl C' fp s H E).a.h,(x.q cl C' fp s H E).b.h,(x.q cl C' fp s H E).c.h⟩
def xv{X:Cx}(i:Nat){x:Str}{pos:Pos}(hN:X.N[i]?=some x:=by rfl)(hv:Lh X.env.scope x:=by first|exact Or.inl rfl|exact Or.inr (Or.inl rfl)|exact Or.inr (Or.inr rfl))(hd:(x==("__debug__":Str))=false:=by decide)
  (hcd:(x==("__classdict__":Str))=false:=by decide):XV X (.Name x pos) i:=⟨pv i hN hv hd hcd⟩
def Js{X:Cx}{e:UZ}{f:aq->R Bool}(h:XW X e f):XT X e f:=⟨FW.ft h.h⟩
section
variable[aU]{X:Cx}
def aa{i:Nat}{x:Str}{pos:Pos}(h:XV X (.Name x pos) i):XE X (.Name x pos) (ah i):=⟨TG.O6 h.h⟩
end
section
variable[aU]{X:Cx}
def ai{i j pos}:XE X (.Constant (.int i) j pos) (fC (.int i)):=⟨TG.Oi ⟩
end
section
variable[aU]{X:Cx}
def i6{b j pos}:XE X (.Constant (.bool b) j pos) (fC (.bl b)):=⟨TG.Ql ⟩
end
section
variable[aU]{X:Cx}
def e9{x j pos}:XE X (.Constant (.str x) j pos) (fC (.str x)):=⟨TG.OM ⟩
end
section
variable[aU]{X:Cx}
def aj:XA X [] aw:=⟨TG.JQ ⟩
end
section
variable[aU]{X:Cx}
def ae{e:UZ}{es:List UZ}{f:FX}{g:aq->R (List D)}(he:XE X e f)(hs:XA X es g)(hns:noStar e=true:=by rfl):XA X (e::es) (af f g):=⟨TG.Hs he.h hs.h hns⟩
end
section
variable[aU]{X:Cx}
def cW{es:List UZ}{g:aq->R (List D)}{k pos}(h:XA X es g):XE X (.Tuple es k pos) (fF g):=⟨TG.PB h.h⟩
end
section
variable[aU]{X:Cx}
def ji{es:List UZ}{g:aq->R (List D)}{pos}(h:XA X es g):XE X (.List es pos) (jP g):=⟨TG.PJ h.h⟩
end
section
variable[aU]{X:Cx}
def ao{a b:UZ}{op:Operator}{r:R2}{g:D->D->Option D}{fa fb:FX}{pos:Pos}(ho:kn X (Vd op) r)(s:cX X.K r g)(ha:XE X a fa)(hb:XE X b fb):XE X (.BinOp a op b pos) (f2 g fa fb):=⟨TG.OG ho s ha.h hb.h⟩
end
section
variable[aU]{X:Cx}
def qf{a b:UZ}{op:Vf}{r:R2}{g:D->D->Option D}{fa fb:FX}{pos:Pos}(ho:kn X (Ve op) r)(s:cX X.K r g)(ha:XE X a fa)(hb:XE X b fb)(hm:Vg op b=false):XE X (.Compare a [op] [b] pos) (f2 g fa fb):=⟨TG.PR ho s ha.h hb.h hm⟩
end
section
variable[aU]{X:Cx}
def bG{a b:UZ}{op:Vf}{r:R2}{g:D->D->Option D}{fa fb:FX}{pos:Pos}(ho:kn X (Ve op) r)(s:cX X.K r g)(ha:XE X a fa)(hb:XE X b fb)(hm:Vg op b=false):XT X (.Compare a [op] [b] pos) (fB (f2 g fa fb)):=⟨TG.Oj ho s ha.h hb.h hm⟩
end
section
variable[aU]{X:Cx}{a b c:UZ}{rest:List UZ}{pos:Pos}{f g:aq->R Bool}
def oK(h:XT X a f):XT X (.UnaryOp .Not a pos) (uJ f):=⟨TG.Py h.h⟩
end
section
variable[aU]{X:Cx}{a b c:UZ}{rest:List UZ}{pos:Pos}{f g:aq->R Bool}
def Gv(h:XT X a f):XW X (.BoolOp .And [a] pos) f:=⟨TG.N0 h.h⟩
end
section
variable[aU]{X:Cx}{a b c:UZ}{rest:List UZ}{pos:Pos}{f g:aq->R Bool}
def lJ(h:XT X a f):XW X (.BoolOp .Or [a] pos) f:=⟨TG.PD h.h⟩
end
section
variable[aU]{X:Cx}{a b c:UZ}{rest:List UZ}{pos:Pos}{f g:aq->R Bool}
def Cw(ha:XT X a f)(hb:XW X (.BoolOp .And (b::rest) pos) g):XW X (.BoolOp .And (a::b::rest) pos) (Gh f g):=⟨TG.PL ha.h hb.h⟩
end
section
variable[aU]{X:Cx}{a b c:UZ}{rest:List UZ}{pos:Pos}{f g:aq->R Bool}
def pB(ha:XT X a f)(hb:XW X (.BoolOp .Or (b::rest) pos) g):XW X (.BoolOp .Or (a::b::rest) pos) (En f g):=⟨TG.Qb ha.h hb.h⟩
end
section
variable[aU]{X:Cx}{a b c:UZ}{rest:List UZ}{pos:Pos}{f g:aq->R Bool}{fa fb:FX}
def sY{op}(h:XE X a fa):XE X (.BoolOp op [a] pos) fa:=⟨TG.N3 h.h⟩
end
section
variable[aU]{X:Cx}{a b c:UZ}{rest:List UZ}{pos:Pos}{f g:aq->R Bool}{fa fb:FX}
def pV(ha:XE X a fa)(hb:XE X (.BoolOp .And (b::rest) pos) fb):XE X (.BoolOp .And (a::b::rest) pos) (rY fa fb):=⟨TG.Oe ha.h hb.h⟩
end
section
variable[aU]{X:Cx}{a b c:UZ}{rest:List UZ}{pos:Pos}{f g:aq->R Bool}{fa fb:FX}
def IJ(ha:XE X a fa):XE X (.UnaryOp .Not a pos) (Cr fa):=⟨TG.P4 ha.h⟩
end
section
variable[aU]{X:Cx}
def aH{a b:UZ}{fa fb:FX}{pos:Pos}(ha:XE X a fa)(hb:XE X b fb)(hs:xQ b):XE X (.Subscript a b pos) (f2 aG fa fb):=⟨TG.Qe ha.h hb.h hs⟩
end
section
variable[aU]{X:Cx}
def iV:XO X none cN:=⟨TG.Nv ⟩
end
section
variable[aU]{X:Cx}
def iO{e:UZ}{f:FX}(h:XE X e f):XO X (some e) (fI f):=⟨TG.Nq h.h⟩
end
section
variable[aU]{X:Cx}
def gb{e:UZ}{f:FX}{l h:aq->R (Option Int)}{lo hi:Option UZ}{p2 pos:Pos}(he:XE X e f)(hl:XO X lo l)(hh:XO X hi h):XE X (.Subscript e (.Slice lo hi none p2) pos) (dJ f l h):=⟨TG.Mg he.h hl.h hh.h⟩
end
section
variable[aU]{X:Cx}{x:Str}{p pos:Pos}{e:UZ}{es:List UZ}{id T:String}{g:List D->Option D}{f:aq->R (List D)}
def bC(hc:dY X (.builtin id) (yd X.K g))(hg:Gl X x)(hm:X.mg x=none)(hv:UU x=some (.builtin id))(ha:XA X (e::es) f)(hn:x≠"__name__":=by decide)(hdb:(x==("__debug__":Str))=false:=by decide)(hns:(e::es).all noStar=true:=by rfl):XE X (.Call (.Name x p) (e::es) [] pos) (fL g f):=⟨TG.MA hc hg hm hv ha.h hn hdb hns⟩
end
section
variable[aU]{X:Cx}{x:Str}{p pos:Pos}{e:UZ}{es:List UZ}{id T:String}{g:List D->Option D}{f:aq->R (List D)}
def bF(hc:dY X (.type T) (yd X.K g))(hg:Gl X x)(hm:X.mg x=none)(hv:UU x=some (.type T))(ha:XA X (e::es) f)(hn:x≠"__name__":=by decide)(hdb:(x==("__debug__":Str))=false:=by decide)(hns:(e::es).all noStar=true:=by rfl):XE X (.Call (.Name x p) (e::es) [] pos) (fL g f):=⟨TG.Ls hc hg hm hv ha.h hn hdb hns⟩
end
section
variable[aU]{X:Cx}{x:Str}{p pos:Pos}{e:UZ}{es:List UZ}{id T:String}{g:List D->Option D}{f:aq->R (List D)}
def gx{f:FX}{xT:Str}{p2:Pos}(ok:zQ X.K T)(hg:Gl X "isinstance")(hm:X.mg "isinstance"=none)(hgT:Gl X xT)(hmT:X.mg xT=none)(hvT:UU xT=some (.type T))(he:XE X e f)(hn2:xT≠"__name__":=by decide)(hd2:(xT==("__debug__":Str))=false:=by decide)(hns:noStar e=true:=by rfl):XE X (.Call (.Name "isinstance" p) [e,.Name xT p2] [] pos) (p4 T f):=⟨TG.P6 ok hg hm hgT hmT hvT he.h hn2 hd2 hns⟩
end
section
variable[aU]{X:Cx}{a:UZ}{f:FX}{pos:Pos}
def eO(h:XE X a f)(he:∀whole,isTrue a X.env whole=(do let v<-whole;standAt a.pos;holding [v] (truthy v)):=by intro _;rfl):XT X a (fS f):=⟨TG.LC h.h he⟩
end
section
variable[aU]{X:Cx}{tg:UZ}
def dQ{e:UZ}{f:FX}(h:XE X e f):XI X tg e (bT f):=⟨TG.Oh h.h⟩
end
section
variable[aU]{X:Cx}{tg:UZ}
def mH{a:UZ}{f:aq->R (List D)}{p pos:Pos}(hg:Gl X "range")(hm:X.mg "range"=none)(ha:XA X [a] f)(hs:U0 [a] X.env=[(false,eval a X.env)]:=by rfl):XI X tg (.Call (.Name "range" p) [a] [] pos) (je f):=⟨TG.Lw hg hm ha.h hs⟩
end
section
variable[aU]{X:Cx}{tg:UZ}
def An{a b:UZ}{f:aq->R (List D)}{p pos:Pos}(hg:Gl X "range")(hm:X.mg "range"=none)(ha:XA X [a,b] f)(hs:U0 [a,b] X.env=[(false,eval a X.env),(false,eval b X.env)]:=by rfl)(hs2:U0 [b] X.env=[(false,eval b X.env)]:=by rfl):XI X tg (.Call (.Name "range" p) [a,b] [] pos) (sL f):=⟨TG.Lz hg hm ha.h hs hs2⟩
end
section
variable[aU]{X:Cx}{pos:Pos}
def aM{i:Nat}{x:Str}(hN:X.N.Nodup)(hi:X.N[i]?=some x)(hx:Loc X.env.scope x)(hf:X.fn x=true\/X.env.scope.names.lookup x=some .local:=by first|exact .inl rfl|exact .inr rfl|assumption):XG X (.Name x pos) (gN i):=⟨TG.NB hN hi hx hf⟩
end
section
variable[aU]{X:Cx}{pos:Pos}
def eL:NZ X [] GB:=⟨TG.NN ⟩
end
section
variable[aU]{X:Cx}{pos:Pos}
def bD{e:UZ}{es:List UZ}{g:GF}{h:El}(h1:XG X e g)(h2:NZ X es h)(hs:(assignEach (e::es) X.env).map (·.2)=assign e X.env::(assignEach es X.env).map (·.2):=by rfl):NZ X (e::es) (As g h):=⟨TG.MZ h1.h h2.h hs⟩
end
section
variable[aU]{X:Cx}{pos:Pos}
def fP{es:List UZ}{k:Nat}{g:El}{n:Nat}(hc:X.calm=true)(h:NZ X es g)(hn:(assignEach es X.env).length=n:=by rfl)(hst:(assignEach es X.env).findIdx? (·.1)=none:=by rfl):XG X (.Tuple es k pos) (gT n g):=⟨TG.O7 hc h.h hn hst⟩
end
section
variable[aU]
def eY{X:Cx}:N8 X [] dH:=⟨TG.NS ⟩
end
section
variable[aU]
def nF{X:Cx}{c:UZ}{F:aq->R Bool}(h:XT X c F):N8 X [c] F:=⟨TG.Nk h.h⟩
end
section
variable[aU]{X:Cx}{elt tg iter:UZ}{ifs:List UZ}{scope:UX}{pos:Pos}{N:List Str}{ix:List (Option Nat)}{G:aq->R (List D)}{g:GF}{C:aq->R Bool}{Fe:FX}
def gD(hc:X.calm=true)(ok:mF X scope N ix)(tk:vo ix g)(hi:XI X tg iter G)(hb:HA X scope N tg elt ifs g C Fe)(hs:∀x,Vb iter X.env x=pure x:=by intro _;rfl):XE X (.ListComp elt [⟨tg,iter,ifs,0⟩] scope pos) (jX ix G g C Fe):=⟨TG.Qp hc ok tk hi.h hb.h hs⟩
end
section
variable[aU]{X:Cx}{st:U1}{rest body:List U1}{pos:Pos}
def aY:Bk X [] cM:=⟨TG.NV ⟩
end
section
variable[aU]{X:Cx}{st:U1}{rest body:List U1}{pos:Pos}
def ak{F1 F2:cm}(h1:XS X st F1)(h2:Bk X rest F2):Bk X (st::rest) (aW F1 F2):=⟨TG.LQ h1.h h2.h⟩
end
section
variable[aU]{X:Cx}{st:U1}{rest body:List U1}{pos:Pos}
def az{F1:cm}(h1:XS X st F1):Bk X [st] F1:=⟨TG.NI h1.h⟩
end
section
variable[aU]{X:Cx}{st:U1}{rest body:List U1}{pos:Pos}
def aJ{e:UZ}{f:FX}(h:XE X e f):XS X (.Return (some e) pos) (bM f):=⟨TG.Pw h.h⟩
end
section
variable[aU]{X:Cx}{st:U1}{rest body:List U1}{pos:Pos}
def cG{c:UZ}{a b:List U1}{tc:aq->R Bool}{A B:cm}(hc:XT X c tc)(ha:Bk X a A)(hb:Bk X b B):XS X (.If c a b pos) (mK tc A B):=⟨TG.Qd hc.h ha.h hb.h⟩
end
section
variable[aU]{X:Cx}{st:U1}{rest body:List U1}{pos:Pos}
def aR{i:Nat}{x:Str}{e:UZ}{f:FX}{pos':Pos}(hN:X.N.Nodup)(hi:X.N[i]?=some x)(hx:Loc X.env.scope x)(he:XE X e f)(hs:swapsWith e (some (.Name x pos')) pos.line X.env=pure false:=by rfl)(hf:X.fn x=true\/X.env.scope.names.lookup x=some .local:=by first|exact .inl rfl|exact .inr rfl|assumption):XS X (.Assign [.Name x pos'] e pos) (cy i f):=⟨TG.P7 hN hi hx he.h hs hf⟩
end
section
variable[aU]{X:Cx}{st:U1}{rest body:List U1}{pos:Pos}
def Ld{elt tg iter:UZ}{ifs:List UZ}{scope:UX}{N:List Str}{ix:List (Option Nat)}{G:aq->R (List D)}{g:GF}{C:aq->R Bool}{Fe:FX}{i:Nat}{y:Str}{lpos py spos:Pos}(hN:X.N.Nodup)(hi':X.N[i]?=some y)(hx:Loc X.env.scope y)(hc:X.calm=true)(ok:mF X scope N ix)(tk:vo ix g)(hi:XI X tg iter G)(hb:HA X scope N tg elt ifs g C Fe)(hsw:swapsWith (.ListComp elt [⟨tg,iter,ifs,0⟩] scope lpos) (some (.Name y py)) spos.line X.env=pure true:=by rfl)(hs:∀x,Vb iter X.env x=pure x:=by intro _;rfl)(hf:X.fn y=true\/X.env.scope.names.lookup y=some .local:=by first|exact .inl rfl|exact .inr rfl|assumption):XS X (.Assign [.Name y py] (.ListComp elt [⟨tg,iter,ifs,0⟩] scope lpos) spos) (cy i (jX ix G g C Fe)):=⟨TG.Qn hN hi' hx hc ok tk hi.h hb.h hsw hs hf⟩
end
section
variable[aU]{X:Cx}{st:U1}{rest body:List U1}{pos:Pos}
def HR{tg e:UZ}{f:FX}{g:GF}(he:XE X e f)(hg:XG X tg g)(hs:swapsWithSole [tg] e pos.line X.env=pure false:=by rfl)(hw:swappedStores [tg] e X.env=pure none:=by rfl)(h1:(assignEach [tg] X.env).map (·.2)=[assign tg X.env]:=by rfl):XS X (.Assign [tg] e pos) (Fi f g):=⟨TG.PX he.h hg.h hs hw h1⟩
end
section
variable[aU]{X:Cx}{st:U1}{rest body:List U1}{pos:Pos}
def jM:XS X st qo:=⟨TG.Ni ⟩
end
section
variable[aU]{X:Cx}{st:U1}{rest body:List U1}{pos:Pos}
def bS{st:List U1}{F:cm}(is:List Nat)(h:Bk X st F):Bk X st (dL is F):=⟨TG.Mo is h.h⟩
end
section
variable[aU]{X:Cx}{st:U1}{rest body:List U1}{pos:Pos}
def eF{tg iter:UZ}{G:aq->R (List D)}{g:GF}{B:cm}(hp:Va (model X.prog X.w) X.A X.env X.xe)(hc:X.calm=true)(hi:XI X tg iter G)(hg:XG X tg g)(hb:Bk X body B)(hs:∀x,Vb iter X.env x=pure x:=by intro _;rfl):XS X (.For tg iter body [] pos) (jU G g B):=⟨TG.OX hp hc hi.h hg.h hb.h hs⟩
end
section
variable[aU]{X:Cx}{pos:Pos}
def j4{es:List UZ}{g:aq->R (List D)}(h:XA X es g):XN X (.List es pos) (jP g):=⟨TG.N9 h.h⟩
end
section
variable[aU]{X:Cx}{pos:Pos}
def vK:XN X (.Dict [] [] pos) yI:=⟨TG.EC ⟩
end
section
variable[aU]{X:Cx}{pos:Pos}
def iB{i:Nat}{x:Str}{e:UZ}{f:FX}{pos':Pos}(hN:X.N.Nodup)(hi:X.N[i]?=some x)(hx:Loc X.env.scope x)(he:XN X e f)(hs:swapsWith e (some (.Name x pos')) pos.line X.env=pure false:=by rfl)(hf:X.fn x=true\/X.env.scope.names.lookup x=some .local:=by first|exact .inl rfl|exact .inr rfl|assumption):XS X (.Assign [.Name x pos'] e pos) (qa i f):=⟨TG.OL hN hi hx he.h hs hf⟩
end
section
variable[aU]
def KU{X:Cx}{elt tg iter:UZ}{ifs:List UZ}{scope:UX}{pos:Pos}{N:List Str}{ix:List (Option Nat)}{G:aq->R (List D)}{g:GF}{C:aq->R Bool}{Fe:FX}(hc:X.calm=true)(ok:mF X scope N ix)(tk:vo ix g)(hi:XI X tg iter G)(hb:HA X scope N tg elt ifs g C Fe)(hs:∀x,Vb iter X.env x=pure x:=by intro _;rfl):XN X (.ListComp elt [⟨tg,iter,ifs,0⟩] scope pos) (jX ix G g C Fe):=⟨TG.Qh hc ok tk hi.h hb.h hs⟩
end
section
variable[aU]
def nh{X : Cx}{i : Nat}{x m : Str}{id : String}{r : V -> List V -> Hp -> VK -> Prop}{u : List D -> List D -> Option (List D)}{e : UZ}{es : List UZ}{f : aq -> R (List D)}{npos apos cpos pos : Pos}(slot : Slot "list" m id)(hty : typeOf (.builtin id) = pure (.type "method_descriptor"))(hm : Mj X id r)(ok : G3 X.K r u)(hx : XV X (.Name x npos) i)(he : XA X (e :: es) f)(hbase : Vk (.Name x npos) m X.env (eval (.Name x npos) X.env) = eval (.Name x npos) X.env := by rfl)(hfew : ((backTo cpos (U0 (e :: es) X.env)).all (fun x => !x.1) && (backToKw cpos (Vm [] X.env)).all (fun x => x.1.isSome)
      && decide ((e::es:List UZ).length+([]:List Vu).length+(if([]:List Vu).isEmpty then 0 else 1)<30))=true:=by rfl)(hline:(apos.endLine==cpos.line)=true:=by rfl)(hs:U0 (e::es) X.env=(false,eval e X.env)::U0 es X.env:=by rfl)(hplain:(backTo cpos (U0 es X.env)).any (·.1)=false:=by rfl)(hsw:swapsWith (.Call (.Attribute (.Name x npos) m apos) (e::es) [] cpos) none pos.line X.env=pure false:=by rfl):XS X (.Expr (.Call (.Attribute (.Name x npos) m apos) (e::es) [] cpos) pos) (Dd i u f):=⟨TG.Qj slot hty hm ok hx.h he.h hbase hfew hline hs hplain hsw⟩
end
section
variable[aU]
def fH{X:Cx}{st:List U1}{F:cm}(i:Nat)(h:Bk X st F):Bk X st (kA i F):=⟨TG.Ny i h.h⟩
end
section
variable[aU]
def ym{X:Cx}{e:UZ}{f:FX}(is:List Nat)(h:XE X e f):XE X e (uK is f):=⟨TG.NY is h.h⟩
end
section
variable[aU]
def yo{X:Cx}{e:UZ}{f:aq->R Bool}(is:List Nat)(h:XT X e f):XT X e (nE is f):=⟨TG.NP is h.h⟩
end
section
variable[aU]
def ay{X:Cx}{k k':Nat}{ps:List Str}{g:List D->R D}{h:aq->R (List D)}{x:Str}{p pos:Pos}{e:UZ}{es:List UZ}(C:Callee X.prog X.w X.K X.mg X.base k x ps g)(hn:Ar ps.length g)(hr:fX k' X.A)(hk:k<=k')(ha:XA X (e::es) h)(hg:Gl X x:=by rfl)(hdb:(x==("__debug__":Str))=false:=by decide)(hns:(e::es).all noStar=true:=by rfl):XE X (.Call (.Name x p) (e::es) [] pos) (fR g h):=⟨TG.Lv C hn hr hk ha.h hg hdb hns⟩
end
section
variable[aU]{X:Cx}{a b c:UZ}{fa fb fc:FX}{pos:Pos}
def Eg{op op':Vf}{r r':R2}{g g':D->D->Option D}(ho:kn X (Ve op) r)(s:cX X.K r g)(ho':kn X (Ve op') r')(s':cX X.K r' g')(ha:XE X a fa)(hb:XE X b fb)(hc:XE X c fc)(hm:lastMarks [op,op'] [b,c]=false:=by with_unfolding_all rfl):XT X (.Compare a [op,op'] [b,c] pos) (fB (tW g g' fa fb fc)):=⟨TG.MV ho s ho' s' ha.h hb.h hc.h hm⟩
end
section
variable[aU]{X:Cx}{a b c:UZ}{fa fb fc:FX}{pos:Pos}
def jY(ha:XE X a fa):XE X (.UnaryOp .USub a pos) (mN fa):=⟨TG.OY ha.h⟩
end
section
variable[aU]{X:Cx}{a b c:UZ}{fa fb fc:FX}{pos:Pos}
def yv{x:Str}{i:Int}(hg:Gl X x)(hm:∃t,X.mg x=some (.int i t))(hd:(x==("__debug__":Str))=false:=by decide):XE X (.Name x pos) (fC (.int i)):=⟨TG.NR hg hm hd⟩
end
section
variable[aU]{X:Cx}
def B3{a b:UZ}{es:List UZ}{k:Nat}{tpos:Pos}{f:aq->R (List D)}{p pos:Pos}(hg:Gl X "zip")(hm:X.mg "zip"=none)(ha:XA X [a,b] f)(hs:U0 [a,b] X.env=(false,eval a X.env)::U0 [b] X.env:=by rfl)(hpl:(backTo pos (U0 [b] X.env)).any (·.1)=false:=by rfl):XI X (.Tuple es k tpos) (.Call (.Name "zip" p) [a,b] [] pos) (C0 f):=⟨TG.PZ hg hm ha.h hs hpl⟩
end
section
variable[aU]{X:Cx}
def kB{a:UZ}{es:List UZ}{k:Nat}{tpos:Pos}{f:aq->R (List D)}{p pos:Pos}(hg:Gl X "enumerate")(hm:X.mg "enumerate"=none)(ha:XA X [a] f)(hs:U0 [a] X.env=(false,eval a X.env)::U0 [] X.env:=by rfl)(hpl:(backTo pos (U0 [] X.env)).any (·.1)=false:=by rfl):XI X (.Tuple es k tpos) (.Call (.Name "enumerate" p) [a] [] pos) (fY f):=⟨TG.Jc hg hm ha.h hs hpl⟩
end
section
variable[aU]{X:Cx}{a o e:UZ}{es:List UZ}{fa fo:FX}{fas:aq->R (List D)}{f m x:Str}{cs:List Str}{pos apos p:Pos}{k k':Nat}{ps:List Str}
def iG(ok:nH X.K f cs)(h:XE X a fa)(hb:Vk a f X.env (eval a X.env)=eval a X.env:=by rfl):XE X (.Attribute a f pos) (f1 (lK f cs) fa):=⟨TG.Qa ok h.h hb⟩
end
section
variable[aU]{X:Cx}{a o e:UZ}{es:List UZ}{fa fo:FX}{fas:aq->R (List D)}{f m x:Str}{cs:List Str}{pos apos p:Pos}{k k':Nat}{ps:List Str}
def ly{tbl : List (Str × (List D -> R D))}{pl : Sem Bool}(tb : gO X.prog X.w X.K X.mg X.base k m ps tbl)(hr : fX k' X.A)(hk : k <= k')(ho : XE X o fo)(ha : XA X (e :: es) fas)(hns : (e :: es).all noStar = true := by rfl)(ht : eval (.Call (.Attribute o m apos) (e :: es) [] pos) X.env = (do
      let ov<-eval o X.env
      standAt apos.atName
      let (f,first)<-holding [ov] (getMethod ov m pl)
      Vl pos f first (backTo pos (U0 (e::es) X.env)) (backToKw pos (Vm [] X.env))):=by rfl):XE X (.Call (.Attribute o m apos) (e::es) [] pos) (dX m tbl fo fas):=⟨TG.Nu tb hr hk ho.h ha.h hns ht⟩
end
section
variable[aU]{X:Cx}{a o e:UZ}{es:List UZ}{fa fo:FX}{fas:aq->R (List D)}{f m x:Str}{cs:List Str}{pos apos p:Pos}{k k':Nat}{ps:List Str}
def sM{c:Str}{fs:List Str}(IA:o8 X.prog X.w X.K X.mg X.base k c ps fs)(hr:fX k' X.A)(hk:k+1<=k')(hg:Gl X c)(ha:XA X (e::es) fas)(hdb:(c==("__debug__":Str))=false:=by decide)(hns:(e::es).all noStar=true:=by rfl):XE X (.Call (.Name c p) (e::es) [] pos) (fNew c fs fas):=⟨TG.PP IA hr hk hg ha.h hdb hns⟩
end
section
variable[aU]
def EI{X:Cx}{i:Nat}{x:Str}{idx value:UZ}{fk fv:FX}{npos tpos pos:Pos}(hu:X.A.units+64<Vo)(hx:XV X (.Name x npos) i)(hi:XE X idx fk)(hv:XE X value fv)(hs:swapsWith value (some (.Subscript (.Name x npos) idx tpos)) pos.line X.env=pure false:=by rfl):XS X (.Assign [.Subscript (.Name x npos) idx tpos] value pos) (wU i fk fv):=⟨TG.ND hu hx.h hi.h hv.h hs⟩
end
section
variable[aU]{X:Cx}{p pos kp:Pos}{e:UZ}
def GW{f:FX}{i:Int}{j:Nat}{cp:Pos}(hc:X.calm=true)(hg:Gl X "max")(hm:X.mg "max"=none)(he:XE X e f)(hns:noStar e=true:=by rfl):XE X (.Call (.Name "max" p) [e] [⟨some "default",.Constant (.int i) j cp,kp⟩] pos) (f1 (se i) f):=⟨TG.Nm hc hg hm he.h hns⟩
end
section
variable[aU]{X:Cx}{pins:List (UM×Obj)}{s:UW}{σ:L2.St}{H:Hp}{O:List UM}
def Eh{f:FX}{j:Nat}{k:Nat}{c P cc:UM}{e:UZ}{p lpos kp pos np mp p2 spos:Pos}{row many:Str}{params:Vx}{scope:UX}(hr:fX k X.A)(hg:Gl X "sorted")(hm:X.mg "sorted"=none)(B:C7 X.mg X.base c P)(hcode:X.env.code=.ref c)(hT:∀H,aU.tab H->H P=some (.ext (pT P lpos (X.env.qual++"<lambda>"))))(he:XE X e f)(hN:X.N[j]?=some many)(hkm:X.env.kindOf many=some .cell)(hv:Lh X.env.scope many)(hcc:X.env.cells.lookup many=some cc)(hcl:closureFor scope X.env=pure [(many,cc)])(hdef:defaultsOf params X.env=([],[]))(hbind:∀cdv ctv v,bindArgs (T5 "<lambda>" (X.env.qual++"<lambda>") params (cutE row many np mp p2 spos) scope [(many,cc)] ((X.mg "__name__").getD .none) cdv ctv) ⟨[v],[]⟩=pure [(row,v)])(hco:scope.isCoroutine=false)(hgen:scope.isGenerator=false)(hk:scope.kind=.function)(hno:∀x∈scope.names,x.2≠.cell)(hlr:scope.names.lookup row=some .local)(hlm:scope.names.lookup many=some .free)(d1:(row==("__debug__":Str))=false)(d2:(many==("__debug__":Str))=false)(d3:(many==("__classdict__":Str))=false)(hns:noStar e=true:=by rfl):XE X (.Call (.Name "sorted" p) [e] [⟨some "key",.Lambda params (cutE row many np mp p2 spos) scope lpos,kp⟩] pos) (f2 qA f (ah j)):=⟨TG.Nb hr hg hm B hcode hT he.h hN hkm hv hcc hcl hdef hbind hco hgen hk hno hlr hlm d1 d2 d3 hns⟩
end
section
variable[aU]
def zu{X:Cx}{i:Nat}{x:Str}{idx value:UZ}{fk fv:FX}{npos tpos pos:Pos}(hu:X.A.units+64<Vo)(hx:XV X (.Name x npos) i)(hi:XE X idx fk)(hv:XE X value fv)(hs:swapsWith value (some (.Subscript (.Name x npos) idx tpos)) pos.line X.env=pure false:=by rfl):XS X (.Assign [.Subscript (.Name x npos) idx tpos] value pos) (pZ i fk fv):=⟨TG.Nt hu hx.h hi.h hv.h hs⟩
end
section
variable[aU]{X:Cx}{pos:Pos}
def Fj{i:Nat}{x:Str}{dp pos':Pos}(hN:X.N.Nodup)(hi:X.N[i]?=some x)(hx:Loc X.env.scope x)(hs:swapsWith (.Dict [] [] dp) (some (.Name x pos')) pos.line X.env=pure false:=by rfl)(hf:X.fn x=true\/X.env.scope.names.lookup x=some .local:=by first|exact .inl rfl|exact .inr rfl|assumption):XS X (.Assign [.Name x pos'] (.Dict [] [] dp) pos) (zg i):=⟨TG.Nh hN hi hx hs hf⟩
end
section
variable[aU]{X:Cx}
def IH{i:Nat}{x:Str}{ke ve:UZ}{fk fv:FX}{npos ap1 cp1 lp ap2 cp2 pos:Pos}(hu:X.A.units+64<Vo)(hx:XV X (.Name x npos) i)(hke:XE X ke fk)(hve:XE X ve fv)(hn1:noStar ke=true:=by rfl)(hn2:noStar ve=true:=by rfl)(hb1:Vk (.Name x npos) "setdefault" X.env (eval (.Name x npos) X.env)=eval (.Name x npos) X.env:=by rfl)(hf1:((backTo cp1 (U0 [ke,.List [] lp] X.env)).all (λx=>!x.1)&&(backToKw cp1 (Vm [] X.env)).all (λx=>x.1.isSome)&&decide (([ke,.List [] lp]:List UZ).length+([]:List Vu).length+(if([]:List Vu).isEmpty then 0 else 1)<30))=true:=by rfl)(hl1:(ap1.endLine==cp1.line)=true:=by rfl)(hp1:(backTo cp1 (U0 [.List [] lp] X.env)).any (·.1)=false:=by rfl)(hb2:Vk (.Call (.Attribute (.Name x npos) "setdefault" ap1) [ke,.List [] lp] [] cp1) "append" X.env (eval (.Call (.Attribute (.Name x npos) "setdefault" ap1) [ke,.List [] lp] [] cp1) X.env)=eval (.Call (.Attribute (.Name x npos) "setdefault" ap1) [ke,.List [] lp] [] cp1) X.env:=by rfl)(hf2:((backTo cp2 (U0 [ve] X.env)).all (λx=>!x.1)&&(backToKw cp2 (Vm [] X.env)).all (λx=>x.1.isSome)&&decide (([ve]:List UZ).length+([]:List Vu).length+(if([]:List Vu).isEmpty then 0 else 1)<30))=true:=by rfl)(hl2:(ap2.endLine==cp2.line)=true:=by rfl)(hp2:(backTo cp2 (U0 [] X.env)).any (·.1)=false:=by rfl)(hsw:swapsWith (.Call (.Attribute (.Call (.Attribute (.Name x npos) "setdefault" ap1) [ke,.List [] lp] [] cp1) "append" ap2) [ve] [] cp2) none pos.line X.env=pure false:=by rfl):XS X (.Expr (.Call (.Attribute (.Call (.Attribute (.Name x npos) "setdefault" ap1) [ke,.List [] lp] [] cp1) "append" ap2) [ve] [] cp2) pos) (DF i fk fv):=⟨TG.Pn hu hx.h hke.h hve.h hn1 hn2 hb1 hf1 hl1 hp1 hb2 hf2 hl2 hp2 hsw⟩
end
section
variable[aU]{X:Cx}
def nW{o:UZ}{es:List UZ}{k:Nat}{tpos:Pos}{f:FX}{apos cpos:Pos}(ho:XE X o f)(hbase:Vk o "items" X.env (eval o X.env)=eval o X.env:=by rfl)(hline:(apos.endLine==cpos.line)=true:=by rfl):XI X (.Tuple es k tpos) (.Call (.Attribute o "items" apos) [] [] cpos) (jk f):=⟨TG.LU ho.h hbase hline⟩
end
section
variable[aU]
def C8{X:Cx}{st:List U1}{F:cm}(i:Nat)(h:Bk X st F):Bk X st (vC i F):=⟨TG.Nc i h.h⟩
end
section
variable[aU]{X:Cx}
def G8{o e:UZ}{fo fk:FX}{pos:Pos}(hu:X.A.units+64<Vo)(ho:XE X o fo)(hi:XE X e fk)(hs:HB e):XE X (.Subscript o e pos) (f2 AW fo fk):=⟨TG.N4 hu ho.h hi.h hs⟩
end
section
variable[aU]
def Il{X:Cx}{i:Nat}{x:Str}{e:UZ}{f:FX}{npos apos cpos pos:Pos}(hx:XV X (.Name x npos) i)(he:XN X e f)(hns:noStar e=true:=by rfl)(hbase:Vk (.Name x npos) "extend" X.env (eval (.Name x npos) X.env)=eval (.Name x npos) X.env:=by rfl)(hfew:((backTo cpos (U0 [e] X.env)).all (λx=>!x.1)&&(backToKw cpos (Vm [] X.env)).all (λx=>x.1.isSome)&&decide (([e]:List UZ).length+([]:List Vu).length+(if([]:List Vu).isEmpty then 0 else 1)<30))=true:=by rfl)(hline:(apos.endLine==cpos.line)=true:=by rfl)(hplain:(backTo cpos (U0 [] X.env)).any (·.1)=false:=by rfl)(hsw:swapsWith (.Call (.Attribute (.Name x npos) "extend" apos) [e] [] cpos) none pos.line X.env=pure false:=by rfl):XS X (.Expr (.Call (.Attribute (.Name x npos) "extend" apos) [e] [] cpos) pos) (ED i f):=⟨TG.O0 hx.h he.h hns hbase hfew hline hplain hsw⟩
end
section
variable[aU]{X:Cx}{tg:UZ}
def AR{a b c:UZ}{f:aq->R (List D)}{p pos:Pos}(hg:Gl X "range")(hm:X.mg "range"=none)(ha:XA X [a,b,c] f)(hs:U0 [a,b,c] X.env=[(false,eval a X.env),(false,eval b X.env),(false,eval c X.env)]:=by rfl)(hs2:U0 [b,c] X.env=[(false,eval b X.env),(false,eval c X.env)]:=by rfl):XI X tg (.Call (.Name "range" p) [a,b,c] [] pos) (pR f):=⟨TG.Ly hg hm ha.h hs hs2⟩
end
abbrev Lk(K:Tt)(f:UM)(nm qual:Str)(st:U1)(oc:UJ)(od:Option UM)(kV dc pm:UJ)(an:Option UM)(cd ct:UJ)(sl:Array (Option UJ)):Prop:=K.lookup f=some ⟨oc,od,.func (TR nm qual (n8 st) (fA st) (ax st) .none kV dc pm an cd ct),sl⟩
structure cz(P:UL)(w:UK)(K:Tt)(mg:Str->Option UJ)(base:UO)(k:Nat)(N:List Str)(qual:Str)(st:U1)(f:UM)(B:cm):Prop where
 h:∀(cdv:UJ)(A:UV)(outer:List Env)(s:UW)(H:Hp)(E:XK),fX k (A.deeper (Us qual (ax st) s.heap.objs.size f cdv))->Va (model P w) (A.deeper (Us qual (ax st) s.heap.objs.size f cdv)) (Us qual (ax st) s.heap.objs.size f cdv) (kC (oY P w) P w K mg base N qual (ax st) f cdv A outer s H E).xe->
  Bk (kC (oY P w) P w K mg base N qual (ax st) f cdv A outer s H E) (fA st) B
structure GU(P:UL)(w:UK)(K:Tt)(mg:Str->Option UJ)(base:UO)(k:Nat)(N:List Str)(qual:Str)(st:U1)(f:UM)(B:cm):Prop where
 h:∀(cdv:UJ)(A:UV)(outer:List Env)(s:UW)(H:Hp)(E:XK),wg K f cdv->fX k (A.deeper (Us qual (ax st) s.heap.objs.size f cdv))->Va (model P w) (A.deeper (Us qual (ax st) s.heap.objs.size f cdv)) (Us qual (ax st) s.heap.objs.size f cdv) (kC (oY P w) P w K mg base N qual (ax st) f cdv A outer s H E).xe->
  Bk (kC (oY P w) P w K mg base N qual (ax st) f cdv A outer s H E) (fA st) B
def GU.ok{P:UL}{w:UK}{K:Tt}{mg:Str->Option UJ}{base:UO}{k:Nat}{N:List Str}{qual:Str}{st:U1}{f:UM}{B:cm}(h:GU P w K mg base k N qual st f B):yc P w K mg base k N qual st f B:=⟨λcdv A outer s H E hc hr hp=>(h.h cdv A outer s H E hc hr hp).h⟩
def cz.ok{P:UL}{w:UK}{K:Tt}{mg:Str->Option UJ}{base:UO}{k:Nat}{N:List Str}{qual:Str}{st:U1}{f:UM}{B:cm}(h:cz P w K mg base k N qual st f B):BodyOk P w K mg base k N qual st f B:=⟨λcdv A outer s H E hr hp=>(h.h cdv A outer s H E hr hp).h⟩
end TX
namespace TG
open L2
instance(priority:=low) noTabs:aU:=⟨λ_=>True,λ_ _=>trivial,λ_ _ _=>trivial⟩
open PySem PySem.Spec L2
def nr{α:Sort _}{a b:α}(h:a=b):a=b:=h
def cu{α β:Type}(a:α)(f:α->R β):Except.bind (Except.ok a:R α) f=f a:=nr rfl
def wz{α β:Type}(x:Option Ex)(f:α->R β):Except.bind (Except.error x:R α) f=.error x:=nr rfl
def rW{α:Type}(a:α)(k:Ks)(ρ:aq)(f:α->R D):sZ (.ok a) k ρ f=f a:=nr rfl
def vZ{α:Type}(x:Ex)(k:Ks)(ρ:aq)(f:α->R D):sZ (.error (some x)) k ρ f=k.ex x ρ:=nr rfl
def gf{α:Type}(a:α):Ab (.ok a:R α)=.ok a:=nr rfl
def eB{α:Type}(a:α):rO (some a)=.ok a:=nr rfl
def ge_0(d:D)(ρ:aq):tJ (some (.val d)::ρ) 0=.ok d:=nr rfl
def DZ(x:Option S)(ρ:aq)(i:Nat):tJ (x::ρ) (i+1)=tJ ρ i:=by
 unfold tJ;rw[R6]
def rj(i:Nat)(ρ:aq):ah i ρ=tJ ρ i:=nr rfl
def C3(d:D)(ρ:aq):fC d ρ=.ok d:=nr rfl
def qC(ρ:aq):aw ρ=.ok []:=nr rfl
def oC(f:FX)(g:aq->R (List D))(ρ:aq):af f g ρ=(f ρ).bind λx=>(g ρ).bind λxs=>.ok (x::xs):=nr rfl
def qv(g:aq->R (List D))(ρ:aq):fF g ρ=(g ρ).bind λxs=>rO (wI xs):=nr rfl
def qS(g:aq->R (List D))(ρ:aq):jP g ρ=(g ρ).bind λxs=>rO (jZ xs):=nr rfl
def CG(g:D->Option D)(f:FX)(ρ:aq):f1 g f ρ=(f ρ).bind λa=>rO (g a):=nr rfl
def CK(g:D->D->Option D)(f h:FX)(ρ:aq):f2 g f h ρ=(f ρ).bind λa=>(h ρ).bind λb=>rO (g a b):=nr rfl
def DM(f:FX)(ρ:aq):fB f ρ=(f ρ).bind λd=>rO (N6 d):=nr rfl
def DR(g:List D->Option D)(f:aq->R (List D))(ρ:aq):fL g f ρ=(f ρ).bind λds=>rO (g ds):=nr rfl
def Ea(g:List D->R D)(f:aq->R (List D))(ρ:aq):fR g f ρ=(f ρ).bind g:=nr rfl
def qX(f:aq->R Bool)(ρ:aq):uJ f ρ=(f ρ).bind λb=>.ok (!b):=nr rfl
def qw(f g:aq->R Bool)(ρ:aq):Gh f g ρ=(f ρ).bind λb=>if b then g ρ else .ok false:=nr rfl
def vP(f g:aq->R Bool)(ρ:aq):En f g ρ=(f ρ).bind λb=>if b then .ok true else g ρ:=nr rfl
def li(f:FX)(ρ:aq):fS f ρ=(f ρ).bind λd=>rO (truth d):=nr rfl
def nX(f g:FX)(ρ:aq):rY f g ρ=(f ρ).bind λd=>Bq d (g ρ):=nr rfl
def qy(f g:FX)(ρ:aq):Od f g ρ=(f ρ).bind λd=>M0 d (g ρ):=nr rfl
def nV(f:FX)(ρ:aq):Cr f ρ=(f ρ).bind λa=>rO (GN a):=nr rfl
def wZ(t:aq->R Bool)(f g:FX)(ρ:aq):Qu t f g ρ=(t ρ).bind λc=>if c then f ρ else g ρ:=nr rfl
def qu(T:String)(f:FX)(ρ:aq):p4 T f ρ=(f ρ).bind λa=>rO (iS T a):=nr rfl
def rG(f:FX)(ρ:aq):OH f ρ=(f ρ).bind λa=>.ok (.bl (isNon a)):=nr rfl
def nS(f:FX)(ρ:aq):M3 f ρ=(f ρ).bind λa=>.ok (.bl (!isNon a)):=nr rfl
def qB(f:FX)(ρ:aq):mN f ρ=(f ρ).bind λa=>rO (Kw a):=nr rfl
def lu(f:FX)(ρ:aq):KP f ρ=(f ρ).bind λa=>rO (FQ a):=nr rfl
def qY(f:FX)(ρ:aq):Pl f ρ=(f ρ).bind λa=>rO (JS a):=nr rfl
def kJ(g g':D->D->Option D)(fa fb fc:FX)(ρ:aq):tW g g' fa fb fc ρ=(fa ρ).bind λx=>(fb ρ).bind λy=>(rO (g x y)).bind λz=>Bq z ((fc ρ).bind λw=>rO (g' y w)):=nr rfl
def kK(f:FX)(ρ:aq):bT f ρ=(f ρ).bind λd=>rO (uN d):=nr rfl
def jB(f:aq->R (List D))(ρ:aq):je f ρ=(f ρ).bind λds=>rO (nU ds):=nr rfl
def jC(f:aq->R (List D))(ρ:aq):sL f ρ=(f ρ).bind λds=>rO (sW ds):=nr rfl
def qE(f:aq->R (List D))(ρ:aq):C0 f ρ=(f ρ).bind λds=>rO (Bs ds):=nr rfl
def oN(f:aq->R (List D))(ρ:aq):fY f ρ=(f ρ).bind λds=>rO (vD ds):=nr rfl
def rg(z:Str):QG (.str z)=some z:=nr rfl
def jA(ρ:aq):cN ρ=.ok none:=nr rfl
def nQ(f:FX)(ρ:aq):fI f ρ=(f ρ).bind λd=>rO (AV d):=nr rfl
def lr(f:FX)(l h:aq->R (Option Int))(ρ:aq):dJ f l h ρ=(f ρ).bind λa=>(l ρ).bind λlo=>(h ρ).bind λhi=>rO (tV a lo hi):=nr rfl
def n9(ρ:aq):dH ρ=.ok true:=nr rfl
def oa(k:Ks)(ρ:aq):cM k ρ=k.nx ρ:=nr rfl
def iC(A B:cm)(k:Ks)(ρ:aq):aW A B k ρ=A {k with nx:=B k} ρ:=nr rfl
def nY(f:FX)(k:Ks)(ρ:aq):bM f k ρ=sZ (f ρ) k ρ .ok:=nr rfl
def kZ(k:Ks)(ρ:aq):MI k ρ=.ok .non:=nr rfl
def pF(c:aq->R Bool)(A B:cm)(k:Ks)(ρ:aq):mK c A B k ρ=sZ (c ρ) k ρ λb=>if b then A k ρ else B k ρ:=nr rfl
def og(i:Nat)(f:FX)(k:Ks)(ρ:aq):cy i f k ρ=sZ (f ρ) k ρ λd=>k.nx (setV i d ρ):=nr rfl
def kT(is:List Nat)(F:cm)(k:Ks)(ρ:aq):dL is F k ρ=F k (kill is ρ):=nr rfl
def jl(G:aq->R (List D))(g:GF)(B:cm)(k:Ks)(ρ:aq):jU G g B k ρ=sZ (G ρ) k ρ λds=>ia g B k ds ρ:=nr rfl
def Ds(d:D)(x:Option S)(ρ:aq):setV 0 d (x::ρ)=some (.val d)::ρ:=nr rfl
def DY(i:Nat)(d:D)(x:Option S)(ρ:aq):setV (i+1) d (x::ρ)=x::setV i d ρ:=nr rfl
def rH(ρ:aq):kill [] ρ=ρ:=nr rfl
def oy(i:Nat)(is:List Nat)(ρ:aq):kill (i::is) ρ=kill is (ρ.set i none):=nr rfl
def kD(B:cm)(n:Nat)(a:D):aK B 1 n [a]=B K0 (env0 n [a]):=nr rfl
def dR(B:cm)(n:Nat)(a b:D):aK B 2 n [a,b]=B K0 (env0 n [a,b]):=nr rfl
def ph(B:cm)(n:Nat)(a b c:D):aK B 3 n [a,b,c]=B K0 (env0 n [a,b,c]):=nr rfl
def Bg(B:cm)(n:Nat)(a b c d:D):aK B 4 n [a,b,c,d]=B K0 (env0 n [a,b,c,d]):=nr rfl
def KA(B:cm)(n:Nat)(a b c d e:D):aK B 5 n [a,b,c,d,e]=B K0 (env0 n [a,b,c,d,e]):=nr rfl
def qD(ρ:aq):inB [] ρ=[]:=nr rfl
def oz(ix:List (Option Nat))(ρ:aq):inB (none::ix) ρ=none::inB ix ρ:=nr rfl
def pick(ρ:aq)(i:Nat):Option S:=match ρ[i]? with
 |some (some (.val d))=>some (.val d)
 |_=>none
def n6(i:Nat)(ix:List (Option Nat))(ρ:aq):inB (some i::ix) ρ=pick ρ i::inB ix ρ:=nr rfl
theorem CZ(d:D)(ρ:aq):pick (some (.val d)::ρ) 0=some (.val d):=rfl
def Di(x:Option S)(ρ:aq)(i:Nat):pick (x::ρ) (i+1)=pick ρ i:=by
 unfold pick;rw[R6]
def ot(i:Nat)(f:FX)(k:Ks)(ρ:aq):qa i f k ρ=sZ (f ρ) k ρ λd=>k.nx (ρ.set i (some (.own d))):=nr rfl
def oH(i:Nat)(F:cm)(k:Ks)(ρ:aq):kA i F k ρ=F k (frz i ρ):=nr rfl
def Dr(d:D)(ρ:aq):frz 0 (some (.own d)::ρ)=some (.val d)::ρ:=nr rfl
def vM(d:D)(ρ:aq):frz 0 (some (.val d)::ρ)=some (.val d)::ρ:=nr rfl
def DK(i:Nat)(x:Option S)(ρ:aq):frz (i+1) (x::ρ)=x::frz i ρ:=by
 unfold frz;rw[R6];split<;>rename_i h
 ·rw[h];rfl
 ·rfl
def ng(i:Nat)(u:List D->List D->Option (List D))(f:aq->R (List D))(k:Ks)(ρ:aq){xs:List D}(h:ρ[i]?=some (some (.own (.lst xs)))):Dd i u f k ρ=sZ (f ρ) k ρ λds=>(rO (u xs ds)).bind λys=>k.nx (ρ.set i (some (.own (.lst ys)))):=by
 unfold Dd;rw[h]
def mP{xs:List D}{y:D}(h:xs.length<100000):gY xs [y]=some (xs++[y]):=by
 show(if small (xs.length+1)then some (xs++[y])else none)=_;rw[dE ‹0›];rfl
def qQ(i j:Int):ce (.int i) (.int j)=some (.int (i+j)):=nr rfl
def qV(i j:Int):TG.vi (.int i) (.int j)=some (.int (i-j)):=nr rfl
def wN(i j:Int):Qv (.int i) (.int j)=some (.bl (decide (i<j))):=nr rfl
def qH(i j:Int):tI (.int i) (.int j)=some (.bl (decide (i<j))):=nr rfl
def rA(x y:Str):tI (.str x) (.str y)=some (.bl (decide (x.cps.toList<y.cps.toList))):=nr rfl
def ro(c d:Bool):Pu (.bl c) (.bl d)=some (.bl (c==d)):=nr rfl
def jx(c d:Bool):lM (.bl c) (.bl d)=some (.bl (!(c==d))):=nr rfl
def vO(i j:Int):Qc (.int i) (.int j)=some (.bl (decide (i<=j))):=nr rfl
def vI(i j:Int):Pz (.int i) (.int j)=some (.bl (decide (j<i))):=nr rfl
def wc(i j:Int):Qo (.int i) (.int j)=some (.bl (decide (j<=i))):=nr rfl
def qt(i:Int):Kw (.int i)=some (.int (-i)):=nr rfl
def fU{i j:Int}(h:0<j):cS (.int i) (.int j)=some (.int (i%j)):=by
 show(if decide (0<j)then some (D.int (i%j))else none)=_;rw[decide_eq_true h];rfl
def mX{i j:Int}(h:0<j)(h':j<10^200):dN (.int i) (.int j)=some (.int (i/j)):=by
 show(if decide (0<j/\j<10^200)then some (D.int (i/j))else none)=_;rw[decide_eq_true ⟨h,h'⟩];rfl
def tu{i j:Int}(h:-(2^64)<i)(h':i<2^64):o5 (.int i) (.int j)=some (.int (i*j)):=by
 show(if decide ((-(2^64)<i/\i<2^64)\/(-(2^64)<j/\j<2^64))then some (D.int (i*j))else none)=_;rw[decide_eq_true (.inl ⟨h,h'⟩)];rfl
def pM{i j:Int}(h:-(2^64)<j)(h':j<2^64):o5 (.int i) (.int j)=some (.int (i*j)):=by
 show(if decide ((-(2^64)<i/\i<2^64)\/(-(2^64)<j/\j<2^64))then some (D.int (i*j))else none)=_;rw[decide_eq_true (.inr ⟨h,h'⟩)];rfl
def Aw(i:Int)(n:Nat)(h:n<=1000000)(h':i.natAbs<2^64):su (.int i) (.int n)=some (.int (i^n)):=by
 show(if decide (0<=(n:Int)/\(n:Int)<=1000000/\i.natAbs<2^64)then some (D.int (i^(n:Int).toNat))else none)=_;rw[decide_eq_true ⟨by omega,by omega,h'⟩];rfl
def GX:su (.int 10) (.int 59)=some (.int (10^59)):=Aw 10 59 (by decide) (by decide)
def Jk:Int:=10^59
def QE:Int:=10^60
def Mq:1000000<Jk/\Jk*10=QE:=by decide +kernel
def J0:su (.int 10) (.int 59)=some (.int Jk):=GX
def kI(i j:Int):lI (.int i) (.int j)=some (.bl (i==j)):=by unfold lI pyEq;rfl
def lA(i j:Str):lI (.str i) (.str j)=some (.bl (i==j)):=by unfold lI pyEq;rfl
def lj(i j:Bool):lI (.bl i) (.bl j)=some (.bl (i==j)):=by unfold lI pyEq;rfl
def lG(i j:Int):G6 (.int i) (.int j)=some (.bl (!(i==j))):=by unfold G6 pyEq;rfl
def kO(i j:Str):G6 (.str i) (.str j)=some (.bl (!(i==j))):=by unfold G6 pyEq;rfl
def lB(i j:Bool):G6 (.bl i) (.bl j)=some (.bl (!(i==j))):=by unfold G6 pyEq;rfl
def Dl{α:Type}(xs:List α)(n:Nat):pI xs (n:Int)=xs[n]?:=by
 unfold pI Jl;rw[if_pos ‹0›];by_cases h:n<xs.length
 ·rw[if_pos ‹0›];rfl
 ·rw[if_neg ‹0›,SH ‹0›];rfl
def CT{α:Type}(a:α)(xs:List α):pI (a::xs) 0=some a:=Dl (a::xs) 0
def C4{α:Type}(a:α)(xs:List α)(n:Nat):pI (a::xs) ((n+1:Nat):Int)=pI xs (n:Int):=by
 rw[Dl,Dl,R6]
def IX(xs:List D)(i:Int):aG (.tup xs) (.int i)=pI xs i:=nr rfl
def Ip(xs:List D)(i:Int):aG (.lst xs) (.int i)=pI xs i:=nr rfl
def wK(a:D)(xs:List D):aG (.tup (a::xs)) (.int 0)=some a:=CT a xs
def wA(a b:D)(xs:List D):aG (.tup (a::b::xs)) (.int 1)=some b:=(C4 a _ 0).trans (CT b xs)
def ww(a b c:D)(xs:List D):aG (.tup (a::b::c::xs)) (.int 2)=some c:=(C4 a _ 1).trans ((C4 b _ 0).trans (CT c xs))
def wX(a:D)(xs:List D):aG (.lst (a::xs)) (.int 0)=some a:=CT a xs
def wO(a b:D)(xs:List D):aG (.lst (a::b::xs)) (.int 1)=some b:=(C4 a _ 0).trans (CT b xs)
def wt(a b c:D)(xs:List D):aG (.lst (a::b::c::xs)) (.int 2)=some c:=(C4 a _ 1).trans ((C4 b _ 0).trans (CT c xs))
def lg(xs:List D):jh [.lst xs]=some (.int xs.length):=nr rfl
def kM(xs:List D):jh [.tup xs]=some (.int xs.length):=nr rfl
def hJ(xs:List D):cR [.lst xs]=some (.tup xs):=nr rfl
def ir(xs:List D):cR [.tup xs]=some (.tup xs):=nr rfl
def qN(b:Bool):N6 (.bl b)=some b:=nr rfl
def jy(i:Int):AV (.int i)=some (some i):=nr rfl
def ik(b:Bool):truth (.bl b)=some b:=nr rfl
def ib(xs:List D):truth (.tup xs)=some (!xs.isEmpty):=nr rfl
def ig(xs:List D):truth (.lst xs)=some (!xs.isEmpty):=nr rfl
def mG(i j:Int):sg [.int i,.int j]=some (.int (if j>i then j else i)):=nr rfl
def mR(i j:Int):y6 [.int i,.int j]=some (.int (if j<i then j else i)):=nr rfl
def Gu(b:Bool):BD [.bl b]=some (.int (if b then 1 else 0)):=nr rfl
def ip(xs:List D):uN (.lst xs)=some xs:=nr rfl
def gW(xs:List D):uN (.tup xs)=some xs:=nr rfl
def kL(k:R D):Bq (.bl true) k=k:=nr rfl
def kR(k:R D):Bq (.bl false) k=.ok (.bl false):=nr rfl
def oJ(k:R D):M0 (.bl true) k=.ok (.bl true):=nr rfl
def nT(k:R D):M0 (.bl false) k=k:=nr rfl
def kU(a b:Bool):Bq (.bl a) (.ok (.bl b))=.ok (.bl (a&&b)):=by cases a<;>rfl
def nR(a b:Bool):M0 (.bl a) (.ok (.bl b))=.ok (.bl (a||b)):=by cases a<;>rfl
def qP(b:Bool):GN (.bl b)=some (.bl (!b)):=nr rfl
def rE(xs:List D):JS (.lst xs)=some (.lst xs.reverse):=nr rfl
def oq(n:Nat)(h:n<2^62):nU [.int n]=some (fV 0 n):=by
 show(if okR (n:Int)then some (fV 0 ((n:Int).toNat))else none)=_
 have:okR (n:Int)=true:=decide_eq_true ⟨by omega,by omega⟩
 rw[this];rfl
def J3{xs:List D}(h:xs.length<=100000):jZ xs=some (.lst xs):=by unfold jZ;rw[dE h];rfl
def Ca{α:Type}(f:α->D)(h:∀a,pl (f a)=true):∀xs:List α,rN (xs.map f)=true
 |[]=>rfl
 |x::xs=>by
  show(pl (f x)&&rN (xs.map f))=true;rw[h,Ca f h xs];rfl
def HZ(f:Str->D)(hf:f=D.str)(w:Str)(ws:List Str):inD (.str w) (ws.map f)=ws.any λy=>y==w:=by
 subst hf;unfold inD;rw[Sj];congr 1
def B5(w:Str)(ws:List Str):Jw (.str w) (.tup (ws.map .str))=some (.bl (ws.contains w)):=by
 show(if(pl (.str w)&&rN (ws.map .str))&&iX 8 (.str w)then some (D.bl (inD (.str w) (ws.map .str)))else none)=_;rw[HZ _ rfl,Ca _ λ_=>rfl];show some (D.bl _)=_;congr 2
 induction ws with
 |nil=>rfl
 |cons x xs ih=>rw[Rq,Sd,ih,Bool.beq_comm]
def Ir(w:Str)(ws:List Str):Jw (.str w) (.lst (ws.map .str))=some (.bl (ws.contains w)):=B5 w ws
def Ez(xs ys:List D)(h:xs.length+ys.length<=100000):ce (.lst xs) (.lst ys)=some (.lst (xs++ys)):=by
 show(if small (xs.length+ys.length)then some (D.lst (xs++ys))else none)=_;rw[dE h];rfl
def iW(xs ys:List D)(h:xs.length+ys.length<=100000):ce (.tup xs) (.tup ys)=some (.tup (xs++ys)):=by
 show(if small (xs.length+ys.length)then some (D.tup (xs++ys))else none)=_;rw[dE h];rfl
def om(xs:List D)(lo hi:Option Int):tV (.lst xs) lo hi=some (.lst (cutD xs lo hi)):=nr rfl
def oF(xs:List D)(lo hi:Option Int):tV (.tup xs) lo hi=some (.tup (cutD xs lo hi)):=nr rfl
def eU{ix:List (Option Nat)}{G:aq->R (List D)}{g:GF}{C:aq->R Bool}{Fe:FX}{ρ:aq}{ds r:List D}(h1:G ρ=.ok ds)(h2:ds.length<=100000)(h3:Ac (inB ix ρ) g C Fe ds=.ok r):jX ix G g C Fe ρ=.ok (.lst r):=by
 unfold jX;rw[h1,cu,dE h2,h3];rfl
def tE{α:Type}{ρ:aq}{g:GF}{C:aq->R Bool}{Fe:FX}(mk:α->D)(p:α->Bool)(v:α->D):∀xs:List α,(∀a∈xs,∃ρ1,g (mk a) ρ=some ρ1/\C ρ1=.ok (p a)/\Fe ρ1=.ok (v a))->
  Ac ρ g C Fe (xs.map mk)=.ok ((xs.filter p).map v)
 |[],_=>rfl
 |a::xs,h=>by
  obtain⟨ρ1,h1,h2,h3⟩:=h a QN;rw[Q0,kY,h1,eB,cu,h2,gf,cu,h3,gf,cu,tE mk p v xs λb hb=>h b (QO _ hb)];cases e:p a with
  |true=>rw[if_pos rfl,Sw e];rfl
  |false=>rw[if_neg QY,Sx (by simp[e])]
def jo{α:Type}{ρ:aq}{g:GF}{C:aq->R Bool}{Fe:FX}(mk:α->D)(v:α->D)(xs:List α)(h:∀a∈xs,∃ρ1,g (mk a) ρ=some ρ1/\C ρ1=.ok true/\Fe ρ1=.ok (v a)):Ac ρ g C Fe (xs.map mk)=.ok (xs.map v):=by
 rw[tE mk (λ_=>true) v xs h,List.filter_eq_self.mpr λ_ _=>rfl]
def By{g:GF}{B:cm}{k:Ks}(Iv:Nat->aq->Prop):∀(ds:List D)(i:Nat)(ρ:aq),(∀j d ρ (k':Ks),i<=j->ds[j-i]?=some d->Iv j ρ->∃ρ1 ρ2,g d ρ=some ρ1/\Iv (j+1) ρ2/\B k' ρ1=k'.nx ρ2)->Iv i ρ->∃ρ',Iv (i+ds.length) ρ'/\ia g B k ds ρ=k.nx ρ'
 |[],i,ρ,_,h=>⟨ρ,h,rfl⟩
 |d::ds,i,ρ,st,h=>by
  obtain⟨ρ1,ρ2,e1,h2,e2⟩:=st i d ρ ⟨ia g B k ds,k.nx,ia g B k ds,k.ex⟩ (QT _) (by rw[Sg];rfl) h;obtain⟨ρ',h3,e3⟩:=By (g:=g) (B:=B) (k:=k) Iv ds (i+1) ρ2 (λj d' ρ k' hj hd=>st j d' ρ k' ‹0› (by rw[show j-i=(j-(i+1))+1 by omega,R6];exact hd)) h2;refine⟨ρ',?_,?_⟩
  ·rw[QZ]
   have:i+(ds.length+1)=i+1+ds.length:=(by omega);rw[this];exact h3
  ·show((rO (g d ρ)).bind λρ1=>B ⟨ia g B k ds,k.nx,ia g B k ds,k.ex⟩ ρ1)=_;rw[e1,eB,cu,e2];exact e3
def dP{g:GF}{B:cm}{k:Ks}{ds:List D}{ρ:aq}{Q:R D->Prop}(Iv:Nat->aq->Prop)(st:∀i d ρ (k':Ks),ds[i]?=some d->Iv i ρ->∃ρ1 ρ2,g d ρ=some ρ1/\Iv (i+1) ρ2/\B k' ρ1=k'.nx ρ2)(h:Iv 0 ρ)(q:∀ρ',Iv ds.length ρ'->Q (k.nx ρ')):Q (ia g B k ds ρ):=by
 obtain⟨ρ',h1,e⟩:=By (k:=k) Iv ds 0 ρ (λj d ρ k' _ hd=>st j d ρ k' hd) h;rw[e];rw[Sa]at h1;exact q ρ' h1
def cw{α:Type}{xs:List α}{i:Nat}{a:α}(h:xs[i]?=some a):i<xs.length:=by
 rcases SG i xs.length with z|z
 ·exact z
 ·rw[SH z]at h;cases h
def BG{α β:Type}(f:α->β)(xs:List α)(i:Int):pI (xs.map f) i=(pI xs i).map f:=by
 unfold pI;rw[Q1];cases Jl xs.length i with
 |none=>rfl
 |some j=>simp
def tD{α:Type}{xs:List α}{k:Nat}(h:k<xs.length):pI xs (k:Int)=some xs[k]:=by
 unfold pI Jl;rw[if_pos ‹0›,if_pos ‹0›];simp[h]
def qe{α:Type}{xs:List α}{i:Int}(h0:0<=i)(h:i<xs.length):pI xs i=some (xs[i.toNat]'‹0›):=by
 have e:i=((i.toNat:Nat):Int):=by omega
 conv=>lhs;rw[e]
 exact tD ‹0›
def Jj:cm:=aW (mK (fB (f2 tI (ah 1) (fL jh (af (ah 0) (aw))))) (bM (f2 aG (ah 0) (ah 1))) (cM)) (bM (fC (.int 0)))
def G7(ns:List Int)(k:Nat):aK Jj 2 2 [.lst (ns.map .int),.int k]=.ok (.int (ns.getD k 0)):=by
 show(if decide ((k:Int)<((ns.map D.int).length:Int))then sZ (rO (pI (ns.map D.int) (k:Int))) _ _ .ok else .ok (.int 0))=_;rw[Q1];by_cases h:k<ns.length
 ·rw[if_pos (by simpa using h),BG,tD h,Option.map_some,SA,RJ h];rfl
 ·rw[if_neg (by simpa using h),SA,SH ‹0›];rfl
def Et(ns:List Int)(i:Int)(h:0<=i):∃c:Int,aK Jj 2 2 [.lst (ns.map .int),.int i]=.ok (.int c):=by
 have e:i=((i.toNat:Nat):Int):=by omega
 exact⟨ns.getD i.toNat 0,by rw[e];exact G7 ns i.toNat⟩
def BZ(x y:Str):(x++y).length=x.length+y.length:=by
 show(x.cps++y.cps).size=_;rw[Array.size_append];rfl
def ny(x y:Str)(h:x.length<=1000)(h':y.length<=1000):ce (.str x) (.str y)=some (.str (x++y)):=by
 show(if small (x.length+y.length)then some (D.str (x++y))else none)=_;rw[dE ‹0›];rfl
def Cb(x:Str)(h:x.length<=1000)(i:Int)(h0:0<=i)(h1:i<x.length):∃y:Str,y.length=1/\aG (.str x) (.int i)=some (.str y):=by
 have hl:x.cps.toList.length=x.length:=by simp[Str.length]
 have hi:i<x.cps.toList.length:=by omega
 refine⟨⟨#[x.cps.toList[i.toNat]'‹0›]⟩,rfl,?_⟩;show(if small x.length then(pI x.cps.toList i).bind λc=>some (D.str ⟨#[c]⟩)else none)=_;rw[dE ‹0›,if_pos rfl,qe h0 hi];rfl
def ow(lo:Int)(n:Nat):fV lo n=(List.range n).map λ(k:Nat)=>D.int (lo+(k:Int)):=nr rfl
def dI(lo:Int)(n:Nat):(fV lo n).length=n:=by unfold fV;rw[Q1,RU]
def tx{α:Type}(xs:List α)(m:Nat):cutD xs none (some (m:Int))=xs.take m:=by
 unfold cutD;rw[HT.MS,HT.Nx,RE,RW];rcases SL m xs.length with h|h
 ·rw[SM h]
 ·rw[SN h,SJ h,SJ (QT _)]
def y4{α:Type}(xs:List α)(m:Nat):cutD xs (some (m:Int)) none=xs.drop m:=by
 unfold cutD;rw[HT.MS,HT.Nx];rcases SL m xs.length with h|h
 ·rw[SM h];exact SJ (by rw[Ri];exact QT _)
 ·rw[SN h,Sg,RB,List.drop_eq_nil_of_le h]
def BK(ρ:aq):yI ρ=.ok (.dct [] []):=nr rfl
def qj(q:List Key):jS (.tup (q.map bx))=some q:=cP q
def HV{i:Nat}{fk fv:FX}{k:Ks}{ρ:aq}{al:List (List Key×D)}{q:List Key}{v:D}(h:ρ[i]?=some (some (.own (dB al))))(ek:fk ρ=.ok (.tup (q.map bx)))(ev:fv ρ=.ok v)(hl:al.length<=100000):wU i fk fv k ρ=k.nx (ρ.set i (some (.own (dB (jb al q v))))):=by
 have e:wJ (encK al) (al.map (·.2)) (.tup (q.map bx)) v=some (jb al q v):=by
  unfold wJ;rw[kX];show(jS (.tup (q.map bx))).bind _=_;rw[qj];show(if small al.length then _ else _)=_;rw[dE hl];rfl
 unfold wU;rw[h];show sZ ((fv ρ).bind λv=>(fk ρ).bind λq=>rO (wJ (encK al) (al.map (·.2)) q v)) k ρ _=_;rw[ev,cu,ek,cu,e];rfl
def HP{α:Type}(xs:List α)(a:α):pI (xs++[a]) (-1)=some a:=by
 unfold pI Jl;rw[if_neg (by decide),Rg,Rm];simp;rw[if_pos ‹0›];show(xs++[a])[(-1+((xs.length:Int)+1)).toNat]?=some a;rw[show(-1+((xs.length:Int)+1)).toNat=xs.length by omega];simp
def AK:∀{σ τ:List Bool}{a b:List D},Sh σ a->Sh τ b->Sh (σ++τ) (a++b)
 |_,_,_,_,.nil,h=>h
 |_,_,_,_,.int i h,h'=>.int i (AK h h')
 |_,_,_,_,.str i h,h'=>.str i (AK h h')
local macro_rules
 |`(tactic| simp! only[$xs,*])=>`(tactic| simp only[cu,wz,rW,vZ,gf,eB,ge_0,DZ,rj,C3,qC,oC,qv,qS,CG,CK,DM,DR,Ea,qX,qw,vP,li,nX,qy,nV,wZ,qu,rG,nS,qB,lu,qY,kJ,kK,jB,jC,qE,oN,jA,nQ,lr,n9,oa,iC,nY,kZ,pF,og,kT,jl,ot,oH,Dr,vM,DK,Ds,DY,rH,oy,qD,oz,n6,CZ,Di,SV,SW,Q0,Ro,RA,RO,K0,env0,List.replicate,Si,Q4,Sa,Nat.reduceAdd,Nat.reduceSub,QZ,Rr,qQ,qV,wN,qH,rA,ro,jx,rg,vO,vI,wc,qt,kI,lA,lj,lG,kO,lB,wK,wA,ww,wX,wO,wt,lg,kM,hJ,ir,qN,jy,ik,ib,ig,mG,mR,ip,gW,kL,kR,oJ,nT,kU,nR,qP,rE,om,oF,gN,if_true,if_false,SY,SZ,Ry,$xs,*])
def P9(a b c:D):wI [a,b,c]=some (.tup [a,b,c]):=nr rfl
def Id(a b:D):wI [a,b]=some (.tup [a,b]):=nr rfl
def Pm(a:D):wI [a]=some (.tup [a]):=nr rfl
def Qz:wI []=some (.tup []):=nr rfl
def Qk(a:D):jZ [a]=some (.lst [a]):=nr rfl
def M4(a b:D):jZ [a,b]=some (.lst [a,b]):=nr rfl
def LV:jZ []=some (.lst []):=nr rfl
def EY:cm:=bM (fL cR (af (jX [none] (bT (f2 ce (f2 aG (ah 0) (fC (.int 0))) (f2 aG (ah 0) (fC (.int 1))))) (gN 0) (dH) (f2 aG (ah 0) (fC (.int 1)))) (aw)))
def kinds_ok(kf rf:List D)(ps:List (Str×D))(hl:kf.length+rf.length<=100)(e:kf++rf=ps.map (λp=>.tup [.str p.1,p.2])):aK EY 1 1 [.tup [.tup kf,.tup rf]]=.ok (.tup (ps.map (·.2))):=by
 have hl':ps.length<=100:=by have:=congrArg List.length e;rw[Rg,Q1]at this;omega
 have f0:jX [none] (bT (f2 ce (f2 aG (ah 0) (fC (.int 0))) (f2 aG (ah 0) (fC (.int 1))))) (gN 0) (dH) (f2 aG (ah 0) (fC (.int 1))) [some (.val (.tup [.tup kf,.tup rf]))]=.ok (.lst (ps.map (·.2))):=by
  refine eU (ds:=ps.map (λp=>.tup [.str p.1,p.2])) ?_ (by rw[Q1];omega) ?_
  ·simp! only[];rw[iW _ _ ‹0›,e];simp! only[]
  ·refine jo _ _ ps λp _=>⟨_,rfl,rfl,?_⟩
   simp! only[]
 rw[kD];unfold EY;simp! only[f0]
def JD(m:Nat)(rows:List (List D)):Prop:=rows.Pairwise λr s=>eR (r.take m) (s.take m)=some true
inductive F2{α β:Type}(R:α->β->Prop):List α->List β->Prop where
 |nil:F2 R [] []
 |cons {a:α} {b:β} {as:List α} {bs:List β} (h:R a b) (t:F2 R as bs):F2 R (a::as) (b::bs)
def Fk{ρ:aq}{g:GF}{C:aq->R Bool}{Fe:FX}:∀(ds:List D)(P:Nat->D->Prop),(∀i d,ds[i]?=some d->∃ρ1 v,g d ρ=some ρ1/\C ρ1=.ok true/\Fe ρ1=.ok v/\P i v)->∃vs:List D,vs.length=ds.length/\(∀i v,vs[i]?=some v->P i v)/\Ac ρ g C Fe ds=.ok vs
 |[],_,_=>⟨[],rfl,(λ_ _ h=>nomatch h),rfl⟩
 |d::ds,P,h=>by
  obtain⟨ρ1,w,h1,h2,h3,h4⟩:=h 0 d rfl;obtain⟨ws,e1,e2,e3⟩:=Fk (ρ:=ρ) (g:=g) (C:=C) (Fe:=Fe) ds (λi v=>P (i+1) v) λi d' hd=>h (i+1) d' (by rw[R6];exact hd);refine⟨w::ws,by rw[QZ,QZ,e1],λi v hv=>?_,?_⟩
  ·cases i with
   |zero=>cases hv;exact h4
   |succ i=>rw[R6]at hv;exact e2 i v hv
  ·rw[kY,h1,eB,cu,h2,gf,cu,h3,gf,cu,e3];rfl
end TG
namespace TD
open PySem PySem.Spec L2 TG TX
def cC:cm:=aW (mK (fB (f2 tI (ah 1) (fL jh (af (ah 0) (aw))))) (bM (f2 aG (ah 0) (ah 1))) (cM)) (bM (fC (.int 0)))
def eD:cm:=bM (fL cR (af (jX [none] (bT (f2 ce (f2 aG (ah 0) (fC (.int 0))) (f2 aG (ah 0) (fC (.int 1))))) (gN 0) (dH) (f2 aG (ah 0) (fC (.int 0)))) (aw)))
def eZ:cm:=aW (jU (fY (af (fR (aK eD 1 1) (af (ah 0) (aw))) (aw))) (gT 2 (lE [2,3])) (aW (mK (fB (f2 lI (ah 3) (ah 1))) (bM (ah 2)) (cM)) (dL [2,3] cM))) (qo)
def d7:cm:=bM (fL cR (af (jX [none] (bT (f2 ce (f2 aG (ah 0) (fC (.int 0))) (f2 aG (ah 0) (fC (.int 1))))) (gN 0) (dH) (f2 aG (ah 0) (fC (.int 1)))) (aw)))
def ga:cm:=bM (f2 aG (f2 aG (f2 ce (f2 aG (ah 0) (fC (.int 0))) (f2 aG (ah 0) (fC (.int 1)))) (ah 1)) (fC (.int 1)))
def bf:cm:=bM (f2 cS (f2 ce (f2 ce (f2 o5 (ah 0) (ah 0)) (f2 o5 (fC (.int 48271)) (ah 0))) (fC (.int 11))) (fC (.int 2147483647)))
def cQ:cm:=aW (cy 2 (f2 cS (f2 ce (f2 ce (f2 cS (fR (aK cC 2 2) (af (ah 0) (af (ah 1) (aw)))) (fC (.int 2147483647))) (f2 o5 (f2 o5 (fC (.int 69621)) (ah 1)) (ah 1))) (fC (.int 5))) (fC (.int 2147483647)))) (bM (fR (aK bf 1 1) (af (fR (aK bf 1 1) (af (ah 2) (aw))) (aw))))
def cq:cm:=aW (cy 2 (fC (.str "abcdefghijklmnopqrstuvwxyz"))) (aW (cy 1 (f2 cS (f2 ce (f2 o5 (ah 1) (f2 aG (jP (af (fC (.int 1)) (af (fC (.int 5)) (af (fC (.int 7)) (af (fC (.int 11)) (af (fC (.int 13)) (af (fC (.int 23)) (aw)))))))) (f2 cS (ah 0) (fC (.int 6))))) (f2 dN (ah 0) (fC (.int 6)))) (fC (.int 24)))) (aW (cy 0 (f2 dN (ah 0) (fC (.int 144)))) (aW (mK (fB (f2 lI (f2 cS (ah 0) (fC (.int 3))) (fC (.int 0)))) (bM (f2 yE (f2 aG (ah 2) (f2 cS (f2 ce (f2 dN (ah 0) (fC (.int 3))) (f2 dN (ah 1) (fC (.int 8)))) (fC (.int 26)))) (f2 ce (fC (.int 1)) (f2 cS (ah 1) (fC (.int 8)))))) (cM)) (aW (cy 3 (f2 ce (fC (.int 1)) (f2 cS (f2 dN (ah 0) (fC (.int 3))) (fC (.int 8))))) (aW (cy 4 (fC (.str ""))) (aW (jU (je (af (ah 3) (aw))) (gN 5) (aW (cy 6 (f2 dN (ah 0) (f2 ce (fC (.int 24)) (f2 o5 (f2 o5 (fC (.int 11)) (ah 5)) (ah 5))))) (aW (mK (fB (f2 lI (ah 5) (f2 cS (f2 dN (ah 0) (fC (.int 24))) (ah 3)))) (cy 6 (f2 ce (ah 6) (ah 1))) (cM)) (aW (cy 4 (f2 ce (ah 4) (f2 aG (ah 2) (f2 cS (ah 6) (fC (.int 26)))))) (dL [5,6] cM))))) (bM (ah 4))))))))
noncomputable def dh:cm:=aW (mK (fB (f2 tI (f2 cS (ah 0) (fC (.int 3))) (fC (.int 2)))) (aW (cy 1 (f2 aG (jP (af (fC (.int 0)) (af (mN (fC (.int 3))) (af (f2 vi (fC (.int 0)) (f2 cS (f2 su (ah 0) (fC (.int 7))) (f2 su (fC (.int 10)) (fC (.int 59))))) (af (f2 cS (f2 su (ah 0) (fC (.int 7))) (f2 su (fC (.int 10)) (fC (.int 59)))) (aw)))))) (f2 cS (f2 dN (ah 0) (fC (.int 3))) (fC (.int 4))))) (bM (fF (af (fC (.str "number")) (af (ah 1) (af (f2 ce (ah 1) (f2 aG (jP (af (fC (.int 0)) (af (fC (.int 1)) (af (fC (.int 6)) (af (f2 su (fC (.int 10)) (fC (.int 59))) (aw)))))) (f2 cS (f2 dN (ah 0) (fC (.int 12))) (fC (.int 4))))) (aw))))))) (cM)) (aW (cy 2 (fC (.str "abcdefghijklmnopqrstuvwxyz"))) (aW (cy 3 (f2 aG (ah 2) (f2 cS (f2 dN (ah 0) (fC (.int 3))) (fC (.int 26))))) (aW (cy 4 (f2 aG (ah 2) (f2 cS (f2 dN (ah 0) (fC (.int 78))) (fC (.int 26))))) (aW (cy 5 (jP (af (fC (.str "")) (af (ah 3) (af (ah 4) (af (f2 ce (ah 3) (ah 4)) (af (f2 ce (ah 4) (ah 3)) (af (f2 yE (ah 3) (fC (.int 8))) (af (f2 ce (ah 3) (ah 3)) (af (f2 yE (ah 4) (fC (.int 3))) (aw))))))))))) (aW (qa 6 yI) (dL [1,2,4] (aW (jU (je (af (fC (.int 8)) (aw))) (gN 7) (aW (mK (fB (f2 lI (f2 rR (f2 xR (f2 dN (ah 0) (fC (.int 2028))) (ah 7)) (fC (.int 1))) (fC (.int 1)))) (pZ 6 (f2 aG (ah 5) (ah 7)) (fC (.bl true))) (cM)) (dL [7] cM))) (aW (mK (nE [6] (fB (f2 lI (fL vL (af (ah 6) (aw))) (fC (.int 0))))) (pZ 6 (ah 3) (fC (.bl true))) (cM)) (kA 6 (bM (fF (af (fC (.str "word")) (af (fL cR (af (fL iD (af (fL qx (af (ah 6) (aw))) (aw))) (aw))) (aw))))))))))))))
open PySem PySem.Spec L2 TG
local macro_rules
 |`(tactic| simp! only[$xs,*])=>`(tactic| simp only[cu,wz,rW,vZ,gf,eB,ge_0,DZ,rj,C3,qC,oC,qv,qS,CG,CK,DM,DR,Ea,qX,qw,vP,li,nX,qy,nV,wZ,qu,rG,nS,qB,lu,qY,kJ,kK,jB,jC,qE,oN,jA,nQ,lr,n9,oa,iC,nY,kZ,pF,og,kT,jl,ot,oH,Dr,vM,DK,Ds,DY,rH,oy,qD,oz,n6,CZ,Di,SV,SW,Q0,Ro,RA,RO,K0,env0,List.replicate,Si,Q4,Sa,Nat.reduceAdd,Nat.reduceSub,QZ,Rr,qQ,qV,wN,qH,rA,ro,jx,rg,vO,vI,wc,qt,kI,lA,lj,lG,kO,lB,wK,wA,ww,wX,wO,wt,lg,kM,hJ,ir,qN,jy,ik,ib,ig,mG,mR,ip,gW,kL,kR,oJ,nT,kU,nR,qP,rE,om,oF,gN,if_true,if_false,SY,SZ,Ry,$xs,*])
def NC(ns:List Int)(i:Int)(h:0<=i):∃c:Int,aK cC 2 2 [.lst (ns.map .int),.int i]=.ok (.int c):=Et ns i h
def wH(xs ys:List D):Bs [.tup xs,.tup ys]=some (mO xs ys):=nr rfl
local macro_rules
 |`(tactic| simp! only[$xs,*])=>`(tactic| simp only[cu,wz,rW,vZ,gf,eB,ge_0,DZ,rj,C3,qC,oC,qv,qS,CG,CK,DM,DR,Ea,qX,qw,vP,li,nX,qy,nV,wZ,qu,rG,nS,qB,lu,qY,kJ,kK,jB,jC,qE,oN,jA,nQ,lr,n9,oa,iC,nY,kZ,pF,og,kT,jl,ot,oH,Dr,vM,DK,Ds,DY,rH,oy,qD,oz,n6,CZ,Di,SV,SW,Q0,Ro,RA,RO,K0,env0,List.replicate,Si,Q4,Sa,Nat.reduceAdd,Nat.reduceSub,QZ,Rr,qQ,qV,wN,qH,rA,ro,jx,rg,vO,vI,wc,qt,kI,lA,lj,lG,kO,lB,wK,wA,ww,wX,wO,wt,lg,kM,hJ,ir,qN,jy,ik,ib,ig,mG,mR,ip,gW,kL,kR,oJ,nT,kU,nR,qP,rE,om,oF,gN,if_true,if_false,SY,SZ,Ry,$xs,*])
def vN{g:GF}{B:cm}{k:Ks}{Q:R D->Prop}(Iv:Nat->aq->Prop):∀(ds:List D)(o i:Nat)(ρ:aq)(d:D),ds[i]?=some d->(∀j d ρ (k':Ks),j<i->ds[j]?=some d->Iv (o+j) ρ->∃ρ1 ρ2,g d ρ=some ρ1/\Iv (o+j+1) ρ2/\B k' ρ1=k'.nx ρ2)->Iv o ρ->
  (∀ρ (k':Ks),Iv (o+i) ρ->∃ρ1,g d ρ=some ρ1/\Q (B k' ρ1))->Q (ia g B k ds ρ)
 |[],_,_,_,_,h,_,_,_=>nomatch h
 |x::ds,o,0,ρ,d,h,_,hI,q=>by
  cases h;obtain⟨ρ1,e1,q1⟩:=q ρ ⟨ia g B k ds,k.nx,ia g B k ds,k.ex⟩ hI;show Q ((rO (g x ρ)).bind λρ1=>B ⟨ia g B k ds,k.nx,ia g B k ds,k.ex⟩ ρ1);rw[e1,eB,cu];exact q1
 |x::ds,o,i+1,ρ,d,h,st,hI,q=>by
  obtain⟨ρ1,ρ2,e1,h2,e2⟩:=st 0 x ρ ⟨ia g B k ds,k.nx,ia g B k ds,k.ex⟩ ‹0› rfl hI;show Q ((rO (g x ρ)).bind λρ1=>B ⟨ia g B k ds,k.nx,ia g B k ds,k.ex⟩ ρ1);rw[e1,eB,cu,e2];refine vN Iv ds (o+1) i ρ2 d (by rw[R6]at h;exact h) (λj d' ρ' k' hj hd hI'=>?_) h2 (λρ' k' hI'=>q ρ' k' (by rw[show o+(i+1)=o+1+i by omega];exact hI'));obtain⟨a,b,c1,c2,c3⟩:=st (j+1) d' ρ' k' ‹0› (by rw[R6];exact hd) (by rw[show o+(j+1)=o+1+j by omega];exact hI');exact⟨a,b,c1,by rw[show o+1+j+1=o+(j+1)+1 by omega];exact c2,c3⟩
abbrev fld(p:Str×D):D:=.tup [.str p.1,p.2]
def uB(kf rf:List D)(ps:List (Str×D))(hl:ps.length<=100)(e:kf++rf=ps.map fld):aK eD 1 1 [.tup [.tup kf,.tup rf]]=.ok (.tup (ps.map λp=>.str p.1)):=by
 have hl':kf.length+rf.length<=100:=by have:=congrArg List.length e;rw[Rg,Q1]at this;omega
 have f0:jX [none] (bT (f2 ce (f2 aG (ah 0) (fC (.int 0))) (f2 aG (ah 0) (fC (.int 1))))) (gN 0) (dH) (f2 aG (ah 0) (fC (.int 0))) [some (.val (.tup [.tup kf,.tup rf]))]=.ok (.lst (ps.map λp=>.str p.1)):=by
  refine eU (ds:=ps.map fld) ?_ (by rw[Q1];omega) ?_
  ·simp! only[];rw[iW _ _ ‹0›,e];simp! only[]
  ·refine jo _ _ ps λp _=>⟨_,rfl,rfl,?_⟩
   simp! only[]
 rw[kD];unfold eD;simp! only[f0]
def wL(xs:List D):vD [.tup xs]=some (gP 0 xs):=nr rfl
def ux:∀(xs:List D)(k i:Nat),(gP k xs)[i]?=(xs[i]?).map λx=>.tup [.int ((k+i:Nat):Int),x]
 |[],k,i=>by simp[gP]
 |x::xs,k,0=>by simp[gP]
 |x::xs,k,i+1=>by
  rw[gP,R6,ux xs (k+1) i,R6];congr 1;funext y;rw[show k+1+i=k+(i+1)by omega]
def Bl(kf rf:List D)(ps:List (Str×D))(hl:ps.length<=100)(e:kf++rf=ps.map fld)(hn:(ps.map (·.1)).Nodup)(i:Nat)(nm:Str)(k:D)(hi:ps[i]?=some (nm,k)):
  aK eZ 2 4 [.tup [.tup kf,.tup rf],.str nm]=.ok (.int i):=by
 have en:=uB kf rf ps hl e;rw[dR];unfold eZ;rw[iC,jl];simp! only[en,wL];have di:(gP 0 (ps.map λp=>D.str p.1))[i]?=some (.tup [.int ((i:Nat):Int),.str nm]):=by
  rw[ux,Rb,hi,Sa];rfl
 refine vN (Q:=λz=>z=.ok (.int i)) (λ_ ρ=>ρ=[some (.val (.tup [.tup kf,.tup rf])),some (.val (.str nm)),none,none]) _ 0 i _ _ di ?_ rfl ?_
 ·rintro j d ρ k' hj hd rfl;rw[ux,Rb]at hd;have hil:=cw hi;have hjl:j<ps.length:=by omega
  rw[RJ hjl]at hd;cases hd;have ne:(ps[j].1==nm)=false:=by
   have h1:=List.pairwise_iff_getElem.mp hn j i (by rw[Q1];exact hjl) (by rw[Q1];exact hil) hj;rw[S0,S0]at h1;have h2:ps[i]=(nm,k):=(by rw[RJ hil]at hi;exact Option.some.inj hi);rw[h2]at h1
   simpa using h1
  refine⟨[some (.val (.tup [.tup kf,.tup rf])),some (.val (.str nm)),some (.val (.int ((0+j:Nat):Int))),some (.val (.str ps[j].1))],_,rfl,rfl,?_⟩;simp! only[ne]
 ·rintro ρ k' rfl;refine⟨[some (.val (.tup [.tup kf,.tup rf])),some (.val (.str nm)),some (.val (.int (i:Int))),some (.val (.str nm))],rfl,?_⟩;simp! only[BEq.rfl]
def DE(kf rf:List D)(ps:List (Str×D))(hl:ps.length<=100)(e:kf++rf=ps.map fld)(i:Nat)(nm:Str)(k:D)(hi:ps[i]?=some (nm,k)):aK ga 2 2 [.tup [.tup kf,.tup rf],.int i]=.ok k:=by
 have hl':kf.length+rf.length<=100:=by have:=congrArg List.length e;rw[Rg,Q1]at this;omega
 have g:aG (.tup (ps.map fld)) (.int (i:Int))=some (.tup [.str nm,k]):=by
  rw[IX,Dl,Rb,hi];rfl
 rw[dR];unfold ga;simp! only[iW kf rf ‹0›,e,g]
def Ce:∀bs:List Bool,anyB (bs.map .bl)=some (bs.any id)
 |[]=>rfl
 |b::bs=>by
  show(anyB (bs.map .bl)).bind (λc=>some (b||c))=_;rw[Ce bs];rfl
def Im(bs:List Bool):Ei [.lst (bs.map .bl)]=some (.bl (bs.any id)):=by
 have e:Ei [.lst (bs.map .bl)]=(anyB (bs.map .bl)).bind λb=>some (D.bl b):=rfl;rw[e,Ce];rfl
end TD
namespace T4
open PySem PySem.Spec L2 TG TD
local macro_rules
 |`(tactic| simp! only[$xs,*])=>`(tactic| simp only[cu,wz,rW,vZ,gf,eB,ge_0,DZ,rj,C3,qC,oC,qv,qS,CG,CK,DM,DR,Ea,qX,qw,vP,li,nX,qy,nV,wZ,qu,rG,nS,qB,lu,qY,kJ,kK,jB,jC,qE,oN,jA,nQ,lr,n9,oa,iC,nY,kZ,pF,og,kT,jl,ot,oH,Dr,vM,DK,Ds,DY,rH,oy,qD,oz,n6,CZ,Di,SV,SW,Q0,Ro,RA,RO,K0,env0,List.replicate,Si,Q4,Sa,Nat.reduceAdd,Nat.reduceSub,QZ,Rr,qQ,qV,wN,qH,rA,ro,jx,rg,vO,vI,wc,qt,kI,lA,lj,lG,kO,lB,wK,wA,ww,wX,wO,wt,lg,kM,hJ,ir,qN,jy,ik,ib,ig,mG,mR,ip,gW,kL,kR,oJ,nT,kU,nR,qP,rE,om,oF,gN,if_true,if_false,SY,SZ,Ry,$xs,*])
def Lg{x:Str}{n:Int}(h:1<=n)(h':n<=1000)(hx:x.length<=1000):yE (.str x) (.int n)=some (.str (mM x n)):=by
 show(if decide (1<=n/\n<=1000/\x.length<=1000)then some (D.str (mM x n))else none)=_;rw[decide_eq_true ⟨h,h',hx⟩];rfl
def jf(x:Int)(h0:0<=x)(h1:x<2147483700):∃y:Int,0<=y/\y<2147483647/\aK bf 1 1 [.int x]=.ok (.int y):=by
 have m1:=tu (i:=x) (j:=x) ‹0› ‹0›;have m2:=tu (i:=48271) (j:=x) (by decide) (by decide);have g:=λi=>fU (i:=i) (show(0:Int)<2147483647 by decide);refine⟨(x*x+48271*x+11)%2147483647,S3 _ (by decide),S4 _ (by decide),?_⟩;rw[kD];unfold bf;simp! only[m1,m2,g]
def xJ(ns:List Int)(k:Nat)(hk:k<=100):∃y:Int,0<=y/\y<2147483647/\aK cQ 2 3 [.lst (ns.map .int),.int k]=.ok (.int y):=by
 obtain⟨c,ec⟩:=TD.NC ns k ‹0›;have m1:=tu (i:=69621) (j:=(k:Int)) (by decide) (by decide);have m2:=pM (i:=69621*(k:Int)) (j:=(k:Int)) ‹0› ‹0›;have g:=λi=>fU (i:=i) (show(0:Int)<2147483647 by decide);obtain⟨y1,a1,b1,e1⟩:=jf ((c%2147483647+69621*(k:Int)*(k:Int)+5)%2147483647) (S3 _ (by decide)) (by have:=S4 (c%2147483647+69621*(k:Int)*(k:Int)+5) (show(0:Int)<2147483647 by decide);omega);obtain⟨y2,a2,b2,e2⟩:=jf y1 a1 ‹0›;refine⟨y2,a2,b2,?_⟩;rw[dR];unfold cQ;simp! only[ec,g,m1,m2,e1,e2]
def BX{i:Nat}{fk fv:FX}{k:Ks}{ρ:aq}{al:List (Key×D)}{q:Key}{d v:D}(h:ρ[i]?=some (some (.own (zo al))))(ek:fk ρ=.ok d)(hd:d=bx q)(ev:fv ρ=.ok v)(hl:al.length<=1000):
  pZ i fk fv k ρ=k.nx (ρ.set i (some (.own (zo (sB al q v))))):=by
 subst hd;have e:vF (iN al) (al.map (·.2)) (bx q) v=some (sB al q v):=by
  unfold vF;rw[vX];show(keyOf (bx q)).bind _=_;rw[mB];show(if small al.length then _ else _)=_;rw[dE ‹0›];rfl
 unfold pZ;rw[h];show sZ ((fv ρ).bind λv=>(fk ρ).bind λq=>rO (vF (iN al) (al.map (·.2)) q v)) k ρ _=_;rw[ev,cu,ek,cu,e];rfl
abbrev C9(ws:List Str):List (Key×D):=ws.map λw=>((.inr w:Key),D.bl true)
abbrev wd(ws:List Str):D:=zo (C9 ws)
def vt(ws:List Str)(w:Str):List Str:=if w∈ws then ws else ws++[w]
def Gs(ws:List Str)(w:Str):sB (C9 ws) (.inr w) (.bl true)=C9 (vt ws w):=by
 have e:((C9 ws).any λp=>decide (p.1=(.inr w:Key)))=decide (w∈ws):=by
  induction ws with
  |nil=>simp
  |cons a ws ih=>
   show(decide ((.inr a:Key)=.inr w)||(C9 ws).any λp=>decide (p.1=(.inr w:Key)))=_;rw[ih];by_cases z:a=w
   ·subst z;simp
   ·have z':¬(.inr a:Key)=.inr w:=λq=>z (Sum.inr.inj q);have z2:¬w=a:=λq=>z q.symm;simp[z',z2]
 unfold sB vt;rw[e];by_cases h:w∈ws
 ·rw[if_pos (by simpa using h),if_pos h];show(ws.map _).map _=_;rw[SD];refine RP λa _=>?_;show(if(.inr a:Key)=.inr w then((.inr a:Key),D.bl true)else((.inr a:Key),D.bl true))=_;split<;>rfl
 ·rw[if_neg (by simpa using h),if_neg h];show _=(ws++[w]).map _;rw[RQ];rfl
def Ci{ws:List Str}(w:Str)(h:ws.Nodup):(vt ws w).Nodup:=by
 unfold vt;split
 ·exact h
 ·rename_i z;exact List.nodup_append.mpr ⟨h,List.nodup_cons.mpr ⟨by simp,Rv⟩,λa ha b hb e=>by
   rw[SK]at hb;subst hb e;exact z ha⟩
def yH(ws:List Str)(w:Str):(vt ws w).length<=ws.length+1:=by
 unfold vt;split
 ·omega
 ·simp
def Jm(ws:List Str):iN (C9 ws)=ws.map D.str:=by
 show(ws.map _).map _=_;rw[SD];rfl
def Gm(ws:List Str):keysOf (iN (C9 ws))=some (ws.map .inr):=by
 rw[show iN (C9 ws)=(ws.map (.inr:Str->Key)).map bx from by rw[Jm,SD];rfl];exact cP _
def HX(ws:List Str):vL [wd ws]=some (.int ws.length):=by
 show(keysOf (iN (C9 ws))).bind _=_;rw[Gm];show some (D.int ((ws.map _).length:Int))=_;rw[Q1]
def G4(ws:List Str):qx [wd ws]=some (.lst (ws.map .str)):=by
 show(keysOf (iN (C9 ws))).bind _=_;rw[Gm];show some (D.lst (iN (C9 ws)))=_;rw[Jm]
def tX(is:List Nat)(f:aq->R Bool)(ρ:aq):nE is f ρ=Ab (f (frzs is ρ)):=nr rfl
def Kf(i:Nat)(ρ:aq):frzs [i] ρ=frz i ρ:=nr rfl
def FL(i:Int)(k:Nat):xR (.int i) (.int k)=some (.int (i/2^k)):=by
 show(if decide (0<=(k:Int))then some (D.int (i/2^(k:Int).toNat))else none)=_;rw[decide_eq_true ‹0›];rfl
def xD(i j:Int):rR (.int i) (.int j)=some (.int (Builtin.bitAnd i j)):=nr rfl
def MD(a b c d:D):jZ [a,b,c,d]=some (.lst [a,b,c,d]):=nr rfl
def QA(a b c d:D)(i:Int)(h0:0<=i)(h1:i<4):∃x∈[a,b,c,d],aG (.lst [a,b,c,d]) (.int i)=some x:=by
 rcases(show i=0\/i=1\/i=2\/i=3 by omega)with z|z|z|z<;>subst z
 ·exact⟨a,by simp,rfl⟩
 ·exact⟨b,by simp,rfl⟩
 ·exact⟨c,by simp,rfl⟩
 ·exact⟨d,by simp,rfl⟩
def K6:(("number":Str)==("rows":Str))=false:=by decide +kernel
def IR:(("word":Str)==("rows":Str))=false:=by decide +kernel
def KC(B:cm)(n:Nat)(a b c d e f:D):aK B 6 n [a,b,c,d,e,f]=B K0 (env0 n [a,b,c,d,e,f]):=nr rfl
abbrev fm(ps qs:List (Str×D)):D:=.tup [.tup (ps.map fld),.tup (qs.map fld)]
def Cp{α:Type}{ρ:aq}{g:GF}{C:aq->R Bool}{Fe:FX}(mk:α->D)(p:α->Bool)(v:α->D):∀xs:List α,(∀a∈xs,∃ρ1,g (mk a) ρ=some ρ1/\C ρ1=.ok (p a)/\(p a=true->Fe ρ1=.ok (v a)))->
  Ac ρ g C Fe (xs.map mk)=.ok ((xs.filter p).map v)
 |[],_=>rfl
 |a::xs,h=>by
  obtain⟨ρ1,h1,h2,h3⟩:=h a QN;rw[Q0,kY,h1,eB,cu,h2,gf,cu,Cp mk p v xs λb hb=>h b (QO _ hb)];cases e:p a with
  |true=>rw[if_pos rfl,h3 e,gf,cu,Sw e];rfl
  |false=>rw[if_neg QY,Sx (by simp[e])]
def mx(a b:Int):Int:=if b>a then b else a
def zm(vs:List Int)(hp:∀v∈vs,0<v):∀j,j+1<=vs.length->v7 (λk=>vs.getD k 0) (j+1)=(vs.take (j+1)).foldl mx 0
 |0,h=>by
  cases vs with
  |nil=>simp at h
  |cons v vs=>
   have:=hp v QN
   show v=mx 0 v;unfold mx;rw[if_pos this]
 |j+1,h=>by
  have ih:=zm vs hp j ‹0›;have e:vs.take (j+2)=vs.take (j+1)++[vs.getD (j+1) 0]:=by
   rw[RT,RJ ‹0›,SA,RJ ‹0›];rfl
  rw[e,S5,<-ih];show(if _ then _ else _)=mx _ _;rfl
def E7(vs:List Int)(hp:∀v∈vs,0<v):(if vs.length=0 then 0 else v7 (λk=>vs.getD k 0) vs.length)=vs.foldl mx 0:=by
 cases vs with
 |nil=>rfl
 |cons v vs=>
  rw[if_neg (by simp)]
  have:=zm (v::vs) hp vs.length (by simp)
  rw[show(v::vs).length=vs.length+1 from rfl,this,SJ (by simp)]
def GP(ps qs:List (Str×D))(h1:ps.length<=8)(h2:qs.length<=8):aK d7 1 1 [fm ps qs]=.ok (.tup ((ps++qs).map (·.2))):=
 kinds_ok _ _ (ps++qs) (by simp;omega) (by rw[RQ])
local macro_rules
 |`(tactic| simp! only[$xs,*])=>`(tactic| simp only[cu,wz,rW,vZ,gf,eB,ge_0,DZ,rj,C3,qC,oC,qv,qS,CG,CK,DM,DR,Ea,qX,qw,vP,li,nX,qy,nV,wZ,qu,rG,nS,qB,lu,qY,kJ,kK,jB,jC,qE,oN,jA,nQ,lr,n9,oa,iC,nY,kZ,pF,og,kT,jl,ot,oH,Dr,vM,DK,Ds,DY,rH,oy,qD,oz,n6,CZ,Di,SV,SW,Q0,Ro,RA,RO,K0,env0,List.replicate,Si,Q4,Sa,Nat.reduceAdd,Nat.reduceSub,QZ,Rr,qQ,qV,wN,qH,rA,ro,jx,rg,vO,vI,wc,qt,kI,lA,lj,lG,kO,lB,wK,wA,ww,wX,wO,wt,lg,kM,hJ,ir,qN,jy,ik,ib,ig,mG,mR,ip,gW,kL,kR,oJ,nT,kU,nR,qP,rE,om,oF,gN,if_true,if_false,SY,SZ,Ry,$xs,*])
def LT:List Nat:=("abcdefghijklmnopqrstuvwxyz":Str).cps.toList
def Fg:∀a<26,∀b<26,LT[a]?=LT[b]?->a=b:=by decide +kernel
def stp(b:Int):Int:=([1,5,7,11,13,23]:List Int).getD (b%6).toNat 0
def kk(b k:Int):Int:=(k*stp b+b/6)%24
def jz(b:Int):Int:=b/144/24%(1+b/144/3%8)
def Dx(b k:Int)(w:Str):Prop:=
 (b/144%3=0->w.length=(1+kk b k%8).toNat/\w.cps.toList[0]?=LT[((b/144/3+kk b k/8)%26).toNat]?)/\
 (b/144%3≠0->w.cps.toList[(jz b).toNat]?=LT[((b/144/(24+11*jz b*jz b)+kk b k)%26).toNat]?)
def M1(b k:Int):0<=kk b k/\kk b k<24:=⟨S3 _ (by decide),S4 _ (by decide)⟩
def KZ{b k1 k2:Int}(a1:0<=k1)(a2:k1<24)(b1:0<=k2)(b2:k2<24)(h:kk b k1=kk b k2):k1=k2:=by
 unfold kk stp at h;rcases(show b%6=0\/b%6=1\/b%6=2\/b%6=3\/b%6=4\/b%6=5 by omega)with z|z|z|z|z|z<;>rw[z]at h<;>simp at h<;>omega
def x3{b k1 k2:Int}{w:Str}(a1:0<=k1)(a2:k1<24)(b1:0<=k2)(b2:k2<24)(h1:Dx b k1 w)(h2:Dx b k2 w):k1=k2:=by
 refine KZ (b:=b) a1 a2 b1 b2 ?_;have q1:=M1 b k1;have q2:=M1 b k2;by_cases z:b/144%3=0
 ·obtain⟨l1,e1⟩:=h1.1 z;obtain⟨l2,e2⟩:=h2.1 z
  have:=Fg _ ‹0› _ ‹0› (e1.symm.trans e2)
  omega
 ·have:=Fg _ ‹0› _ ‹0› ((h1.2 z).symm.trans (h2.2 z))
  omega
def Bb(x:Str)(h:x.length<=1000)(i:Int)(h0:0<=i)(h1:i<x.length):∃y:Str,y.length=1/\y.cps.toList[0]?=x.cps.toList[i.toNat]?/\aG (.str x) (.int i)=some (.str y):=by
 have hl:x.cps.toList.length=x.length:=by simp[Str.length]
 have hi:i<x.cps.toList.length:=by omega
 have hn:i.toNat<x.cps.toList.length:=by omega
 refine⟨⟨#[x.cps.toList[i.toNat]'hn]⟩,rfl,?_,?_⟩
 ·rw[RJ hn];rfl
 ·show(if small x.length then(pI x.cps.toList i).bind λc=>some (D.str ⟨#[c]⟩)else none)=_;rw[dE ‹0›,if_pos rfl,qe h0 hi];rfl
def wy(c:Array Nat)(hc:0<c.size):∀(n:Nat)(a:Array Nat),((List.replicate n c).foldl (·++·) a).toList[0]?=if a.size=0 then(if n=0 then none else c.toList[0]?)else a.toList[0]?
 |0,a=>by
  rw[Si,List.foldl_nil];split
  ·rename_i h;simp[h]
  ·rfl
 |n+1,a=>by
  rw[Sn,Sq,wy c hc n (a++c)]
  have:¬(a++c).size=0:=by rw[Array.size_append];omega
  rw[if_neg this,Array.toList_append];by_cases h:a.size=0
  ·rw[if_pos h,if_neg ‹0›,Q8 (by simp[h])];simp[h]
  ·rw[if_neg h,Ra (by simp;omega)]
def GV{y:Str}{n:Int}(h:1<=n)(hy:y.length=1):(mM y n).cps.toList[0]?=y.cps.toList[0]?:=by
 unfold mM;split
 ·rfl
 ·have hc:0<y.cps.size:=by have:y.cps.size=1:=hy;omega
  rw[wy y.cps hc n.toNat #[]];split
  ·rw[if_neg ‹0›]
  ·rename_i z;exact absurd rfl z
def CB(x y:Str):(x++y).cps.toList=x.cps.toList++y.cps.toList:=by
 show(x.cps++y.cps).toList=_;rw[Array.toList_append]
def xG(x:Str):x.cps.toList.length=x.length:=by simp[Str.length]
def xk(b k:Int)(hb:0<=b)(hk:0<=k):∃w:Str,aK cq 2 7 [.int b,.int k]=.ok (.str w)/\Dx b k w:=by
 have LL:(("abcdefghijklmnopqrstuvwxyz":Str)).length=26:=by decide +kernel
 have hLT:LT=("abcdefghijklmnopqrstuvwxyz":Str).cps.toList:=rfl;generalize hL:("abcdefghijklmnopqrstuvwxyz":Str)=L at LL hLT;have g3:=λi=>fU (i:=i) (show(0:Int)<3 by decide);have g6:=λi=>fU (i:=i) (show(0:Int)<6 by decide);have g8:=λi=>fU (i:=i) (show(0:Int)<8 by decide);have g24:=λi=>fU (i:=i) (show(0:Int)<24 by decide);have g26:=λi=>fU (i:=i) (show(0:Int)<26 by decide);have d3:=λi=>mX (i:=i) (show(0:Int)<3 by decide) (show(3:Int)<10^200 by decide);have d6:=λi=>mX (i:=i) (show(0:Int)<6 by decide) (show(6:Int)<10^200 by decide);have d8:=λi=>mX (i:=i) (show(0:Int)<8 by decide) (show(8:Int)<10^200 by decide);have d24:=λi=>mX (i:=i) (show(0:Int)<24 by decide) (show(24:Int)<10^200 by decide);have d144:=λi=>mX (i:=i) (show(0:Int)<144 by decide) (show(144:Int)<10^200 by decide);obtain⟨st,hst,hstp,est⟩:∃st:Int,(0<=st/\st<=25)/\stp b=st/\aG (.lst [.int 1,.int 5,.int 7,.int 11,.int 13,.int 23]) (.int (b%6))=some (.int st):=by
  rcases(show b%6=0\/b%6=1\/b%6=2\/b%6=3\/b%6=4\/b%6=5 by omega)with z|z|z|z|z|z<;>rw[z]
  ·exact⟨1,by decide,by unfold stp;rw[z];rfl,rfl⟩
  ·exact⟨5,by decide,by unfold stp;rw[z];rfl,rfl⟩
  ·exact⟨7,by decide,by unfold stp;rw[z];rfl,rfl⟩
  ·exact⟨11,by decide,by unfold stp;rw[z];rfl,rfl⟩
  ·exact⟨13,by decide,by unfold stp;rw[z];rfl,rfl⟩
  ·exact⟨23,by decide,by unfold stp;rw[z];rfl,rfl⟩
 have l6:∀a b c d e f:D,jZ [a,b,c,d,e,f]=some (.lst [a,b,c,d,e,f]):=λ_ _ _ _ _ _=>rfl;have ms:=pM (i:=k) (j:=st) ‹0› ‹0›;have hkk:kk b k=(k*st+b/6)%24:=by unfold kk;rw[hstp]
 generalize hk':(k*st+b/6)%24=k' at hkk;have k1:0<=k'/\k'<24:=by omega
 have hP:∀w,Dx b k w=((b/144%3=0->w.length=(1+kk b k%8).toNat/\w.cps.toList[0]?=LT[((b/144/3+kk b k/8)%26).toNat]?)/\(b/144%3≠0->w.cps.toList[(jz b).toNat]?=LT[((b/144/(24+11*jz b*jz b)+kk b k)%26).toNat]?)):=λ_=>rfl;have hj:jz b=b/144/24%(1+b/144/3%8):=rfl;generalize hb':b/144=b' at hP hj;generalize jz b=j0 at hP hj;rw[hkk]at hP;simp only[hP];have b0:0<=b':=by omega
 rw[dR];unfold cq;by_cases h:b'%3=0
 ·have h':(b'%3==0)=true:=by simp[h]
  obtain⟨y,hy,hy0,e1⟩:=Bb L ‹0› ((b'/3+k'/8)%26) ‹0› ‹0›;have mu:=Lg (x:=y) (n:=1+k'%8) ‹0› ‹0› ‹0›;refine⟨mM y (1+k'%8),?_,λ_=>⟨by rw[Aa ‹0›,hy,Nat.mul_one],by rw[GV ‹0› hy,hy0,hLT]⟩,λz=>absurd h z⟩;simp! only[hL,g6,l6,est,ms,d6,g24,hk',d144,hb',g3,h',d3,d8,g26,e1,g8,mu]
 ·have h':(b'%3==0)=false:=by simp[h]
  obtain⟨n,hn,hn1,hn2⟩:∃n:Nat,1+b'/3%8=(n:Int)/\1<=n/\n<=8:=⟨(1+b'/3%8).toNat,by omega,by omega,by omega⟩
  rw[hn]at hj;have hj1:0<=j0/\j0<(n:Int):=by rw[hj];exact⟨S3 _ ‹0›,S4 _ ‹0›⟩
  have rn:=oq n ‹0›;obtain⟨T,hT⟩:∃T:cm,T=(aW (jU (je (af (ah 3) (aw))) (gN 5) (aW (cy 6 (f2 dN (ah 0) (f2 ce (fC (.int 24)) (f2 o5 (f2 o5 (fC (.int 11)) (ah 5)) (ah 5))))) (aW (mK (fB (f2 lI (ah 5) (f2 cS (f2 dN (ah 0) (fC (.int 24))) (ah 3)))) (cy 6 (f2 ce (ah 6) (ah 1))) (cM)) (aW (cy 4 (f2 ce (ah 4) (f2 aG (ah 2) (f2 cS (ah 6) (fC (.int 26)))))) (dL [5,6] cM))))) (bM (ah 4))):=⟨_,rfl⟩
  have key:∃w:Str,(w.cps.toList[j0.toNat]?=LT[((b'/(24+11*j0*j0)+k')%26).toNat]?)/\T K0 [some (.val (.int b')),some (.val (.int k')),some (.val (.str L)),some (.val (.int n)),some (.val (.str "")),none,none]=.ok (.str w):=by
   rw[hT,iC,jl];simp! only[rn];refine dP (Q:=λz=>∃w:Str,(w.cps.toList[j0.toNat]?=LT[((b'/(24+11*j0*j0)+k')%26).toNat]?)/\z=.ok (.str w)) (λi ρ=>∃w:Str,w.length=i/\(j0<(i:Int)->w.cps.toList[j0.toNat]?=LT[((b'/(24+11*j0*j0)+k')%26).toNat]?)/\ρ=[some (.val (.int b')),some (.val (.int k')),some (.val (.str L)),some (.val (.int n)),some (.val (.str w)),none,none]) ?_ ?_ ?_
   ·rintro i d ρ kx hd ⟨w,hw,hw2,rfl⟩;have hi:=cw hd;rw[dI]at hi;have hdi:d=.int (i:Int):=by
     rw[ow,Rb,RX hi]at hd;cases hd;simp
    subst hdi;have m1:=tu (i:=11) (j:=(i:Int)) (by decide) (by decide);have m2:=pM (i:=11*(i:Int)) (j:=(i:Int)) ‹0› ‹0›;have ii:0<=11*(i:Int)*(i:Int):=Int.mul_nonneg ‹0› ‹0›;have ii2:11*(i:Int)*(i:Int)<=11*8*8:=Int.mul_le_mul ‹0› ‹0› ‹0› (by decide);have dd:=λz=>mX (i:=z) (show(0:Int)<24+11*(i:Int)*(i:Int)by omega) (show 24+11*(i:Int)*(i:Int)<10^200 by
     have:(10:Int)^200>10000:=by decide +kernel
     omega)
    have gn:=λz=>fU (i:=z) (show(0:Int)<(n:Int)by omega);generalize hs:b'/(24+11*(i:Int)*(i:Int))=s;by_cases hq:((i:Int)==b'/24%(n:Int))=true
    ·obtain⟨y,hy,hy0,e1⟩:=Bb L ‹0› ((s+k')%26) ‹0› ‹0›;have ad:=ny w y ‹0› ‹0›;refine⟨_,_,rfl,⟨w++y,by rw[BZ];omega,λ_=>?_,rfl⟩,?_⟩
     ·have eq:(i:Int)=b'/24%(n:Int):=(by simpa using hq);rw[<-hj]at eq;subst eq;rw[CB,Q8 (by rw[xG];omega),xG,hw,Rh,Sg,hy0,hLT,<-hs]
     simp! only[m1,m2,dd,hs,d24,gn,hq,g26,e1,ad]
    ·have hq':((i:Int)==b'/24%(n:Int))=false:=(by simpa using hq);obtain⟨y,hy,hy0,e1⟩:=Bb L ‹0› (s%26) ‹0› ‹0›;have ad:=ny w y ‹0› ‹0›;refine⟨_,_,rfl,⟨w++y,by rw[BZ];omega,λz=>?_,rfl⟩,?_⟩
     ·have ne:j0≠(i:Int):=λq=>hq (by rw[<-q,<-hj];simp);rw[CB,Ra (by rw[xG];omega)];exact hw2 ‹0›
     simp! only[m1,m2,dd,hs,d24,gn,hq',g26,e1,ad]
   ·exact⟨"",by decide +kernel,λz=>by omega,rfl⟩
   ·rintro ρ' ⟨w,hw,hw2,rfl⟩;rw[dI]at hw2;exact⟨w,hw2 ‹0›,by simp! only[]⟩
  obtain⟨w,hw,ew⟩:=key;refine⟨w,?_,λz=>absurd z h,λ_=>hw⟩;rw[<-hT];simp only[K0]at ew;simp! only[hL,g6,l6,est,ms,d6,g24,hk',d144,hb',g3,h',d3,g8,hn,ew]
def p5{α:Type}{motive:List α->Prop}(nil:motive [])(snoc:∀(t:List α)(r:α),motive t->motive (t++[r]))(t:List α):motive t:=by
 have h:∀l:List α,motive l.reverse:=λl=>by
  induction l with
  |nil=>exact nil
  |cons a l ih=>rw[List.reverse_cons];exact snoc _ _ ih
 have:=h t.reverse
 rw[List.reverse_reverse]at this;exact this
def tq:∀{σ:List Bool}{a:List D}(m:Nat),Sh σ a->Sh (σ.take m) (a.take m)
 |_,_,0,_=>by rw[RB,RB];exact .nil
 |_,_,m+1,.nil=>by rw[RC,RC];exact .nil
 |_,_,m+1,.int i h=>by rw[RD,RD];exact .int i (tq m h)
 |_,_,m+1,.str i h=>by rw[RD,RD];exact .str i (tq m h)
def sS:∀{σ:List Bool}{a:List D},Sh σ a->∃q:List Key,a=q.map bx
 |_,_,.nil=>⟨[],rfl⟩
 |_,_,.int i h=>by
  obtain⟨q,e⟩:=sS h;exact⟨.inl i::q,by rw[Q0,e];rfl⟩
 |_,_,.str x h=>by
  obtain⟨q,e⟩:=sS h;exact⟨.inr x::q,by rw[Q0,e];rfl⟩
def tR:∀{p q:List Key},p.map bx=q.map bx->p=q:=λ{p q} h=>by
 have:=congrArg keysOf h
 rw[cP,cP]at this;exact Option.some.inj this
def tN:∀{σ:List Bool}{a b:List D}(m:Nat),Sh σ a->Sh σ b->eR a b=some true->eR (a.take m) (b.take m)=some true\/a.take m=b.take m
 |_,_,_,0,_,_,_=>.inr (by rw[RB,RB])
 |_,_,_,m+1,.nil,.nil,_=>.inr rfl
 |_,_,_,m+1,.int i h,.int j h',e=>by
  rw[ql]at e;rw[RD,RD,ql];by_cases z:i=j
  ·rw[if_pos z]at e ⊢;rcases tN m h h' e with q|q
   ·exact .inl q
   ·exact .inr (by rw[z,q])
  ·rw[if_neg z]at e ⊢;exact .inl e
 |_,_,_,m+1,.str i h,.str j h',e=>by
  rw[qb]at e;rw[RD,RD,qb];by_cases z:i=j
  ·rw[if_pos z]at e ⊢;rcases tN m h h' e with q|q
   ·exact .inl q
   ·exact .inr (by rw[z,q])
  ·rw[if_neg z]at e ⊢;exact .inl e
section
open Classical
variable(m:Nat)
noncomputable def KY(acc:List (List D))(r:List D):List (List D):=if r.take m∈acc then acc else acc++[r.take m]
noncomputable def fs(t:List (List D)):List (List D):=t.foldl (KY m) []
noncomputable def gp(t:List (List D))(f:List D):List (List D):=(t.filter λr=>decide (r.take m=f)).map (List.drop m)
def ox(t:List (List D))(r:List D):fs m (t++[r])=KY m (fs m t) r:=by
 unfold fs;rw[S5];rfl
def lQ{t:List (List D)}{f:List D}:f∈fs m t↔∃r∈t,r.take m=f:=by
 induction t using p5 with
 |nil=>unfold fs;simp
 |snoc t r ih=>
  rw[ox];unfold KY;split
  ·rename_i h;rw[ih];constructor
   ·rintro⟨x,h1,h2⟩;exact⟨x,QP _ h1,h2⟩
   ·rintro⟨x,h1,h2⟩;rcases List.mem_append.mp h1 with z|z
    ·exact⟨x,z,h2⟩
    ·rw[List.mem_singleton.mp z]at h2;rw[h2]at h;exact ih.mp h
  ·rw[List.mem_append,ih,SK];constructor
   ·rintro(⟨x,h1,h2⟩|h2)
    ·exact⟨x,QP _ h1,h2⟩
    ·exact⟨r,by simp,h2.symm⟩
   ·rintro⟨x,h1,h2⟩;rcases List.mem_append.mp h1 with z|z
    ·exact .inl ⟨x,z,h2⟩
    ·rw[List.mem_singleton.mp z]at h2;exact .inr h2.symm
def EL(t:List (List D)):(fs m t).Nodup:=by
 induction t using p5 with
 |nil=>exact Rv
 |snoc t r ih=>
  rw[ox];unfold KY;split
  ·exact ih
  ·rename_i h;exact List.nodup_append.mpr ⟨ih,by simp,λa ha b hb e=>by
    rw[List.mem_singleton.mp hb]at e;rw[e]at ha;exact h ha⟩
def mI(t:List (List D)):(fs m t).length<=t.length:=by
 induction t using p5 with
 |nil=>exact QT _
 |snoc t r ih=>
  rw[ox];unfold KY;split
  ·rw[Rg];omega
  ·rw[Rg,Rg];simpa using ih
def Fx{σ:List Bool}{n:Nat}(hn:n=σ.length){t:List (List D)}(hs:∀r∈t,Sh σ (r.take n))(hm:m<=n)(p:JD n t):(fs m t).Pairwise (λa b=>eR a b=some true)/\∀r,t.getLast?=some r->(fs m t).getLast?=some (r.take m):=by
 induction t using p5 with
 |nil=>exact⟨List.Pairwise.nil,λr h=>by simp at h⟩
 |snoc t r ih=>
  obtain⟨p1,p2,p3⟩:=List.pairwise_append.mp p;obtain⟨i1,i2⟩:=ih (λx hx=>hs x (QP _ hx)) p1;have sm:∀x∈t++[r],Sh (σ.take m) (x.take m):=λx hx=>by
   have:=tq m (hs x hx)
   rw[S6,SM hm]at this;exact this
  have le:∀x∈t,eR (x.take m) (r.take m)=some true\/x.take m=r.take m:=λx hx=>by
   have:=tN m (hs x (QP _ hx)) (hs r (by simp)) (p3 x hx r (by simp))
   rw[S6,S6,SM hm]at this;exact this
  rw[ox];unfold KY;split
  ·rename_i h;refine⟨i1,λx hx=>?_⟩;rw[S7]at hx;have hx:r=x:=(by simpa using hx);subst hx;obtain⟨y,hy,ey⟩:=(lQ m).mp h;have ne:t≠[]:=λz=>by rw[z]at hy;cases hy
   have e0:=i2 _ (S8 ne);have f0:fs m t≠[]:=λz=>by rw[z]at h;cases h
   rw[S8 f0]at e0 ⊢;have e0:=Option.some.inj e0;rcases le _ (S9 ne)with q|q
   ·
    exfalso;have hd:fs m t=(fs m t).dropLast++[(fs m t).getLast f0]:=(Ta f0).symm;rw[hd]at h i1;rcases List.mem_append.mp h with z|z
    ·have:=(List.pairwise_append.mp i1).2.2 _ z _ (List.mem_singleton.mpr rfl)
     rw[e0]at this;have a:=zH (sm r (by simp)) (sm _ (QP _ (S9 ne))) this;rw[q]at a;cases a
    ·have:=List.mem_singleton.mp z
     rw[e0]at this;rw[this]at q;rw[me (sm _ (QP _ (S9 ne)))]at q;cases q
   ·rw[e0,q]
  ·rename_i h;refine⟨List.pairwise_append.mpr ⟨i1,Sv _ _,λa ha b hb=>?_⟩,λx hx=>?_⟩
   ·rw[List.mem_singleton.mp hb];obtain⟨y,hy,ey⟩:=(lQ m).mp ha;rcases le y hy with q|q
    ·rw[ey]at q;exact q
    ·rw[ey]at q;rw[q]at ha;exact absurd ha h
   ·rw[S7]at hx ⊢;have hx:r=x:=(by simpa using hx);subst hx;simp
def sU(t:List (List D))(r f:List D):gp m (t++[r]) f=gp m t f++(if r.take m=f then[r.drop m]else[]):=by
 unfold gp;rw[List.filter_append,RQ];congr 1;by_cases h:r.take m=f
 ·rw[if_pos h,Sw (by simpa using h)];rfl
 ·rw[if_neg h,Sx (by simpa using h)];rfl
noncomputable def flat(t:List (List D)):List (List D):=(fs m t).flatMap λf=>(gp m t f).map (f++·)
def Jb{σ:List Bool}{n:Nat}(hn:n=σ.length){t:List (List D)}(hs:∀r∈t,Sh σ (r.take n))(hm:m<=n)(p:JD n t):flat m t=t:=by
 induction t using p5 with
 |nil=>rfl
 |snoc t r ih=>
  have p1:=(List.pairwise_append.mp p).1;have i0:=ih (λx hx=>hs x (QP _ hx)) p1;have hr:=Fx m hn hs hm p;unfold flat at i0 ⊢;rw[ox]at hr ⊢;unfold KY at hr ⊢;have same:∀L:List (List D),r.take m∉L->(L.flatMap λf=>(gp m (t++[r]) f).map (f++·))=L.flatMap λf=>(gp m t f).map (f++·):=λL hL=>by
   induction L with
   |nil=>rfl
   |cons f L ih=>
    rw[Tb,Tb,ih λz=>hL (QO _ z),sU,if_neg λz=>hL (by rw[z];exact QN),Q4]
  split
  ·rename_i h;rw[if_pos h]at hr;have f0:fs m t≠[]:=λz=>by rw[z]at h;cases h
   have last:=hr.2 r (by rw[S7];simp);rw[S8 f0]at last;have last:=Option.some.inj last;have hd:fs m t=(fs m t).dropLast++[r.take m]:=by
    rw[<-last];exact(Ta f0).symm
   have nd:=EL m t;rw[hd]at nd;have nin:r.take m∉(fs m t).dropLast:=λz=>(List.nodup_append.mp nd).2.2 _ z _ (List.mem_singleton.mpr rfl) rfl;rw[hd,Tc]at i0 ⊢;rw[same _ nin]
   conv=>rhs;rw[<-i0]
   rw[R0];congr 1;rw[Td,Td,sU,if_pos rfl,RQ,Te,Tf]
  ·rename_i h;rw[Tc,same _ h,i0,Td,sU,if_pos rfl];congr 1;have e:gp m t (r.take m)=[]:=by
    unfold gp;rw[List.filter_eq_nil_iff.mpr]
    ·rfl
    ·intro x hx z;exact h ((lQ m).mpr ⟨x,hx,by simpa using z⟩)
   rw[e,RO,Te,Tf]
end
open Classical in
def vJ(al:List (List Key×D))(q:List Key)(v:D):(jb al q v).map (·.1)=if q∈al.map (·.1)then al.map (·.1)else al.map (·.1)++[q]:=by
 have e:(al.any λp=>decide (p.1=q))=true↔q∈al.map (·.1):=by
  rw[List.any_eq_true,List.mem_map];simp only[decide_eq_true_eq]
 unfold jb;by_cases h:q∈al.map (·.1)
 ·rw[if_pos (e.mpr h),if_pos h,SD];refine RP λp _=>?_;show(if p.1=q then(p.1,v)else p).1=p.1;split<;>rfl
 ·rw[if_neg λz=>h (e.mp z),if_neg h,RQ];rfl
def FV{al:List (List Key×D)}{q:List Key}{v:D}{p:List Key×D}(h:p∈jb al q v):p∈al\/p=(q,v):=by
 unfold jb at h;split at h
 ·obtain⟨a,ha,e⟩:=List.mem_map.mp h;by_cases z:a.1=q
  ·rw[if_pos z]at e;exact .inr (by rw[<-e,z])
  ·rw[if_neg z]at e;exact .inl (by rw[<-e];exact ha)
 ·rcases List.mem_append.mp h with z|z
  ·exact .inl z
  ·exact .inr (List.mem_singleton.mp z)
def HN{al:List (List Key×D)}(q:List Key)(v:D)(h:(al.map (·.1)).Nodup):((jb al q v).map (·.1)).Nodup:=by
 rw[vJ];split
 ·exact h
 ·rename_i z;exact List.nodup_append.mpr ⟨h,by simp,λa ha b hb e=>by
   rw[List.mem_singleton.mp hb]at e;rw[e]at ha;exact z ha⟩
def GY(al:List (List Key×D))(q:List Key)(v:D):(jb al q v).length<=al.length+1:=by
 have:=congrArg List.length (vJ al q v)
 rw[Q1]at this;rw[this];split<;>simp
def yS:∀{al:List (List Key×D)}{p:List Key×D},(al.map (·.1)).Nodup->p∈al->qW al p.1=some p.2
 |a::al,p,h,hp=>by
  obtain⟨h1,h2⟩:=List.nodup_cons.mp (by simpa using h:(a.1::al.map (·.1)).Nodup);unfold qW;by_cases e:a.1=p.1
  ·rw[SR (by simpa using e)];rcases List.mem_cons.mp hp with z|z
   ·rw[z];rfl
   ·exact absurd (show a.1∈al.map (·.1)from by rw[e];exact List.mem_map.mpr ⟨p,z,rfl⟩) h1
  ·rw[SU (by simpa using e)];rcases List.mem_cons.mp hp with z|z
   ·exact absurd (by rw[z]) e
   ·exact yS h2 z
def CA(al:List (List Key×D)):G5 (encK al) (al.map (·.2))=some al:=by
 cases al with
 |nil=>rfl
 |cons p al=>exact kX (p::al)
def Fy(al:List (List Key×D)):ra [dB al]=some (.lst (encK al)):=by
 show(G5 (encK al) (al.map (·.2))).bind _=_;rw[CA];rfl
def Km(al:List (List Key×D))(q:List Key):AW (dB al) (.tup (q.map bx))=qW al q:=by
 show(G5 (encK al) (al.map (·.2))).bind _=_;rw[CA];show(jS (.tup (q.map bx))).bind _=_;rw[qj];rfl
def uL(al:List (List Key×D)):Aq (oR al)=some (al.map kP):=by
 show(kH (encK al) (al.map (·.2))).map _=_;rw[kX];rfl
def G9{al:List (List Key×D)}{σ:List Bool}(nd:(al.map (·.1)).Nodup)(hs:∀p∈al,Sh σ (p.1.map bx))(h0:σ≠[])(hl:al.length<64):iD [.lst (encK al)]=some (.lst (ku eV (encK al)))/\zU eV (ku eV (encK al)):=by
 have hx:∀x∈encK al,∃k,x=.tup k/\Sh σ k:=λx hx=>by
  obtain⟨p,hp,rfl⟩:=List.mem_map.mp hx;exact⟨_,rfl,hs p hp⟩
 have pw:(encK al).Pairwise λx y=>eV x≠eV y:=by
  rw[Sz]
  have:=List.pairwise_map.mp nd
  exact this.imp λ{a b} ne e=>ne (tR e)
 have a:JX (encK al):=⟨by rw[Q1];exact hl,σ,h0,hx,pw⟩
 refine⟨?_,rB (σ:=σ) (λx h=>by obtain⟨k,e,s⟩:=hx x h;rw[e];exact s) pw⟩;show rQ (encK al)=_;unfold rQ;rw[if_pos a]
def Cq:∀vs:List D,(∀v∈vs,∃r,v=.tup r)->∃t:List (List D),vs=t.map .tup
 |[],_=>⟨[],rfl⟩
 |v::vs,h=>by
  obtain⟨r,e⟩:=h v QN;obtain⟨t,et⟩:=Cq vs λv hv=>h v (QO _ hv);exact⟨r::t,by rw[e,et];rfl⟩
def AL:Nat->D->Prop
 |0,d=>(∃i,d=.int i)\/∃x,d=.str x
 |n+1,d=>((∃i,d=.int i)\/∃x,d=.str x)\/∃ds,d=.tup ds/\ds.length<=1000/\∀x∈ds,AL n x
def AL.of0{d:D}(h:AL 0 d):∀n,AL n d
 |0=>h
 |_+1=>.inl h
def AL.up:∀{n:Nat}{d:D},AL n d->AL (n+1) d
 |0,_,h=>.inl h
 |n+1,_,h=>by
  rcases h with h|⟨ds,e,l,f⟩
  ·exact .inl h
  ·exact .inr ⟨ds,e,l,λx hx=>AL.up (f x hx)⟩
def AL.le{n m:Nat}(h:n<=m){d:D}(hd:AL n d):AL m d:=by
  induction m with
  | zero => have : n = 0 := by omega
            subst this;exact hd
  |succ m ih=>
    by_cases e:n=m+1
    ·subst e;exact hd
    ·exact AL.up (ih ‹0›)
def AL.tup{n:Nat}{ds:List D}(l:ds.length<=1000)(h:∀x∈ds,AL n x):AL (n+1) (.tup ds):=.inr ⟨ds,rfl,l,h⟩
def wR:∀{σ:List Bool}{a:List D},Sh σ a->∀x∈a,AL 0 x
 |_,_,.int i h,x,hx=>by
  rcases List.mem_cons.mp hx with z|z
  ·exact .inl ⟨i,z⟩
  ·exact wR h x z
 |_,_,.str i h,x,hx=>by
  rcases List.mem_cons.mp hx with z|z
  ·exact .inr ⟨i,z⟩
  ·exact wR h x z
def Jh:∀{n:Nat}{d:D},AL n d->pl d=true
 |0,_,h=>by rcases h with⟨i,rfl⟩|⟨x,rfl⟩<;>rfl
 |n+1,_,h=>by
  rcases h with(⟨i,rfl⟩|⟨x,rfl⟩)|⟨ds,rfl,_,f⟩
  ·rfl
  ·rfl
  ·rw[eI];exact xO λx hx=>Jh (f x hx)
end T4
namespace Tk46
open PySem PySem.Spec L2 TG TX TD
def top(i:Nat):U1:=PySem.Challenge.pw_twoglass_k46_whole_nested_and_back.main.body.getD i (.Pass ⟨0,0,0,0⟩)
abbrev eS:U1:=inClass (top 28) 0
def pq:aP ["self","name"] ["self","name"] (ax eS):=‹2›
abbrev fN:U1:=inClass (top 27) 0
def rd:aP ["self","many","name"] ["self","many","name"] (ax fN):=‹2›
abbrev gC:U1:=top 43
def uY:aP ["_law_found","_law_due","_law_one","_law_other"] ["_law_found","_law_due"] (ax gC):=‹2›
def cD(aC:List D->R D):cm:=aW (mK (fS (p4 "str" (ah 1))) (bM (rY (p4 "str" (ah 0)) (f2 lI (ah 0) (ah 1)))) (cM)) (aW (mK (En (fS (p4 "bool" (ah 1))) (fS (p4 "bool" (ah 0)))) (bM (rY (p4 "bool" (ah 1)) (rY (p4 "bool" (ah 0)) (f2 lI (ah 0) (ah 1))))) (cM)) (aW (mK (fS (p4 "int" (ah 1))) (bM (rY (p4 "int" (ah 0)) (f2 lI (ah 0) (ah 1)))) (cM)) (aW (mK (En (uJ (fS (p4 "tuple" (ah 0)))) (fB (f2 G6 (fL jh (af (ah 0) (aw))) (fL jh (af (ah 1) (aw)))))) (bM (fC (.bl false))) (cM)) (aW (jU (C0 (af (ah 0) (af (ah 1) (aw)))) (gT 2 (lE [2,3])) (aW (mK (uJ (fS (fR aC (af (ah 2) (af (ah 3) (aw)))))) (bM (fC (.bl false))) (cM)) (dL [2,3] cM))) (bM (fC (.bl true)))))))
def aC:Nat->List D->R D
 |0=>λ_=>un
 |n+1=>aK (cD (aC n)) 2 4
def j7(n:Nat):aC (n+1)=aK (cD (aC n)) 2 4:=by rw[aC]
def fO:∀n:Nat,Ar 2 (aC n)
 |0=>λ_ h=>absurd (by rw[aC]) h
 |n+1=>by rw[j7];exact aQ
abbrev mw:U1:=inClass (top 25) 3
def zO:aP ["self","form","table","view"] ["self","form","table","view"] (ax mw):=‹2›
def hV:cm:=bM (ah 3)
abbrev mi:U1:=top 29
def yL:aP ["many","table","rows","row"] ["many","table"] (ax mi):=‹2›
def fQ:cm:=aW (qa 2 (jP (aw))) (aW (jU (bT (ah 1)) (gN 3) (aW (ED 2 (jX [none,some 3,some 0] (bT (f2 aG (ah 3) (ah 0))) (gN 0) (dH) (f2 ce (dJ (ah 1) (cN) (fI (ah 2))) (ah 0)))) (dL [3] cM))) (kA 2 (bM (fL cR (af (ah 2) (aw))))))
abbrev mD:U1:=inClass (top 27) 4
def yr:aP ["self","form","table","view"] ["self","form","table","view"] (ax mD):=‹2›
def eA:cm:=bM (fR (aK fQ 2 4) (af (f1 (lK "many" ["Nest"]) (ah 0)) (af (ah 3) (aw))))
abbrev j5:U1:=top 18
def xC:aP ["many","rows"] ["many","rows"] (ax j5):=‹2›
noncomputable def iP:cm:=bM (fL cR (af (f2 qA (ah 1) (ah 0)) (aw)))
abbrev qp:U1:=top 21
def Dm:aP ["many","rows"] ["many","rows"] (ax qp):=‹2›
def nq:cm:=bM (fL xI (af (jX [none,some 0] (bT (ah 1)) (gN 0) (dH) (fF (af (dJ (ah 0) (cN) (fI (ah 1))) (af (ah 0) (aw))))) (aw)))
abbrev lL:U1:=top 23
def yk:aP ["many","rows","others","taken"] ["many","rows","others"] (ax lL):=‹2›
noncomputable def jQ:cm:=aW (cy 3 (fR (aK nq 2 2) (af (ah 0) (af (ah 1) (aw))))) (bM (fR (aK iP 2 2) (af (ah 0) (af (f2 ce (fL BJ (af (ah 1) (aw))) (jX [none,some 0,some 3] (bT (ah 2)) (gN 0) (fB (f2 xl (dJ (ah 0) (cN) (fI (ah 1))) (ah 2))) (ah 0))) (aw)))))
abbrev nZ:U1:=top 22
def AU:aP ["many","rows","groups","row"] ["many","rows"] (ax nZ):=‹2›
def fg:cm:=aW (zg 2) (aW (jU (bT (ah 1)) (gN 3) (aW (DF 2 (dJ (ah 3) (cN) (fI (ah 0))) (dJ (ah 3) (fI (ah 0)) (cN))) (dL [3] cM))) (vC 2 (bM (fL uo (af (jX [none,none] (jk (ah 2)) (gT 2 (lE [0,1])) (dH) (fF (af (ah 0) (af (fL cR (af (ah 1) (aw))) (aw))))) (aw))))))
abbrev jn:U1:=inClass (top 28) 4
def vg:aP ["self","form","table","view","many","rows"] ["self","form","table","view"] (ax jn):=‹2›
noncomputable def de:cm:=aW (cy 4 (fL jh (af (f2 aG (ah 1) (fC (.int 0))) (aw)))) (aW (cy 5 (jX [none,none] (jk (fR (aK fg 2 4) (af (ah 4) (af (ah 3) (aw))))) (gT 2 (lE [0,1])) (dH) (f2 ce (ah 0) (fF (af (ah 1) (aw)))))) (bM (fR (aK jQ 3 4) (af (ah 4) (af (ah 5) (af (jX [none,some 4] (bT (ah 2)) (gN 0) (fB (f2 lI (f2 aG (ah 0) (ah 1)) (fF (aw)))) (ah 0)) (aw)))))))
abbrev iA:U1:=inClass (top 25) 5
def nD:aP ["self","form"] ["self","form"] (ax iA):=‹2›
def bW:cm:=bM (fC (.bl true))
abbrev oI:U1:=top 20
def Bi:aP ["form","place"] ["form","place"] (ax oI):=‹2›
abbrev mh:U1:=top 14
def zb:aP ["form"] ["form"] (ax mh):=‹2›
abbrev lZ:U1:=top 15
def yz:aP ["form","name","place","other"] ["form","name"] (ax lZ):=‹2›
abbrev gK:U1:=inClass (top 28) 5
def mJ:aP ["self","form"] ["self","form"] (ax gK):=‹2›
def bi:cm:=bM (f2 aG (fR (aK ga 2 2) (af (ah 1) (af (fR (aK eZ 2 4) (af (ah 1) (af (f1 (lK "name" ["Unnest"]) (ah 0)) (aw)))) (aw)))) (fC (.int 2)))
abbrev fK:U1:=inClass (top 28) 6
def rC:aP ["self","form"] ["self","form"] (ax fK):=‹2›
def bX:cm:=bM (dX "exact" [("Unnest",(aK bi 2 2))] (ah 0) (af (ah 1) (aw)))
abbrev jp:U1:=inClass (top 25) 4
def oV:aP ["self","form"] ["self","form"] (ax jp):=‹2›
def cB:cm:=bM (fC (.bl true))
abbrev fu:U1:=inClass (top 25) 1
def pY:aP ["self","form"] ["self","form"] (ax fu):=‹2›
def dA:cm:=bM (ah 1)
abbrev lW:U1:=top 10
def yB:aP ["form"] ["form"] (ax lW):=‹2›
abbrev jE:U1:=top 16
def yt:aP ["form"] ["form"] (ax jE):=‹2›
def jR(bw:List D->R D):cm:=bM (f1 (se 0) (jX [none] (bT (fR (aK d7 1 1) (af (ah 0) (aw)))) (gN 0) (fB (f2 lI (f2 aG (ah 0) (fC (.int 0))) (fC (.str "rows")))) (f2 ce (fC (.int 1)) (fR bw (af (f2 aG (ah 0) (fC (.int 1))) (aw))))))
def bw:Nat->List D->R D
 |0=>λ_=>un
 |n+1=>aK (jR (bw n)) 1 1
def fM(n:Nat):bw (n+1)=aK (jR (bw n)) 1 1:=by rw[bw]
def oU:∀n:Nat,Ar 1 (bw n)
 |0=>λ_ h=>absurd (by rw[bw]) h
 |n+1=>by rw[fM];exact aQ
abbrev mq:U1:=top 9
def yq:aP ["value"] ["value"] (ax mq):=‹2›
def jK:cm:=bM (rY (p4 "int" (ah 0)) (Cr (p4 "bool" (ah 0))))
abbrev fE:U1:=inClass (top 27) 2
def pU:aP ["self","form","key","inner"] ["self","form"] (ax fE):=‹2›
def bR:cm:=aW (mK (En (uJ (fS (fR (aK jK 1 1) (af (f1 (lK "many" ["Nest"]) (ah 0)) (aw))))) (uJ (fB (tW Qc tI (fC (.int 1)) (f1 (lK "many" ["Nest"]) (ah 0)) (fL jh (af (f2 aG (ah 1) (fC (.int 0))) (aw))))))) (qo) (cM)) (aW (cy 2 (dJ (f2 aG (ah 1) (fC (.int 0))) (cN) (fI (f1 (lK "many" ["Nest"]) (ah 0))))) (aW (mK (fB (f2 Jw (f1 (lK "name" ["Nest"]) (ah 0)) (jX [none] (bT (ah 2)) (gN 0) (dH) (f2 aG (ah 0) (fC (.int 0)))))) (qo) (cM)) (aW (cy 3 (fF (af (dJ (f2 aG (ah 1) (fC (.int 0))) (fI (f1 (lK "many" ["Nest"]) (ah 0))) (cN)) (af (f2 aG (ah 1) (fC (.int 1))) (aw))))) (aW (mK (fB (f2 Qo (fR (bw 20) (af (ah 3) (aw))) (fC (.int 3)))) (qo) (cM)) (bM (fF (af (ah 2) (af (fF (af (fF (af (f1 (lK "name" ["Nest"]) (ah 0)) (af (fF (af (fC (.str "rows")) (af (ah 3) (af (fC (.bl true)) (aw))))) (aw)))) (aw))) (aw)))))))))
abbrev eG:U1:=inClass (top 28) 2
def oP:aP ["self","form","kind","key","inner"] ["self","form"] (ax eG):=‹2›
def bH:cm:=aW (cy 2 (fR (aK ga 2 2) (af (ah 1) (af (fR (aK eZ 2 4) (af (ah 1) (af (f1 (lK "name" ["Unnest"]) (ah 0)) (aw)))) (aw))))) (aW (mK (En (fB (f2 G6 (f2 aG (ah 2) (fC (.int 0))) (fC (.str "rows")))) (fB (f2 G6 (fL jh (af (f2 aG (ah 1) (fC (.int 1))) (aw))) (fC (.int 1))))) (qo) (cM)) (aW (cy 3 (f2 aG (ah 1) (fC (.int 0)))) (aW (cy 4 (f2 aG (ah 2) (fC (.int 1)))) (aW (mK (fS (fL Ei (af (jX [none,some 4] (bT (ah 3)) (gN 0) (dH) (f2 Jw (f2 aG (ah 0) (fC (.int 0))) (fR (aK eD 1 1) (af (ah 1) (aw))))) (aw)))) (qo) (cM)) (aW (mK (fB (f2 Pz (f2 ce (fL jh (af (ah 3) (aw))) (fL jh (af (f2 aG (ah 4) (fC (.int 0))) (aw)))) (fC (.int 8)))) (qo) (cM)) (bM (fF (af (f2 ce (ah 3) (f2 aG (ah 4) (fC (.int 0)))) (af (f2 aG (ah 4) (fC (.int 1))) (aw))))))))))
abbrev lN:U1:=inClass (top 25) 2
def zy:aP ["self","form","table"] ["self","form","table"] (ax lN):=‹2›
def gR:cm:=bM (ah 2)
abbrev lP:U1:=inClass (top 27) 3
def zT:aP ["self","form","table"] ["self","form","table"] (ax lP):=‹2›
def eJ:cm:=bM (fL cR (af (jX [none,none] (jk (fR (aK fg 2 4) (af (f1 (lK "many" ["Nest"]) (ah 0)) (af (ah 2) (aw))))) (gT 2 (lE [0,1])) (dH) (f2 ce (ah 0) (fF (af (ah 1) (aw))))) (aw)))
abbrev jv:U1:=inClass (top 28) 3
def uW:aP ["self","form","table"] ["self","form","table"] (ax jv):=‹2›
def cZ:cm:=bM (fR (aK fQ 2 4) (af (fL jh (af (f2 aG (ah 1) (fC (.int 0))) (aw))) (af (ah 2) (aw))))
abbrev mE:U1:=top 46
def yD:aP ["_law_steps","_law_form_here","_law_table_here","_law_forms","_law_tables","_law_step"] ["_law_steps","_law_form_here","_law_table_here"] (ax mE):=‹2›
def h7:cm:=aW (qa 3 (jP (af (ah 1) (aw)))) (aW (qa 4 (jP (af (ah 2) (aw)))) (dL [1,2] (aW (jU (bT (ah 0)) (gN 5) (aW (Dd 4 gY (af (uK [3,4] (dX "got" [("Step",(aK gR 3 3)),("Nest",(aK eJ 3 3)),("Unnest",(aK cZ 3 3))] (ah 5) (af (f2 aG (ah 3) (mN (fC (.int 1)))) (af (f2 aG (ah 4) (mN (fC (.int 1)))) (aw))))) (aw))) (aW (Dd 3 gY (af (uK [3] (dX "view_form" [("Step",(aK dA 2 2)),("Nest",(aK bR 2 4)),("Unnest",(aK bH 2 5))] (ah 5) (af (f2 aG (ah 3) (mN (fC (.int 1)))) (aw)))) (aw))) (dL [5] cM)))) (kA 3 (kA 4 (bM (fF (af (ah 3) (af (ah 4) (aw))))))))))
abbrev iM:U1:=top 45
def xf:aP ["_law_form_here","_law_found","_law_name_here","_law_kind_here"] ["_law_form_here"] (ax iM):=‹2›
def iT(bE:List D->R D):cm:=aW (cy 1 (fC (.int 0))) (aW (jU (bT (f2 aG (ah 0) (fC (.int 1)))) (gT 2 (lE [2,3])) (aW (mK (fB (f2 lI (f2 aG (ah 3) (fC (.int 0))) (fC (.str "rows")))) (cy 1 (fL sg (af (ah 1) (af (f2 ce (fC (.int 1)) (fR bE (af (f2 aG (ah 3) (fC (.int 1))) (aw)))) (aw))))) (cM)) (dL [2,3] cM))) (bM (ah 1)))
def bE:Nat->List D->R D
 |0=>λ_=>un
 |n+1=>aK (iT (bE n)) 1 4
def fh(n:Nat):bE (n+1)=aK (iT (bE n)) 1 4:=by rw[bE]
def ni:∀n:Nat,Ar 1 (bE n)
 |0=>λ_ h=>absurd (by rw[bE]) h
 |n+1=>by rw[fh];exact aQ
abbrev j6:U1:=top 34
def xA:aP ["_law_base","_law_k","_law_letters","_law_size","_law_name_here","_law_j","_law_step"] ["_law_base","_law_k"] (ax j6):=‹2›
abbrev iF:U1:=top 40
def uQ:aP ["_law_many","_law_rows_here","_law_found","_law_row_here"] ["_law_many","_law_rows_here"] (ax iF):=‹2›
noncomputable def bQ:cm:=aW (qa 2 yI) (aW (jU (bT (ah 1)) (gN 3) (aW (wU 2 (dJ (ah 3) (cN) (fI (ah 0))) (ah 3)) (dL [3] cM))) (kA 2 (bM (fL cR (af (jX [none,some 2] (bT (fL iD (af (fL ra (af (ah 2) (aw))) (aw)))) (gN 0) (dH) (f2 AW (ah 1) (ah 0))) (aw))))))
abbrev jW:U1:=top 32
def x9:aP ["_law_x"] ["_law_x"] (ax jW):=‹2›
abbrev gG:U1:=top 38
def uU:aP ["_law_kind_here","_law_x"] ["_law_kind_here","_law_x"] (ax gG):=‹2›
abbrev jF:U1:=top 39
def zj:aP ["_law_form_here","_law_many","_law_head","_law_tail","_law_row_here","_law_name_here","_law_kind_here"] ["_law_form_here","_law_many","_law_head","_law_tail"] (ax jF):=‹2›
abbrev iL:U1:=top 41
def xL:aP ["_law_form_here","_law_x","_law_many","_law_rows_here","_law_k"] ["_law_form_here","_law_x","_law_many"] (ax iL):=‹2›
noncomputable def gH(aA aI aN:List D->R D):cm:=aW (mK (fB (f2 lI (f2 aG (ah 0) (fC (.int 0))) (fC (.str "number")))) (bM (f2 ce (f2 aG (ah 0) (fC (.int 1))) (f2 cS (f2 su (ah 1) (fC (.int 7))) (f2 ce (f2 vi (f2 aG (ah 0) (fC (.int 2))) (f2 aG (ah 0) (fC (.int 1)))) (fC (.int 1)))))) (cM)) (aW (mK (fB (f2 lI (f2 aG (ah 0) (fC (.int 0))) (fC (.str "word")))) (bM (f2 aG (f2 aG (ah 0) (fC (.int 1))) (f2 cS (ah 1) (fL jh (af (f2 aG (ah 0) (fC (.int 1))) (aw)))))) (cM)) (bM (fR aN (af (f2 aG (ah 0) (fC (.int 1))) (af (f2 dN (ah 1) (fC (.int 3))) (af (fL sg (af (f2 cS (ah 1) (fC (.int 3))) (af (fL BD (af (f2 aG (ah 0) (fC (.int 2))) (aw))) (aw)))) (aw)))))))
noncomputable def my(aA aI aN:List D->R D):cm:=aW (qa 4 (jP (aw))) (aW (jU (bT (f2 ce (f2 aG (ah 0) (fC (.int 0))) (f2 aG (ah 0) (fC (.int 1))))) (gT 2 (lE [5,6])) (aW (mK (nE [4] (fB (f2 tI (fL jh (af (ah 4) (aw))) (ah 1)))) (aW (cy 2 (fR (aK bf 1 1) (af (ah 2) (aw)))) (Dd 4 gY (af (fR aA (af (ah 6) (af (ah 2) (aw)))) (aw)))) (aW (cy 3 (fR (aK bf 1 1) (af (ah 3) (aw)))) (Dd 4 gY (af (fR aA (af (ah 6) (af (ah 3) (aw)))) (aw))))) (dL [5,6] cM))) (kA 4 (bM (fL cR (af (ah 4) (aw))))))
noncomputable def kj(aA aI aN:List D->R D):cm:=aW (qa 3 (jP (aw))) (aW (jU (je (af (ah 2) (aw))) (gN 4) (aW (cy 1 (fR (aK bf 1 1) (af (ah 1) (aw)))) (aW (Dd 3 gY (af (fR aI (af (ah 0) (af (fC (.int 0)) (af (fC (.int 0)) (af (ah 1) (aw)))))) (aw))) (dL [4] cM)))) (kA 3 (bM (fR (aK bQ 2 4) (af (fL jh (af (f2 aG (ah 0) (fC (.int 0))) (aw))) (af (ah 3) (aw)))))))
mutual
noncomputable def aA:Nat->List D->R D
 |0=>λ_=>un
 |n+1=>aK (gH (aA n) (aI n) (aN n)) 2 2
noncomputable def aI:Nat->List D->R D
 |0=>λ_=>un
 |n+1=>aK (my (aA n) (aI n) (aN n)) 4 7
noncomputable def aN:Nat->List D->R D
 |0=>λ_=>un
 |n+1=>aK (kj (aA n) (aI n) (aN n)) 3 5
end
def eT(n:Nat):aA (n+1)=aK (gH (aA n) (aI n) (aN n)) 2 2:=by rw[aA]
def iZ:∀n:Nat,Ar 2 (aA n)
 |0=>λ_ h=>absurd (by rw[aA]) h
 |n+1=>by rw[eT];exact aQ
def jc(n:Nat):aI (n+1)=aK (my (aA n) (aI n) (aN n)) 4 7:=by rw[aI]
def iE:∀n:Nat,Ar 4 (aI n)
 |0=>λ_ h=>absurd (by rw[aI]) h
 |n+1=>by rw[jc];exact aQ
def hX(n:Nat):aN (n+1)=aK (kj (aA n) (aI n) (aN n)) 3 5:=by rw[aN]
def jH:∀n:Nat,Ar 3 (aN n)
 |0=>λ_ h=>absurd (by rw[aN]) h
 |n+1=>by rw[hX];exact aQ
abbrev gF:U1:=top 31
def sC:aP ["_law_script","_law_k"] ["_law_script","_law_k"] (ax gF):=‹2›
abbrev kc:U1:=top 33
def x8:aP ["_law_script","_law_k","_law_x"] ["_law_script","_law_k"] (ax kc):=‹2›
abbrev jj:U1:=top 42
def vq:aP ["_law_form_here","_law_many","_law_script","_law_start","_law_most","_law_rows_here","_law_k","_law_x"] ["_law_form_here","_law_many","_law_script","_law_start","_law_most"] (ax jj):=‹2›
noncomputable def gE:cm:=aW (qa 5 (jP (aw))) (aW (jU (sL (af (ah 3) (af (fL y6 (af (fL sg (af (fL jh (af (ah 2) (aw))) (af (f2 ce (ah 3) (fC (.int 5))) (aw)))) (af (f2 ce (ah 3) (ah 4)) (aw)))) (aw)))) (gN 6) (aW (cy 7 (fR (aK cQ 2 3) (af (ah 2) (af (ah 6) (aw))))) (aW (Dd 5 gY (af (fR (aI 20) (af (ah 0) (af (ah 1) (af (f2 aG (jP (af (f2 cS (f2 dN (ah 7) (fC (.int 2))) (fC (.int 4))) (af (f2 dN (ah 7) (fC (.int 2))) (aw)))) (f2 cS (ah 7) (fC (.int 2)))) (af (fR (aK bf 1 1) (af (ah 7) (aw))) (aw)))))) (aw))) (dL [6,7] cM)))) (kA 5 (bM (fR (aK bQ 2 4) (af (fL jh (af (f2 aG (ah 0) (fC (.int 0))) (aw))) (af (ah 5) (aw)))))))
abbrev ju:U1:=top 35
def vn:aP ["_law_x","_law_low","_law_letters","_law_one","_law_other","_law_some","_law_kept","_law_k"] ["_law_x"] (ax ju):=‹2›
abbrev iU:U1:=top 36
def xX:aP ["_law_x","_law_base","_law_deep_here","_law_inner"] ["_law_x","_law_base","_law_deep_here"] (ax iU):=‹2›
abbrev iK:U1:=top 37
def xE:aP ["_law_x","_law_base","_law_start","_law_many","_law_more","_law_deep_here","_law_key","_law_rest","_law_k"] ["_law_x","_law_base","_law_start","_law_many","_law_more","_law_deep_here"] (ax iK):=‹2›
noncomputable def iY(bd aZ:List D->R D):cm:=aW (mK (En (fB (f2 lI (ah 2) (fC (.int 0)))) (fB (f2 tI (f2 cS (ah 0) (fC (.int 3))) (fC (.int 2))))) (bM (fR (aK dh 1 8) (af (f2 dN (ah 0) (fC (.int 3))) (aw)))) (cM)) (aW (cy 3 (fR aZ (af (f2 dN (ah 0) (fC (.int 3))) (af (ah 1) (af (f2 cS (f2 dN (ah 0) (fC (.int 36))) (fC (.int 12))) (af (f2 ce (fC (.int 1)) (f2 cS (f2 dN (ah 0) (fC (.int 3))) (fC (.int 2)))) (af (f2 cS (f2 dN (ah 0) (fC (.int 6))) (fC (.int 3))) (af (f2 vi (ah 2) (fC (.int 1))) (aw))))))))) (bM (fF (af (fC (.str "rows")) (af (ah 3) (af (f2 lI (f2 cS (f2 dN (ah 0) (fC (.int 18))) (fC (.int 2))) (fC (.int 1))) (aw)))))))
noncomputable def j9(bd aZ:List D->R D):cm:=aW (qa 6 (jP (aw))) (aW (qa 7 (jP (aw))) (aW (jU (je (af (f2 ce (ah 3) (ah 4)) (aw))) (gN 8) (aW (cy 0 (fR (aK bf 1 1) (af (ah 0) (aw)))) (aW (mK (fB (f2 tI (ah 8) (ah 3))) (Dd 6 gY (af (fF (af (fR (aK cq 2 7) (af (ah 1) (af (f2 ce (ah 2) (ah 8)) (aw)))) (af (fR (aK dh 1 8) (af (ah 0) (aw))) (aw)))) (aw))) (Dd 7 gY (af (fF (af (fR (aK cq 2 7) (af (ah 1) (af (f2 ce (ah 2) (ah 8)) (aw)))) (af (fR bd (af (ah 0) (af (ah 1) (af (ah 5) (aw))))) (aw)))) (aw)))) (dL [8] cM)))) (kA 7 (kA 6 (bM (fF (af (fL cR (af (ah 6) (aw))) (af (fL cR (af (ah 7) (aw))) (aw)))))))))
mutual
noncomputable def bd:Nat->List D->R D
 |0=>λ_=>un
 |n+1=>aK (iY (bd n) (aZ n)) 3 4
noncomputable def aZ:Nat->List D->R D
 |0=>λ_=>un
 |n+1=>aK (j9 (bd n) (aZ n)) 6 9
end
def fD(n:Nat):bd (n+1)=aK (iY (bd n) (aZ n)) 3 4:=by rw[bd]
def m7:∀n:Nat,Ar 3 (bd n)
 |0=>λ_ h=>absurd (by rw[bd]) h
 |n+1=>by rw[fD];exact aQ
def ic(n:Nat):aZ (n+1)=aK (j9 (bd n) (aZ n)) 6 9:=by rw[aZ]
def jL:∀n:Nat,Ar 6 (aZ n)
 |0=>λ_ h=>absurd (by rw[aZ]) h
 |n+1=>by rw[ic];exact aQ
abbrev eW:U1:=top 44
def o0:aP ["_law_script","_law_fewest","_law_x","_law_base","_law_many","_law_more","_law_deep_here"] ["_law_script","_law_fewest"] (ax eW):=‹2›
noncomputable def dD:cm:=aW (cy 2 (fR (aK cQ 2 3) (af (ah 0) (af (fC (.int 0)) (aw))))) (aW (cy 3 (f2 cS (f2 o5 (fR (aK cC 2 2) (af (ah 0) (af (fC (.int 1)) (aw)))) (fC (.int 48271))) (fC (.int 2147483647)))) (aW (cy 4 (f2 ce (ah 1) (f2 cS (ah 2) (f2 vi (fC (.int 5)) (ah 1))))) (aW (cy 5 (f2 cS (f2 dN (ah 2) (fC (.int 8))) (fC (.int 4)))) (aW (cy 6 (f2 aG (jP (af (fC (.int 0)) (af (fC (.int 0)) (af (fC (.int 1)) (af (fC (.int 2)) (aw)))))) (f2 cS (f2 dN (ah 2) (fC (.int 32))) (fC (.int 4))))) (aW (mK (fB (f2 lI (f2 cS (f2 dN (ah 2) (fC (.int 128))) (fC (.int 8))) (fC (.int 3)))) (aW (cy 4 (f2 vi (fC (.int 8)) (f2 cS (f2 dN (ah 2) (fC (.int 1024))) (fC (.int 3))))) (aW (cy 5 (f2 cS (f2 dN (ah 2) (fC (.int 4096))) (fC (.int 9)))) (cy 6 (fC (.int 0))))) (cM)) (bM (fR (aZ 20) (af (fR (aK bf 1 1) (af (ah 2) (aw))) (af (ah 3) (af (fC (.int 0)) (af (ah 4) (af (ah 5) (af (ah 6) (aw))))))))))))))
abbrev uD:U1:=top 47
def J8:aP ["_law_script","_law_form_here","_law_base","_law_x","_law_many","_law_rows_here","_law_table_here","_law_view","_law_names","_law_steps","_law_forms","_law_tables","_law_step","_law_there","_law_put","_law_k"] ["_law_script"] (ax uD):=‹2›
noncomputable def tP:cm:=aW (cy 1 (fR (aK dD 2 7) (af (ah 0) (af (fC (.int 2)) (aw))))) (aW (cy 2 (f2 cS (f2 o5 (fR (aK cC 2 2) (af (ah 0) (af (fC (.int 1)) (aw)))) (fC (.int 48271))) (fC (.int 2147483647)))) (aW (cy 3 (fR (aK bf 1 1) (af (fR (aK cQ 2 3) (af (ah 0) (af (fC (.int 2)) (aw)))) (aw)))) (aW (cy 4 (f2 ce (fC (.int 1)) (f2 cS (ah 3) (f2 vi (fL jh (af (f2 aG (ah 1) (fC (.int 0))) (aw))) (fC (.int 1)))))) (aW (cy 5 (fR (aK gE 5 8) (af (ah 1) (af (ah 4) (af (ah 0) (af (fC (.int 2)) (af (fC (.int 60)) (aw)))))))) (aW (cy 6 (fL cR (af (jX [none,none,some 3] (fY (af (ah 5) (aw))) (gT 2 (lE [0,1])) (fB (f2 lI (f2 rR (f2 xR (f2 dN (ah 2) (fC (.int 3))) (f2 cS (ah 0) (fC (.int 20)))) (fC (.int 1))) (fC (.int 1)))) (ah 1)) (aw)))) (aW (cy 7 (fL cR (af (jX [none,none,some 3] (fY (af (ah 5) (aw))) (gT 2 (lE [0,1])) (fB (f2 lI (f2 rR (f2 xR (f2 dN (ah 2) (fC (.int 5))) (f2 cS (ah 0) (fC (.int 19)))) (fC (.int 1))) (fC (.int 1)))) (ah 1)) (aw)))) (aW (cy 8 (jP (af (fR (aK cq 2 7) (af (ah 2) (af (f2 ce (fC (.int 17)) (f2 cS (f2 dN (ah 3) (fC (.int 64))) (fC (.int 3)))) (aw)))) (af (fR (aK cq 2 7) (af (ah 2) (af (f2 ce (fC (.int 20)) (f2 cS (f2 dN (ah 3) (fC (.int 256))) (fC (.int 3)))) (aw)))) (aw))))) (aW (cy 9 (jP (af (fNew "Nest" ["many","name"] (af (ah 4) (af (f2 aG (ah 8) (fC (.int 0))) (aw)))) (af (fNew "Unnest" ["name"] (af (f2 aG (ah 8) (fC (.int 0))) (aw))) (aw))))) (aW (mK (Gh (fB (f2 Pz (ah 4) (fC (.int 1)))) (Gh (fB (f2 tI (fR (bE 20) (af (ah 1) (aw))) (fC (.int 2)))) (fB (f2 lI (f2 cS (f2 dN (ah 3) (fC (.int 1024))) (fC (.int 2))) (fC (.int 1)))))) (cy 9 (jP (af (f2 aG (ah 9) (fC (.int 0))) (af (fNew "Nest" ["many","name"] (af (f2 ce (fC (.int 1)) (f2 cS (f2 dN (ah 3) (fC (.int 2048))) (f2 vi (ah 4) (fC (.int 1))))) (af (f2 aG (ah 8) (fC (.int 1))) (aw)))) (af (fNew "Unnest" ["name"] (af (f2 aG (ah 8) (fC (.int 1))) (aw))) (af (f2 aG (ah 9) (fC (.int 1))) (aw))))))) (cM)) (aW (Fi (fR (aK h7 3 6) (af (ah 9) (af (ah 1) (af (ah 6) (aw))))) (gT 2 (lE [10,11]))) (aW (mK (En (uJ (fS (fR (aC 20) (af (f2 aG (ah 10) (mN (fC (.int 1)))) (af (ah 1) (aw)))))) (uJ (fS (fR (aC 20) (af (f2 aG (ah 11) (mN (fC (.int 1)))) (af (ah 6) (aw))))))) (bM (fC (.bl false))) (cM)) (dL [0,1,2,3,4,5,6,8] (aW (jU (C0 (af (ah 9) (af (ah 10) (aw)))) (gT 2 (lE [12,13])) (aW (mK (En (fB (f2 lM (dX "exact" [("Step",(aK cB 2 2)),("Nest",(aK cB 2 2)),("Unnest",(aK bi 2 2))] (ah 12) (af (ah 13) (aw))) (fC (.bl true)))) (fB (f2 lM (dX "steady" [("Step",(aK bW 2 2)),("Nest",(aK bW 2 2)),("Unnest",(aK bX 2 2))] (ah 12) (af (ah 13) (aw))) (fC (.bl true))))) (bM (fC (.bl false))) (cM)) (dL [12,13] cM))) (aW (cy 14 (ah 7)) (dL [0,1,2,3,4,5,6,8,12,13] (aW (jU (pR (af (f2 vi (fL jh (af (ah 9) (aw))) (fC (.int 1))) (af (mN (fC (.int 1))) (af (mN (fC (.int 1))) (aw))))) (gN 15) (aW (cy 14 (dX "put" [("Step",(aK hV 4 4)),("Nest",(aK eA 4 4)),("Unnest",(aK de 4 6))] (f2 aG (ah 9) (ah 15)) (af (f2 aG (ah 10) (ah 15)) (af (f2 aG (ah 11) (ah 15)) (af (ah 14) (aw)))))) (dL [15] cM))) (bM (fR (aC 20) (af (ah 14) (af (ah 7) (aw)))))))))))))))))))))
def Of:(["within","row","many"]:List Str).Nodup:=by decide +kernel
def OA:(["row","many"]:List Str).Nodup:=by decide +kernel
def PV:(["row","many","taken"]:List Str).Nodup:=by decide +kernel
def Nf:(["key","within"]:List Str).Nodup:=by decide +kernel
def Je:(["key","within"]:List Str).Nodup:=by decide +kernel
def Oa:(["row","many"]:List Str).Nodup:=by decide +kernel
def Ow:(["field"]:List Str).Nodup:=by decide +kernel
def O5:(["field"]:List Str).Nodup:=by decide +kernel
def Px:(["kind"]:List Str).Nodup:=by decide +kernel
def OD:(["field"]:List Str).Nodup:=by decide +kernel
def LJ:(["field","inner"]:List Str).Nodup:=by decide +kernel
def Jp:(["key","within"]:List Str).Nodup:=by decide +kernel
def MT:(["_law_key","_law_found"]:List Str).Nodup:=by decide +kernel
def JG:(["_law_k","_law_row_here","_law_x"]:List Str).Nodup:=by decide +kernel
def Ji:(["_law_k","_law_row_here","_law_x"]:List Str).Nodup:=by decide +kernel
section
variable{P:UL}{w:UK}{K:Tt}{mg:Str->Option UJ}{base:UO}[aU]
def vx{n:Nat}{f:UM}(bq:mg "isinstance"=none)(tO:mg "str"=none)(ja:mg "bool"=none)(gq:mg "int"=none)(aL:mg "tuple"=none)(bP:mg "len"=none)(p6:mg "zip"=none){aC:List D->R D}(eK:Callee P w K mg base (0+n) "_law_alike" ["_law_found","_law_due"] aC)(L__law_alike:Ar 2 aC):cz P w K mg base (0+n) ["_law_found","_law_due","_law_one","_law_other"] "_law_alike" gC f (cD aC):=
 ⟨λcdv A outer s H E hr hp=>(ak (cG (eO (gx zx rfl bq rfl tO Uw (aa (xv 1)))) (az (aJ (pV (gx zx rfl bq rfl tO Uw (aa (xv 0))) (sY (qf (eE hr.units) au (aa (xv 0)) (aa (xv 1)) (cj _)))))) (aY)) (ak (cG (Js (pB (eO (gx lD rfl bq rfl ja Ux (aa (xv 1)))) (lJ (eO (gx lD rfl bq rfl ja Ux (aa (xv 0))))))) (az (aJ (pV (gx lD rfl bq rfl ja Ux (aa (xv 1))) (pV (gx lD rfl bq rfl ja Ux (aa (xv 0))) (sY (qf (eE hr.units) au (aa (xv 0)) (aa (xv 1)) (cj _))))))) (aY)) (ak (cG (eO (gx tT rfl bq rfl gq Uy (aa (xv 1)))) (az (aJ (pV (gx tT rfl bq rfl gq Uy (aa (xv 0))) (sY (qf (eE hr.units) au (aa (xv 0)) (aa (xv 1)) (cj _)))))) (aY)) (ak (cG (Js (pB (oK (eO (gx Av rfl bq rfl aL Uz (aa (xv 0))))) (lJ (bG (Ax hr.units) au (bC cF rfl bP PySem.boot_len (ae (aa (xv 0)) (aj))) (bC cF rfl bP PySem.boot_len (ae (aa (xv 1)) (aj))) (cj _))))) (az (aJ (i6))) (aY)) (ak (eF hp rfl (B3 rfl p6 (ae (aa (xv 0)) (ae (aa (xv 1)) (aj)))) (fP (g:=lE [2,3]) rfl (bD (aM (i:=2) uY.nd rfl ‹1›) (bD (aM (i:=3) uY.nd rfl ‹1›) (eL)))) (ak (cG (oK (eO (ay eK L__law_alike hr ‹0› (ae (aa (xv 2)) (ae (aa (xv 3)) (aj)))))) (az (aJ (i6))) (aY)) (bS [2,3] aY))) (az (aJ (i6))))))))⟩
def m9{f__law_alike:UM}{fd__law_alike:Vp}(F__law_alike:uT K "_law_alike" "_law_alike" gC f__law_alike fd__law_alike)(lU:Binds K fd__law_alike ["_law_found","_law_due"] [])(m__law_alike:mg "_law_alike"=some (.ref f__law_alike))(bq:mg "isinstance"=none)(tO:mg "str"=none)(ja:mg "bool"=none)(gq:mg "int"=none)(aL:mg "tuple"=none)(bP:mg "len"=none)(p6:mg "zip"=none):∀n:Nat,Callee P w K mg base (0+n) "_law_alike" ["_law_found","_law_due"] (aC n)
 |0=>by
  rw[aC];exact dZ 0 F__law_alike lU m__law_alike
 |n+1=>by
  have ih:=m9 F__law_alike lU m__law_alike bq tO ja gq aL bP p6 n;rw[j7];exact bu F__law_alike lU m__law_alike uY (cz.ok (vx bq tO ja gq aL bP p6 ih (fO n)))
def yK{f:UM}:cz P w K mg base 0 ["self","form","table","view"] "Step.put" mw f hV:=
 ⟨λcdv A outer s H E hr hp=>(az (aJ (aa (xv 3))))⟩
def zW{f:UM}(aL:mg "tuple"=none):cz P w K mg base 0 ["many","table","rows","row"] "unnested" mi f fQ:=
 ⟨λcdv A outer s H E hr hp=>(ak (iB (i:=2) yL.nd rfl ‹1› (j4 (aj))) (ak (eF hp rfl (dQ (aa (xv 1))) (aM (i:=3) yL.nd rfl ‹1›) (ak (Il (xv 2) (KU (N:=["within","row","many"]) (ix:=[none,some 3,some 0]) rfl (.of rfl) (eQ rfl) (dQ (aH (aa (xv 3)) (aa (xv 0)) (λ_ _=>rfl))) ⟨λ_ _ _ _ _ _=>⟨aM (i:=0) Of rfl (Or.inl rfl),eY,ao bg au (gb (aa (xv 1)) (iV) (iO (aa (xv 2)))) (aa (xv 0))⟩⟩)) (bS [3] aY))) (fH 2 (az (aJ (bF cx rfl aL Uz (ae (aa (xv 2)) (aj))))))))⟩
def yZ{f:UM}(gU:Callee P w K mg base 1 "unnested" ["many","table"] (aK fQ 2 4))(bZ:nH K "many" ["Nest"]):cz P w K mg base 1 ["self","form","table","view"] "Nest.put" mD f eA:=
 ⟨λcdv A outer s H E hr hp=>(az (aJ (ay gU aQ hr ‹0› (ae (iG bZ (aa (xv 0))) (ae (aa (xv 3)) (aj))))))⟩
def xc{f cL T:UM}(aL:mg "tuple"=none)(gA:mg "sorted"=none)(lamB:C7 mg base cL T)(lamC:wg K f (.ref cL))(lamT:∀H,aU.tab H->H T=some (.ext (pT T ⟨36,34,36,56⟩ ((("sorted_by":Str)++".<locals>.")++"<lambda>")))):GU P w K mg base 0 ["many","rows"] "sorted_by" j5 f iP:=
 ⟨fun cdv A outer s H E hc hr hp=>by
  obtain rfl:=hc.one lamC;exact(az (aJ (bF cx rfl aL Uz (ae (Eh (j:=0) hr rfl gA lamB rfl lamT (aa (xv 1)) rfl rfl (Or.inr (Or.inl rfl)) rfl rfl rfl (λ_ _ _=>rfl) rfl rfl rfl (by decide) rfl rfl rfl rfl rfl) (aj)))))⟩
def DA{f:UM}(qO:mg "dict"=none):cz P w K mg base 0 ["many","rows"] "by_key" qp f nq:=
 ⟨λcdv A outer s H E hr hp=>(az (aJ (bF (Be rfl hr.units) rfl qO UA (ae (gD (N:=["row","many"]) (ix:=[none,some 0]) rfl (.of rfl) (eQ rfl) (dQ (aa (xv 1))) ⟨λ_ _ _ _ _ _=>⟨aM (i:=0) OA rfl (Or.inl rfl),eY,cW (ae (gb (aa (xv 0)) (iV) (iO (aa (xv 1)))) (ae (aa (xv 0)) (aj)))⟩⟩) (aj)))))⟩
def yM{f:UM}(t7:Callee P w K mg base 1 "by_key" ["many","rows"] (aK nq 2 2))(nJ:Callee P w K mg base 1 "sorted_by" ["many","rows"] (aK iP 2 2))(mC:mg "list"=none):cz P w K mg base 1 ["many","rows","others","taken"] "standing" lL f jQ:=
 ⟨λcdv A outer s H E hr hp=>(ak (aR (i:=3) yk.nd rfl ‹1› (ay t7 aQ hr ‹0› (ae (aa (xv 0)) (ae (aa (xv 1)) (aj))))) (az (aJ (ay nJ aQ hr ‹0› (ae (aa (xv 0)) (ae (ao bg au (bF A0 rfl mC UB (ae (aa (xv 1)) (aj))) (gD (N:=["row","many","taken"]) (ix:=[none,some 0,some 3]) rfl (.of rfl) (eQ rfl) (dQ (aa (xv 2))) ⟨λ_ _ _ _ _ _=>⟨aM (i:=0) PV rfl (Or.inl rfl),nF (bG (Dg hr.units) au (gb (aa (xv 0)) (iV) (iO (aa (xv 1)))) (aa (xv 2)) rfl),aa (xv 0)⟩⟩)) (aj)))))))⟩
def Au{f:UM}(qO:mg "dict"=none)(aL:mg "tuple"=none):cz P w K mg base 0 ["many","rows","groups","row"] "grouped" nZ f fg:=
 ⟨λcdv A outer s H E hr hp=>(ak (Fj (i:=2) AU.nd rfl ‹1›) (ak (eF hp rfl (dQ (aa (xv 1))) (aM (i:=3) AU.nd rfl ‹1›) (ak (IH hr.units (xv 2) (gb (aa (xv 3)) (iV) (iO (aa (xv 0)))) (gb (aa (xv 3)) (iO (aa (xv 0))) (iV))) (bS [3] aY))) (C8 2 (az (aJ (bF (Bn rfl hr.units) rfl qO UA (ae (gD (N:=["key","within"]) (ix:=[none,none]) rfl (.of rfl) (gZ rfl) (nW (aa (xv 2))) ⟨λ_ _ _ _ _ _=>⟨fP (g:=lE [0,1]) rfl (bD (aM (i:=0) Nf rfl (Or.inl rfl)) (bD (aM (i:=1) Nf rfl (Or.inl rfl)) (eL))),eY,cW (ae (aa (xv 0)) (ae (bF cx rfl aL Uz (ae (aa (xv 1)) (aj))) (aj)))⟩⟩) (aj))))))))⟩
def vj{f:UM}(ie:Callee P w K mg base 1 "grouped" ["many","rows"] (aK fg 2 4))(pC:Callee P w K mg base 2 "standing" ["many","rows","others"] (aK jQ 3 4))(bP:mg "len"=none):cz P w K mg base 2 ["self","form","table","view","many","rows"] "Unnest.put" jn f de:=
 ⟨λcdv A outer s H E hr hp=>(ak (aR (i:=4) vg.nd rfl ‹1› (bC cF rfl bP PySem.boot_len (ae (aH (aa (xv 1)) (ai) (λ_ _=>rfl)) (aj)))) (ak (by first|exact Ld (i:=5) vg.nd rfl ‹1› (N:=["key","within"]) (ix:=[none,none]) rfl (.of rfl) (gZ rfl) (nW (ay ie aQ hr ‹0› (ae (aa (xv 4)) (ae (aa (xv 3)) (aj))))) ⟨λ_ _ _ _ _ _=>⟨fP (g:=lE [0,1]) rfl (bD (aM (i:=0) Je rfl (Or.inl rfl)) (bD (aM (i:=1) Je rfl (Or.inl rfl)) (eL))),eY,ao bg au (aa (xv 0)) (cW (ae (aa (xv 1)) (aj)))⟩⟩|exact aR (i:=5) vg.nd rfl ‹1› (gD (N:=["key","within"]) (ix:=[none,none]) rfl (.of rfl) (gZ rfl) (nW (ay ie aQ hr ‹0› (ae (aa (xv 4)) (ae (aa (xv 3)) (aj))))) ⟨λ_ _ _ _ _ _=>⟨fP (g:=lE [0,1]) rfl (bD (aM (i:=0) Je rfl (Or.inl rfl)) (bD (aM (i:=1) Je rfl (Or.inl rfl)) (eL))),eY,ao bg au (aa (xv 0)) (cW (ae (aa (xv 1)) (aj)))⟩⟩)) (az (aJ (ay pC aQ hr ‹0› (ae (aa (xv 4)) (ae (aa (xv 5)) (ae (gD (N:=["row","many"]) (ix:=[none,some 4]) rfl (.of rfl) (eQ rfl) (dQ (aa (xv 2))) ⟨λ_ _ _ _ _ _=>⟨aM (i:=0) Oa rfl (Or.inl rfl),nF (bG (eE hr.units) au (aH (aa (xv 0)) (aa (xv 1)) (λ_ _=>rfl)) (cW (aj)) (cj _)),aa (xv 0)⟩⟩) (aj)))))))))⟩
def uH{f:UM}:cz P w K mg base 0 ["self","form"] "Step.steady" iA f bW:=
 ⟨λcdv A outer s H E hr hp=>(az (aJ (i6)))⟩
def Ak{f:UM}:cz P w K mg base 0 ["form","place"] "kind_at" oI f ga:=
 ⟨λcdv A outer s H E hr hp=>(az (aJ (aH (aH (ao bg au (aH (aa (xv 0)) (ai) (λ_ _=>rfl)) (aH (aa (xv 0)) (ai) (λ_ _=>rfl))) (aa (xv 1)) (λ_ _=>rfl)) (ai) (λ_ _=>rfl))))⟩
def zq{f:UM}(aL:mg "tuple"=none):cz P w K mg base 0 ["form"] "names_of" mh f eD:=
 ⟨λcdv A outer s H E hr hp=>(az (aJ (bF cx rfl aL Uz (ae (gD (N:=["field"]) (ix:=[none]) rfl (.of rfl) (eQ rfl) (dQ (ao bg au (aH (aa (xv 0)) (ai) (λ_ _=>rfl)) (aH (aa (xv 0)) (ai) (λ_ _=>rfl)))) ⟨λ_ _ _ _ _ _=>⟨aM (i:=0) Ow rfl (Or.inl rfl),eY,aH (aa (xv 0)) (ai) (λ_ _=>rfl)⟩⟩) (aj)))))⟩
def yR{f:UM}(gQ:Callee P w K mg base 1 "names_of" ["form"] (aK eD 1 1))(e7:mg "enumerate"=none):cz P w K mg base 1 ["form","name","place","other"] "place_of" lZ f eZ:=
 ⟨λcdv A outer s H E hr hp=>(ak (eF hp rfl (kB rfl e7 (ae (ay gQ aQ hr ‹0› (ae (aa (xv 0)) (aj))) (aj))) (fP (g:=lE [2,3]) rfl (bD (aM (i:=2) yz.nd rfl ‹1›) (bD (aM (i:=3) yz.nd rfl ‹1›) (eL)))) (ak (cG (bG (eE hr.units) au (aa (xv 3)) (aa (xv 1)) (cj _)) (az (aJ (aa (xv 2)))) (aY)) (bS [2,3] aY))) (az (jM)))⟩
def si{f:UM}(jD:Callee P w K mg base 1 "kind_at" ["form","place"] (aK ga 2 2))(gX:Callee P w K mg base 2 "place_of" ["form","name"] (aK eZ 2 4))(dU:nH K "name" ["Unnest"]):cz P w K mg base 2 ["self","form"] "Unnest.exact" gK f bi:=
 ⟨λcdv A outer s H E hr hp=>(az (aJ (aH (ay jD aQ hr ‹0› (ae (aa (xv 1)) (ae (ay gX aQ hr ‹0› (ae (aa (xv 1)) (ae (iG dU (aa (xv 0))) (aj)))) (aj)))) (ai) (λ_ _=>rfl))))⟩
def qz{f:UM}(sq:gO P w K mg base 3 "exact" ["self","form"] [("Unnest",(aK bi 2 2))]):cz P w K mg base 3 ["self","form"] "Unnest.steady" fK f bX:=
 ⟨λcdv A outer s H E hr hp=>(az (aJ (ly sq hr ‹0› (aa (xv 0)) (ae (aa (xv 1)) (aj)))))⟩
def vy{f:UM}:cz P w K mg base 0 ["self","form"] "Step.exact" jp f cB:=
 ⟨λcdv A outer s H E hr hp=>(az (aJ (i6)))⟩
def pW{f:UM}:cz P w K mg base 0 ["self","form"] "Step.view_form" fu f dA:=
 ⟨λcdv A outer s H E hr hp=>(az (aJ (aa (xv 1))))⟩
def zE{f:UM}(aL:mg "tuple"=none):cz P w K mg base 0 ["form"] "kinds_of" lW f d7:=
 ⟨λcdv A outer s H E hr hp=>(az (aJ (bF cx rfl aL Uz (ae (gD (N:=["field"]) (ix:=[none]) rfl (.of rfl) (eQ rfl) (dQ (ao bg au (aH (aa (xv 0)) (ai) (λ_ _=>rfl)) (aH (aa (xv 0)) (ai) (λ_ _=>rfl)))) ⟨λ_ _ _ _ _ _=>⟨aM (i:=0) O5 rfl (Or.inl rfl),eY,aH (aa (xv 0)) (ai) (λ_ _=>rfl)⟩⟩) (aj)))))⟩
def yg{n:Nat}{f:UM}(iu:Callee P w K mg base 1 "kinds_of" ["form"] (aK d7 1 1))(eM:mg "max"=none){bw:List D->R D}(jG:Callee P w K mg base (1+n) "depth_of" ["form"] bw)(L_depth_of:Ar 1 bw):cz P w K mg base (1+n) ["form"] "depth_of" jE f (jR bw):=
 ⟨λcdv A outer s H E hr hp=>(az (aJ (GW rfl rfl eM (gD (N:=["kind"]) (ix:=[none]) rfl (.of rfl) (eQ rfl) (dQ (ay iu aQ hr ‹0› (ae (aa (xv 0)) (aj)))) ⟨λ_ _ _ _ _ _=>⟨aM (i:=0) Px rfl (Or.inl rfl),nF (bG (eE hr.units) au (aH (aa (xv 0)) (ai) (λ_ _=>rfl)) (e9) (cj _)),ao bg au (ai) (ay jG L_depth_of hr ‹0› (ae (aH (aa (xv 0)) (ai) (λ_ _=>rfl)) (aj)))⟩⟩))))⟩
def p9{f_depth_of:UM}{fd_depth_of:Vp}(F_depth_of:uT K "depth_of" "depth_of" jE f_depth_of fd_depth_of)(o3:Binds K fd_depth_of ["form"] [])(m_depth_of:mg "depth_of"=some (.ref f_depth_of))(iu:Callee P w K mg base 1 "kinds_of" ["form"] (aK d7 1 1))(eM:mg "max"=none):∀n:Nat,Callee P w K mg base (1+n) "depth_of" ["form"] (bw n)
 |0=>by
  rw[bw];exact dZ 1 F_depth_of o3 m_depth_of
 |n+1=>by
  have ih:=p9 F_depth_of o3 m_depth_of iu eM n;rw[fM];exact bu F_depth_of o3 m_depth_of yt (cz.ok (yg iu eM ih (oU n)))
def yX{f:UM}(bq:mg "isinstance"=none)(gq:mg "int"=none)(ja:mg "bool"=none):cz P w K mg base 0 ["value"] "is_whole" mq f jK:=
 ⟨λcdv A outer s H E hr hp=>(az (aJ (pV (gx tT rfl bq rfl gq Uy (aa (xv 0))) (sY (IJ (gx lD rfl bq rfl ja Ux (aa (xv 0))))))))⟩
def qc{f:UM}(o4:Callee P w K mg base 1 "is_whole" ["value"] (aK jK 1 1))(jG:Callee P w K mg base 21 "depth_of" ["form"] (bw 20))(bZ:nH K "many" ["Nest"])(jg:nH K "name" ["Nest"])(bP:mg "len"=none)(c_MOST_WITHIN:∃t,mg "MOST_WITHIN"=some (.int 3 t)):cz P w K mg base 21 ["self","form","key","inner"] "Nest.view_form" fE f bR:=
 ⟨λcdv A outer s H E hr hp=>(ak (cG (Js (pB (oK (eO (ay o4 aQ hr ‹0› (ae (iG bZ (aa (xv 0))) (aj))))) (lJ (oK (Eg Mx oO (oZ hr.units) au (ai) (iG bZ (aa (xv 0))) (bC cF rfl bP PySem.boot_len (ae (aH (aa (xv 1)) (ai) (λ_ _=>rfl)) (aj)))))))) (az (jM)) (aY)) (ak (aR (i:=2) pU.nd rfl ‹1› (gb (aH (aa (xv 1)) (ai) (λ_ _=>rfl)) (iV) (iO (iG bZ (aa (xv 0)))))) (ak (cG (bG (Gn hr.units) au (iG jg (aa (xv 0))) (gD (N:=["field"]) (ix:=[none]) rfl (.of rfl) (eQ rfl) (dQ (aa (xv 2))) ⟨λ_ _ _ _ _ _=>⟨aM (i:=0) OD rfl (Or.inl rfl),eY,aH (aa (xv 0)) (ai) (λ_ _=>rfl)⟩⟩) rfl) (az (jM)) (aY)) (ak (aR (i:=3) pU.nd rfl ‹1› (cW (ae (gb (aH (aa (xv 1)) (ai) (λ_ _=>rfl)) (iO (iG bZ (aa (xv 0)))) (iV)) (ae (aH (aa (xv 1)) (ai) (λ_ _=>rfl)) (aj))))) (ak (cG (bG M5 oO (ay jG (oU 20) hr ‹0› (ae (aa (xv 3)) (aj))) (yv rfl c_MOST_WITHIN) (cj _)) (az (jM)) (aY)) (az (aJ (cW (ae (aa (xv 2)) (ae (cW (ae (cW (ae (iG jg (aa (xv 0))) (ae (cW (ae (e9) (ae (aa (xv 3)) (ae (i6) (aj))))) (aj)))) (aj))) (aj)))))))))))⟩
def oQ{f:UM}(jD:Callee P w K mg base 1 "kind_at" ["form","place"] (aK ga 2 2))(gX:Callee P w K mg base 2 "place_of" ["form","name"] (aK eZ 2 4))(gQ:Callee P w K mg base 1 "names_of" ["form"] (aK eD 1 1))(dU:nH K "name" ["Unnest"])(bP:mg "len"=none)(Ep:mg "any"=none)(c_MOST_FIELDS:∃t,mg "MOST_FIELDS"=some (.int 8 t)):cz P w K mg base 2 ["self","form","kind","key","inner"] "Unnest.view_form" eG f bH:=
 ⟨λcdv A outer s H E hr hp=>(ak (aR (i:=2) oP.nd rfl ‹1› (ay jD aQ hr ‹0› (ae (aa (xv 1)) (ae (ay gX aQ hr ‹0› (ae (aa (xv 1)) (ae (iG dU (aa (xv 0))) (aj)))) (aj))))) (ak (cG (Js (pB (bG (Ax hr.units) au (aH (aa (xv 2)) (ai) (λ_ _=>rfl)) (e9) (cj _)) (lJ (bG (Ax hr.units) au (bC cF rfl bP PySem.boot_len (ae (aH (aa (xv 1)) (ai) (λ_ _=>rfl)) (aj))) (ai) (cj _))))) (az (jM)) (aY)) (ak (aR (i:=3) oP.nd rfl ‹1› (aH (aa (xv 1)) (ai) (λ_ _=>rfl))) (ak (aR (i:=4) oP.nd rfl ‹1› (aH (aa (xv 2)) (ai) (λ_ _=>rfl))) (ak (cG (eO (bC (Dk rfl) rfl Ep PyProof.Rows.boot_any (ae (gD (N:=["field","inner"]) (ix:=[none,some 4]) rfl (.of rfl) (eQ rfl) (dQ (aa (xv 3))) ⟨λ_ _ _ _ _ _=>⟨aM (i:=0) LJ rfl (Or.inl rfl),eY,qf (Gn hr.units) au (aH (aa (xv 0)) (ai) (λ_ _=>rfl)) (ay gQ aQ hr ‹0› (ae (aa (xv 1)) (aj))) rfl⟩⟩) (aj)))) (az (jM)) (aY)) (ak (cG (bG JO oO (ao bg au (bC cF rfl bP PySem.boot_len (ae (aa (xv 3)) (aj))) (bC cF rfl bP PySem.boot_len (ae (aH (aa (xv 4)) (ai) (λ_ _=>rfl)) (aj)))) (yv rfl c_MOST_FIELDS) (cj _)) (az (jM)) (aY)) (az (aJ (cW (ae (ao bg au (aa (xv 3)) (aH (aa (xv 4)) (ai) (λ_ _=>rfl))) (ae (aH (aa (xv 4)) (ai) (λ_ _=>rfl)) (aj))))))))))))⟩
def yy{f:UM}:cz P w K mg base 0 ["self","form","table"] "Step.got" lN f gR:=
 ⟨λcdv A outer s H E hr hp=>(az (aJ (aa (xv 2))))⟩
def yP{f:UM}(ie:Callee P w K mg base 1 "grouped" ["many","rows"] (aK fg 2 4))(bZ:nH K "many" ["Nest"])(aL:mg "tuple"=none):cz P w K mg base 1 ["self","form","table"] "Nest.got" lP f eJ:=
 ⟨λcdv A outer s H E hr hp=>(az (aJ (bF cx rfl aL Uz (ae (gD (N:=["key","within"]) (ix:=[none,none]) rfl (.of rfl) (gZ rfl) (nW (ay ie aQ hr ‹0› (ae (iG bZ (aa (xv 0))) (ae (aa (xv 2)) (aj))))) ⟨λ_ _ _ _ _ _=>⟨fP (g:=lE [0,1]) rfl (bD (aM (i:=0) Jp rfl (Or.inl rfl)) (bD (aM (i:=1) Jp rfl (Or.inl rfl)) (eL))),eY,ao bg au (aa (xv 0)) (cW (ae (aa (xv 1)) (aj)))⟩⟩) (aj)))))⟩
def vk{f:UM}(gU:Callee P w K mg base 1 "unnested" ["many","table"] (aK fQ 2 4))(bP:mg "len"=none):cz P w K mg base 1 ["self","form","table"] "Unnest.got" jv f cZ:=
 ⟨λcdv A outer s H E hr hp=>(az (aJ (ay gU aQ hr ‹0› (ae (bC cF rfl bP PySem.boot_len (ae (aH (aa (xv 1)) (ai) (λ_ _=>rfl)) (aj))) (ae (aa (xv 2)) (aj))))))⟩
def zS{f:UM}(lH:gO P w K mg base 22 "got" ["self","form","table"] [("Step",(aK gR 3 3)),("Nest",(aK eJ 3 3)),("Unnest",(aK cZ 3 3))])(iJ:gO P w K mg base 22 "view_form" ["self","form"] [("Step",(aK dA 2 2)),("Nest",(aK bR 2 4)),("Unnest",(aK bH 2 5))]):cz P w K mg base 22 ["_law_steps","_law_form_here","_law_table_here","_law_forms","_law_tables","_law_step"] "_law_way" mE f h7:=
 ⟨λcdv A outer s H E hr hp=>(ak (iB (i:=3) yD.nd rfl ‹1› (j4 (ae (aa (xv 1)) (aj)))) (ak (iB (i:=4) yD.nd rfl ‹1› (j4 (ae (aa (xv 2)) (aj)))) (bS [1,2] (ak (eF hp rfl (dQ (aa (xv 0))) (aM (i:=5) yD.nd rfl ‹1›) (ak (nh UH UI eP gh (xv 4) (ae (ym [3,4] (ly lH hr ‹0› (aa (xv 5)) (ae (aH (aa (xv 3)) (jY (ai)) (λ_ _=>rfl)) (ae (aH (aa (xv 4)) (jY (ai)) (λ_ _=>rfl)) (aj))))) (aj))) (ak (nh UH UI eP gh (xv 3) (ae (ym [3] (ly iJ hr ‹0› (aa (xv 5)) (ae (aH (aa (xv 3)) (jY (ai)) (λ_ _=>rfl)) (aj)))) (aj))) (bS [5] aY)))) (fH 3 (fH 4 (az (aJ (cW (ae (aa (xv 3)) (ae (aa (xv 4)) (aj))))))))))))⟩
def xV{n:Nat}{f:UM}(eM:mg "max"=none){bE:List D->R D}(iR:Callee P w K mg base (0+n) "_law_deep" ["_law_form_here"] bE)(L__law_deep:Ar 1 bE):cz P w K mg base (0+n) ["_law_form_here","_law_found","_law_name_here","_law_kind_here"] "_law_deep" iM f (iT bE):=
 ⟨λcdv A outer s H E hr hp=>(ak (aR (i:=1) xf.nd rfl ‹1› (ai)) (ak (eF hp rfl (dQ (aH (aa (xv 0)) (ai) (λ_ _=>rfl))) (fP (g:=lE [2,3]) rfl (bD (aM (i:=2) xf.nd rfl ‹1›) (bD (aM (i:=3) xf.nd rfl ‹1›) (eL)))) (ak (cG (bG (eE hr.units) au (aH (aa (xv 3)) (ai) (λ_ _=>rfl)) (e9) (cj _)) (az (aR (i:=1) xf.nd rfl ‹1› (bC (pj rfl) rfl eM UC (ae (aa (xv 1)) (ae (ao bg au (ai) (ay iR L__law_deep hr ‹0› (ae (aH (aa (xv 3)) (ai) (λ_ _=>rfl)) (aj)))) (aj)))))) (aY)) (bS [2,3] aY))) (az (aJ (aa (xv 1))))))⟩
def oW{f__law_deep:UM}{fd__law_deep:Vp}(F__law_deep:uT K "_law_deep" "_law_deep" iM f__law_deep fd__law_deep)(mQ:Binds K fd__law_deep ["_law_form_here"] [])(m__law_deep:mg "_law_deep"=some (.ref f__law_deep))(eM:mg "max"=none):∀n:Nat,Callee P w K mg base (0+n) "_law_deep" ["_law_form_here"] (bE n)
 |0=>by
  rw[bE];exact dZ 0 F__law_deep mQ m__law_deep
 |n+1=>by
  have ih:=oW F__law_deep mQ m__law_deep eM n;rw[fh];exact bu F__law_deep mQ m__law_deep xf (cz.ok (xV eM ih (ni n)))
def xj{f:UM}(bJ:mg "range"=none):cz P w K mg base 0 ["_law_base","_law_k","_law_letters","_law_size","_law_name_here","_law_j","_law_step"] "_law_name" j6 f cq:=
 ⟨λcdv A outer s H E hr hp=>(ak (aR (i:=2) xA.nd rfl ‹1› (e9)) (ak (aR (i:=1) xA.nd rfl ‹1› (ao bz bB (ao bg au (ao kG kz (aa (xv 1)) (aH (ji (ae (ai) (ae (ai) (ae (ai) (ae (ai) (ae (ai) (ae (ai) (aj)))))))) (ao bz bB (aa (xv 0)) (ai)) (λ_ _=>rfl))) (ao bn bV (aa (xv 0)) (ai))) (ai))) (ak (aR (i:=0) xA.nd rfl ‹1› (ao bn bV (aa (xv 0)) (ai))) (ak (cG (bG (eE hr.units) au (ao bz bB (aa (xv 0)) (ai)) (ai) (cj _)) (az (aJ (ao xS au (aH (aa (xv 2)) (ao bz bB (ao bg au (ao bn bV (aa (xv 0)) (ai)) (ao bn bV (aa (xv 1)) (ai))) (ai)) (λ_ _=>rfl)) (ao bg au (ai) (ao bz bB (aa (xv 1)) (ai)))))) (aY)) (ak (aR (i:=3) xA.nd rfl ‹1› (ao bg au (ai) (ao bz bB (ao bn bV (aa (xv 0)) (ai)) (ai)))) (ak (aR (i:=4) xA.nd rfl ‹1› (e9)) (ak (eF hp rfl (mH rfl bJ (ae (aa (xv 3)) (aj))) (aM (i:=5) xA.nd rfl ‹1›) (ak (aR (i:=6) xA.nd rfl ‹1› (ao bn bV (aa (xv 0)) (ao bg au (ai) (ao kG kz (ao kG kz (ai) (aa (xv 5))) (aa (xv 5)))))) (ak (cG (bG (eE hr.units) au (aa (xv 5)) (ao bz bB (ao bn bV (aa (xv 0)) (ai)) (aa (xv 3))) (cj _)) (az (aR (i:=6) xA.nd rfl ‹1› (ao bg au (aa (xv 6)) (aa (xv 1))))) (aY)) (ak (aR (i:=4) xA.nd rfl ‹1› (ao bg au (aa (xv 4)) (aH (aa (xv 2)) (ao bz bB (aa (xv 6)) (ai)) (λ_ _=>rfl)))) (bS [5,6] aY))))) (az (aJ (aa (xv 4)))))))))))⟩
def uf{f:UM}(aL:mg "tuple"=none)(gA:mg "sorted"=none)(mC:mg "list"=none):cz P w K mg base 0 ["_law_many","_law_rows_here","_law_found","_law_row_here"] "_law_sorted" iF f bQ:=
 ⟨λcdv A outer s H E hr hp=>(ak (iB (i:=2) uQ.nd rfl ‹1› (vK)) (ak (eF hp rfl (dQ (aa (xv 1))) (aM (i:=3) uQ.nd rfl ‹1›) (ak (EI (hr.units) (xv 2) (gb (aa (xv 3)) (iV) (iO (aa (xv 0)))) (aa (xv 3))) (bS [3] aY))) (fH 2 (az (aJ (bF cx rfl aL Uz (ae (gD (N:=["_law_key","_law_found"]) (ix:=[none,some 2]) rfl (.of rfl) (eQ rfl) (dQ (bC qm rfl gA mr (ae (bF (A9 rfl) rfl mC UB (ae (aa (xv 2)) (aj))) (aj)))) ⟨λ_ _ _ _ _ _=>⟨aM (i:=0) MT rfl (Or.inl rfl),eY,G8 hr.units (aa (xv 1)) (aa (xv 0)) (λ_ _=>rfl)⟩⟩) (aj))))))))⟩
def xH{f:UM}:cz P w K mg base 0 ["_law_x"] "_law_next" jW f bf:=
 ⟨λcdv A outer s H E hr hp=>(az (aJ (ao bz bB (ao bg au (ao bg au (ao kG kz (aa (xv 0)) (aa (xv 0))) (ao kG kz (ai) (aa (xv 0)))) (ai)) (ai))))⟩
def u6{n:Nat}{f:UM}(aE:Callee P w K mg base 1 "_law_next" ["_law_x"] (aK bf 1 1))(bK:Callee P w K mg base 1 "_law_sorted" ["_law_many","_law_rows_here"] (aK bQ 2 4))(bP:mg "len"=none)(eM:mg "max"=none)(gq:mg "int"=none)(aL:mg "tuple"=none)(bJ:mg "range"=none){aA:List D->R D}(gJ:Callee P w K mg base (1+n) "_law_value" ["_law_kind_here","_law_x"] aA)(L__law_value:Ar 2 aA){aI:List D->R D}(fT:Callee P w K mg base (1+n) "_law_row" ["_law_form_here","_law_many","_law_head","_law_tail"] aI)(L__law_row:Ar 4 aI){aN:List D->R D}(ki:Callee P w K mg base (1+n) "_law_rows" ["_law_form_here","_law_x","_law_many"] aN)(L__law_rows:Ar 3 aN):cz P w K mg base (1+n) ["_law_kind_here","_law_x"] "_law_value" gG f (gH aA aI aN):=
 ⟨λcdv A outer s H E hr hp=>(ak (cG (bG (eE hr.units) au (aH (aa (xv 0)) (ai) (λ_ _=>rfl)) (e9) (cj _)) (az (aJ (ao bg au (aH (aa (xv 0)) (ai) (λ_ _=>rfl)) (ao bz bB (ao qI rp (aa (xv 1)) (ai)) (ao bg au (ao nN nB (aH (aa (xv 0)) (ai) (λ_ _=>rfl)) (aH (aa (xv 0)) (ai) (λ_ _=>rfl))) (ai)))))) (aY)) (ak (cG (bG (eE hr.units) au (aH (aa (xv 0)) (ai) (λ_ _=>rfl)) (e9) (cj _)) (az (aJ (aH (aH (aa (xv 0)) (ai) (λ_ _=>rfl)) (ao bz bB (aa (xv 1)) (bC cF rfl bP PySem.boot_len (ae (aH (aa (xv 0)) (ai) (λ_ _=>rfl)) (aj)))) (λ_ _=>rfl)))) (aY)) (az (aJ (ay ki L__law_rows hr ‹0› (ae (aH (aa (xv 0)) (ai) (λ_ _=>rfl)) (ae (ao bn bV (aa (xv 1)) (ai)) (ae (bC (pj rfl) rfl eM UC (ae (ao bz bB (aa (xv 1)) (ai)) (ae (bF AX rfl gq Uy (ae (aH (aa (xv 0)) (ai) (λ_ _=>rfl)) (aj))) (aj)))) (aj)))))))))⟩
def zV{n:Nat}{f:UM}(aE:Callee P w K mg base 1 "_law_next" ["_law_x"] (aK bf 1 1))(bK:Callee P w K mg base 1 "_law_sorted" ["_law_many","_law_rows_here"] (aK bQ 2 4))(bP:mg "len"=none)(eM:mg "max"=none)(gq:mg "int"=none)(aL:mg "tuple"=none)(bJ:mg "range"=none){aA:List D->R D}(gJ:Callee P w K mg base (1+n) "_law_value" ["_law_kind_here","_law_x"] aA)(L__law_value:Ar 2 aA){aI:List D->R D}(fT:Callee P w K mg base (1+n) "_law_row" ["_law_form_here","_law_many","_law_head","_law_tail"] aI)(L__law_row:Ar 4 aI){aN:List D->R D}(ki:Callee P w K mg base (1+n) "_law_rows" ["_law_form_here","_law_x","_law_many"] aN)(L__law_rows:Ar 3 aN):cz P w K mg base (1+n) ["_law_form_here","_law_many","_law_head","_law_tail","_law_row_here","_law_name_here","_law_kind_here"] "_law_row" jF f (my aA aI aN):=
 ⟨λcdv A outer s H E hr hp=>(ak (iB (i:=4) zj.nd rfl ‹1› (j4 (aj))) (ak (eF hp rfl (dQ (ao bg au (aH (aa (xv 0)) (ai) (λ_ _=>rfl)) (aH (aa (xv 0)) (ai) (λ_ _=>rfl)))) (fP (g:=lE [5,6]) rfl (bD (aM (i:=5) zj.nd rfl ‹1›) (bD (aM (i:=6) zj.nd rfl ‹1›) (eL)))) (ak (cG (yo [4] (bG (oZ hr.units) au (bC cF rfl bP PySem.boot_len (ae (aa (xv 4)) (aj))) (aa (xv 1)) (cj _))) (ak (aR (i:=2) zj.nd rfl ‹1› (ay aE aQ hr ‹0› (ae (aa (xv 2)) (aj)))) (az (nh UH UI eP gh (xv 4) (ae (ay gJ L__law_value hr ‹0› (ae (aa (xv 6)) (ae (aa (xv 2)) (aj)))) (aj))))) (ak (aR (i:=3) zj.nd rfl ‹1› (ay aE aQ hr ‹0› (ae (aa (xv 3)) (aj)))) (az (nh UH UI eP gh (xv 4) (ae (ay gJ L__law_value hr ‹0› (ae (aa (xv 6)) (ae (aa (xv 3)) (aj)))) (aj)))))) (bS [5,6] aY))) (fH 4 (az (aJ (bF cx rfl aL Uz (ae (aa (xv 4)) (aj))))))))⟩
def xi{n:Nat}{f:UM}(aE:Callee P w K mg base 1 "_law_next" ["_law_x"] (aK bf 1 1))(bK:Callee P w K mg base 1 "_law_sorted" ["_law_many","_law_rows_here"] (aK bQ 2 4))(bP:mg "len"=none)(eM:mg "max"=none)(gq:mg "int"=none)(aL:mg "tuple"=none)(bJ:mg "range"=none){aA:List D->R D}(gJ:Callee P w K mg base (1+n) "_law_value" ["_law_kind_here","_law_x"] aA)(L__law_value:Ar 2 aA){aI:List D->R D}(fT:Callee P w K mg base (1+n) "_law_row" ["_law_form_here","_law_many","_law_head","_law_tail"] aI)(L__law_row:Ar 4 aI){aN:List D->R D}(ki:Callee P w K mg base (1+n) "_law_rows" ["_law_form_here","_law_x","_law_many"] aN)(L__law_rows:Ar 3 aN):cz P w K mg base (1+n) ["_law_form_here","_law_x","_law_many","_law_rows_here","_law_k"] "_law_rows" iL f (kj aA aI aN):=
 ⟨λcdv A outer s H E hr hp=>(ak (iB (i:=3) xL.nd rfl ‹1› (j4 (aj))) (ak (eF hp rfl (mH rfl bJ (ae (aa (xv 2)) (aj))) (aM (i:=4) xL.nd rfl ‹1›) (ak (aR (i:=1) xL.nd rfl ‹1› (ay aE aQ hr ‹0› (ae (aa (xv 1)) (aj)))) (ak (nh UH UI eP gh (xv 3) (ae (ay fT L__law_row hr ‹0› (ae (aa (xv 0)) (ae (ai) (ae (ai) (ae (aa (xv 1)) (aj)))))) (aj))) (bS [4] aY)))) (fH 3 (az (aJ (ay bK aQ hr ‹0› (ae (bC cF rfl bP PySem.boot_len (ae (aH (aa (xv 0)) (ai) (λ_ _=>rfl)) (aj))) (ae (aa (xv 3)) (aj)))))))))⟩
def nI{f__law_value:UM}{fd__law_value:Vp}(F__law_value:uT K "_law_value" "_law_value" gG f__law_value fd__law_value)(lR:Binds K fd__law_value ["_law_kind_here","_law_x"] [])(m__law_value:mg "_law_value"=some (.ref f__law_value)){f__law_row:UM}{fd__law_row:Vp}(F__law_row:uT K "_law_row" "_law_row" jF f__law_row fd__law_row)(o7:Binds K fd__law_row ["_law_form_here","_law_many","_law_head","_law_tail"] [])(m__law_row:mg "_law_row"=some (.ref f__law_row)){f__law_rows:UM}{fd__law_rows:Vp}(F__law_rows:uT K "_law_rows" "_law_rows" iL f__law_rows fd__law_rows)(nc:Binds K fd__law_rows ["_law_form_here","_law_x","_law_many"] [])(m__law_rows:mg "_law_rows"=some (.ref f__law_rows))(aE:Callee P w K mg base 1 "_law_next" ["_law_x"] (aK bf 1 1))(bK:Callee P w K mg base 1 "_law_sorted" ["_law_many","_law_rows_here"] (aK bQ 2 4))(bP:mg "len"=none)(eM:mg "max"=none)(gq:mg "int"=none)(aL:mg "tuple"=none)(bJ:mg "range"=none):∀n:Nat,Callee P w K mg base (1+n) "_law_value" ["_law_kind_here","_law_x"] (aA n)/\Callee P w K mg base (1+n) "_law_row" ["_law_form_here","_law_many","_law_head","_law_tail"] (aI n)/\Callee P w K mg base (1+n) "_law_rows" ["_law_form_here","_law_x","_law_many"] (aN n)
 |0=>by
  rw[aA];rw[aI];rw[aN];exact⟨dZ 1 F__law_value lR m__law_value,dZ 1 F__law_row o7 m__law_row,dZ 1 F__law_rows nc m__law_rows⟩
 |n+1=>by
  have ih:=nI F__law_value lR m__law_value F__law_row o7 m__law_row F__law_rows nc m__law_rows aE bK bP eM gq aL bJ n;rw[eT];rw[jc];rw[hX];exact⟨bu F__law_value lR m__law_value uU (cz.ok (u6 aE bK bP eM gq aL bJ ih.1 (iZ n) ih.2.1 (iE n) ih.2.2 (jH n))),bu F__law_row o7 m__law_row zj (cz.ok (zV aE bK bP eM gq aL bJ ih.1 (iZ n) ih.2.1 (iE n) ih.2.2 (jH n))),bu F__law_rows nc m__law_rows xL (cz.ok (xi aE bK bP eM gq aL bJ ih.1 (iZ n) ih.2.1 (iE n) ih.2.2 (jH n)))⟩
def sA{f:UM}(bP:mg "len"=none):cz P w K mg base 0 ["_law_script","_law_k"] "_law_cell_at" gF f cC:=
 ⟨λcdv A outer s H E hr hp=>(ak (cG (bG (oZ hr.units) au (aa (xv 1)) (bC cF rfl bP PySem.boot_len (ae (aa (xv 0)) (aj))) (cj _)) (az (aJ (aH (aa (xv 0)) (aa (xv 1)) (λ_ _=>rfl)))) (aY)) (az (aJ (ai))))⟩
def xh{f:UM}(cA:Callee P w K mg base 1 "_law_cell_at" ["_law_script","_law_k"] (aK cC 2 2))(aE:Callee P w K mg base 1 "_law_next" ["_law_x"] (aK bf 1 1)):cz P w K mg base 1 ["_law_script","_law_k","_law_x"] "_law_seed" kc f cQ:=
 ⟨λcdv A outer s H E hr hp=>(ak (aR (i:=2) x8.nd rfl ‹1› (ao bz bB (ao bg au (ao bg au (ao bz bB (ay cA aQ hr ‹0› (ae (aa (xv 0)) (ae (aa (xv 1)) (aj)))) (ai)) (ao kG kz (ao kG kz (ai) (aa (xv 1))) (aa (xv 1)))) (ai)) (ai))) (az (aJ (ay aE aQ hr ‹0› (ae (ay aE aQ hr ‹0› (ae (aa (xv 2)) (aj))) (aj))))))⟩
def vz{f:UM}(dC:Callee P w K mg base 2 "_law_seed" ["_law_script","_law_k"] (aK cQ 2 3))(fT:Callee P w K mg base 21 "_law_row" ["_law_form_here","_law_many","_law_head","_law_tail"] (aI 20))(aE:Callee P w K mg base 1 "_law_next" ["_law_x"] (aK bf 1 1))(bK:Callee P w K mg base 1 "_law_sorted" ["_law_many","_law_rows_here"] (aK bQ 2 4))(bJ:mg "range"=none)(Es:mg "min"=none)(eM:mg "max"=none)(bP:mg "len"=none):cz P w K mg base 21 ["_law_form_here","_law_many","_law_script","_law_start","_law_most","_law_rows_here","_law_k","_law_x"] "_law_table" jj f gE:=
 ⟨λcdv A outer s H E hr hp=>(ak (iB (i:=5) vq.nd rfl ‹1› (j4 (aj))) (ak (eF hp rfl (An rfl bJ (ae (aa (xv 3)) (ae (bC (Bu rfl) rfl Es PyProof.Rows.boot_min (ae (bC (pj rfl) rfl eM UC (ae (bC cF rfl bP PySem.boot_len (ae (aa (xv 2)) (aj))) (ae (ao bg au (aa (xv 3)) (ai)) (aj)))) (ae (ao bg au (aa (xv 3)) (aa (xv 4))) (aj)))) (aj)))) (aM (i:=6) vq.nd rfl ‹1›) (ak (aR (i:=7) vq.nd rfl ‹1› (ay dC aQ hr ‹0› (ae (aa (xv 2)) (ae (aa (xv 6)) (aj))))) (ak (nh UH UI eP gh (xv 5) (ae (ay fT (iE 20) hr ‹0› (ae (aa (xv 0)) (ae (aa (xv 1)) (ae (aH (ji (ae (ao bz bB (ao bn bV (aa (xv 7)) (ai)) (ai)) (ae (ao bn bV (aa (xv 7)) (ai)) (aj)))) (ao bz bB (aa (xv 7)) (ai)) (λ_ _=>rfl)) (ae (ay aE aQ hr ‹0› (ae (aa (xv 7)) (aj))) (aj)))))) (aj))) (bS [6,7] aY)))) (fH 5 (az (aJ (ay bK aQ hr ‹0› (ae (bC cF rfl bP PySem.boot_len (ae (aH (aa (xv 0)) (ai) (λ_ _=>rfl)) (aj))) (ae (aa (xv 5)) (aj)))))))))⟩
def vh{f:UM}(bJ:mg "range"=none)(bP:mg "len"=none)(aL:mg "tuple"=none)(gA:mg "sorted"=none)(mC:mg "list"=none):cz P w K mg base 0 ["_law_x","_law_low","_law_letters","_law_one","_law_other","_law_some","_law_kept","_law_k"] "_law_plain" ju f dh:=
 ⟨λcdv A outer s H E hr hp=>(ak (cG (bG (oZ hr.units) au (ao bz bB (aa (xv 0)) (ai)) (ai) (cj _)) (ak (aR (i:=1) vn.nd rfl ‹1› (aH (ji (ae (ai) (ae (jY (ai)) (ae (ao nN nB (ai) (ao bz bB (ao qI rp (aa (xv 0)) (ai)) (ao qI rp (ai) (ai)))) (ae (ao bz bB (ao qI rp (aa (xv 0)) (ai)) (ao qI rp (ai) (ai))) (aj)))))) (ao bz bB (ao bn bV (aa (xv 0)) (ai)) (ai)) (λ_ _=>rfl))) (az (aJ (cW (ae (e9) (ae (aa (xv 1)) (ae (ao bg au (aa (xv 1)) (aH (ji (ae (ai) (ae (ai) (ae (ai) (ae (ao qI rp (ai) (ai)) (aj)))))) (ao bz bB (ao bn bV (aa (xv 0)) (ai)) (ai)) (λ_ _=>rfl))) (aj)))))))) (aY)) (ak (aR (i:=2) vn.nd rfl ‹1› (e9)) (ak (aR (i:=3) vn.nd rfl ‹1› (aH (aa (xv 2)) (ao bz bB (ao bn bV (aa (xv 0)) (ai)) (ai)) (λ_ _=>rfl))) (ak (aR (i:=4) vn.nd rfl ‹1› (aH (aa (xv 2)) (ao bz bB (ao bn bV (aa (xv 0)) (ai)) (ai)) (λ_ _=>rfl))) (ak (aR (i:=5) vn.nd rfl ‹1› (ji (ae (e9) (ae (aa (xv 3)) (ae (aa (xv 4)) (ae (ao bg au (aa (xv 3)) (aa (xv 4))) (ae (ao bg au (aa (xv 4)) (aa (xv 3))) (ae (ao xS au (aa (xv 3)) (ai)) (ae (ao bg au (aa (xv 3)) (aa (xv 3))) (ae (ao xS au (aa (xv 4)) (ai)) (aj))))))))))) (ak (iB (i:=6) vn.nd rfl ‹1› (vK)) (bS [1,2,4] (ak (eF hp rfl (mH rfl bJ (ae (ai) (aj))) (aM (i:=7) vn.nd rfl ‹1›) (ak (cG (bG (eE hr.units) au (ao AH AO (ao AI Ai (ao bn bV (aa (xv 0)) (ai)) (aa (xv 7))) (ai)) (ai) (cj _)) (az (zu (hr.units) (xv 6) (aH (aa (xv 5)) (aa (xv 7)) (λ_ _=>rfl)) (i6))) (aY)) (bS [7] aY))) (ak (cG (yo [6] (bG (eE hr.units) au (bC Du rfl bP PySem.boot_len (ae (aa (xv 6)) (aj))) (ai) (cj _))) (az (zu (hr.units) (xv 6) (aa (xv 3)) (i6))) (aY)) (fH 6 (az (aJ (cW (ae (e9) (ae (bF cx rfl aL Uz (ae (bC qm rfl gA mr (ae (bF (A8 rfl) rfl mC UB (ae (aa (xv 6)) (aj))) (aj))) (aj))) (aj))))))))))))))))⟩
def x4{n:Nat}{f:UM}(cV:Callee P w K mg base 1 "_law_plain" ["_law_x"] (aK dh 1 8))(aE:Callee P w K mg base 1 "_law_next" ["_law_x"] (aK bf 1 1))(cn:Callee P w K mg base 1 "_law_name" ["_law_base","_law_k"] (aK cq 2 7))(bJ:mg "range"=none)(aL:mg "tuple"=none){bd:List D->R D}(nw:Callee P w K mg base (1+n) "_law_kind" ["_law_x","_law_base","_law_deep_here"] bd)(L__law_kind:Ar 3 bd){aZ:List D->R D}(fZ:Callee P w K mg base (1+n) "_law_form" ["_law_x","_law_base","_law_start","_law_many","_law_more","_law_deep_here"] aZ)(L__law_form:Ar 6 aZ):cz P w K mg base (1+n) ["_law_x","_law_base","_law_deep_here","_law_inner"] "_law_kind" iU f (iY bd aZ):=
 ⟨λcdv A outer s H E hr hp=>(ak (cG (Js (pB (bG (eE hr.units) au (aa (xv 2)) (ai) (cj _)) (lJ (bG (oZ hr.units) au (ao bz bB (aa (xv 0)) (ai)) (ai) (cj _))))) (az (aJ (ay cV aQ hr ‹0› (ae (ao bn bV (aa (xv 0)) (ai)) (aj))))) (aY)) (ak (aR (i:=3) xX.nd rfl ‹1› (ay fZ L__law_form hr ‹0› (ae (ao bn bV (aa (xv 0)) (ai)) (ae (aa (xv 1)) (ae (ao bz bB (ao bn bV (aa (xv 0)) (ai)) (ai)) (ae (ao bg au (ai) (ao bz bB (ao bn bV (aa (xv 0)) (ai)) (ai))) (ae (ao bz bB (ao bn bV (aa (xv 0)) (ai)) (ai)) (ae (ao nN nB (aa (xv 2)) (ai)) (aj))))))))) (az (aJ (cW (ae (e9) (ae (aa (xv 3)) (ae (qf (eE hr.units) au (ao bz bB (ao bn bV (aa (xv 0)) (ai)) (ai)) (ai) (cj _)) (aj)))))))))⟩
def xN{n:Nat}{f:UM}(cV:Callee P w K mg base 1 "_law_plain" ["_law_x"] (aK dh 1 8))(aE:Callee P w K mg base 1 "_law_next" ["_law_x"] (aK bf 1 1))(cn:Callee P w K mg base 1 "_law_name" ["_law_base","_law_k"] (aK cq 2 7))(bJ:mg "range"=none)(aL:mg "tuple"=none){bd:List D->R D}(nw:Callee P w K mg base (1+n) "_law_kind" ["_law_x","_law_base","_law_deep_here"] bd)(L__law_kind:Ar 3 bd){aZ:List D->R D}(fZ:Callee P w K mg base (1+n) "_law_form" ["_law_x","_law_base","_law_start","_law_many","_law_more","_law_deep_here"] aZ)(L__law_form:Ar 6 aZ):cz P w K mg base (1+n) ["_law_x","_law_base","_law_start","_law_many","_law_more","_law_deep_here","_law_key","_law_rest","_law_k"] "_law_form" iK f (j9 bd aZ):=
 ⟨λcdv A outer s H E hr hp=>(ak (iB (i:=6) xE.nd rfl ‹1› (j4 (aj))) (ak (iB (i:=7) xE.nd rfl ‹1› (j4 (aj))) (ak (eF hp rfl (mH rfl bJ (ae (ao bg au (aa (xv 3)) (aa (xv 4))) (aj))) (aM (i:=8) xE.nd rfl ‹1›) (ak (aR (i:=0) xE.nd rfl ‹1› (ay aE aQ hr ‹0› (ae (aa (xv 0)) (aj)))) (ak (cG (bG (oZ hr.units) au (aa (xv 8)) (aa (xv 3)) (cj _)) (az (nh UH UI eP gh (xv 6) (ae (cW (ae (ay cn aQ hr ‹0› (ae (aa (xv 1)) (ae (ao bg au (aa (xv 2)) (aa (xv 8))) (aj)))) (ae (ay cV aQ hr ‹0› (ae (aa (xv 0)) (aj))) (aj)))) (aj)))) (az (nh UH UI eP gh (xv 7) (ae (cW (ae (ay cn aQ hr ‹0› (ae (aa (xv 1)) (ae (ao bg au (aa (xv 2)) (aa (xv 8))) (aj)))) (ae (ay nw L__law_kind hr ‹0› (ae (aa (xv 0)) (ae (aa (xv 1)) (ae (aa (xv 5)) (aj))))) (aj)))) (aj))))) (bS [8] aY)))) (fH 7 (fH 6 (az (aJ (cW (ae (bF cx rfl aL Uz (ae (aa (xv 6)) (aj))) (ae (bF cx rfl aL Uz (ae (aa (xv 7)) (aj))) (aj)))))))))))⟩
def oX{f__law_kind:UM}{fd__law_kind:Vp}(F__law_kind:uT K "_law_kind" "_law_kind" iU f__law_kind fd__law_kind)(mS:Binds K fd__law_kind ["_law_x","_law_base","_law_deep_here"] [])(m__law_kind:mg "_law_kind"=some (.ref f__law_kind)){f__law_form:UM}{fd__law_form:Vp}(F__law_form:uT K "_law_form" "_law_form" iK f__law_form fd__law_form)(mY:Binds K fd__law_form ["_law_x","_law_base","_law_start","_law_many","_law_more","_law_deep_here"] [])(m__law_form:mg "_law_form"=some (.ref f__law_form))(cV:Callee P w K mg base 1 "_law_plain" ["_law_x"] (aK dh 1 8))(aE:Callee P w K mg base 1 "_law_next" ["_law_x"] (aK bf 1 1))(cn:Callee P w K mg base 1 "_law_name" ["_law_base","_law_k"] (aK cq 2 7))(bJ:mg "range"=none)(aL:mg "tuple"=none):∀n:Nat,Callee P w K mg base (1+n) "_law_kind" ["_law_x","_law_base","_law_deep_here"] (bd n)/\Callee P w K mg base (1+n) "_law_form" ["_law_x","_law_base","_law_start","_law_many","_law_more","_law_deep_here"] (aZ n)
 |0=>by
  rw[bd];rw[aZ];exact⟨dZ 1 F__law_kind mS m__law_kind,dZ 1 F__law_form mY m__law_form⟩
 |n+1=>by
  have ih:=oX F__law_kind mS m__law_kind F__law_form mY m__law_form cV aE cn bJ aL n;rw[fD];rw[ic];exact⟨bu F__law_kind mS m__law_kind xX (cz.ok (x4 cV aE cn bJ aL ih.1 (m7 n) ih.2 (jL n))),bu F__law_form mY m__law_form xE (cz.ok (xN cV aE cn bJ aL ih.1 (m7 n) ih.2 (jL n)))⟩
def o9{f:UM}(dC:Callee P w K mg base 2 "_law_seed" ["_law_script","_law_k"] (aK cQ 2 3))(cA:Callee P w K mg base 1 "_law_cell_at" ["_law_script","_law_k"] (aK cC 2 2))(fZ:Callee P w K mg base 21 "_law_form" ["_law_x","_law_base","_law_start","_law_many","_law_more","_law_deep_here"] (aZ 20))(aE:Callee P w K mg base 1 "_law_next" ["_law_x"] (aK bf 1 1)):cz P w K mg base 21 ["_law_script","_law_fewest","_law_x","_law_base","_law_many","_law_more","_law_deep_here"] "_law_drawn_form" eW f dD:=
 ⟨λcdv A outer s H E hr hp=>(ak (aR (i:=2) o0.nd rfl ‹1› (ay dC aQ hr ‹0› (ae (aa (xv 0)) (ae (ai) (aj))))) (ak (aR (i:=3) o0.nd rfl ‹1› (ao bz bB (ao kG kz (ay cA aQ hr ‹0› (ae (aa (xv 0)) (ae (ai) (aj)))) (ai)) (ai))) (ak (aR (i:=4) o0.nd rfl ‹1› (ao bg au (aa (xv 1)) (ao bz bB (aa (xv 2)) (ao nN nB (ai) (aa (xv 1)))))) (ak (aR (i:=5) o0.nd rfl ‹1› (ao bz bB (ao bn bV (aa (xv 2)) (ai)) (ai))) (ak (aR (i:=6) o0.nd rfl ‹1› (aH (ji (ae (ai) (ae (ai) (ae (ai) (ae (ai) (aj)))))) (ao bz bB (ao bn bV (aa (xv 2)) (ai)) (ai)) (λ_ _=>rfl))) (ak (cG (bG (eE hr.units) au (ao bz bB (ao bn bV (aa (xv 2)) (ai)) (ai)) (ai) (cj _)) (ak (aR (i:=4) o0.nd rfl ‹1› (ao nN nB (ai) (ao bz bB (ao bn bV (aa (xv 2)) (ai)) (ai)))) (ak (aR (i:=5) o0.nd rfl ‹1› (ao bz bB (ao bn bV (aa (xv 2)) (ai)) (ai))) (az (aR (i:=6) o0.nd rfl ‹1› (ai))))) (aY)) (az (aJ (ay fZ (jL 20) hr ‹0› (ae (ay aE aQ hr ‹0› (ae (aa (xv 2)) (aj))) (ae (aa (xv 3)) (ae (ai) (ae (aa (xv 4)) (ae (aa (xv 5)) (ae (aa (xv 6)) (aj))))))))))))))))⟩
def Kn{f:UM}{fd:Vp}(F:uT K "law" "law" uD f fd)(gI:Callee P w K mg base 22 "_law_drawn_form" ["_law_script","_law_fewest"] (aK dD 2 7))(cA:Callee P w K mg base 1 "_law_cell_at" ["_law_script","_law_k"] (aK cC 2 2))(aE:Callee P w K mg base 1 "_law_next" ["_law_x"] (aK bf 1 1))(dC:Callee P w K mg base 2 "_law_seed" ["_law_script","_law_k"] (aK cQ 2 3))(mj:Callee P w K mg base 22 "_law_table" ["_law_form_here","_law_many","_law_script","_law_start","_law_most"] (aK gE 5 8))(cn:Callee P w K mg base 1 "_law_name" ["_law_base","_law_k"] (aK cq 2 7))(iR:Callee P w K mg base 20 "_law_deep" ["_law_form_here"] (bE 20))(pG:Callee P w K mg base 23 "_law_way" ["_law_steps","_law_form_here","_law_table_here"] (aK h7 3 6))(eK:Callee P w K mg base 20 "_law_alike" ["_law_found","_law_due"] (aC 20))(jT:gO P w K mg base 23 "exact" ["self","form"] [("Step",(aK cB 2 2)),("Nest",(aK cB 2 2)),("Unnest",(aK bi 2 2))])(jJ:gO P w K mg base 23 "steady" ["self","form"] [("Step",(aK bW 2 2)),("Nest",(aK bW 2 2)),("Unnest",(aK bX 2 2))])(kW:gO P w K mg base 23 "put" ["self","form","table","view"] [("Step",(aK hV 4 4)),("Nest",(aK eA 4 4)),("Unnest",(aK de 4 6))])(pK:o8 P w K mg base 1 "Unnest" ["self","name"] ["name"])(xu:o8 P w K mg base 1 "Nest" ["self","many","name"] ["many","name"])(bP:mg "len"=none)(aL:mg "tuple"=none)(e7:mg "enumerate"=none)(p6:mg "zip"=none)(bJ:mg "range"=none):jV P w K mg base (oY P w) 24 f fd ["_law_script"] (Ek K 1 (aK tP 1 16)):=
 xU (k:=23) F J8 (cz.ok ⟨λcdv A outer s H E hr hp=>(ak (aR (i:=1) J8.nd rfl ‹1› (ay gI aQ hr ‹0› (ae (aa (xv 0)) (ae (ai) (aj))))) (ak (aR (i:=2) J8.nd rfl ‹1› (ao bz bB (ao kG kz (ay cA aQ hr ‹0› (ae (aa (xv 0)) (ae (ai) (aj)))) (ai)) (ai))) (ak (aR (i:=3) J8.nd rfl ‹1› (ay aE aQ hr ‹0› (ae (ay dC aQ hr ‹0› (ae (aa (xv 0)) (ae (ai) (aj)))) (aj)))) (ak (aR (i:=4) J8.nd rfl ‹1› (ao bg au (ai) (ao bz bB (aa (xv 3)) (ao nN nB (bC cF rfl bP PySem.boot_len (ae (aH (aa (xv 1)) (ai) (λ_ _=>rfl)) (aj))) (ai))))) (ak (aR (i:=5) J8.nd rfl ‹1› (ay mj aQ hr ‹0› (ae (aa (xv 1)) (ae (aa (xv 4)) (ae (aa (xv 0)) (ae (ai) (ae (ai) (aj)))))))) (ak (aR (i:=6) J8.nd rfl ‹1› (bF cx rfl aL Uz (ae (gD (N:=["_law_k","_law_row_here","_law_x"]) (ix:=[none,none,some 3]) rfl (.of rfl) (gZ rfl) (kB rfl e7 (ae (aa (xv 5)) (aj))) ⟨λ_ _ _ _ _ _=>⟨fP (g:=lE [0,1]) rfl (bD (aM (i:=0) JG rfl (Or.inl rfl)) (bD (aM (i:=1) JG rfl (Or.inl rfl)) (eL))),nF (bG (eE hr.units) au (ao AH AO (ao AI Ai (ao bn bV (aa (xv 2)) (ai)) (ao bz bB (aa (xv 0)) (ai))) (ai)) (ai) (cj _)),aa (xv 1)⟩⟩) (aj)))) (ak (aR (i:=7) J8.nd rfl ‹1› (bF cx rfl aL Uz (ae (gD (N:=["_law_k","_law_row_here","_law_x"]) (ix:=[none,none,some 3]) rfl (.of rfl) (gZ rfl) (kB rfl e7 (ae (aa (xv 5)) (aj))) ⟨λ_ _ _ _ _ _=>⟨fP (g:=lE [0,1]) rfl (bD (aM (i:=0) Ji rfl (Or.inl rfl)) (bD (aM (i:=1) Ji rfl (Or.inl rfl)) (eL))),nF (bG (eE hr.units) au (ao AH AO (ao AI Ai (ao bn bV (aa (xv 2)) (ai)) (ao bz bB (aa (xv 0)) (ai))) (ai)) (ai) (cj _)),aa (xv 1)⟩⟩) (aj)))) (ak (aR (i:=8) J8.nd rfl ‹1› (ji (ae (ay cn aQ hr ‹0› (ae (aa (xv 2)) (ae (ao bg au (ai) (ao bz bB (ao bn bV (aa (xv 3)) (ai)) (ai))) (aj)))) (ae (ay cn aQ hr ‹0› (ae (aa (xv 2)) (ae (ao bg au (ai) (ao bz bB (ao bn bV (aa (xv 3)) (ai)) (ai))) (aj)))) (aj))))) (ak (aR (i:=9) J8.nd rfl ‹1› (ji (ae (sM xu hr ‹0› rfl (ae (aa (xv 4)) (ae (aH (aa (xv 8)) (ai) (λ_ _=>rfl)) (aj)))) (ae (sM pK hr ‹0› rfl (ae (aH (aa (xv 8)) (ai) (λ_ _=>rfl)) (aj))) (aj))))) (ak (cG (Js (Cw (bG JO oO (aa (xv 4)) (ai) (cj _)) (Cw (bG (oZ hr.units) au (ay iR (ni 20) hr ‹0› (ae (aa (xv 1)) (aj))) (ai) (cj _)) (Gv (bG (eE hr.units) au (ao bz bB (ao bn bV (aa (xv 3)) (ai)) (ai)) (ai) (cj _)))))) (az (aR (i:=9) J8.nd rfl ‹1› (ji (ae (aH (aa (xv 9)) (ai) (λ_ _=>rfl)) (ae (sM xu hr ‹0› rfl (ae (ao bg au (ai) (ao bz bB (ao bn bV (aa (xv 3)) (ai)) (ao nN nB (aa (xv 4)) (ai)))) (ae (aH (aa (xv 8)) (ai) (λ_ _=>rfl)) (aj)))) (ae (sM pK hr ‹0› rfl (ae (aH (aa (xv 8)) (ai) (λ_ _=>rfl)) (aj))) (ae (aH (aa (xv 9)) (ai) (λ_ _=>rfl)) (aj)))))))) (aY)) (ak (HR (ay pG aQ hr ‹0› (ae (aa (xv 9)) (ae (aa (xv 1)) (ae (aa (xv 6)) (aj))))) (fP (g:=lE [10,11]) rfl (bD (aM (i:=10) J8.nd rfl ‹1›) (bD (aM (i:=11) J8.nd rfl ‹1›) (eL))))) (ak (cG (Js (pB (oK (eO (ay eK (fO 20) hr ‹0› (ae (aH (aa (xv 10)) (jY (ai)) (λ_ _=>rfl)) (ae (aa (xv 1)) (aj)))))) (lJ (oK (eO (ay eK (fO 20) hr ‹0› (ae (aH (aa (xv 11)) (jY (ai)) (λ_ _=>rfl)) (ae (aa (xv 6)) (aj))))))))) (az (aJ (i6))) (aY)) (bS [0,1,2,3,4,5,6,8] (ak (eF hp rfl (B3 rfl p6 (ae (aa (xv 9)) (ae (aa (xv 10)) (aj)))) (fP (g:=lE [12,13]) rfl (bD (aM (i:=12) J8.nd rfl ‹1›) (bD (aM (i:=13) J8.nd rfl ‹1›) (eL)))) (ak (cG (Js (pB (bG vW au (ly jT hr ‹0› (aa (xv 12)) (ae (aa (xv 13)) (aj))) (i6) rfl) (lJ (bG vW au (ly jJ hr ‹0› (aa (xv 12)) (ae (aa (xv 13)) (aj))) (i6) rfl)))) (az (aJ (i6))) (aY)) (bS [12,13] aY))) (ak (aR (i:=14) J8.nd rfl ‹1› (aa (xv 7))) (bS [0,1,2,3,4,5,6,8,12,13] (ak (eF hp rfl (AR rfl bJ (ae (ao nN nB (bC cF rfl bP PySem.boot_len (ae (aa (xv 9)) (aj))) (ai)) (ae (jY (ai)) (ae (jY (ai)) (aj))))) (aM (i:=15) J8.nd rfl ‹1›) (ak (aR (i:=14) J8.nd rfl ‹1› (ly kW hr ‹0› (aH (aa (xv 9)) (aa (xv 15)) (λ_ _=>rfl)) (ae (aH (aa (xv 10)) (aa (xv 15)) (λ_ _=>rfl)) (ae (aH (aa (xv 11)) (aa (xv 15)) (λ_ _=>rfl)) (ae (aa (xv 14)) (aj)))))) (bS [15] aY))) (az (aJ (ay eK (fO 20) hr ‹0› (ae (aa (xv 14)) (ae (aa (xv 7)) (aj)))))))))))))))))))))))⟩)
def zG{C f:UM}{fd:Vp}(h1:clsAt K "Unnest" C)(hM:Mk K C f)(cl:yj K C)(na:∀g∈(["name"]:List Str),kE K C g)(F:uT K "__init__" "Unnest.__init__" eS f fd)(b:Binds K fd ["self","name"] [])(hmg:mg "Unnest"=some (.ref C)):o8 P w K mg base 1 "Unnest" ["self","name"] ["name"]:=
 wC (k:=0) h1 hM cl na F b hmg pq rfl (by decide +kernel) (by decide) λcdv A outer s H E=>(wf rfl (pv 0) (pv 1) rfl)
def D9{C f:UM}{fd:Vp}(h1:clsAt K "Nest" C)(hM:Mk K C f)(cl:yj K C)(na:∀g∈(["many","name"]:List Str),kE K C g)(F:uT K "__init__" "Nest.__init__" fN f fd)(b:Binds K fd ["self","many","name"] [])(hmg:mg "Nest"=some (.ref C)):o8 P w K mg base 1 "Nest" ["self","many","name"] ["many","name"]:=
 wC (k:=0) h1 hM cl na F b hmg rd rfl (by decide +kernel) (by decide) λcdv A outer s H E=>(A1 rfl (pv 0) (pv 1) rfl (wf rfl (pv 0) (pv 2) rfl))
end
def Bv{us:List UJ}(h:us.length=1):∃u0,us=[u0]:=match us,h with|[u0],_=>⟨u0,rfl⟩
def ky{us:List UJ}(h:us.length=2):∃u0 u1,us=[u0,u1]:=match us,h with|[u0,u1],_=>⟨u0,u1,rfl⟩
def zZ{us:List UJ}(h:us.length=3):∃u0 u1 u2,us=[u0,u1,u2]:=match us,h with|[u0,u1,u2],_=>⟨u0,u1,u2,rfl⟩
def Hr{us:List UJ}(h:us.length=4):∃u0 u1 u2 u3,us=[u0,u1,u2,u3]:=match us,h with|[u0,u1,u2,u3],_=>⟨u0,u1,u2,u3,rfl⟩
def PF{us:List UJ}(h:us.length=5):∃u0 u1 u2 u3 u4,us=[u0,u1,u2,u3,u4]:=match us,h with|[u0,u1,u2,u3,u4],_=>⟨u0,u1,u2,u3,u4,rfl⟩
def OW{us:List UJ}(h:us.length=6):∃u0 u1 u2 u3 u4 u5,us=[u0,u1,u2,u3,u4,u5]:=match us,h with|[u0,u1,u2,u3,u4,u5],_=>⟨u0,u1,u2,u3,u4,u5,rfl⟩
def all_mk{l:T6}{w:UK}{K:Tt}{h:UO}{mg:Str->Option UJ}{fa:UM}(X:K.In h)(G:h.Ns UR mg)(hfa:mg "law"=some (.ref fa)){f1 f2:UM}
  (ac0:TV K UR "Nest"=some (some (.ref Cl0)))
  (ac1:TV K UR "Unnest"=some (some (.ref Cl1)))
  (ac2:TV K UR "Step"=some (some (.ref Cl2)))
  (a0:TV K UR "_law_alike"=some (some (.ref f0)))
  (l0:Lk K f0 "_law_alike" "_law_alike" gC oc0 od0 kV0 dc0 pm0 an0 cd0 ct0 sl0)
  (c0:TU K cd0 "_law_alike"=true)
  (k0:TL K (.ref f0)=true)
  (a1:Tx K (.ref Cl2) "put"=some (some (.ref f1)))
  (i1:TC K (.ref f1)=true)
  (l1:Lk K f1 "put" "Step.put" mw oc1 od1 kV1 dc1 pm1 an1 cd1 ct1 sl1)
  (c1:TU K cd1 "Step.put"=true)
  (k1:TL K (.ref f1)=true)
  (a2:TV K UR "unnested"=some (some (.ref f2)))
  (l2:Lk K f2 "unnested" "unnested" mi oc2 od2 kV2 dc2 pm2 an2 cd2 ct2 sl2)
  (c2:TU K cd2 "unnested"=true)
  (k2:TL K (.ref f2)=true)
  (a3:Tx K (.ref Cl0) "put"=some (some (.ref f3)))
  (i3:TC K (.ref f3)=true)
  (l3:Lk K f3 "put" "Nest.put" mD oc3 od3 kV3 dc3 pm3 an3 cd3 ct3 sl3)
  (c3:TU K cd3 "Nest.put"=true)
  (k3:TL K (.ref f3)=true)
  (a4:TV K UR "sorted_by"=some (some (.ref f4)))
  (l4:Lk K f4 "sorted_by" "sorted_by" j5 oc4 od4 kV4 dc4 pm4 an4 cd4 ct4 sl4)
  (c4:TU K cd4 "sorted_by"=true)
  (k4:TL K (.ref f4)=true)
  (a5:TV K UR "by_key"=some (some (.ref f5)))
  (l5:Lk K f5 "by_key" "by_key" qp oc5 od5 kV5 dc5 pm5 an5 cd5 ct5 sl5)
  (c5:TU K cd5 "by_key"=true)
  (k5:TL K (.ref f5)=true)
  (a6:TV K UR "standing"=some (some (.ref f6)))
  (l6:Lk K f6 "standing" "standing" lL oc6 od6 kV6 dc6 pm6 an6 cd6 ct6 sl6)
  (c6:TU K cd6 "standing"=true)
  (k6:TL K (.ref f6)=true)
  (a7:TV K UR "grouped"=some (some (.ref f7)))
  (l7:Lk K f7 "grouped" "grouped" nZ oc7 od7 kV7 dc7 pm7 an7 cd7 ct7 sl7)
  (c7:TU K cd7 "grouped"=true)
  (k7:TL K (.ref f7)=true)
  (a8:Tx K (.ref Cl1) "put"=some (some (.ref f8)))
  (i8:TC K (.ref f8)=true)
  (l8:Lk K f8 "put" "Unnest.put" jn oc8 od8 kV8 dc8 pm8 an8 cd8 ct8 sl8)
  (c8:TU K cd8 "Unnest.put"=true)
  (k8:TL K (.ref f8)=true)
  (a9:Tx K (.ref Cl0) "steady"=some (some (.ref f9)))
  (a9_2:Tx K (.ref Cl2) "steady"=some (some (.ref f9)))
  (i9:TC K (.ref f9)=true)
  (l9:Lk K f9 "steady" "Step.steady" iA oc9 od9 kV9 dc9 pm9 an9 cd9 ct9 sl9)
  (c9:TU K cd9 "Step.steady"=true)
  (k9:TL K (.ref f9)=true)
  (a10:TV K UR "kind_at"=some (some (.ref f10)))
  (l10:Lk K f10 "kind_at" "kind_at" oI oc10 od10 kV10 dc10 pm10 an10 cd10 ct10 sl10)
  (c10:TU K cd10 "kind_at"=true)
  (k10:TL K (.ref f10)=true)
  (a11:TV K UR "names_of"=some (some (.ref f11)))
  (l11:Lk K f11 "names_of" "names_of" mh oc11 od11 kV11 dc11 pm11 an11 cd11 ct11 sl11)
  (c11:TU K cd11 "names_of"=true)
  (k11:TL K (.ref f11)=true)
  (a12:TV K UR "place_of"=some (some (.ref f12)))
  (l12:Lk K f12 "place_of" "place_of" lZ oc12 od12 kV12 dc12 pm12 an12 cd12 ct12 sl12)
  (c12:TU K cd12 "place_of"=true)
  (k12:TL K (.ref f12)=true)
  (a13:Tx K (.ref Cl1) "exact"=some (some (.ref f13)))
  (i13:TC K (.ref f13)=true)
  (l13:Lk K f13 "exact" "Unnest.exact" gK oc13 od13 kV13 dc13 pm13 an13 cd13 ct13 sl13)
  (c13:TU K cd13 "Unnest.exact"=true)
  (k13:TL K (.ref f13)=true)
  (a14:Tx K (.ref Cl1) "steady"=some (some (.ref f14)))
  (i14:TC K (.ref f14)=true)
  (l14:Lk K f14 "steady" "Unnest.steady" fK oc14 od14 kV14 dc14 pm14 an14 cd14 ct14 sl14)
  (c14:TU K cd14 "Unnest.steady"=true)
  (k14:TL K (.ref f14)=true)
  (a15:Tx K (.ref Cl0) "exact"=some (some (.ref f15)))
  (a15_2:Tx K (.ref Cl2) "exact"=some (some (.ref f15)))
  (i15:TC K (.ref f15)=true)
  (l15:Lk K f15 "exact" "Step.exact" jp oc15 od15 kV15 dc15 pm15 an15 cd15 ct15 sl15)
  (c15:TU K cd15 "Step.exact"=true)
  (k15:TL K (.ref f15)=true)
  (a16:Tx K (.ref Cl2) "view_form"=some (some (.ref f16)))
  (i16:TC K (.ref f16)=true)
  (l16:Lk K f16 "view_form" "Step.view_form" fu oc16 od16 kV16 dc16 pm16 an16 cd16 ct16 sl16)
  (c16:TU K cd16 "Step.view_form"=true)
  (k16:TL K (.ref f16)=true)
  (a17:TV K UR "kinds_of"=some (some (.ref f17)))
  (l17:Lk K f17 "kinds_of" "kinds_of" lW oc17 od17 kV17 dc17 pm17 an17 cd17 ct17 sl17)
  (c17:TU K cd17 "kinds_of"=true)
  (k17:TL K (.ref f17)=true)
  (a18:TV K UR "depth_of"=some (some (.ref f18)))
  (l18:Lk K f18 "depth_of" "depth_of" jE oc18 od18 kV18 dc18 pm18 an18 cd18 ct18 sl18)
  (c18:TU K cd18 "depth_of"=true)
  (k18:TL K (.ref f18)=true)
  (a19:TV K UR "is_whole"=some (some (.ref f19)))
  (l19:Lk K f19 "is_whole" "is_whole" mq oc19 od19 kV19 dc19 pm19 an19 cd19 ct19 sl19)
  (c19:TU K cd19 "is_whole"=true)
  (k19:TL K (.ref f19)=true)
  (a20:Tx K (.ref Cl0) "view_form"=some (some (.ref f20)))
  (i20:TC K (.ref f20)=true)
  (l20:Lk K f20 "view_form" "Nest.view_form" fE oc20 od20 kV20 dc20 pm20 an20 cd20 ct20 sl20)
  (c20:TU K cd20 "Nest.view_form"=true)
  (k20:TL K (.ref f20)=true)
  (a21:Tx K (.ref Cl1) "view_form"=some (some (.ref f21)))
  (i21:TC K (.ref f21)=true)
  (l21:Lk K f21 "view_form" "Unnest.view_form" eG oc21 od21 kV21 dc21 pm21 an21 cd21 ct21 sl21)
  (c21:TU K cd21 "Unnest.view_form"=true)
  (k21:TL K (.ref f21)=true)
  (a22:Tx K (.ref Cl2) "got"=some (some (.ref f22)))
  (i22:TC K (.ref f22)=true)
  (l22:Lk K f22 "got" "Step.got" lN oc22 od22 kV22 dc22 pm22 an22 cd22 ct22 sl22)
  (c22:TU K cd22 "Step.got"=true)
  (k22:TL K (.ref f22)=true)
  (a23:Tx K (.ref Cl0) "got"=some (some (.ref f23)))
  (i23:TC K (.ref f23)=true)
  (l23:Lk K f23 "got" "Nest.got" lP oc23 od23 kV23 dc23 pm23 an23 cd23 ct23 sl23)
  (c23:TU K cd23 "Nest.got"=true)
  (k23:TL K (.ref f23)=true)
  (a24:Tx K (.ref Cl1) "got"=some (some (.ref f24)))
  (i24:TC K (.ref f24)=true)
  (l24:Lk K f24 "got" "Unnest.got" jv oc24 od24 kV24 dc24 pm24 an24 cd24 ct24 sl24)
  (c24:TU K cd24 "Unnest.got"=true)
  (k24:TL K (.ref f24)=true)
  (a25:TV K UR "_law_way"=some (some (.ref f25)))
  (l25:Lk K f25 "_law_way" "_law_way" mE oc25 od25 kV25 dc25 pm25 an25 cd25 ct25 sl25)
  (c25:TU K cd25 "_law_way"=true)
  (k25:TL K (.ref f25)=true)
  (a26:TV K UR "_law_deep"=some (some (.ref f26)))
  (l26:Lk K f26 "_law_deep" "_law_deep" iM oc26 od26 kV26 dc26 pm26 an26 cd26 ct26 sl26)
  (c26:TU K cd26 "_law_deep"=true)
  (k26:TL K (.ref f26)=true)
  (a27:TV K UR "_law_name"=some (some (.ref f27)))
  (l27:Lk K f27 "_law_name" "_law_name" j6 oc27 od27 kV27 dc27 pm27 an27 cd27 ct27 sl27)
  (c27:TU K cd27 "_law_name"=true)
  (k27:TL K (.ref f27)=true)
  (a28:TV K UR "_law_sorted"=some (some (.ref f28)))
  (l28:Lk K f28 "_law_sorted" "_law_sorted" iF oc28 od28 kV28 dc28 pm28 an28 cd28 ct28 sl28)
  (c28:TU K cd28 "_law_sorted"=true)
  (k28:TL K (.ref f28)=true)
  (a29:TV K UR "_law_next"=some (some (.ref f29)))
  (l29:Lk K f29 "_law_next" "_law_next" jW oc29 od29 kV29 dc29 pm29 an29 cd29 ct29 sl29)
  (c29:TU K cd29 "_law_next"=true)
  (k29:TL K (.ref f29)=true)
  (a30:TV K UR "_law_value"=some (some (.ref f30)))
  (l30:Lk K f30 "_law_value" "_law_value" gG oc30 od30 kV30 dc30 pm30 an30 cd30 ct30 sl30)
  (c30:TU K cd30 "_law_value"=true)
  (k30:TL K (.ref f30)=true)
  (a31:TV K UR "_law_row"=some (some (.ref f31)))
  (l31:Lk K f31 "_law_row" "_law_row" jF oc31 od31 kV31 dc31 pm31 an31 cd31 ct31 sl31)
  (c31:TU K cd31 "_law_row"=true)
  (k31:TL K (.ref f31)=true)
  (a32:TV K UR "_law_rows"=some (some (.ref f32)))
  (l32:Lk K f32 "_law_rows" "_law_rows" iL oc32 od32 kV32 dc32 pm32 an32 cd32 ct32 sl32)
  (c32:TU K cd32 "_law_rows"=true)
  (k32:TL K (.ref f32)=true)
  (a33:TV K UR "_law_cell_at"=some (some (.ref f33)))
  (l33:Lk K f33 "_law_cell_at" "_law_cell_at" gF oc33 od33 kV33 dc33 pm33 an33 cd33 ct33 sl33)
  (c33:TU K cd33 "_law_cell_at"=true)
  (k33:TL K (.ref f33)=true)
  (a34:TV K UR "_law_seed"=some (some (.ref f34)))
  (l34:Lk K f34 "_law_seed" "_law_seed" kc oc34 od34 kV34 dc34 pm34 an34 cd34 ct34 sl34)
  (c34:TU K cd34 "_law_seed"=true)
  (k34:TL K (.ref f34)=true)
  (a35:TV K UR "_law_table"=some (some (.ref f35)))
  (l35:Lk K f35 "_law_table" "_law_table" jj oc35 od35 kV35 dc35 pm35 an35 cd35 ct35 sl35)
  (c35:TU K cd35 "_law_table"=true)
  (k35:TL K (.ref f35)=true)
  (a36:TV K UR "_law_plain"=some (some (.ref f36)))
  (l36:Lk K f36 "_law_plain" "_law_plain" ju oc36 od36 kV36 dc36 pm36 an36 cd36 ct36 sl36)
  (c36:TU K cd36 "_law_plain"=true)
  (k36:TL K (.ref f36)=true)
  (a37:TV K UR "_law_kind"=some (some (.ref f37)))
  (l37:Lk K f37 "_law_kind" "_law_kind" iU oc37 od37 kV37 dc37 pm37 an37 cd37 ct37 sl37)
  (c37:TU K cd37 "_law_kind"=true)
  (k37:TL K (.ref f37)=true)
  (a38:TV K UR "_law_form"=some (some (.ref f38)))
  (l38:Lk K f38 "_law_form" "_law_form" iK oc38 od38 kV38 dc38 pm38 an38 cd38 ct38 sl38)
  (c38:TU K cd38 "_law_form"=true)
  (k38:TL K (.ref f38)=true)
  (a39:TV K UR "_law_drawn_form"=some (some (.ref f39)))
  (l39:Lk K f39 "_law_drawn_form" "_law_drawn_form" eW oc39 od39 kV39 dc39 pm39 an39 cd39 ct39 sl39)
  (c39:TU K cd39 "_law_drawn_form"=true)
  (k39:TL K (.ref f39)=true)
  (a40:TV K UR "law"=some (some (.ref f40)))
  (l40:Lk K f40 "law" "law" uD oc40 od40 kV40 dc40 pm40 an40 cd40 ct40 sl40)
  (c40:TU K cd40 "law"=true)
  (k40:TL K (.ref f40)=true)
  (a41:Tx K (.ref Cl1) "__init__"=some (some (.ref f41)))
  (i41:TC K (.ref f41)=true)
  (l41:Lk K f41 "__init__" "Unnest.__init__" eS oc41 od41 kV41 dc41 pm41 an41 cd41 ct41 sl41)
  (c41:TU K cd41 "Unnest.__init__"=true)
  (k41:TL K (.ref f41)=true)
  (a42:Tx K (.ref Cl0) "__init__"=some (some (.ref f42)))
  (i42:TC K (.ref f42)=true)
  (l42:Lk K f42 "__init__" "Nest.__init__" fN oc42 od42 kV42 dc42 pm42 an42 cd42 ct42 sl42)
  (c42:TU K cd42 "Nest.__init__"=true)
  (k42:TL K (.ref f42)=true)
  (p0:Tv K Cl0 Str.empty=true)
  (q0:Tw K Cl0=true)
  (r0:TF K Cl0=true)
  (s0:Tx K (.ref Cl0) "__setattr__"=some (some (.builtin "object.__setattr__")))
  (n0_0:Tx K (.ref Cl0) "many"=some none)
  (n0_1:Tx K (.ref Cl0) "name"=some none)
  (m0:TJ K Cl0=true)
  (kp0:TL K (.ref Cl0)=true)
  (p1:Tv K Cl1 Str.empty=true)
  (q1:Tw K Cl1=true)
  (r1:TF K Cl1=true)
  (s1:Tx K (.ref Cl1) "__setattr__"=some (some (.builtin "object.__setattr__")))
  (n1_0:Tx K (.ref Cl1) "name"=some none)
  (m1:TJ K Cl1=true)
  (kp1:TL K (.ref Cl1)=true)
  (p2:Tv K Cl2 Str.empty=true)
  (q2:Tw K Cl2=true)
  (r2:TF K Cl2=true)
  (s2:Tx K (.ref Cl2) "__setattr__"=some (some (.builtin "object.__setattr__")))
  (z0:TV K UR "isinstance"=some none)
  (z1:TV K UR "str"=some none)
  (z2:TV K UR "bool"=some none)
  (z3:TV K UR "int"=some none)
  (z4:TV K UR "tuple"=some none)
  (z5:TV K UR "len"=some none)
  (z6:TV K UR "zip"=some none)
  (z7:TV K UR "sorted"=some none)
  (z8:TV K UR "dict"=some none)
  (z9:TV K UR "list"=some none)
  (z10:TV K UR "enumerate"=some none)
  (z11:TV K UR "max"=some none)
  (z12:TV K UR "any"=some none)
  (z13:TV K UR "range"=some none)
  (z14:TV K UR "min"=some none)
  (e0:TV K UR "MOST_WITHIN"=some (some (.int 3 tk0)))
  (e1:TV K UR "MOST_FIELDS"=some (some (.int 8 tk1)))
  (lc:cd4=.ref cL)
  (lh:T8 K cL T=true)
  (lt:K.lookup T=none):
  (∃c,T8 K c T=true)/\K.lookup T=none/\∃fd:Vp,(∀(s:UW)(v:UJ),Vq s fd ⟨[v],[]⟩ [("_law_script",v)])/\∀base:UO,K.In base->base.Ns UR mg->Ba mg base->jV l.prog w K mg base (oY l.prog w) 24 fa fd ["_law_script"] (@Ek (xW T ⟨36,34,36,56⟩ ((("sorted_by":Str)++".<locals>.")++"<lambda>")) K 1 (aK tP 1 16)):=by
 letI:aU:=xW T ⟨36,34,36,56⟩ ((("sorted_by":Str)++".<locals>.")++"<lambda>")
 have e:=hfa.symm.trans (T9 X G a40);cases e;have bq:=Ua X G z0;have tO:=Ua X G z1;have ja:=Ua X G z2;have gq:=Ua X G z3;have aL:=Ua X G z4;have bP:=Ua X G z5;have p6:=Ua X G z6;have gA:=Ua X G z7;have qO:=Ua X G z8;have mC:=Ua X G z9;have e7:=Ua X G z10;have eM:=Ua X G z11;have Ep:=Ua X G z12;have bJ:=Ua X G z13;have Es:=Ua X G z14;have c_MOST_WITHIN:∃t,mg "MOST_WITHIN"=some (.int 3 t):=⟨_,T9 X G e0⟩
 have c_MOST_FIELDS:∃t,mg "MOST_FIELDS"=some (.int 8 t):=⟨_,T9 X G e1⟩
 have F0:=bA (st:=gC) l0 c0 k0;have b0:=F0.binds (ps:=["_law_found","_law_due"]) λ_ _ _ _ _ _ us hl=>by obtain⟨u0,u1,rfl⟩:=ky hl;rfl
 have F1:=bA (st:=mw) l1 c1 k1;have b1:=F1.binds (ps:=["self","form","table","view"]) λ_ _ _ _ _ _ us hl=>by obtain⟨u0,u1,u2,u3,rfl⟩:=Hr hl;rfl
 have F2:=bA (st:=mi) l2 c2 k2;have b2:=F2.binds (ps:=["many","table"]) λ_ _ _ _ _ _ us hl=>by obtain⟨u0,u1,rfl⟩:=ky hl;rfl
 have F3:=bA (st:=mD) l3 c3 k3;have b3:=F3.binds (ps:=["self","form","table","view"]) λ_ _ _ _ _ _ us hl=>by obtain⟨u0,u1,u2,u3,rfl⟩:=Hr hl;rfl
 have F4:=bA (st:=j5) l4 c4 k4;have b4:=F4.binds (ps:=["many","rows"]) λ_ _ _ _ _ _ us hl=>by obtain⟨u0,u1,rfl⟩:=ky hl;rfl
 have F5:=bA (st:=qp) l5 c5 k5;have b5:=F5.binds (ps:=["many","rows"]) λ_ _ _ _ _ _ us hl=>by obtain⟨u0,u1,rfl⟩:=ky hl;rfl
 have F6:=bA (st:=lL) l6 c6 k6;have b6:=F6.binds (ps:=["many","rows","others"]) λ_ _ _ _ _ _ us hl=>by obtain⟨u0,u1,u2,rfl⟩:=zZ hl;rfl
 have F7:=bA (st:=nZ) l7 c7 k7;have b7:=F7.binds (ps:=["many","rows"]) λ_ _ _ _ _ _ us hl=>by obtain⟨u0,u1,rfl⟩:=ky hl;rfl
 have F8:=bA (st:=jn) l8 c8 k8;have b8:=F8.binds (ps:=["self","form","table","view"]) λ_ _ _ _ _ _ us hl=>by obtain⟨u0,u1,u2,u3,rfl⟩:=Hr hl;rfl
 have F9:=bA (st:=iA) l9 c9 k9;have b9:=F9.binds (ps:=["self","form"]) λ_ _ _ _ _ _ us hl=>by obtain⟨u0,u1,rfl⟩:=ky hl;rfl
 have F10:=bA (st:=oI) l10 c10 k10;have b10:=F10.binds (ps:=["form","place"]) λ_ _ _ _ _ _ us hl=>by obtain⟨u0,u1,rfl⟩:=ky hl;rfl
 have F11:=bA (st:=mh) l11 c11 k11;have b11:=F11.binds (ps:=["form"]) λ_ _ _ _ _ _ us hl=>by obtain⟨u0,rfl⟩:=Bv hl;rfl
 have F12:=bA (st:=lZ) l12 c12 k12;have b12:=F12.binds (ps:=["form","name"]) λ_ _ _ _ _ _ us hl=>by obtain⟨u0,u1,rfl⟩:=ky hl;rfl
 have F13:=bA (st:=gK) l13 c13 k13;have b13:=F13.binds (ps:=["self","form"]) λ_ _ _ _ _ _ us hl=>by obtain⟨u0,u1,rfl⟩:=ky hl;rfl
 have F14:=bA (st:=fK) l14 c14 k14;have b14:=F14.binds (ps:=["self","form"]) λ_ _ _ _ _ _ us hl=>by obtain⟨u0,u1,rfl⟩:=ky hl;rfl
 have F15:=bA (st:=jp) l15 c15 k15;have b15:=F15.binds (ps:=["self","form"]) λ_ _ _ _ _ _ us hl=>by obtain⟨u0,u1,rfl⟩:=ky hl;rfl
 have F16:=bA (st:=fu) l16 c16 k16;have b16:=F16.binds (ps:=["self","form"]) λ_ _ _ _ _ _ us hl=>by obtain⟨u0,u1,rfl⟩:=ky hl;rfl
 have F17:=bA (st:=lW) l17 c17 k17;have b17:=F17.binds (ps:=["form"]) λ_ _ _ _ _ _ us hl=>by obtain⟨u0,rfl⟩:=Bv hl;rfl
 have F18:=bA (st:=jE) l18 c18 k18;have b18:=F18.binds (ps:=["form"]) λ_ _ _ _ _ _ us hl=>by obtain⟨u0,rfl⟩:=Bv hl;rfl
 have F19:=bA (st:=mq) l19 c19 k19;have b19:=F19.binds (ps:=["value"]) λ_ _ _ _ _ _ us hl=>by obtain⟨u0,rfl⟩:=Bv hl;rfl
 have F20:=bA (st:=fE) l20 c20 k20;have b20:=F20.binds (ps:=["self","form"]) λ_ _ _ _ _ _ us hl=>by obtain⟨u0,u1,rfl⟩:=ky hl;rfl
 have F21:=bA (st:=eG) l21 c21 k21;have b21:=F21.binds (ps:=["self","form"]) λ_ _ _ _ _ _ us hl=>by obtain⟨u0,u1,rfl⟩:=ky hl;rfl
 have F22:=bA (st:=lN) l22 c22 k22;have b22:=F22.binds (ps:=["self","form","table"]) λ_ _ _ _ _ _ us hl=>by obtain⟨u0,u1,u2,rfl⟩:=zZ hl;rfl
 have F23:=bA (st:=lP) l23 c23 k23;have b23:=F23.binds (ps:=["self","form","table"]) λ_ _ _ _ _ _ us hl=>by obtain⟨u0,u1,u2,rfl⟩:=zZ hl;rfl
 have F24:=bA (st:=jv) l24 c24 k24;have b24:=F24.binds (ps:=["self","form","table"]) λ_ _ _ _ _ _ us hl=>by obtain⟨u0,u1,u2,rfl⟩:=zZ hl;rfl
 have F25:=bA (st:=mE) l25 c25 k25;have b25:=F25.binds (ps:=["_law_steps","_law_form_here","_law_table_here"]) λ_ _ _ _ _ _ us hl=>by obtain⟨u0,u1,u2,rfl⟩:=zZ hl;rfl
 have F26:=bA (st:=iM) l26 c26 k26;have b26:=F26.binds (ps:=["_law_form_here"]) λ_ _ _ _ _ _ us hl=>by obtain⟨u0,rfl⟩:=Bv hl;rfl
 have F27:=bA (st:=j6) l27 c27 k27;have b27:=F27.binds (ps:=["_law_base","_law_k"]) λ_ _ _ _ _ _ us hl=>by obtain⟨u0,u1,rfl⟩:=ky hl;rfl
 have F28:=bA (st:=iF) l28 c28 k28;have b28:=F28.binds (ps:=["_law_many","_law_rows_here"]) λ_ _ _ _ _ _ us hl=>by obtain⟨u0,u1,rfl⟩:=ky hl;rfl
 have F29:=bA (st:=jW) l29 c29 k29;have b29:=F29.binds (ps:=["_law_x"]) λ_ _ _ _ _ _ us hl=>by obtain⟨u0,rfl⟩:=Bv hl;rfl
 have F30:=bA (st:=gG) l30 c30 k30;have b30:=F30.binds (ps:=["_law_kind_here","_law_x"]) λ_ _ _ _ _ _ us hl=>by obtain⟨u0,u1,rfl⟩:=ky hl;rfl
 have F31:=bA (st:=jF) l31 c31 k31;have b31:=F31.binds (ps:=["_law_form_here","_law_many","_law_head","_law_tail"]) λ_ _ _ _ _ _ us hl=>by obtain⟨u0,u1,u2,u3,rfl⟩:=Hr hl;rfl
 have F32:=bA (st:=iL) l32 c32 k32;have b32:=F32.binds (ps:=["_law_form_here","_law_x","_law_many"]) λ_ _ _ _ _ _ us hl=>by obtain⟨u0,u1,u2,rfl⟩:=zZ hl;rfl
 have F33:=bA (st:=gF) l33 c33 k33;have b33:=F33.binds (ps:=["_law_script","_law_k"]) λ_ _ _ _ _ _ us hl=>by obtain⟨u0,u1,rfl⟩:=ky hl;rfl
 have F34:=bA (st:=kc) l34 c34 k34;have b34:=F34.binds (ps:=["_law_script","_law_k"]) λ_ _ _ _ _ _ us hl=>by obtain⟨u0,u1,rfl⟩:=ky hl;rfl
 have F35:=bA (st:=jj) l35 c35 k35;have b35:=F35.binds (ps:=["_law_form_here","_law_many","_law_script","_law_start","_law_most"]) λ_ _ _ _ _ _ us hl=>by obtain⟨u0,u1,u2,u3,u4,rfl⟩:=PF hl;rfl
 have F36:=bA (st:=ju) l36 c36 k36;have b36:=F36.binds (ps:=["_law_x"]) λ_ _ _ _ _ _ us hl=>by obtain⟨u0,rfl⟩:=Bv hl;rfl
 have F37:=bA (st:=iU) l37 c37 k37;have b37:=F37.binds (ps:=["_law_x","_law_base","_law_deep_here"]) λ_ _ _ _ _ _ us hl=>by obtain⟨u0,u1,u2,rfl⟩:=zZ hl;rfl
 have F38:=bA (st:=iK) l38 c38 k38;have b38:=F38.binds (ps:=["_law_x","_law_base","_law_start","_law_many","_law_more","_law_deep_here"]) λ_ _ _ _ _ _ us hl=>by obtain⟨u0,u1,u2,u3,u4,u5,rfl⟩:=OW hl;rfl
 have F39:=bA (st:=eW) l39 c39 k39;have b39:=F39.binds (ps:=["_law_script","_law_fewest"]) λ_ _ _ _ _ _ us hl=>by obtain⟨u0,u1,rfl⟩:=ky hl;rfl
 have F40:=bA (st:=uD) l40 c40 k40;have F41:=bA (st:=eS) l41 c41 k41;have b41:=F41.binds (ps:=["self","name"]) λ_ _ _ _ _ _ us hl=>by obtain⟨u0,u1,rfl⟩:=ky hl;rfl
 have F42:=bA (st:=fN) l42 c42 k42;have b42:=F42.binds (ps:=["self","many","name"]) λ_ _ _ _ _ _ us hl=>by obtain⟨u0,u1,u2,rfl⟩:=zZ hl;rfl
 have cl0:yj K Cl0:=⟨p0,q0,r0,s0⟩
 have cl1:yj K Cl1:=⟨p1,q1,r1,s1⟩
 have cl2:yj K Cl2:=⟨p2,q2,r2,s2⟩
 have bZ:nH K "many" ["Nest"]:=by
  intro c hc C hC;simp only[R3,SE,or_false]at hc;rcases hc with rfl
  ·cases n5 hC ac0;exact⟨cl0,n0_0⟩
 have dU:nH K "name" ["Unnest"]:=by
  intro c hc C hC;simp only[R3,SE,or_false]at hc;rcases hc with rfl
  ·cases n5 hC ac1;exact⟨cl1,n1_0⟩
 have jg:nH K "name" ["Nest"]:=by
  intro c hc C hC;simp only[R3,SE,or_false]at hc;rcases hc with rfl
  ·cases n5 hC ac0;exact⟨cl0,n0_1⟩
 have lC:wg K f4 (.ref cL):=⟨_,_,_,_,l4,lc⟩
 refine⟨⟨cL,lh⟩,lt,TR "law" "law" (n8 uD) (fA uD) (ax uD) .none kV40 dc40 pm40 an40 cd40 ct40,λs v=>.of_eq rfl,λbase kb _ bm=>?_⟩;have pK:=zG (P:=l.prog) (w:=w) (base:=base) ac1 ⟨m1,a41,i41,kp1⟩ cl1 (by intro g hg;simp only[R3,SE,or_false]at hg;rcases hg with rfl;exact n1_0) F41 b41 (T9 X G ac1);have xu:=D9 (P:=l.prog) (w:=w) (base:=base) ac0 ⟨m0,a42,i42,kp0⟩ cl0 (by intro g hg;simp only[R3,SE,or_false]at hg;rcases hg with rfl|rfl<;>first|exact n0_0|exact n0_1) F42 b42 (T9 X G ac0);have fam:=m9 (P:=l.prog) (w:=w) (base:=base) F0 b0 (T9 X G a0) bq tO ja gq aL bP p6 20;have eK:=fam;have okb_Step_put:=yK (P:=l.prog) (w:=w) (base:=base) (K:=K) (mg:=mg) (f:=f1);have gU:=bu F2 b2 (T9 X G a2) yL (cz.ok (zW (P:=l.prog) (w:=w) (base:=base) (f:=f2) aL));have okb_Nest_put:=yZ (P:=l.prog) (w:=w) (base:=base) (K:=K) (mg:=mg) (f:=f3) gU bZ;have nJ:=Bc F4 b4 (T9 X G a4) xC (GU.ok (xc (P:=l.prog) (w:=w) (base:=base) (f:=f4) aL gA (IG kb lh bm) lC λ_ z=>z));have t7:=bu F5 b5 (T9 X G a5) Dm (cz.ok (DA (P:=l.prog) (w:=w) (base:=base) (f:=f5) qO));have pC:=bu F6 b6 (T9 X G a6) yk (cz.ok (yM (P:=l.prog) (w:=w) (base:=base) (f:=f6) t7 nJ mC));have ie:=bu F7 b7 (T9 X G a7) AU (cz.ok (Au (P:=l.prog) (w:=w) (base:=base) (f:=f7) qO aL));have okb_Unnest_put:=vj (P:=l.prog) (w:=w) (base:=base) (K:=K) (mg:=mg) (f:=f8) ie pC bP;have okb_Step_steady:=uH (P:=l.prog) (w:=w) (base:=base) (K:=K) (mg:=mg) (f:=f9);have jD:=bu F10 b10 (T9 X G a10) Bi (cz.ok (Ak (P:=l.prog) (w:=w) (base:=base) (f:=f10) ));have gQ:=bu F11 b11 (T9 X G a11) zb (cz.ok (zq (P:=l.prog) (w:=w) (base:=base) (f:=f11) aL));have gX:=bu F12 b12 (T9 X G a12) yz (cz.ok (yR (P:=l.prog) (w:=w) (base:=base) (f:=f12) gQ e7));have okb_Unnest_exact:=si (P:=l.prog) (w:=w) (base:=base) (K:=K) (mg:=mg) (f:=f13) jD gX dU;have iH:gO l.prog w K mg base 3 "exact" ["self","form"] [("Unnest",(aK bi 2 2))]:=cU (MethAt.mono (cE (c:="Unnest") (m:="exact") ac1 cl1 ⟨a13,i13,k13⟩ F13 b13 mJ (cz.ok okb_Unnest_exact)) (by decide)) aQ (ou);have okb_Unnest_steady:=qz (P:=l.prog) (w:=w) (base:=base) (K:=K) (mg:=mg) (f:=f14) iH;have okb_Step_exact:=vy (P:=l.prog) (w:=w) (base:=base) (K:=K) (mg:=mg) (f:=f15);have okb_Step_view_form:=pW (P:=l.prog) (w:=w) (base:=base) (K:=K) (mg:=mg) (f:=f16);have iu:=bu F17 b17 (T9 X G a17) yB (cz.ok (zE (P:=l.prog) (w:=w) (base:=base) (f:=f17) aL));have fam:=p9 (P:=l.prog) (w:=w) (base:=base) F18 b18 (T9 X G a18) iu eM 20;have jG:=fam;have o4:=bu F19 b19 (T9 X G a19) yq (cz.ok (yX (P:=l.prog) (w:=w) (base:=base) (f:=f19) bq gq ja));have okb_Nest_view_form:=qc (P:=l.prog) (w:=w) (base:=base) (K:=K) (mg:=mg) (f:=f20) o4 jG bZ jg bP c_MOST_WITHIN;have okb_Unnest_view_form:=oQ (P:=l.prog) (w:=w) (base:=base) (K:=K) (mg:=mg) (f:=f21) jD gX gQ dU bP Ep c_MOST_FIELDS;have okb_Step_got:=yy (P:=l.prog) (w:=w) (base:=base) (K:=K) (mg:=mg) (f:=f22);have okb_Nest_got:=yP (P:=l.prog) (w:=w) (base:=base) (K:=K) (mg:=mg) (f:=f23) ie bZ aL;have okb_Unnest_got:=vk (P:=l.prog) (w:=w) (base:=base) (K:=K) (mg:=mg) (f:=f24) gU bP;have gu:gO l.prog w K mg base 22 "got" ["self","form","table"] [("Step",(aK gR 3 3)),("Nest",(aK eJ 3 3)),("Unnest",(aK cZ 3 3))]:=cU (MethAt.mono (cE (c:="Step") (m:="got") ac2 cl2 ⟨a22,i22,k22⟩ F22 b22 zy (cz.ok okb_Step_got)) (by decide)) aQ (cU (MethAt.mono (cE (c:="Nest") (m:="got") ac0 cl0 ⟨a23,i23,k23⟩ F23 b23 zT (cz.ok okb_Nest_got)) (by decide)) aQ (cU (MethAt.mono (cE (c:="Unnest") (m:="got") ac1 cl1 ⟨a24,i24,k24⟩ F24 b24 uW (cz.ok okb_Unnest_got)) (by decide)) aQ (ou)));have e6:gO l.prog w K mg base 22 "view_form" ["self","form"] [("Step",(aK dA 2 2)),("Nest",(aK bR 2 4)),("Unnest",(aK bH 2 5))]:=cU (MethAt.mono (cE (c:="Step") (m:="view_form") ac2 cl2 ⟨a16,i16,k16⟩ F16 b16 pY (cz.ok okb_Step_view_form)) (by decide)) aQ (cU (MethAt.mono (cE (c:="Nest") (m:="view_form") ac0 cl0 ⟨a20,i20,k20⟩ F20 b20 pU (cz.ok okb_Nest_view_form)) (by decide)) aQ (cU (MethAt.mono (cE (c:="Unnest") (m:="view_form") ac1 cl1 ⟨a21,i21,k21⟩ F21 b21 oP (cz.ok okb_Unnest_view_form)) (by decide)) aQ (ou)));have pG:=bu F25 b25 (T9 X G a25) yD (cz.ok (zS (P:=l.prog) (w:=w) (base:=base) (f:=f25) gu e6));have fam:=oW (P:=l.prog) (w:=w) (base:=base) F26 b26 (T9 X G a26) eM 20;have iR:=fam;have cn:=bu F27 b27 (T9 X G a27) xA (cz.ok (xj (P:=l.prog) (w:=w) (base:=base) (f:=f27) bJ));have bK:=bu F28 b28 (T9 X G a28) uQ (cz.ok (uf (P:=l.prog) (w:=w) (base:=base) (f:=f28) aL gA mC));have aE:=bu F29 b29 (T9 X G a29) x9 (cz.ok (xH (P:=l.prog) (w:=w) (base:=base) (f:=f29) ));have fam:=nI (P:=l.prog) (w:=w) (base:=base) F30 b30 (T9 X G a30) F31 b31 (T9 X G a31) F32 b32 (T9 X G a32) aE bK bP eM gq aL bJ 20;have gJ:=fam.1;have fT:=fam.2.1;have ki:=fam.2.2;have cA:=bu F33 b33 (T9 X G a33) sC (cz.ok (sA (P:=l.prog) (w:=w) (base:=base) (f:=f33) bP));have dC:=bu F34 b34 (T9 X G a34) x8 (cz.ok (xh (P:=l.prog) (w:=w) (base:=base) (f:=f34) cA aE));have mj:=bu F35 b35 (T9 X G a35) vq (cz.ok (vz (P:=l.prog) (w:=w) (base:=base) (f:=f35) dC fT aE bK bJ Es eM bP));have cV:=bu F36 b36 (T9 X G a36) vn (cz.ok (vh (P:=l.prog) (w:=w) (base:=base) (f:=f36) bJ bP aL gA mC));have fam:=oX (P:=l.prog) (w:=w) (base:=base) F37 b37 (T9 X G a37) F38 b38 (T9 X G a38) cV aE cn bJ aL 20;have nw:=fam.1;have fZ:=fam.2;have gI:=bu F39 b39 (T9 X G a39) o0 (cz.ok (o9 (P:=l.prog) (w:=w) (base:=base) (f:=f39) dC cA fZ aE));have iQ:gO l.prog w K mg base 23 "exact" ["self","form"] [("Step",(aK cB 2 2)),("Nest",(aK cB 2 2)),("Unnest",(aK bi 2 2))]:=cU (MethAt.mono (cE (c:="Step") (m:="exact") ac2 cl2 ⟨a15_2,i15,k15⟩ F15 b15 oV (cz.ok okb_Step_exact)) (by decide)) aQ (cU (MethAt.mono (cE (c:="Nest") (m:="exact") ac0 cl0 ⟨a15,i15,k15⟩ F15 b15 oV (cz.ok okb_Step_exact)) (by decide)) aQ (cU (MethAt.mono (cE (c:="Unnest") (m:="exact") ac1 cl1 ⟨a13,i13,k13⟩ F13 b13 mJ (cz.ok okb_Unnest_exact)) (by decide)) aQ (ou)));have iy:gO l.prog w K mg base 23 "steady" ["self","form"] [("Step",(aK bW 2 2)),("Nest",(aK bW 2 2)),("Unnest",(aK bX 2 2))]:=cU (MethAt.mono (cE (c:="Step") (m:="steady") ac2 cl2 ⟨a9_2,i9,k9⟩ F9 b9 nD (cz.ok okb_Step_steady)) (by decide)) aQ (cU (MethAt.mono (cE (c:="Nest") (m:="steady") ac0 cl0 ⟨a9,i9,k9⟩ F9 b9 nD (cz.ok okb_Step_steady)) (by decide)) aQ (cU (MethAt.mono (cE (c:="Unnest") (m:="steady") ac1 cl1 ⟨a14,i14,k14⟩ F14 b14 rC (cz.ok okb_Unnest_steady)) (by decide)) aQ (ou)));have jr:gO l.prog w K mg base 23 "put" ["self","form","table","view"] [("Step",(aK hV 4 4)),("Nest",(aK eA 4 4)),("Unnest",(aK de 4 6))]:=cU (MethAt.mono (cE (c:="Step") (m:="put") ac2 cl2 ⟨a1,i1,k1⟩ F1 b1 zO (cz.ok okb_Step_put)) (by decide)) aQ (cU (MethAt.mono (cE (c:="Nest") (m:="put") ac0 cl0 ⟨a3,i3,k3⟩ F3 b3 yr (cz.ok okb_Nest_put)) (by decide)) aQ (cU (MethAt.mono (cE (c:="Unnest") (m:="put") ac1 cl1 ⟨a8,i8,k8⟩ F8 b8 vg (cz.ok okb_Unnest_put)) (by decide)) aQ (ou)));exact Kn (P:=l.prog) (w:=w) (base:=base) F40 gI cA aE dC mj cn iR pG eK iQ iy jr pK xu bP aL e7 p6 bJ
def walk{l:T6}{q:UL}{loose:List Str}{XP:(Str->Option UJ)->UO->Prop}{YP:UK->UO->Prop}{d:DefRec}{K:Params->Tt}{T:UM}(hn:l.most=some 63)(hdf:d.params.defaults=[])
  (hY:∀(w:UK)(h:UO),YP w h->(K w.params).In h/\h.get? T=some (T3 #[]))
  (F:∀ (w:UK) (mg:Str->Option UJ) (fa:UM) (h:UO),(K w.params).In h->h.Ns UR mg->mg d.name=some (.ref fa) ->
   (∃c,T8 (K w.params) c T=true)/\(K w.params).lookup T=none/\∃fd:Vp,(∀(s:UW)(u:UJ),Vq s fd ⟨[u],[]⟩ [("_law_script",u)])/\∀base:UO,(K w.params).In base->base.Ns UR mg->Ba mg base->jV l.prog w (K w.params) mg base (oY l.prog w) 24 fa fd ["_law_script"] (@Ek (xW T ⟨36,34,36,56⟩ ((("sorted_by":Str)++".<locals>.")++"<lambda>")) (K w.params) 1 (aK tP 1 16)))
  (math:∀ns:List Int,ns.length<=63->aK tP 1 16 [.lst (ns.map .int)]=.ok (.bl true)):PySem.W.WalkO q loose XP YP l.row.toRowW d [] (λf vs=>PySem.call f vs):=
 Fv (n:=63) (k:=24) (x:="_law_script") (T:=T) (CX:=λw=>oY l.prog w) (sp:=λw=>@Ek (xW T ⟨36,34,36,56⟩ ((("sorted_by":Str)++".<locals>.")++"<lambda>")) (K w.params) 1 (aK tP 1 16)) hn (by decide) hdf ⟨rfl,by decide,by decide⟩ hY F
  (λw H a ns hl hT hS=>⟨[],[.lst (ns.map .int)],rfl,⟨hT,λa h=>nomatch h⟩,by rw[Hq];exact bo.mpr ⟨.ref a,[],rfl,cT.mpr ⟨a,_,rfl,hS,vU ns⟩,cI.mpr rfl⟩,by rw[math ns hl];exact λv H' sm d=>⟨lY.mp d,sm⟩⟩) λ_ _ _ _ _ z=>by obtain⟨_,_,_,_,_,_,_,_,_,_,_,_,_,z⟩:=z;exact z
end Tk46
namespace Tk46
open PySem PySem.Spec L2 TG TD T4
local macro_rules|`(‹$x›)=>do if x.raw.isOfKind `num then Lean.Macro.throwUnsupported else `(some (S.val $x))
local macro_rules
 |`(tactic| simp! only[$xs,*])=>`(tactic| simp only[cu,wz,rW,vZ,gf,eB,ge_0,DZ,rj,C3,qC,oC,qv,qS,CG,CK,DM,DR,Ea,qX,qw,vP,li,nX,qy,nV,wZ,qu,rG,nS,qB,lu,qY,kJ,kK,jB,jC,qE,oN,jA,nQ,lr,n9,oa,iC,nY,kZ,pF,og,kT,jl,ot,oH,Dr,vM,DK,Ds,DY,rH,oy,qD,oz,n6,CZ,Di,SV,SW,Q0,Ro,RA,RO,K0,env0,List.replicate,Si,Q4,Sa,Nat.reduceAdd,Nat.reduceSub,QZ,Rr,qQ,qV,wN,qH,rA,ro,jx,rg,vO,vI,wc,qt,kI,lA,lj,lG,kO,lB,wK,wA,ww,wX,wO,wt,lg,kM,hJ,ir,qN,jy,ik,ib,ig,mG,mR,ip,gW,kL,kR,oJ,nT,kU,nR,qP,rE,om,oF,gN,if_true,if_false,SY,SZ,Ry,$xs,*])
def gm(j:Int)(h:0<j:=by decide):∀i:Int,cS (.int i) (.int j)=some (.int (i%j)):=λi=>fU (i:=i) h
def gd(j:Int)(h:0<j:=by decide)(h':j<10^200:=by decide):∀i:Int,dN (.int i) (.int j)=some (.int (i/j)):=λi=>mX (i:=i) h h'
inductive Kd where
 |num (lo hi:Int)|wrd (ws:List Str)
def Kd.d:Kd->D
 |.num lo hi=>.tup [.str "number",.int lo,.int hi]
 |.wrd ws=>.tup [.str "word",.tup (ws.map .str)]
def Kd.gd:Kd->Prop
 |.num lo hi=>lo<=hi
 |.wrd ws=>ws≠[]/\ws.length<=100
def Kd.b:Kd->Bool
 |.num _ _=>true
 |.wrd _=>false
abbrev KL:=List (Str×Kd)
def kf(p:Str×Kd):D:=.tup [.str p.1,p.2.d]
abbrev fr(k:KL)(r:List (Str×D)):D:=.tup [.tup (k.map kf),.tup (r.map fld)]
def toD(p:Str×Kd):Str×D:=(p.1,p.2.d)
def tY(k:KL):k.map kf=(k.map toD).map fld:=by rw[SD];rfl
def Ke:(("number":Str)==("number":Str))=true:=by decide +kernel
def Hl:(("word":Str)==("word":Str))=true:=by decide +kernel
def Lp:(("word":Str)==("number":Str))=false:=by decide +kernel
def KH:(("rows":Str)==("number":Str))=false:=by decide +kernel
def Iu:(("rows":Str)==("word":Str))=false:=by decide +kernel
def KG:Nat->D->Prop
 |0,d=>∃c:Kd,c.gd/\d=c.d
 |n+1,d=>(∃c:Kd,c.gd/\d=c.d)\/∃(ks:KL)(qs:List (Str×D))(b:Bool),d=.tup [.str "rows",fr ks qs,.bl b]/\1<=ks.length/\ks.length<=8/\(∀p∈ks,p.2.gd)/\qs.length<=8/\∀q∈qs,KG n q.2
def Ia(ws:List Str)(w:Str):vt ws w≠[]:=by
 unfold vt;split
 ·rename_i h;intro z;rw[z]at h;simp at h
 ·simp
def MC(ws:List Str)(h:ws.Nodup)(hl:ws.length<64):∃us:List Str,iD [.lst (ws.map .str)]=some (.lst (us.map .str))/\us.Perm ws:=by
 have pz:∀zs:List D,zs.Perm (ws.map D.str)->∃us:List Str,zs=us.map .str/\us.Perm ws:=λzs p=>by
  have e:zs=(zs.map λz=>match z with|.str w=>w|_=>"").map .str:=by
   rw[SD]
   conv=>lhs;rw[<-Tg zs]
   refine RP λz hz=>?_;obtain⟨w,_,rfl⟩:=List.mem_map.mp (p.mem_iff.mp hz);rfl
  refine⟨_,e,?_⟩;have q:=p.map λz:D=>match z with|.str w=>w|_=>("":Str)
  rw[SD]at q;have e2:ws.map ((λz:D=>match z with|.str w=>w|_=>("":Str))∘D.str)=ws:=by
   conv=>rhs;rw[<-Tg ws]
   exact RP λ_ _=>rfl
  rw[e2]at q;exact q
 have fin:∀key:D->List D,∃us:List Str,some (D.lst (ku key (ws.map .str)))=some (.lst (us.map .str))/\us.Perm ws:=λkey=>by
  obtain⟨us,e,q⟩:=pz _ (iq key (ws.map .str));exact⟨us,by rw[e],q⟩
 show∃us,rQ (ws.map .str)=_/\_;unfold rQ;by_cases a:JX (ws.map .str)
 ·rw[if_pos a];exact fin _
 ·have b:ML (ws.map .str):=by
   refine⟨by rw[Q1];exact hl,false,λx hx=>?_,?_⟩
   ·obtain⟨w,_,rfl⟩:=List.mem_map.mp hx;exact .str w .nil
   ·rw[Sz];refine h.imp λhne e=>hne ?_;have e:[D.str _]=[D.str _]:=e;injection e with e _;injection e
  rw[if_neg a,if_pos b];exact fin _
def uP(x:Int)(h0:0<=x)(h1:x<2147483700):∃c:Kd,aK dh 1 8 [.int x]=.ok c.d/\c.gd:=by
 have g3:=gm 3;have g4:=gm 4;have g26:=gm 26;have d3:=gd 3;have d12:=gd 12;have d78:=gd 78;have d2028:=gd 2028;have p7:su (.int x) (.int 7)=some (.int (x^7)):=Aw x 7 (by decide) ‹0›;have pb:=Mq;have gp:=λi=>fU (i:=i) (show(0:Int)<Jk by omega);rw[kD];unfold dh;by_cases h:x%3<2
 ·have h':decide (x%3<2)=true:=decide_eq_true h;obtain⟨v,hv,e1⟩:=QA (.int 0) (.int (-3)) (.int (0-x^7%Jk)) (.int (x^7%Jk)) (x/3%4) ‹0› ‹0›;obtain⟨lo,rfl⟩:∃lo:Int,v=.int lo:=by
   simp only[R3,SE,or_false]at hv;rcases hv with rfl|rfl|rfl|rfl<;>exact⟨_,rfl⟩
  obtain⟨w,w0,e2⟩:∃w:Int,0<=w/\aG (.lst [.int 0,.int 1,.int 6,.int Jk]) (.int (x/12%4))=some (.int w):=by
   rcases(show x/12%4=0\/x/12%4=1\/x/12%4=2\/x/12%4=3 by omega)with z|z|z|z<;>rw[z]
   ·exact⟨0,by decide,rfl⟩
   ·exact⟨1,by decide,rfl⟩
   ·exact⟨6,by decide,rfl⟩
   ·exact⟨Jk,by omega,rfl⟩
  refine⟨.num lo (lo+w),?_,by show lo<=lo+w;omega⟩;unfold Kd.d;simp! only[g3,h',p7,J0,gp,MD,d3,g4,e1,d12,e2,P9]
 ·have h':decide (x%3<2)=false:=decide_eq_false h;have LL:(("abcdefghijklmnopqrstuvwxyz":Str)).length=26:=by decide +kernel
  have L0:(("":Str)).length<=1000:=by decide +kernel
  generalize hL:("abcdefghijklmnopqrstuvwxyz":Str)=L at LL;obtain⟨one,ho,e1⟩:=Cb L ‹0› (x/3%26) ‹0› ‹0›;obtain⟨oth,hq,e2⟩:=Cb L ‹0› (x/78%26) ‹0› ‹0›;have a1:=ny one oth ‹0› ‹0›;have a2:=ny oth one ‹0› ‹0›;have a3:=ny one one ‹0› ‹0›;have m1:=Lg (x:=one) (n:=8) (by decide) (by decide) ‹0›;have m2:=Lg (x:=oth) (n:=3) (by decide) (by decide) ‹0›;have r8:nU [.int 8]=some (fV 0 8):=oq 8 (by decide);generalize hW:[D.str "",.str one,.str oth,.str (one++oth),.str (oth++one),.str (mM one 8),.str (one++one),.str (mM oth 3)]=W;have W8:W.length=8:=by rw[<-hW];rfl
  have Ws:∀d∈W,∃w:Str,d=.str w:=by
   rw[<-hW];intro d hd;simp only[R3,SE,or_false]at hd;rcases hd with rfl|rfl|rfl|rfl|rfl|rfl|rfl|rfl<;>exact⟨_,rfl⟩
  obtain⟨T,hT⟩:∃T:cm,T=(aW (jU (je (af (fC (.int 8)) (aw))) (gN 7) (aW (mK (fB (f2 lI (f2 rR (f2 xR (f2 dN (ah 0) (fC (.int 2028))) (ah 7)) (fC (.int 1))) (fC (.int 1)))) (pZ 6 (f2 aG (ah 5) (ah 7)) (fC (.bl true))) (cM)) (dL [7] cM))) (aW (mK (nE [6] (fB (f2 lI (fL vL (af (ah 6) (aw))) (fC (.int 0))))) (pZ 6 (ah 3) (fC (.bl true))) (cM)) (kA 6 (bM (fF (af (fC (.str "word")) (af (fL cR (af (fL iD (af (fL qx (af (ah 6) (aw))) (aw))) (aw))) (aw)))))))):=⟨_,rfl⟩
  have fin:∀ws:List Str,ws.Nodup->ws.length<=10->ws≠[]->∃c:Kd,kA 6 (bM (fF (af (fC (.str "word")) (af (fL cR (af (fL iD (af (fL qx (af (ah 6) (aw))) (aw))) (aw))) (aw))))) K0 [‹.int x›,none,none,‹.str one›,none,‹.lst W›,some (.own (wd ws)),none]=.ok c.d/\c.gd:=λws nd hl wn=>by
   obtain⟨us,ez,pz⟩:=MC ws nd ‹0›;refine⟨.wrd us,?_,⟨λz=>wn (by rw[z]at pz;exact pz.symm.eq_nil),by rw[pz.length_eq];omega⟩⟩;unfold Kd.d;simp! only[G4,ez,Id]
  have key:∃c:Kd,T K0 [‹.int x›,none,none,‹.str one›,none,‹.lst W›,some (.own (.dct [] [])),none]=.ok c.d/\c.gd:=by
   rw[hT,iC,jl];simp! only[r8];refine dP (Q:=λz=>∃c:Kd,z=.ok c.d/\c.gd) (λi ρ=>∃ws:List Str,ws.Nodup/\ws.length<=i/\ρ=[‹.int x›,none,none,‹.str one›,none,‹.lst W›,some (.own (wd ws)),none]) ?_ ⟨[],Rv,QT _,rfl⟩ ?_
   ·rintro i d ρ kk hd ⟨ws,nd,hl,rfl⟩;have hi:=cw hd;rw[dI]at hi;have hdi:d=.int (i:Int):=by
     rw[ow,Rb,RX hi]at hd;cases hd;simp
    subst hdi;obtain⟨w,ew⟩:=Ws (W[i]'‹0›) (Sy _);have ix:aG (.lst W) (.int (i:Int))=some (.str w):=by
     rw[Ip,tD ‹0›,ew]
    have sh:=FL (x/2028) i;cases hb:(Builtin.bitAnd (x/2028/2^i) 1==1)with
    |false=>
     refine⟨_,_,rfl,⟨ws,nd,by omega,rfl⟩,?_⟩;simp! only[d2028,sh,xD,hb]
    |true=>
     refine⟨_,_,rfl,⟨vt ws w,Ci w nd,by have:=yH ws w;omega,rfl⟩,?_⟩;have pk:=λk:Ks=>BX (i:=6) (fk:=f2 aG (ah 5) (ah 7)) (fv:=fC (.bl true)) (k:=k) (ρ:=[‹.int x›,none,none,‹.str one›,none,‹.lst W›,some (.own (wd ws)),‹.int (i:Int)›]) (al:=C9 ws) (q:=.inr w) (d:=.str w) (v:=.bl true) rfl (by simp! only[ix]) rfl rfl (by simp;omega);simp! only[d2028,sh,xD,hb,pk,Gs]
   ·rintro ρ' ⟨ws,nd,hl,rfl⟩;rw[dI]at hl;have pt:nE [6] (fB (f2 lI (fL vL (af (ah 6) (aw))) (fC (.int 0)))) [‹.int x›,none,none,‹.str one›,none,‹.lst W›,some (.own (wd ws)),none]=.ok (((ws.length:Int))==0):=by
     simp! only[tX,Kf,HX]
    dsimp only;rw[iC,pF,pt,rW];cases hb:((ws.length:Int)==0)with
    |false=>exact fin ws nd ‹0› λz=>by rw[z]at hb;cases hb
    |true=>
     have pk:=λk:Ks=>BX (i:=6) (fk:=ah 3) (fv:=fC (.bl true)) (k:=k) (ρ:=[‹.int x›,none,none,‹.str one›,none,‹.lst W›,some (.own (wd ws)),none]) (al:=C9 ws) (q:=.inr one) (d:=.str one) (v:=.bl true) rfl rfl rfl rfl (by simp;omega);rw[if_pos rfl,pk,Gs];exact fin (vt ws one) (Ci one nd) (by have:=yH ws one;omega) (Ia ws one)
  obtain⟨d,ed,fd⟩:=key;have mW:jZ W=some (.lst W):=J3 ‹0›;refine⟨d,?_,fd⟩;rw[<-hT];simp only[K0]at ed;simp! only[hL,g3,h',d3,g26,e1,d78,e2,a1,a2,a3,m1,m2,hW,mW,BK,ed]
def BH{b st:Int}{L:List Str}{nm:Str}(h:∀(j:Nat)(w:Str),L[j]?=some w->Dx b (st+(j:Int)) w)(hn:Dx b (st+(L.length:Int)) nm):∀(j:Nat)(w:Str),(L++[nm])[j]?=some w->Dx b (st+(j:Int)) w:=λj w e=>by
 rw[List.getElem?_append]at e;split at e
 ·exact h j w e
 ·rename_i hj
  have:j-L.length=0:=by
   have:=cw e
   simp at this;omega
  rw[this]at e;cases e;rw[show j=L.length by omega];exact hn
def BW(dp g:Nat)(hk:∀x b:Int,0<=x->x<2147483700->0<=b->∃d,bd g [.int x,.int b,.int dp]=.ok d/\KG dp d)(x b st:Int)(m r:Nat)(h0:0<=x)(h1:x<2147483700)(hb:0<=b)(hs:0<=st)(hm:m<=8)(hr:r<=8):
  ∃(ks:KL)(qs:List (Str×D)),aZ (g+1) [.int x,.int b,.int st,.int m,.int r,.int dp]=.ok (fr ks qs)/\ks.length=m/\qs.length=r/\(∀p∈ks,p.2.gd)/\(∀q∈qs,KG dp q.2)/\∀(j:Nat)(w:Str),(ks.map (·.1)++qs.map (·.1))[j]?=some w->Dx b (st+(j:Int)) w:=by
 rw[ic,KC];unfold j9;have rn:nU [.int ((m:Int)+(r:Int))]=some (fV 0 (m+r)):=by
  rw[show((m:Int)+(r:Int))=((m+r:Nat):Int)by omega];exact oq (m+r) ‹0›
 obtain⟨T,hT⟩:∃T:cm,T=kA 7 (kA 6 (bM (fF (af (fL cR (af (ah 6) (aw))) (af (fL cR (af (ah 7) (aw))) (aw)))))):=⟨_,rfl⟩
 rw[<-hT];simp! only[LV,rn];refine dP (Q:=λz=>∃(ks:KL)(qs:List (Str×D)),z=.ok (fr ks qs)/\ks.length=m/\qs.length=r/\(∀p∈ks,p.2.gd)/\(∀q∈qs,KG dp q.2)/\∀(j:Nat)(w:Str),(ks.map (·.1)++qs.map (·.1))[j]?=some w->Dx b (st+(j:Int)) w)
  (fun i ρ=>∃ (y:Int) (ks:KL) (qs:List (Str×D)),0<=y/\y < 2147483700/\ks.length=min i m/\qs.length=i - m/\(∀ p∈ks,p.2.gd)/\(∀ q∈qs,KG dp q.2)/\(∀ (j:Nat) (w:Str),(ks.map (·.1)++qs.map (·.1))[j]?=some w->Dx b (st+(j:Int)) w) /\
   ρ=[‹.int y›,‹.int b›,‹.int st›,‹.int m›,‹.int r›,‹.int dp›,some (.own (.lst (ks.map kf))),some (.own (.lst (qs.map fld))),none]) ?_ ⟨x,[],[],h0,h1,by simp,by simp,(λ_ h=>nomatch h),(λ_ h=>nomatch h),(λj w h=>by simp at h),rfl⟩ ?_
 ·rintro i d ρ kk hd ⟨y,ps,qs,y0,y1,lp,lq,fp,fq,fn,rfl⟩;have hi:=cw hd;rw[dI]at hi;have hdi:d=.int (i:Int):=by
   rw[ow,Rb,RX hi]at hd;cases hd;simp
  subst hdi;obtain⟨y',y0',y1',ey⟩:=jf y y0 y1;obtain⟨nm,en,nP⟩:=xk b (st+(i:Int)) hb ‹0›;by_cases h:i<m
  ·have h':decide ((i:Int)<(m:Int))=true:=decide_eq_true ‹0›;obtain⟨c,ek,ck⟩:=uP y' y0' ‹0›;refine⟨_,_,rfl,⟨y',ps++[(nm,c)],qs,y0',by omega,by rw[Rg,Rm];omega,by omega,λp hp=>?_,fq,?_,rfl⟩,?_⟩
   ·rcases List.mem_append.mp hp with z|z
    ·exact fp p z
    ·rw[SK]at z;subst z;exact ck
   ·have q0:qs=[]:=List.length_eq_zero_iff.mp ‹0›;subst q0;rw[Ro,Q4]at fn ⊢;rw[RQ];exact BH fn (by rw[Q1,lp,SM ‹0›];exact nP)
   ·have ap:gY (ps.map kf) [.tup [.str nm,c.d]]=some ((ps++[(nm,c)]).map kf):=by
     rw[mP (by rw[Q1];omega),RQ];rfl
    have sm:=λK:Ks=>ng 6 gY (af (fF (af (fR (aK cq 2 7) (af (ah 1) (af (f2 ce (ah 2) (ah 8)) (aw)))) (af (fR (aK dh 1 8) (af (ah 0) (aw))) (aw)))) (aw)) K [‹.int y'›,‹.int b›,‹.int st›,‹.int m›,‹.int r›,‹.int dp›,some (.own (.lst (ps.map kf))),some (.own (.lst (qs.map fld))),‹.int i›] (xs:=ps.map kf) rfl;generalize (ps++[(nm,c)]).map kf=Y at ap ⊢;simp! only[ey,h',sm,en,ek,Id,ap]
  ·have h':decide ((i:Int)<(m:Int))=false:=decide_eq_false ‹0›;obtain⟨k,ek,fk⟩:=hk y' b y0' ‹0› hb;refine⟨_,_,rfl,⟨y',ps,qs++[(nm,k)],y0',by omega,by omega,by rw[Rg,Rm];omega,fp,λp hp=>?_,?_,rfl⟩,?_⟩
   ·rcases List.mem_append.mp hp with z|z
    ·exact fq p z
    ·rw[SK]at z;subst z;exact fk
   ·rw[RQ,<-R0];exact BH fn (by rw[Rg,Q1,Q1,lp,lq,show min i m+(i-m)=i by omega];exact nP)
   ·have ap:gY (qs.map fld) [.tup [.str nm,k]]=some ((qs++[(nm,k)]).map fld):=by
     rw[mP (by rw[Q1];omega),RQ];rfl
    have sm:=λK:Ks=>ng 7 gY (af (fF (af (fR (aK cq 2 7) (af (ah 1) (af (f2 ce (ah 2) (ah 8)) (aw)))) (af (fR (bd g) (af (ah 0) (af (ah 1) (af (ah 5) (aw))))) (aw)))) (aw)) K [‹.int y'›,‹.int b›,‹.int st›,‹.int m›,‹.int r›,‹.int dp›,some (.own (.lst (ps.map kf))),some (.own (.lst (qs.map fld))),‹.int i›] (xs:=qs.map fld) rfl;generalize (qs++[(nm,k)]).map fld=Y at ap ⊢;simp! only[ey,h',sm,en,ek,Id,ap]
 ·rintro ρ' ⟨y,ps,qs,y0,y1,lp,lq,fp,fq,fn,rfl⟩;rw[dI]at lp lq;refine⟨ps,qs,?_,by omega,by omega,fp,fq,fn⟩;rw[hT];simp! only[Id]
def IT:∀(dp g:Nat),2*dp+1<=g->∀x b:Int,0<=x->x<2147483700->0<=b->∃d,bd g [.int x,.int b,.int dp]=.ok d/\KG dp d:=by
 intro dp
 induction dp with
 |zero=>
  intro g hg x b h0 h1 hb;obtain⟨g,rfl⟩:∃g',g=g'+1:=⟨g-1,by omega⟩
  have d3:=gd 3;obtain⟨c,e,f⟩:=uP (x/3) ‹0› ‹0›;refine⟨c.d,?_,c,f,rfl⟩;rw[fD,ph];unfold iY;have z:(((0:Nat):Int)==0)=true:=rfl;simp! only[z,d3,e]
 |succ dp ih=>
  intro g hg x b h0 h1 hb;obtain⟨g,rfl⟩:∃g',g=g'+1+1:=⟨g-2,by omega⟩
  have g2:=gm 2;have g3:=gm 3;have g12:=gm 12;have d3:=gd 3;have d6:=gd 6;have d18:=gd 18;have d36:=gd 36;have z:(((dp+1:Nat):Int)==0)=false:=by simp;omega
  rw[fD,ph];unfold iY;by_cases h:x%3<2
  ·have h':decide (x%3<2)=true:=decide_eq_true h;obtain⟨c,e,f⟩:=uP (x/3) ‹0› ‹0›;refine⟨c.d,?_,.inl ⟨c,f,rfl⟩⟩;simp! only[z,g3,h',d3,e]
  ·have h':decide (x%3<2)=false:=decide_eq_false h;obtain⟨m,hm,hm8,m1⟩:∃m:Nat,1+x/3%2=(m:Int)/\m<=8/\1<=m:=⟨(1+x/3%2).toNat,by omega,by omega,by omega⟩
   obtain⟨r,hr,hr8⟩:∃m:Nat,x/6%3=(m:Int)/\m<=8:=⟨(x/6%3).toNat,by omega,by omega⟩
   have hd:((dp+1:Nat):Int)-1=(dp:Int):=(by omega);obtain⟨ps,qs,e,l1,l2,F1,F2,_⟩:=BW dp g (ih g ‹0›) (x/3) b (x/36%12) m r ‹0› ‹0› hb ‹0› hm8 hr8;refine⟨.tup [.str "rows",fr ps qs,.bl (x/18%2==1)],?_,.inr ⟨ps,qs,_,rfl,by omega,by omega,F1,by omega,F2⟩⟩;simp! only[z,g3,h',d3,d36,g12,g2,d6,hm,hr,hd,e,d18,P9]
def Cy(dp:Nat)(hd:dp<=3)(x b st:Int)(m r:Nat)(h0:0<=x)(h1:x<2147483700)(hb:0<=b)(hs:0<=st)(hm:m<=8)(hr:r<=8):
  ∃(ks:KL)(qs:List (Str×D)),aZ 20 [.int x,.int b,.int st,.int m,.int r,.int dp]=.ok (fr ks qs)/\ks.length=m/\qs.length=r/\(∀p∈ks,p.2.gd)/\(∀q∈qs,KG dp q.2)/\∀(j:Nat)(w:Str),(ks.map (·.1)++qs.map (·.1))[j]?=some w->Dx b (st+(j:Int)) w:=
 BW dp 19 (IT dp 19 ‹0›) x b st m r h0 h1 hb hs hm hr
def wD{σ:List Bool}{kl:Nat}(h0:σ≠[])(hl:kl=σ.length)(rows:List (List D))(hs:∀r∈rows,Sh σ (r.take kl))(hn:rows.length<64):∃t:List (List D),aK bQ 2 4 [.int kl,.lst (rows.map .tup)]=.ok (.tup (t.map .tup))/\JD kl t/\(∀r∈t,r∈rows)/\t.length<=rows.length:=by
 obtain⟨T,hT⟩:∃T:cm,T=(kA 2 (bM (fL cR (af (jX [none,some 2] (bT (fL iD (af (fL ra (af (ah 2) (aw))) (aw)))) (gN 0) (dH) (f2 AW (ah 1) (ah 0))) (aw))))):=⟨_,rfl⟩
 rw[dR];unfold bQ;rw[<-hT];simp! only[BK];refine dP (Q:=λz=>∃t:List (List D),z=.ok (.tup (t.map .tup))/\JD kl t/\(∀r∈t,r∈rows)/\t.length<=rows.length) (λi ρ=>∃al:List (List Key×D),(al.map (·.1)).Nodup/\al.length<=i/\(∀p∈al,∃r∈rows,p.2=.tup r/\r.take kl=p.1.map bx)/\ρ=[‹.int kl›,‹.lst (rows.map .tup)›,some (.own (dB al)),none]) ?_ ⟨[],Rv,QT _,(λ_ h=>nomatch h),rfl⟩ ?_
 ·rintro i d ρ kk hd ⟨al,nd,ll,hp,rfl⟩;have hi:=cw hd;rw[Q1]at hi;rw[Rb,RJ hi]at hd;cases hd;have rm:rows[i]∈rows:=Sy hi;obtain⟨q,eq⟩:=sS (hs _ rm);have ct:cutD rows[i] none (some (kl:Int))=q.map bx:=by rw[tx,eq]
  refine⟨_,_,rfl,⟨jb al q (.tup rows[i]),HN _ _ nd,by have:=GY al q (.tup rows[i]);omega,λp h=>?_,rfl⟩,?_⟩
  ·rcases FV h with z|z
   ·exact hp p z
   ·subst z;exact⟨_,rm,rfl,eq⟩
  ·have pd:=λK:Ks=>HV (i:=2) (fk:=dJ (ah 3) (cN) (fI (ah 0))) (fv:=ah 3) (k:=K) (ρ:=[‹.int kl›,‹.lst (rows.map .tup)›,some (.own (dB al)),‹.tup rows[i]›]) (al:=al) (q:=q) (v:=.tup rows[i]) rfl (by simp! only[ct]) rfl ‹0›;generalize dB (jb al q (.tup rows[i]))=Y at pd ⊢;generalize dB al=Z at pd ⊢;simp! only[pd]
 ·rintro ρ' ⟨al,nd,ll,hp,rfl⟩;rw[Q1]at ll;have hsk:∀p∈al,Sh σ (p.1.map bx):=λp h=>by
   obtain⟨r,hr,_,e⟩:=hp p h;rw[<-e];exact hs r hr
  obtain⟨es,ri⟩:=G9 nd hsk h0 ‹0›;have pm:=iq eV (encK al);have lt:=Fy al;generalize ku eV (encK al)=W at es ri pm;have wl:W.length=al.length:=by rw[pm.length_eq,Q1]
  have mem:∀x∈W,∃p∈al,x=.tup (p.1.map bx):=λx hx=>by
   obtain⟨p,h1,h2⟩:=List.mem_map.mp (pm.mem_iff.mp hx);exact⟨p,h1,h2.symm⟩
  obtain⟨vs,v1,v2,v3⟩:=Fk (ρ:=[none,‹dB al›]) (g:=gN 0) (C:=dH) (Fe:=f2 AW (ah 1) (ah 0)) W (λi v=>∃r∈rows,v=.tup r/\W[i]?=some (.tup (r.take kl))) λi d hd=>by
   obtain⟨p,h1,h2⟩:=mem d (Rf hd);obtain⟨r,hr,e1,e2⟩:=hp p h1;have dx:=Km al p.1;rw[yS nd h1,e1]at dx;refine⟨[‹d›,‹dB al›],.tup r,rfl,rfl,?_,r,hr,rfl,by rw[hd,h2,e2]⟩;subst h2;generalize dB al=Z at dx;simp! only[dx]
  obtain⟨t,rfl⟩:=Cq vs λv hv=>by
   obtain⟨i,hi,ei⟩:=RN hv;obtain⟨r,_,e,_⟩:=v2 i v (by rw[RJ hi,ei]);exact⟨r,e⟩
  rw[Q1]at v1;have at_:∀(i:Nat)(h:i<t.length),t[i]∈rows/\W[i]?=some (.tup (t[i].take kl)):=λi h=>by
   obtain⟨r,hr,e,w⟩:=v2 i (.tup t[i]) (by rw[Rb,RJ h];rfl);injection e with e;rw[e];exact⟨hr,w⟩
  refine⟨t,?_,?_,λr hr=>?_,by omega⟩
  ·have lc:jX [none,some 2] (bT (fL iD (af (fL ra (af (ah 2) (aw))) (aw)))) (gN 0) (dH) (f2 AW (ah 1) (ah 0)) [‹.int kl›,‹.lst (rows.map .tup)›,‹dB al›,none]=.ok (.lst (t.map .tup)):=by
    refine eU (ds:=W) ?_ ‹0› v3;generalize dB al=Z at lt;simp! only[lt,es]
   rw[hT];generalize dB al=Z at lc;simp! only[lc]
  ·refine List.pairwise_iff_getElem.mpr λi j hi hj hij=>?_;have a:=(at_ i hi).2;have b:=(at_ j hj).2;rw[RJ ‹0›]at a b
   have:=List.pairwise_iff_getElem.mp ri i j ‹0› ‹0› hij
   rw[Option.some.inj a,Option.some.inj b]at this;exact this
  ·obtain⟨i,hi,ei⟩:=RN hr;rw[<-ei];exact(at_ i hi).1
def ur(c:Kd)(hg:c.gd)(g:Nat)(x:Int)(h0:0<=x)(h1:x<2147483700):∃v,aA (g+1) [c.d,.int x]=.ok v/\Sh [c.b] [v]:=by
 rw[eT,dR];unfold gH;cases c with
 |num lo hi=>
  have hg:lo<=hi:=hg;have p7:su (.int x) (.int 7)=some (.int (x^7)):=Aw x 7 (by decide) ‹0›;have gm:=λi=>fU (i:=i) (show(0:Int)<hi-lo+1 by omega);refine⟨.int (lo+x^7%(hi-lo+1)),?_,.int _ .nil⟩;simp! only[Kd.d,Ke,p7,gm]
 |wrd ws=>
  obtain⟨wn,_⟩:=(show ws≠[]/\ws.length<=100 from hg)
  have ul:0<ws.length:=List.length_pos_iff.mpr wn;have q1:=S3 x (show(ws.length:Int)≠0 by omega);have q2:=S4 x (show(0:Int)<(ws.length:Int)by omega);have gm:=λi=>fU (i:=i) (show(0:Int)<(ws.length:Int)by omega);have ix:aG (.tup (ws.map .str)) (.int (x%(ws.length:Int)))=some (.str (ws[(x%(ws.length:Int)).toNat]'‹0›)):=by
   rw[IX,BG,qe q1 q2];rfl
  refine⟨_,?_,.str (ws[(x%(ws.length:Int)).toNat]'‹0›) .nil⟩;simp! only[Kd.d,Lp,Hl,Q1,gm,ix]
def FC(n g:Nat)(hv:∀(d:D)(x:Int),KG n d->0<=x->x<2147483700->∃v,aA (g+1) [d,.int x]=.ok v/\AL (2*n) v)(ks:KL)(qs:List (Str×D))(k8:ks.length<=8)(q8:qs.length<=8)(hk:∀p∈ks,p.2.gd)(hq:∀q∈qs,KG n q.2)(mn hd tl:Int)(h0:0<=hd)(h1:hd<2147483700)(t0:0<=tl)(t1:tl<2147483700):
  ∃vs:List D,aI (g+2) [fr ks qs,.int mn,.int hd,.int tl]=.ok (.tup vs)/\vs.length=ks.length+qs.length/\Sh (ks.map (·.2.b)) (vs.take ks.length)/\∀v∈vs,AL (2*n) v:=by
 rw[jc,Bg];unfold my;have ad:=iW (ks.map kf) (qs.map fld) (by rw[Q1,Q1];omega);have em:ks.map kf++qs.map fld=(ks.map toD++qs).map fld:=by rw[RQ,tY]
 rw[em]at ad;have fl:(ks.map toD++qs).length=ks.length+qs.length:=by rw[Rg,Q1]
 obtain⟨T,hT⟩:∃T:cm,T=(kA 4 (bM (fL cR (af (ah 4) (aw))))):=⟨_,rfl⟩
 rw[<-hT];simp! only[LV,ad];refine dP (Q:=λz=>∃vs:List D,z=.ok (.tup vs)/\vs.length=ks.length+qs.length/\Sh (ks.map (·.2.b)) (vs.take ks.length)/\∀v∈vs,AL (2*n) v)
  (λi ρ=>∃(y z:Int)(ka va:List D),0<=y/\y<2147483700/\0<=z/\z<2147483700/\Sh ((ks.take i).map (·.2.b)) ka/\va.length=i-ks.length/\(∀v∈va,AL (2*n) v)/\ρ=[‹fr ks qs›,‹.int mn›,‹.int y›,‹.int z›,some (.own (.lst (ka++va))),none,none]) ?_ ⟨hd,tl,[],[],h0,h1,t0,t1,.nil,by simp,(λ_ h=>nomatch h),rfl⟩ ?_
 ·rintro i d ρ kk hd ⟨y,z,ka,va,y0,y1,z0,z1,hka,lva,hva,rfl⟩;have hi:=cw hd;rw[Q1,fl]at hi;rw[Rb,RJ ‹0›]at hd;cases hd;have kal:ka.length=min i ks.length:=by rw[hka.length,Q1,Q7]
  obtain⟨y',y0',y1',ey⟩:=jf y y0 y1;obtain⟨z',z0',z1',ez⟩:=jf z z0 z1;have step:∀x:Int,0<=x->x<2147483700->∃v,aA (g+1) [((ks.map toD++qs)[i]'‹0›).2,.int x]=.ok v/\∃ka' va',ka++va++[v]=ka'++va'/\Sh ((ks.take (i+1)).map (·.2.b)) ka'/\va'.length=i+1-ks.length/\∀v∈va',AL (2*n) v:=λx x0 x1=>by
   by_cases h:i<ks.length
   ·have e:(ks.map toD++qs)[i]'‹0›=toD ks[i]:=(by rw[List.getElem_append_left (by rw[Q1];exact h),S0]);obtain⟨v,ev,sv⟩:=ur ks[i].2 (hk _ (Sy h)) g x x0 x1;have v0:va=[]:=List.length_eq_zero_iff.mp ‹0›;subst v0;refine⟨v,by rw[e];exact ev,ka++[v],[],by simp,?_,by simp;omega,λ_ h=>nomatch h⟩;rw[Th h,RQ];exact AK hka sv
   ·have e:(ks.map toD++qs)[i]'‹0›=qs[i-ks.length]'‹0›:=(by rw[Ti (by rw[Q1];omega)];simp);obtain⟨v,ev,sv⟩:=hv _ x (hq _ (Sy (show i-ks.length<qs.length by omega))) x0 x1;refine⟨v,by rw[e];exact ev,ka,va++[v],by rw[R0],?_,by rw[Rg,Rm];omega,λw hw=>?_⟩
    ·rw[SJ ‹0›]at hka ⊢;exact hka
    ·rcases List.mem_append.mp hw with z|z
     ·exact hva w z
     ·rw[List.mem_singleton.mp z];exact sv
  have gt:gT 2 (lE [5,6]) (fld ((ks.map toD++qs)[i]'‹0›)) [‹fr ks qs›,‹.int mn›,‹.int y›,‹.int z›,some (.own (.lst (ka++va))),none,none]=some [‹fr ks qs›,‹.int mn›,‹.int y›,‹.int z›,some (.own (.lst (ka++va))),‹.str ((ks.map toD++qs)[i]'‹0›).1›,‹((ks.map toD++qs)[i]'‹0›).2›]:=rfl;have alen:(ka++va).length<1000:=by rw[Rg];omega
  generalize (ks.map toD++qs)[i]'‹0›=p at step gt;cases hb:decide (((ka++va).length:Int)<mn)with
  |true=>
   obtain⟨v,ev,ka',va',e1,e2,e3,e4⟩:=step y' y0' ‹0›;refine⟨_,_,gt,⟨y',z,ka',va',y0',by omega,z0,z1,e2,e3,e4,rfl⟩,?_⟩;have ap:gY (ka++va) [v]=some (ka'++va'):=(by rw[mP ‹0›,e1]);have sm:=λK:Ks=>ng 4 gY (af (fR (aA (g+1)) (af (ah 6) (af (ah 2) (aw)))) (aw)) K [‹fr ks qs›,‹.int mn›,‹.int y'›,‹.int z›,some (.own (.lst (ka++va))),‹.str p.1›,‹p.2›] (xs:=ka++va) rfl;generalize ka++va=A at hb ap sm alen;generalize ka'++va'=B at ap;simp! only[tX,Kf,hb,ey,sm,ev,ap]
  |false=>
   obtain⟨v,ev,ka',va',e1,e2,e3,e4⟩:=step z' z0' ‹0›;refine⟨_,_,gt,⟨y,z',ka',va',y0,y1,z0',by omega,e2,e3,e4,rfl⟩,?_⟩;have ap:gY (ka++va) [v]=some (ka'++va'):=(by rw[mP ‹0›,e1]);have sm:=λK:Ks=>ng 4 gY (af (fR (aA (g+1)) (af (ah 6) (af (ah 3) (aw)))) (aw)) K [‹fr ks qs›,‹.int mn›,‹.int y›,‹.int z'›,some (.own (.lst (ka++va))),‹.str p.1›,‹p.2›] (xs:=ka++va) rfl;generalize ka++va=A at hb ap sm alen;generalize ka'++va'=B at ap;simp! only[tX,Kf,hb,ez,sm,ev,ap]
 ·rintro ρ' ⟨y,z,ka,va,y0,y1,z0,z1,hka,lva,hva,rfl⟩;rw[Q1,fl]at hka lva;rw[SJ ‹0›]at hka;have kal:ka.length=ks.length:=by rw[hka.length,Q1]
  refine⟨ka++va,?_,by rw[Rg];omega,by rw[<-kal,Tj];exact hka,λv hv=>?_⟩
  ·rw[hT];generalize ka++va=A;simp! only[]
  ·rcases List.mem_append.mp hv with w|w
   ·exact(wR hka v w).of0 _
   ·exact hva v w
def Hu(n g:Nat)(hv:∀(d:D)(x:Int),KG n d->0<=x->x<2147483700->∃v,aA (g+1) [d,.int x]=.ok v/\AL (2*n) v)(ks:KL)(qs:List (Str×D))(k1:1<=ks.length)(k8:ks.length<=8)(q8:qs.length<=8)(hk:∀p∈ks,p.2.gd)(hq:∀q∈qs,KG n q.2)(x:Int)(m:Nat)(h0:0<=x)(h1:x<2147483700)(hm:m<=3):
  ∃v:D,aN (g+3) [fr ks qs,.int x,.int m]=.ok v/\AL (2*n+2) v:=by
 have rn:=oq m ‹0›;obtain⟨T,hT⟩:∃T:cm,T=(kA 3 (bM (fR (aK bQ 2 4) (af (fL jh (af (f2 aG (ah 0) (fC (.int 0))) (aw))) (af (ah 3) (aw)))))):=⟨_,rfl⟩
 rw[hX,ph];unfold kj;rw[<-hT];simp! only[LV,rn];refine dP (Q:=λz=>∃v:D,z=.ok v/\AL (2*n+2) v)
  (λi ρ=>∃(y:Int)(rs:List (List D)),0<=y/\y<2147483700/\rs.length=i/\(∀r∈rs,r.length<=16/\Sh (ks.map (·.2.b)) (r.take ks.length)/\∀v∈r,AL (2*n) v)/\ρ=[‹fr ks qs›,‹.int y›,‹.int m›,some (.own (.lst (rs.map .tup))),none]) ?_ ⟨x,[],h0,h1,rfl,(λ_ h=>nomatch h),rfl⟩ ?_
 ·rintro i d ρ kk hd ⟨y,rs,y0,y1,rl,hr,rfl⟩;have hi:=cw hd;rw[dI]at hi;obtain⟨y',y0',y1',ey⟩:=jf y y0 y1;obtain⟨vs,ev,v1,v2,v3⟩:=FC n g hv ks qs k8 q8 hk hq 0 0 y' (by decide) (by decide) y0' ‹0›;refine⟨_,_,rfl,⟨y',rs++[vs],y0',by omega,by rw[Rg,Rm,rl],λr h=>?_,rfl⟩,?_⟩
  ·rcases List.mem_append.mp h with z|z
   ·exact hr r z
   ·rw[List.mem_singleton.mp z];exact⟨by omega,v2,v3⟩
  ·have ap:gY (rs.map .tup) [.tup vs]=some ((rs++[vs]).map .tup):=by
    rw[mP (by rw[Q1];omega),RQ];rfl
   have sm:=λK:Ks=>ng 3 gY (af (fR (aI (g+2)) (af (ah 0) (af (fC (.int 0)) (af (fC (.int 0)) (af (ah 1) (aw)))))) (aw)) K [‹fr ks qs›,‹.int y'›,‹.int m›,some (.own (.lst (rs.map .tup))),‹d›] (xs:=rs.map .tup) rfl;generalize (rs++[vs]).map D.tup=Y at ap ⊢;generalize rs.map D.tup=Z at ap sm ⊢;simp! only[ey,sm,ev,ap]
 ·rintro ρ' ⟨y,rs,y0,y1,rl,hr,rfl⟩;rw[dI]at rl;obtain⟨t,et,_,tm,tl⟩:=wD (σ:=ks.map (·.2.b)) (kl:=ks.length) (λz=>by have:=congrArg List.length z;rw[Q1,Rr]at this;omega) (by rw[Q1]) rs (λr h=>(hr r h).2.1) ‹0›;refine⟨.tup (t.map .tup),?_,AL.tup (by rw[Q1];omega) λv hv=>?_⟩
  ·rw[hT];simp! only[Q1,et]
  ·obtain⟨r,h1,rfl⟩:=List.mem_map.mp hv;obtain⟨w1,_,w3⟩:=hr r (tm r h1);exact AL.tup ‹0› w3
def FZ:∀(n g:Nat),3*n+1<=g->∀(d:D)(x:Int),KG n d->0<=x->x<2147483700->∃v,aA g [d,.int x]=.ok v/\AL (2*n) v:=by
 intro n
 induction n with
 |zero=>
  intro g hg d x hd h0 h1;obtain⟨g,rfl⟩:∃g',g=g'+1:=⟨g-1,by omega⟩
  obtain⟨c,cg,rfl⟩:=hd;obtain⟨v,ev,sv⟩:=ur c cg g x h0 h1;exact⟨v,ev,wR sv v QN⟩
 |succ n ih=>
  intro g hg d x hd h0 h1;obtain⟨g,rfl⟩:∃g',g=g'+3+1:=⟨g-4,by omega⟩
  rcases hd with⟨c,cg,rfl⟩|⟨ks,qs,b,rfl,k1,k8,hk,q8,hq⟩
  ·obtain⟨v,ev,sv⟩:=ur c cg (g+3) x h0 h1;exact⟨v,ev,(wR sv v QN).of0 _⟩
  ·have d3:=gd 3;have g3:=gm 3;obtain⟨m,hm,em⟩:∃m:Nat,m<=3/\sg [.int (x%3),.int (if b then 1 else 0)]=some (.int (m:Int)):=by
    refine⟨(if(if b then(1:Int)else 0)>x%3 then(if b then(1:Int)else 0)else x%3).toNat,?_,?_⟩
    ·cases b<;>simp<;>split<;>omega
    ·rw[mG];congr 2;cases b<;>simp<;>split<;>omega
   obtain⟨v,ev,av⟩:=Hu n g (ih (g+1) ‹0›) ks qs k1 k8 q8 hk hq (x/3) m ‹0› ‹0› hm;refine⟨v,?_,av⟩;rw[eT,dR];unfold gH;simp! only[KH,Iu,d3,g3,Gu,em,ev]
structure Tab(σ:List Bool)(t:List (List D)):Prop where
 sh:∀r∈t,Sh σ (r.take σ.length)
 ri:JD σ.length t
 ln:t.length<64
 rl:∀r∈t,r.length<=16/\σ.length<=r.length
 al:∀r∈t,∀v∈r,AL 6 v
def Gc(ks:KL)(qs:List (Str×D))(n:Nat)(hn:n<=2)(k1:1<=ks.length)(k8:ks.length<=8)(q8:qs.length<=8)(hk:∀p∈ks,p.2.gd)(hq:∀q∈qs,KG n q.2)(m:Int)(ns:List Int)(hl:ns.length<=63):
  ∃t:List (List D),(Tab (ks.map (·.2.b)) t/\∀r∈t,∀v∈r,AL 4 v)/\aK gE 5 8 [fr ks qs,.int m,.lst (ns.map .int),.int 2,.int 60]=.ok (.tup (t.map .tup)):=by
 have g2:=gm 2;have g4:=gm 4;have d2:=gd 2;have l2:∀a b:D,jZ [a,b]=some (.lst [a,b]):=λ_ _=>nr rfl;obtain⟨N,hN,rn⟩:∃N:Nat,N<=60/\∀e1 e2:Int,sg [.int (ns.length:Int),.int 7]=some (.int e1)->y6 [.int e1,.int 62]=some (.int e2)->sW [.int 2,.int e2]=some (fV 2 N):=by
  refine⟨((if(62:Int)<(if(7:Int)>(ns.length:Int)then 7 else(ns.length:Int))then 62 else(if(7:Int)>(ns.length:Int)then 7 else(ns.length:Int)))-2).toNat,?_,λe1 e2 h1 h2=>?_⟩
  ·split<;>split<;>omega
  ·rw[mG]at h1;cases h1;rw[mR]at h2;cases h2;generalize he:(if(62:Int)<(if(7:Int)>(ns.length:Int)then 7 else(ns.length:Int))then 62 else(if(7:Int)>(ns.length:Int)then 7 else(ns.length:Int)))=e;have e2:2<=e/\e<=62:=(by rw[<-he];split<;>split<;>omega);show(if okR 2&&okR e then some (fV 2 ((e-2).toNat))else none)=_;have o1:okR 2=true:=decide_eq_true ⟨by decide,by decide⟩;have o2:okR e=true:=decide_eq_true ⟨by omega,by omega⟩;rw[o1,o2];rfl
 have mx:=mG (ns.length:Int) 7;have rn:=rn _ _ mx (mR _ _);obtain⟨T,hT⟩:∃T:cm,T=(kA 5 (bM (fR (aK bQ 2 4) (af (fL jh (af (f2 aG (ah 0) (fC (.int 0))) (aw))) (af (ah 5) (aw)))))):=⟨_,rfl⟩
 rw[KA];unfold gE;rw[<-hT];have p7:(2:Int)+5=7:=rfl;have p62:(2:Int)+60=62:=rfl;simp! only[LV,Q1,p7,p62,rn];refine dP (Q:=λz=>∃t:List (List D),(Tab (ks.map (·.2.b)) t/\∀r∈t,∀v∈r,AL 4 v)/\z=.ok (.tup (t.map .tup)))
  (λi ρ=>∃rs:List (List D),rs.length=i/\(∀r∈rs,r.length=ks.length+qs.length/\Sh (ks.map (·.2.b)) (r.take ks.length)/\∀v∈r,AL 4 v)/\ρ=[‹fr ks qs›,‹.int m›,‹.lst (ns.map .int)›,‹.int 2›,‹.int 60›,some (.own (.lst (rs.map .tup))),none,none]) ?_ ⟨[],rfl,(λ_ h=>nomatch h),rfl⟩ ?_
 ·rintro i d ρ kk hd ⟨rs,rl,hr,rfl⟩;have hi:=cw hd;rw[dI]at hi;have hdi:d=.int ((2+i:Nat):Int):=by
   rw[ow,Rb,RX hi]at hd;cases hd;simp
  subst hdi;obtain⟨x,x0,x1,ex⟩:=xJ ns (2+i) ‹0›;obtain⟨y,y0,y1,ey⟩:=jf x x0 ‹0›;obtain⟨h,h0,h1,eh⟩:∃h:Int,0<=h/\h<2147483700/\aG (.lst [.int (x/2%4),.int (x/2)]) (.int (x%2))=some (.int h):=by
   rcases(show x%2=0\/x%2=1 by omega)with z|z<;>rw[z]
   ·exact⟨x/2%4,by omega,by omega,rfl⟩
   ·exact⟨x/2,by omega,by omega,rfl⟩
  obtain⟨vs,ev,v1,v2,v3⟩:=FC n 18 (FZ n 19 ‹0›) ks qs k8 q8 hk hq m h y h0 h1 y0 ‹0›;have ev:aI 20 [fr ks qs,.int m,.int h,.int y]=.ok (.tup vs):=ev;refine⟨_,_,rfl,⟨rs++[vs],by rw[Rg,Rm,rl],λr h=>?_,rfl⟩,?_⟩
  ·rcases List.mem_append.mp h with z|z
   ·exact hr r z
   ·rw[List.mem_singleton.mp z];exact⟨v1,v2,λv hv=>AL.le ‹0› (v3 v hv)⟩
  ·have ap:gY (rs.map .tup) [.tup vs]=some ((rs++[vs]).map .tup):=by
    rw[mP (by rw[Q1];omega),RQ];rfl
   have sm:=λK:Ks=>ng 5 gY (af (fR (aI 20) (af (ah 0) (af (ah 1) (af (f2 aG (jP (af (f2 cS (f2 dN (ah 7) (fC (.int 2))) (fC (.int 4))) (af (f2 dN (ah 7) (fC (.int 2))) (aw)))) (f2 cS (ah 7) (fC (.int 2)))) (af (fR (aK bf 1 1) (af (ah 7) (aw))) (aw)))))) (aw)) K [‹fr ks qs›,‹.int m›,‹.lst (ns.map .int)›,‹.int 2›,‹.int 60›,some (.own (.lst (rs.map .tup))),‹.int ((2+i:Nat):Int)›,‹.int x›] (xs:=rs.map .tup) rfl;generalize (rs++[vs]).map D.tup=Y at ap ⊢;generalize rs.map D.tup=Z at ap sm ⊢;simp! only[ex,sm,d2,g4,l2,g2,eh,ey,ev,ap]
 ·rintro ρ' ⟨rs,rl,hr,rfl⟩;rw[dI]at rl;have sl:(ks.map (·.2.b)).length=ks.length:=by rw[Q1]
  obtain⟨t,et,ri,tm,tl⟩:=wD (σ:=ks.map (·.2.b)) (kl:=ks.length) (λz=>by have:=congrArg List.length z;rw[Q1,Rr]at this;omega) sl.symm rs (λr h=>(hr r h).2.1) ‹0›;refine⟨t,⟨⟨λr h=>by rw[sl];exact(hr r (tm r h)).2.1,by rw[sl];exact ri,by omega,λr h=>by have:=(hr r (tm r h)).1;rw[sl];omega,λr h v hv=>AL.le (by decide) ((hr r (tm r h)).2.2 v hv)⟩,λr h=>(hr r (tm r h)).2.2⟩,?_⟩;rw[hT];simp! only[Q1,et]
def Fz(ns:List Int)(c1:Int)(e1:aK cC 2 2 [.lst (ns.map .int),.int 1]=.ok (.int c1)):∃(ks:KL)(qs:List (Str×D))(n:Nat),n<=2/\2<=ks.length/\ks.length<=8/\qs.length<=8/\(∀p∈ks,p.2.gd)/\(∀q∈qs,KG n q.2)/\(∀(j:Nat)(w:Str),(ks.map (·.1)++qs.map (·.1))[j]?=some w->Dx (c1*48271%2147483647) (0+(j:Int)) w)/\aK dD 2 7 [.lst (ns.map .int),.int 2]=.ok (fr ks qs):=by
 obtain⟨x,x0,x1,ex⟩:=xJ ns 0 ‹0›;have ex:aK cQ 2 3 [.lst (ns.map .int),.int 0]=.ok (.int x):=ex;obtain⟨y,y0,y1,ey⟩:=jf x x0 ‹0›;have mm:=λi=>pM (i:=i) (j:=48271) (by decide) (by decide);have gM:=gm 2147483647;have g3:=gm 3;have g4:=gm 4;have g8:=gm 8;have g9:=gm 9;have d8:=gd 8;have d32:=gd 32;have d128:=gd 128;have d1024:=gd 1024;have d4096:=gd 4096;have s52:(5:Int)-2=3:=rfl;obtain⟨b,hb,b0⟩:∃b:Int,c1*48271%2147483647=b/\0<=b:=⟨_,rfl,S3 _ (by decide)⟩
 rw[hb];obtain⟨dp,dp2,ed⟩:∃dp:Nat,dp<=2/\aG (.lst [.int 0,.int 0,.int 1,.int 2]) (.int (x/32%4))=some (.int (dp:Int)):=by
  rcases(show x/32%4=0\/x/32%4=1\/x/32%4=2\/x/32%4=3 by omega)with z|z|z|z<;>rw[z]
  ·exact⟨0,by decide,rfl⟩
  ·exact⟨0,by decide,rfl⟩
  ·exact⟨1,by decide,rfl⟩
  ·exact⟨2,by decide,rfl⟩
 rw[dR];unfold dD;cases h3:(x/128%8==3)with
 |true=>
  obtain⟨ks,qs,ef,l1,l2,f1,f2,fn⟩:=Cy 0 (by decide) y b 0 (8-x/1024%3).toNat (x/4096%9).toNat y0 ‹0› b0 (by decide) ‹0› ‹0›;rw[Tn ‹0›,Tn ‹0›]at ef;refine⟨ks,qs,0,by decide,by omega,by omega,by omega,f1,f2,fn,?_⟩;have ef:aZ 20 [.int y,.int b,.int 0,.int (8-x/1024%3),.int (x/4096%9),.int 0]=.ok (fr ks qs):=ef;simp! only[ex,e1,mm,gM,hb,s52,g3,d8,g4,MD,d32,ed,d128,g8,h3,d1024,d4096,g9,ey,ef]
 |false=>
  obtain⟨ks,qs,ef,l1,l2,f1,f2,fn⟩:=Cy dp ‹0› y b 0 (2+x%3).toNat (x/8%4).toNat y0 ‹0› b0 (by decide) ‹0› ‹0›;rw[Tn ‹0›,Tn ‹0›]at ef;refine⟨ks,qs,dp,dp2,by omega,by omega,by omega,f1,f2,fn,?_⟩;simp! only[ex,e1,mm,gM,hb,s52,g3,d8,g4,MD,d32,ed,d128,g8,h3,ey,ef]
def zip_get:∀(xs:List D)(i:Nat)(d:D),(mO xs xs)[i]?=some d->∃x∈xs,d=.tup [x,x]
 |x::xs,0,d,h=>by cases h;exact⟨x,QN,rfl⟩
 |x::xs,i+1,d,h=>by
  obtain⟨y,h1,h2⟩:=zip_get xs i d h;exact⟨y,QO _ h1,h2⟩
def uS:∀(n g:Nat)(d:D),n<g->AL n d->aC g [d,d]=.ok (.bl true):=by
 intro n
 induction n with
 |zero=>
  intro g d hg hd;obtain⟨g,rfl⟩:∃g',g=g'+1:=⟨g-1,by omega⟩
  show aK (cD (aC g)) 2 4 [d,d]=_;rw[dR];unfold cD;rcases hd with⟨i,rfl⟩|⟨x,rfl⟩
  ·have t2:iS "str" (.int i)=some (.bl false):=rfl;have t3:iS "int" (.int i)=some (.bl true):=rfl;have t4:iS "bool" (.int i)=some (.bl false):=rfl;simp! only[t2,t3,t4,beq_self_eq_true,RL]
  ·have t2:iS "str" (.str x)=some (.bl true):=rfl;simp! only[t2,beq_self_eq_true,RL]
 |succ n ih=>
  intro g d hg hd;obtain⟨g,rfl⟩:∃g',g=g'+1:=⟨g-1,by omega⟩
  show aK (cD (aC g)) 2 4 [d,d]=_;rw[dR];unfold cD;rcases hd with(⟨i,rfl⟩|⟨x,rfl⟩)|⟨ds,rfl,dl,hds⟩
  ·have t2:iS "str" (.int i)=some (.bl false):=rfl;have t3:iS "int" (.int i)=some (.bl true):=rfl;have t4:iS "bool" (.int i)=some (.bl false):=rfl;simp! only[t2,t3,t4,beq_self_eq_true,RL]
  ·have t2:iS "str" (.str x)=some (.bl true):=rfl;simp! only[t2,beq_self_eq_true,RL]
  ·have t1:iS "tuple" (.tup ds)=some (.bl true):=rfl;have t2:iS "str" (.tup ds)=some (.bl false):=rfl;have t3:iS "int" (.tup ds)=some (.bl false):=rfl;have t4:iS "bool" (.tup ds)=some (.bl false):=rfl;simp! only[t1,t2,t3,t4,beq_self_eq_true,wH];refine dP (Q:=λz=>z=.ok (.bl true)) (λi ρ=>ρ=[‹.tup ds›,‹.tup ds›,none,none]) ?_ rfl ?_
   ·rintro i d ρ kk hd rfl;obtain⟨x,hx,rfl⟩:=zip_get ds i d hd;have ea:=ih g x ‹0› (hds x hx);refine⟨[‹.tup ds›,‹.tup ds›,‹x›,‹x›],_,rfl,rfl,?_⟩;simp! only[ea]
   ·rintro ρ' rfl;rfl
noncomputable def kq(f:List D):List Key:=(keysOf f).getD []
def MB(q:List Key):kq (q.map bx)=q:=by unfold kq;rw[cP];rfl
def vE{σ:List Bool}{f:List D}(h:Sh σ f):(kq f).map bx=f:=by
 obtain⟨q,e⟩:=sS h;rw[e,MB]
def A7{σ:List Bool}{f f':List D}(h:Sh σ f)(h':Sh σ f')(e:kq f=kq f'):f=f':=by
 rw[<-vE h,e,vE h']
section
open Classical
def EK{σ:List Bool}(k:List D)(v:D)(hk:Sh σ k)(ψ:List D->List D):∀L:List (List D),(∀f∈L,Sh σ f)->L.Nodup->(∀f∈L,(ψ f).length<1000)->(k∉L->ψ k=[])->
  vd (L.map λf=>(kq f,.lst (ψ f))) (kq k) v=some ((if k∈L then L else L++[k]).map λf=>(kq f,.lst (ψ f++if k=f then[v]else[])))
 |[],_,_,_,h0=>by
  rw[if_neg (by simp)];show some [(kq k,D.lst [v])]=some [(kq k,.lst (ψ k++if k=k then[v]else[]))];rw[h0 (by simp),if_pos rfl];rfl
 |f::L,hL,nd,hl,h0=>by
  obtain⟨n1,n2⟩:=List.nodup_cons.mp nd;show(if kq f=kq k then _ else _)=_;by_cases h:f=k
  ·subst h;rw[if_pos rfl,if_pos QN];show(if small ((ψ f).length+1)then some ((kq f,D.lst (ψ f++[v]))::L.map λf=>(kq f,.lst (ψ f)))else none)=_;have hl0:=hl f QN;rw[if_pos (show small ((ψ f).length+1)=true from decide_eq_true ‹0›),Q0,if_pos rfl];congr 2;refine RP λx hx=>?_;rw[if_neg (λz=>n1 (by rw[z];exact hx)),Q4]
  ·rw[if_neg (λz=>h (A7 (hL f QN) hk z))];have ih:=EK k v hk ψ L (λx hx=>hL x (QO _ hx)) n2 (λx hx=>hl x (QO _ hx)) (λz=>h0 λy=>by
    rcases List.mem_cons.mp y with y|y
    ·exact h y.symm
    ·exact z y)
   rw[show vd (List.map (λf=>(kq f,D.lst (ψ f))) L) (kq k) v=_ from ih];have em:k∈f::L↔k∈L:=by
    rw[R3];exact⟨λz=>z.resolve_left λy=>h y.symm,.inr⟩
   by_cases hm:k∈L
   ·rw[if_pos hm,if_pos (em.mpr hm),Q0,if_neg (λz=>h z.symm),Q4];rfl
   ·rw[if_neg hm,if_neg (λz=>hm (em.mp z)),RA,Q0,if_neg (λz=>h z.symm),Q4];rfl
def xZ:∀(ps al:List (List Key×D)),((al++ps).map (·.1)).Nodup->ps.foldl (λal p=>jb al p.1 p.2) al=al++ps
 |[],al,_=>by rw[Q4];rfl
 |p::ps,al,h=>by
  rw[Sq];have e:jb al p.1 p.2=al++[p]:=by
   unfold jb;rw[if_neg];intro z;obtain⟨a,ha,e⟩:=List.any_eq_true.mp z;rw[RQ,Q0]at h;exact(List.nodup_append.mp h).2.2 a.1 (List.mem_map.mpr ⟨a,ha,rfl⟩) p.1 QN (of_decide_eq_true e)
  rw[e,xZ ps (al++[p]) (by rw[R0];exact h),R0];rfl
def tQ:∀ps:List (List Key×D),i5 (ps.map kP)=some ps
 |[]=>rfl
 |p::ps=>by
  show(zI (kP p)).bind (λq=>(i5 (ps.map kP)).map (q::·))=_;rw[tQ ps];show((jS (.tup (p.1.map bx))).map _).bind _=_;rw[qj];rfl
end
section
open Classical
noncomputable def jm(m:Nat)(t:List (List D))(f:List D):List D:=f++[.tup ((gp m t f).map .tup)]
noncomputable def vw(m:Nat)(t:List (List D)):D:=.tup ((fs m t).map λf=>.tup (jm m t f))
def xx(m:Nat)(t:List (List D))(f:List D):(gp m t f).length<=t.length:=by
 unfold gp;rw[Q1];exact List.length_filter_le _ _
section
variable{σ:List Bool}{t:List (List D)}{m:Nat}
def Tab.fsh(T:Tab σ t)(hm:m<=σ.length):∀r∈t,Sh (σ.take m) (r.take m):=λr h=>by
 have:=tq m (T.sh r h)
 rw[S6,SM hm]at this;exact this
def yU(s:List (List D))(h:∀r∈s,Sh (σ.take m) (r.take m)):∀f∈fs m s,Sh (σ.take m) f:=λf hf=>by
 obtain⟨r,hr,rfl⟩:=(lQ m).mp hf;exact h r hr
def Cv(T:Tab σ t)(f:List D)(h:f∈fs m t):f.length<=16:=by
 obtain⟨r,hr,rfl⟩:=(lQ m).mp h
 have:=(T.rl r hr).1
 rw[Q7];omega
def J7(T:Tab σ t)(hm:m<=σ.length)(f:List D)(h:f∈fs m t):f.length=m:=by
 obtain⟨r,hr,rfl⟩:=(lQ m).mp h
 have:=(T.rl r hr).2
 rw[Q7];omega
def Tab.sub{s:List (List D)}(T:Tab σ t)(h:s.Sublist t):Tab σ s:=
 ⟨λr hr=>T.sh r (h.subset hr),T.ri.sublist h,RZ h.length_le T.ln,λr hr=>T.rl r (h.subset hr),λr hr=>T.al r (h.subset hr)⟩
def zN{i:Nat}(h:i<t.length):t.take (i+1)=t.take i++[t[i]]:=Th h
def Hg(L:List (List D))(nd:L.Nodup)(h:∀f∈L,Sh (σ.take m) f)(v:List D->D):((L.map λf=>(kq f,v f)).map (·.1)).Nodup:=by
 rw[SD];refine List.pairwise_map.mpr (List.Pairwise.imp_of_mem (λ{a b} ha hb ne e=>ne ?_) nd);exact A7 (h a ha) (h b hb) e
def rK(T:Tab σ t)(hm:m<=σ.length):aK fQ 2 4 [.int m,vw m t]=.ok (.tup (t.map .tup)):=by
 have fl:=mI m t;have tl:=T.ln;have fi:=Jb m rfl T.sh hm T.ri;unfold flat at fi;rw[dR];unfold fQ;unfold vw;simp! only[LV];refine dP (Q:=λz=>z=.ok (.tup (t.map .tup))) (λi ρ=>ρ=[‹.int m›,‹vw m t›,some (.own (.lst ((((fs m t).take i).flatMap λf=>(gp m t f).map (f++·)).map .tup))),none]) ?_ rfl ?_
 ·rintro i d ρ kk hd rfl;have hi:=cw hd;rw[Q1]at hi;rw[Rb,RJ hi]at hd;cases hd;obtain⟨f,ef⟩:∃f,f=(fs m t)[i]:=⟨_,rfl⟩
  have fm:f∈fs m t:=by rw[ef];exact Sy hi
  rw[<-ef];have fml:=J7 T hm f fm;have f16:=Cv T f fm;have ix:aG (.tup (jm m t f)) (.int m)=some (.tup ((gp m t f).map .tup)):=by
   unfold jm;rw[IX,qe (QV _) (by rw[Rg,Rm];omega)];congr 1;rw[Ti (by show f.length<=m;omega)];exact List.getElem_singleton _
  have ct:cutD (jm m t f) none (some (m:Int))=f:=by
   rw[tx,<-fml];unfold jm;rw[Tj]
  have gl:=xx m t f;have gw:∀w∈gp m t f,w.length<=16:=λw hw=>by
   unfold gp at hw;obtain⟨r,hr,rfl⟩:=List.mem_map.mp hw
   have:=(T.rl r (List.mem_filter.mp hr).1).1
   rw[Ri];omega
  generalize hA:((((fs m t).take i).flatMap λf=>(gp m t f).map (f++·)).map D.tup)=A;have al:A.length<=t.length:=by
   rw[<-hA,Q1]
   conv=>rhs;rw[<-fi,<-Tf i (fs m t),Tc,Rg]
   omega
  have lc:jX [none,some 3,some 0] (bT (f2 aG (ah 3) (ah 0))) (gN 0) (dH) (f2 ce (dJ (ah 1) (cN) (fI (ah 2))) (ah 0)) [‹.int m›,‹vw m t›,some (.own (.lst A)),‹.tup (jm m t f)›]=.ok (.lst (((gp m t f).map (f++·)).map .tup)):=by
   refine eU (ds:=(gp m t f).map .tup) (by simp! only[ix]) (by rw[Q1];omega) ?_
   have:=jo (ρ:=inB [none,some 3,some 0] [‹.int m›,‹vw m t›,some (.own (.lst A)),‹.tup (jm m t f)›]) (g:=gN 0) (C:=dH) (Fe:=f2 ce (dJ (ah 1) (cN) (fI (ah 2))) (ah 0)) D.tup (λw=>.tup (f++w)) (gp m t f) λw hw=>by
    have ad:=iW f w (by have:=gw w hw;omega);refine⟨[‹.tup w›,‹.tup (jm m t f)›,‹.int m›],rfl,rfl,?_⟩;simp! only[ct,ad]
   rw[this,SD];rfl
  refine⟨_,_,rfl,rfl,?_⟩;have e1:(((fs m t).take (i+1)).flatMap λf=>(gp m t f).map (f++·)).map D.tup=A++((gp m t f).map (f++·)).map .tup:=by
   rw[Th hi,<-ef,Tc,RQ,hA,Td]
  rw[e1];have ex:∀K:Ks,ED 2 (jX [none,some 3,some 0] (bT (f2 aG (ah 3) (ah 0))) (gN 0) (dH) (f2 ce (dJ (ah 1) (cN) (fI (ah 2))) (ah 0))) K [‹.int m›,‹vw m t›,some (.own (.lst A)),‹.tup (jm m t f)›]=K.nx [‹.int m›,‹vw m t›,some (.own (.lst (A++((gp m t f).map (f++·)).map .tup))),‹.tup (jm m t f)›]:=λK=>by
   show sZ _ K _ _=_;rw[lc,rW];show(if small _ then _ else _)=_;rw[if_pos (dE (by rw[Q1,Q1];omega))];rfl
  generalize A++((gp m t f).map (f++·)).map .tup=Y at ex ⊢;simp! only[ex]
 ·rintro ρ' rfl;rw[Q1,RV,fi];simp! only[]
def ue(T:Tab σ t)(hm:m<=σ.length):aK fg 2 4 [.int m,.tup (t.map .tup)]=.ok (oR ((fs m t).map λf=>(kq f,.tup ((gp m t f).map .tup)))):=by
 have fsh:=T.fsh hm;have fl:=mI m t;have tl:=T.ln;have fsL:=yU t fsh;obtain⟨TT,hT⟩:∃TT:cm,TT=(vC 2 (bM (fL uo (af (jX [none,none] (jk (ah 2)) (gT 2 (lE [0,1])) (dH) (fF (af (ah 0) (af (fL cR (af (ah 1) (aw))) (aw))))) (aw))))):=⟨_,rfl⟩
 rw[dR];unfold fg;rw[<-hT];have nn:∀K:Ks,zg 2 K [‹.int m›,‹.tup (t.map .tup)›,none,none]=K.nx [‹.int m›,‹.tup (t.map .tup)›,some (.nest (dB [])),none]:=λK=>rfl;simp! only[nn];refine dP (Q:=λz=>z=.ok (oR ((fs m t).map λf=>(kq f,.tup ((gp m t f).map .tup))))) (λi ρ=>ρ=[‹.int m›,‹.tup (t.map .tup)›,some (.nest (dB ((fs m (t.take i)).map λf=>(kq f,.lst ((gp m (t.take i) f).map .tup))))),none]) ?_ rfl ?_
 ·rintro i d ρ kk hd rfl;have hi:=cw hd;rw[Q1]at hi;rw[Rb,RJ hi]at hd;cases hd;have rm:t[i]∈t:=Sy hi;have fi:=mI m (t.take i);rw[Q7]at fi;have gi:=EK (σ:=σ.take m) (t[i].take m) (.tup (t[i].drop m)) (fsh _ rm) (λf=>(gp m (t.take i) f).map .tup) (fs m (t.take i)) (yU _ λr hr=>fsh r (To hr)) (EL m _) (λf _=>by
   have:=xx m (t.take i) f
   rw[Q7]at this;rw[Q1];omega) (λz=>by
    unfold gp;rw[List.filter_eq_nil_iff.mpr]
    ·rfl
    ·intro x hx y;exact z ((lQ m).mpr ⟨x,hx,by simpa using y⟩))
  have ge:∀f,((gp m (t.take i) f).map D.tup++if t[i].take m=f then[.tup (t[i].drop m)]else[])=(gp m (t.take (i+1)) f).map .tup:=λf=>by
   rw[zN hi,sU,RQ];by_cases h:t[i].take m=f
   ·rw[if_pos h,if_pos h];rfl
   ·rw[if_neg h,if_neg h];rfl
  have fe:fs m (t.take (i+1))=if t[i].take m∈fs m (t.take i)then fs m (t.take i)else fs m (t.take i)++[t[i].take m]:=by
   rw[zN hi,ox];rfl
  rw[<-fe]at gi;simp only[ge]at gi;refine⟨_,_,rfl,rfl,?_⟩;have gr:∀K:Ks,DF 2 (dJ (ah 3) (cN) (fI (ah 0))) (dJ (ah 3) (fI (ah 0)) (cN)) K [‹.int m›,‹.tup (t.map .tup)›,some (.nest (dB ((fs m (t.take i)).map λf=>(kq f,.lst ((gp m (t.take i) f).map .tup))))),‹.tup t[i]›]=K.nx [‹.int m›,‹.tup (t.map .tup)›,some (.nest (dB ((fs m (t.take (i+1))).map λf=>(kq f,.lst ((gp m (t.take (i+1)) f).map .tup))))),‹.tup t[i]›]:=λK=>by
   generalize hal:((fs m (t.take i)).map λf=>(kq f,D.lst ((gp m (t.take i) f).map .tup)))=al at gi;have all:al.length<=t.length:=(by rw[<-hal,Q1];omega);have g2:yw (encK al) (al.map (·.2)) (.tup (t[i].take m)) (.tup (t[i].drop m))=some ((fs m (t.take (i+1))).map λf=>(kq f,.lst ((gp m (t.take (i+1)) f).map .tup))):=by
    unfold yw;rw[kX];show(jS (.tup (t[i].take m))).bind _=_
    have:t[i].take m=(kq (t[i].take m)).map bx:=(vE (fsh _ rm)).symm
    rw[this,qj];show(if small al.length then _ else _)=_;rw[if_pos (dE ‹0›)];exact gi
   have k1:dJ (ah 3) (cN) (fI (ah 0)) [‹.int m›,‹.tup (t.map .tup)›,some (.nest (dB al)),‹.tup t[i]›]=.ok (.tup (t[i].take m)):=by
    generalize dB al=Z;simp! only[tx]
   have k2:dJ (ah 3) (fI (ah 0)) (cN) [‹.int m›,‹.tup (t.map .tup)›,some (.nest (dB al)),‹.tup t[i]›]=.ok (.tup (t[i].drop m)):=by
    generalize dB al=Z;simp! only[y4]
   show(((Ab _).bind λq=>(Ab _).bind λv=>rO (yw (encK al) (al.map (·.2)) q v)).bind _)=_;rw[k1,k2,gf,cu,gf,cu,g2,eB,cu];rfl
  generalize dB ((fs m (t.take (i+1))).map λf=>(kq f,.lst ((gp m (t.take (i+1)) f).map .tup)))=Y at gr ⊢;generalize dB ((fs m (t.take i)).map λf=>(kq f,.lst ((gp m (t.take i) f).map .tup)))=Z at gr ⊢;simp! only[gr]
 ·rintro ρ' rfl;rw[Q1,RV,hT];generalize hal:((fs m t).map λf=>(kq f,D.lst ((gp m t f).map .tup)))=al;have all:al.length<=t.length:=by rw[<-hal,Q1];omega
  have fz:∀(F:cm)(K:Ks),vC 2 F K [‹.int m›,‹.tup (t.map .tup)›,some (.nest (dB al)),none]=F K [‹.int m›,‹.tup (t.map .tup)›,‹oR al›,none]:=λF K=>by
   show F K (match kH (encK al) (al.map (·.2))with|some al=>setV 2 (oR al) _|none=>_)=_;rw[kX];rfl
  have knd:=Hg (m:=m) (σ:=σ) (fs m t) (EL m t) fsL (λf=>.tup ((gp m t f).map .tup));have pr:=tQ ((fs m t).map λf=>(kq f,D.tup ((gp m t f).map .tup)));have df:uo [.lst (((fs m t).map λf=>(kq f,D.tup ((gp m t f).map .tup))).map kP)]=some (oR ((fs m t).map λf=>(kq f,.tup ((gp m t f).map .tup)))):=by
   show(i5 _).bind _=_;rw[pr];show(if small _ then _ else _)=_;rw[if_pos (dE (by rw[Q1];omega))]
   have:=xZ ((fs m t).map λf=>(kq f,D.tup ((gp m t f).map .tup))) [] knd
   unfold vQ;rw[this];rfl
  have it:=uL al;have lc:jX [none,none] (jk (ah 2)) (gT 2 (lE [0,1])) (dH) (fF (af (ah 0) (af (fL cR (af (ah 1) (aw))) (aw)))) [‹.int m›,‹.tup (t.map .tup)›,‹oR al›,none]=.ok (.lst (((fs m t).map λf=>(kq f,D.tup ((gp m t f).map .tup))).map kP)):=by
   refine eU (ds:=al.map kP) ?_ (by rw[Q1];omega) ?_
   ·show((ah 2 _).bind _)=_;generalize oR al=Z at it;simp! only[it]
   ·rw[<-hal,SD,SD];refine jo _ _ (fs m t) λf hf=>?_;refine⟨[‹.tup ((kq f).map bx)›,‹.lst ((gp m t f).map .tup)›],rfl,rfl,?_⟩;simp! only[Id];rfl
  generalize oR al=Z at lc fz;generalize dB al=Z0 at fz ⊢;generalize oR ((fs m t).map λf=>(kq f,D.tup ((gp m t f).map .tup)))=Y at df ⊢;simp! only[fz,lc,df]
def Kb(T:Tab σ t)(hm:m<=σ.length)(o f:D)(ho:lK "many" ["Nest"] o=some (.int m)):aK eJ 3 3 [o,f,.tup (t.map .tup)]=.ok (vw m t):=by
 have gi:=ue T hm;have fl:=mI m t;have tl:=T.ln;have fsL:=yU t (T.fsh hm);rw[ph];unfold eJ;have it:=uL ((fs m t).map λf=>(kq f,D.tup ((gp m t f).map .tup)));have lc:jX [none,none] (jk (fR (aK fg 2 4) (af (f1 (lK "many" ["Nest"]) (ah 0)) (af (ah 2) (aw))))) (gT 2 (lE [0,1])) (dH) (f2 ce (ah 0) (fF (af (ah 1) (aw)))) [‹o›,‹f›,‹.tup (t.map .tup)›]=.ok (.lst ((fs m t).map λf=>.tup (jm m t f))):=by
  refine eU (ds:=((fs m t).map λf=>(kq f,D.tup ((gp m t f).map .tup))).map kP) ?_ (by rw[Q1,Q1];omega) ?_
  ·show(Except.bind _ _)=_;generalize oR ((fs m t).map λf=>(kq f,D.tup ((gp m t f).map .tup)))=Z at gi it;simp! only[ho,gi,it]
  ·rw[SD];refine jo _ _ (fs m t) λf hf=>?_;have ad:ce (.tup ((kq f).map bx)) (.tup [.tup ((gp m t f).map .tup)])=some (.tup (jm m t f)):=by
    have:=Cv T f hf
    rw[vE (fsL f hf)];exact iW f _ (by rw[Rm];omega)
   refine⟨[‹.tup ((kq f).map bx)›,‹.tup ((gp m t f).map .tup)›],rfl,rfl,?_⟩;simp! only[Pm,ad]
 unfold vw;simp! only[lc]
def Hw(T:Tab σ t)(hm:m<=σ.length)(o f b:D)(ho:lK "many" ["Nest"] o=some (.int m)):aK eA 4 4 [o,f,b,vw m t]=.ok (.tup (t.map .tup)):=by
 have ui:=rK T hm;rw[Bg];unfold eA;simp! only[ho,ui]
def Tab.ALt(T:Tab σ t):AL 8 (.tup (t.map .tup)):=by
 have:=T.ln
 refine AL.tup (by rw[Q1];omega) λv hv=>?_;obtain⟨r,hr,rfl⟩:=List.mem_map.mp hv
 have:=(T.rl r hr).1
 exact AL.tup ‹0› (T.al r hr)
def DB{ρ:aq}{C:aq->R Bool}(t:List (List D))(o:Nat)(hC:∀(i:Nat)(r:List D),∃ρ1 b,gT 2 (lE [0,1]) (.tup [.int i,.tup r]) ρ=some ρ1/\C ρ1=.ok b/\ah 1 ρ1=.ok (.tup r)):∃s:List (List D),s.Sublist t/\Ac ρ (gT 2 (lE [0,1])) C (ah 1) (gP o (t.map .tup))=.ok (s.map .tup):=by
 induction t generalizing o with
 |nil=>exact⟨[],List.Sublist.refl _,rfl⟩
 |cons r t ih=>
  obtain⟨s,h1,h2⟩:=ih (o+1);obtain⟨ρ1,b,e1,e2,e3⟩:=hC o r;show∃s,_/\Ac ρ _ C (ah 1) (D.tup [.int o,.tup r]::gP (o+1) (t.map .tup))=_;rw[kY,e1,eB,cu,e2,gf,cu,h2];cases b with
  |false=>exact⟨s,h1.cons _,rfl⟩
  |true=>
   refine⟨r::s,h1.cons₂ _,?_⟩;rw[if_pos rfl,e3,gf,cu,cu];rfl
end
end
def AB:Nat->D->Prop
 |0,d=>(∃i,d=.int i)\/(∃x,d=.str x)\/∃b,d=.bl b
 |n+1,d=>((∃i,d=.int i)\/(∃x,d=.str x)\/∃b,d=.bl b)\/∃ds,d=.tup ds/\ds.length<=1000/\∀x∈ds,AB n x
def AB.of0{d:D}(h:AB 0 d):∀n,AB n d
 |0=>h
 |_+1=>.inl h
def AB.up:∀{n:Nat}{d:D},AB n d->AB (n+1) d
 |0,_,h=>.inl h
 |n+1,_,h=>by
  rcases h with h|⟨ds,e,l,f⟩
  ·exact .inl h
  ·exact .inr ⟨ds,e,l,λx hx=>AB.up (f x hx)⟩
def AB.le{n m:Nat}(h:n<=m){d:D}(hd:AB n d):AB m d:=by
  induction m with
  | zero => have : n = 0 := by omega
            subst this;exact hd
  |succ m ih=>
    by_cases e:n=m+1
    ·subst e;exact hd
    ·exact AB.up (ih ‹0›)
def AB.tup{n:Nat}{ds:List D}(l:ds.length<=1000)(h:∀x∈ds,AB n x):AB (n+1) (.tup ds):=.inr ⟨ds,rfl,l,h⟩
def AB.str{n:Nat}(x:Str):AB n (.str x):=AB.of0 (.inr (.inl ⟨x,rfl⟩)) n
def AB.int{n:Nat}(i:Int):AB n (.int i):=AB.of0 (.inl ⟨i,rfl⟩) n
def AB.bl{n:Nat}(b:Bool):AB n (.bl b):=AB.of0 (.inr (.inr ⟨b,rfl⟩)) n
def uh(g:Nat)(d:D)(h:AB 0 d):aC (g+1) [d,d]=.ok (.bl true):=by
 show aK (cD (aC g)) 2 4 [d,d]=_;rw[dR];unfold cD;rcases h with⟨i,rfl⟩|⟨x,rfl⟩|⟨b,rfl⟩
 ·have t2:iS "str" (.int i)=some (.bl false):=rfl;have t3:iS "int" (.int i)=some (.bl true):=rfl;have t4:iS "bool" (.int i)=some (.bl false):=rfl;simp! only[t2,t3,t4,beq_self_eq_true,RL]
 ·have t2:iS "str" (.str x)=some (.bl true):=rfl;simp! only[t2,beq_self_eq_true,RL]
 ·have t2:iS "str" (.bl b)=some (.bl false):=rfl;have t4:iS "bool" (.bl b)=some (.bl true):=rfl;simp! only[t2,t4,beq_self_eq_true,RL]
def HD:∀(n g:Nat)(d:D),n<g->AB n d->aC g [d,d]=.ok (.bl true):=by
 intro n
 induction n with
 |zero=>
  intro g d hg hd;obtain⟨g,rfl⟩:∃g',g=g'+1:=⟨g-1,by omega⟩
  exact uh g d hd
 |succ n ih=>
  intro g d hg hd;obtain⟨g,rfl⟩:∃g',g=g'+1:=⟨g-1,by omega⟩
  rcases hd with h|⟨ds,rfl,dl,hds⟩
  ·exact uh g d h
  ·show aK (cD (aC g)) 2 4 [.tup ds,.tup ds]=_;rw[dR];unfold cD;have t1:iS "tuple" (.tup ds)=some (.bl true):=rfl;have t2:iS "str" (.tup ds)=some (.bl false):=rfl;have t3:iS "int" (.tup ds)=some (.bl false):=rfl;have t4:iS "bool" (.tup ds)=some (.bl false):=rfl;simp! only[t1,t2,t3,t4,beq_self_eq_true,wH];refine dP (Q:=λz=>z=.ok (.bl true)) (λi ρ=>ρ=[‹.tup ds›,‹.tup ds›,none,none]) ?_ rfl ?_
   ·rintro i d ρ kk hd rfl;obtain⟨x,hx,rfl⟩:=zip_get ds i d hd;have ea:=ih g x ‹0› (hds x hx);refine⟨[‹.tup ds›,‹.tup ds›,‹x›,‹x›],_,rfl,rfl,?_⟩;simp! only[ea]
   ·rintro ρ' rfl;rfl
def Cj(c:Kd)(h:c.gd):AB 2 c.d:=by
 cases c with
 |num lo hi=>
  exact AB.tup (by simp) λx hx=>by
   rcases List.mem_cons.mp hx with rfl|hx
   ·exact AB.str _
   ·rcases List.mem_cons.mp hx with rfl|hx
    ·exact AB.int _
    ·rw[List.mem_singleton.mp hx];exact AB.int _
 |wrd ws=>
  have hl:ws.length<=100:=h.2;exact AB.tup (by simp) λx hx=>by
   rcases List.mem_cons.mp hx with rfl|hx
   ·exact AB.str _
   ·rw[List.mem_singleton.mp hx];exact AB.tup (by rw[Q1];omega) λy hy=>by
     obtain⟨w,_,rfl⟩:=List.mem_map.mp hy;exact AB.str _
def ya{n:Nat}{a b:D}(ha:AB n a)(hb:AB n b):AB (n+1) (.tup [a,b]):=AB.tup (by simp) λx hx=>by
 rcases List.mem_cons.mp hx with rfl|hx
 ·exact ha
 ·rw[List.mem_singleton.mp hx];exact hb
def sV{n:Nat}{L:List D}(hl:L.length<=1000)(h:∀d∈L,∃(w:Str)(k:D),d=.tup [.str w,k]/\AB n k):AB (n+2) (.tup L):=AB.tup hl λx hx=>by
 obtain⟨w,k,rfl,hk⟩:=h x hx;exact ya (AB.str _) hk
def CC{n:Nat}{f:D}(b:Bool)(hf:AB n f):AB (n+1) (.tup [.str "rows",f,.bl b]):=AB.tup (by simp) λx hx=>by
 rcases List.mem_cons.mp hx with rfl|hx
 ·exact AB.str _
 ·rcases List.mem_cons.mp hx with rfl|hx
  ·exact hf
  ·rw[List.mem_singleton.mp hx];exact AB.bl _
def Gk{n:Nat}(ks:KL)(qs:List (Str×D))(k8:ks.length<=8)(q8:qs.length<=8)(hk:∀p∈ks,p.2.gd)(hq:∀q∈qs,AB (2+n) q.2):AB (5+n) (fr ks qs):=by
 have e:5+n=(2+n+2)+1:=by omega
 rw[e];refine ya (sV (by rw[Q1];omega) λd hd=>?_) (sV (by rw[Q1];omega) λd hd=>?_)
 ·obtain⟨p,hp,rfl⟩:=List.mem_map.mp hd;exact⟨p.1,p.2.d,rfl,AB.le ‹0› (Cj p.2 (hk p hp))⟩
 ·obtain⟨p,hp,rfl⟩:=List.mem_map.mp hd;exact⟨p.1,p.2,rfl,hq p hp⟩
def Gx:∀(n:Nat)(d:D),KG n d->AB (2+4*n) d
 |0,d,h=>by
  obtain⟨c,hc,rfl⟩:=h;exact Cj c hc
 |n+1,d,h=>by
  rcases h with⟨c,hc,rfl⟩|⟨ks,qs,b,rfl,_,k8,hk,q8,hq⟩
  ·exact AB.le ‹0› (Cj c hc)
  ·have:=CC b (Gk (n:=4*n) ks qs k8 q8 hk λq hq'=>Gx n _ (hq q hq'))
   exact AB.le ‹0› this
def Al{ρ:aq}{g:GF}{C:aq->R Bool}{Fe:FX}(P:D->Prop):∀ds:List D,(∀d∈ds,∃ρ1 b,g d ρ=some ρ1/\C ρ1=.ok b/\(b=true->∃v,Fe ρ1=.ok v/\P v))->∃vs:List D,(∀v∈vs,P v)/\Ac ρ g C Fe ds=.ok vs
 |[],_=>⟨[],(λ_ h=>nomatch h),rfl⟩
 |d::ds,h=>by
  obtain⟨ρ1,b,e1,e2,e3⟩:=h d QN;obtain⟨vs,v1,v2⟩:=Al P ds λx hx=>h x (QO _ hx);rw[kY,e1,eB,cu,e2,gf,cu,v2];cases b with
  |false=>exact⟨vs,v1,rfl⟩
  |true=>
   obtain⟨v,ev,pv⟩:=e3 rfl;refine⟨v::vs,λx hx=>?_,by rw[if_pos rfl,ev,gf,cu,cu]⟩;rcases List.mem_cons.mp hx with rfl|hx
   ·exact pv
   ·exact v1 x hx
def Cm{n:Int}:∀(vs:List Int)(a:Int),0<=a->a<=n->(∀v∈vs,0<v/\v<=n)->0<=vs.foldl mx a/\vs.foldl mx a<=n
 |[],a,h0,h1,_=>⟨h0,h1⟩
 |v::vs,a,h0,h1,h=>by
  rw[Sq]
  have:=h v QN
  exact Cm vs _ (by unfold mx;split<;>omega) (by unfold mx;split<;>omega) λw hw=>h w (QO _ hw)
def ints_of(n:Int):∀vs:List D,(∀v∈vs,∃z:Int,v=.int z/\0<z/\z<=n)->∃zs:List Int,vs=zs.map .int/\∀z∈zs,0<z/\z<=n
 |[],_=>⟨[],rfl,λ_ h=>nomatch h⟩
 |v::vs,h=>by
  obtain⟨z,e,hz⟩:=h v QN;obtain⟨zs,ez,hs⟩:=ints_of n vs λx hx=>h x (QO _ hx);exact⟨z::zs,by rw[e,ez];rfl,λx hx=>by
   rcases List.mem_cons.mp hx with rfl|hx
   ·exact hz
   ·exact hs x hx⟩
def BQ(c:Kd):∃x:Str,aG c.d (.int 0)=some (.str x)/\(x==("rows":Str))=false:=by
 cases c with
 |num lo hi=>exact⟨"number",rfl,K6⟩
 |wrd ws=>exact⟨"word",rfl,IR⟩
def Ft:∀(n g:Nat),n+1<=g->∀(ks:KL)(qs:List (Str×D)),ks.length<=8->qs.length<=8->(∀q∈qs,KG n q.2)->∃d:Int,0<=d/\d<=n/\bw g [fr ks qs]=.ok (.int d):=by
 intro n
 induction n with
 |zero=>
  intro g hg ks qs k8 q8 hq;obtain⟨g,rfl⟩:∃g',g=g'+1:=⟨g-1,by omega⟩
  have ko:=GP (ks.map toD) qs (by rw[Q1];exact k8) q8;have ko:aK d7 1 1 [fr ks qs]=.ok (.tup ((ks.map toD++qs).map (·.2))):=by
   unfold fr;rw[tY];exact ko
  obtain⟨vs,v1,v2⟩:=Al (ρ:=[none]) (g:=gN 0) (C:=fB (f2 lI (f2 aG (ah 0) (fC (.int 0))) (fC (.str "rows")))) (Fe:=f2 ce (fC (.int 1)) (fR (bw g) (af (f2 aG (ah 0) (fC (.int 1))) (aw)))) (λ_=>False) ((ks.map toD++qs).map (·.2)) λd hd=>by
   obtain⟨p,hp,rfl⟩:=List.mem_map.mp hd;obtain⟨c,ec⟩:∃c:Kd,p.2=c.d:=by
    rcases List.mem_append.mp hp with z|z
    ·obtain⟨k,_,rfl⟩:=List.mem_map.mp z;exact⟨k.2,rfl⟩
    ·obtain⟨c,_,e⟩:=hq p z;exact⟨c,e⟩
   obtain⟨x,i1,i2⟩:=BQ c;rw[ec];exact⟨[‹c.d›],false,rfl,by simp! only[i1,i2],λz=>by cases z⟩
  have vs0:vs=[]:=List.eq_nil_iff_forall_not_mem.mpr λv hv=>v1 v hv;subst vs0;refine⟨0,by decide,by decide,?_⟩;rw[fM,kD];unfold jR;have f0:jX [none] (bT (fR (aK d7 1 1) (af (ah 0) (aw)))) (gN 0) (fB (f2 lI (f2 aG (ah 0) (fC (.int 0))) (fC (.str "rows")))) (f2 ce (fC (.int 1)) (fR (bw g) (af (f2 aG (ah 0) (fC (.int 1))) (aw)))) [‹fr ks qs›]=.ok (.lst []):=
   eU (ds:=(ks.map toD++qs).map λp:Str×D=>p.2) (by simp! only[ko]) (by rw[Q1,Rg,Q1];omega) v2
  have gm:se 0 (.lst [])=some (.int 0):=rfl;simp! only[f0,gm]
 |succ n ih=>
  intro g hg ks qs k8 q8 hq;obtain⟨g,rfl⟩:∃g',g=g'+1:=⟨g-1,by omega⟩
  have ko:=GP (ks.map toD) qs (by rw[Q1];exact k8) q8;have ko:aK d7 1 1 [fr ks qs]=.ok (.tup ((ks.map toD++qs).map (·.2))):=by
   unfold fr;rw[tY];exact ko
  obtain⟨vs,v1,v2⟩:=Al (ρ:=[none]) (g:=gN 0) (C:=fB (f2 lI (f2 aG (ah 0) (fC (.int 0))) (fC (.str "rows")))) (Fe:=f2 ce (fC (.int 1)) (fR (bw g) (af (f2 aG (ah 0) (fC (.int 1))) (aw)))) (λv=>∃z:Int,v=.int z/\0<z/\z<=((n+1:Nat):Int)) ((ks.map toD++qs).map (·.2)) λd hd=>by
   obtain⟨p,hp,rfl⟩:=List.mem_map.mp hd;have pc:(∃c:Kd,p.2=c.d)\/∃(ks:KL)(qs:List (Str×D))(b:Bool),p.2=.tup [.str "rows",fr ks qs,.bl b]/\ks.length<=8/\qs.length<=8/\∀q∈qs,KG n q.2:=by
    rcases List.mem_append.mp hp with z|z
    ·obtain⟨k,_,rfl⟩:=List.mem_map.mp z;exact .inl ⟨k.2,rfl⟩
    ·rcases hq p z with⟨c,_,e⟩|⟨ks,qs,b,e,_,k8,_,q8,hq⟩
     ·exact .inl ⟨c,e⟩
     ·exact .inr ⟨ks,qs,b,e,k8,q8,hq⟩
   rcases pc with⟨c,ec⟩|⟨ks',qs',b,ec,k8',q8',hq'⟩
   ·obtain⟨x,i1,i2⟩:=BQ c;rw[ec];exact⟨[‹c.d›],false,rfl,by simp! only[i1,i2],λz=>by cases z⟩
   ·obtain⟨d,d0,d1,ed⟩:=ih g ‹0› ks' qs' k8' q8' hq';rw[ec];exact⟨[‹.tup [.str "rows",fr ks' qs',.bl b]›],true,rfl,by simp! only[BEq.rfl],λ_=>⟨.int (1+d),by simp! only[ed],1+d,rfl,by omega,by omega⟩⟩
  obtain⟨zs,rfl,hz⟩:=ints_of _ vs v1;obtain⟨f0,f1⟩:=Cm zs 0 (by decide) ‹0› hz;refine⟨zs.foldl mx 0,f0,f1,?_⟩;rw[fM,kD];unfold jR;have f0:jX [none] (bT (fR (aK d7 1 1) (af (ah 0) (aw)))) (gN 0) (fB (f2 lI (f2 aG (ah 0) (fC (.int 0))) (fC (.str "rows")))) (f2 ce (fC (.int 1)) (fR (bw g) (af (f2 aG (ah 0) (fC (.int 1))) (aw)))) [‹fr ks qs›]=.ok (.lst (zs.map .int)):=
   eU (ds:=(ks.map toD++qs).map λp:Str×D=>p.2) (by simp! only[ko]) (by rw[Q1,Rg,Q1];omega) v2
  have gm:se 0 (.lst (zs.map .int))=some (.int (zs.foldl mx 0)):=by
   unfold se;simp only[zB];show some (D.int _)=_;rw[E7 _ λv hv=>(hz v hv).1]
  simp! only[f0,gm]
abbrev nst(m:Nat)(nm:Str):D:=.obj "Nest" ["many","name"] [.int m,.str nm]
theorem Li(m:Nat)(nm:Str):lK "many" ["Nest"] (nst m nm)=some (.int m):=by rfl
theorem Ox(m:Nat)(nm:Str):lK "name" ["Nest"] (nst m nm)=some (.str nm):=by rfl
abbrev vf(ks:KL)(qs:List (Str×D))(m:Nat)(nm:Str):D:=.tup [.tup ((ks.take m).map kf),.tup [.tup [.str nm,.tup [.str "rows",.tup [.tup ((ks.drop m).map kf),.tup (qs.map fld)],.bl true]]]]
def L7(ks:KL)(qs:List (Str×D))(m:Nat)(nm:Str)(n:Nat)(hn:n<=2)(k8:ks.length<=8)(q8:qs.length<=8)(hk:∀p∈ks,p.2.gd)(hq:∀q∈qs,KG n q.2):AB 17 (vf ks qs m nm):=by
 have i1:=Gk (n:=4*n) (ks.drop m) qs (by rw[Ri];omega) q8 (λp h=>hk p (Tp h)) λq h=>Gx n _ (hq q h);have i2:=CC true i1;refine AB.le (n:=(5+4*n+1+2)+1) ‹0› (ya (sV (by rw[Q1,Q7];omega) λd hd=>?_) (sV (by simp) λd hd=>?_))
 ·obtain⟨p,hp,rfl⟩:=List.mem_map.mp hd;exact⟨p.1,p.2.d,rfl,AB.le ‹0› (Cj p.2 (hk p (To hp)))⟩
 ·rw[List.mem_singleton.mp hd];exact⟨nm,_,rfl,i2⟩
def Hk(ks:KL)(qs:List (Str×D))(m:Nat)(nm:Str)(n:Nat)(hn:n<=2)(m1:1<=m)(m2:m<ks.length)(k8:ks.length<=8)(q8:qs.length<=8)(hq:∀q∈qs,KG n q.2)(hnm:nm∉(ks.take m).map (·.1)):aK bR 2 4 [nst m nm,fr ks qs]=.ok (vf ks qs m nm):=by
 obtain⟨d,d0,d1,ed⟩:=Ft n 20 ‹0› (ks.drop m) qs (by rw[Ri];omega) q8 hq;have ed:bw 20 [.tup [.tup ((ks.drop m).map kf),.tup (qs.map fld)]]=.ok (.int d):=ed;have wh:aK jK 1 1 [.int m]=.ok (.bl true):=by
  have t3:iS "int" (.int m)=some (.bl true):=rfl;have t4:iS "bool" (.int m)=some (.bl false):=rfl;rw[kD];unfold jK;simp! only[t3,t4,RL]
 have c1:decide ((1:Int)<=(m:Int))=true:=decide_eq_true ‹0›;have c2:decide ((m:Int)<(ks.length:Int))=true:=decide_eq_true ‹0›;have ct:cutD (ks.map kf) none (some (m:Int))=(ks.take m).map kf:=by rw[tx,Tq]
 have cf:cutD (ks.map kf) (some (m:Int)) none=(ks.drop m).map kf:=by rw[y4,List.map_drop]
 have dg:decide (d>=3)=false:=decide_eq_false ‹0›;have lc:∀a3,jX [none] (bT (ah 2)) (gN 0) (dH) (f2 aG (ah 0) (fC (.int 0))) [‹nst m nm›,‹fr ks qs›,‹.tup ((ks.take m).map kf)›,a3]=.ok (.lst (((ks.take m).map (·.1)).map .str)):=λa3=>by
  refine eU (ds:=(ks.take m).map kf) (by simp! only[]) (by rw[Q1,Q7];omega) ?_;rw[SD];refine jo kf _ (ks.take m) λp hp=>⟨[‹kf p›],rfl,rfl,?_⟩
  have:aG (kf p) (.int 0)=some (.str p.1):=rfl
  simp! only[this];rfl
 have inn:Jw (.str nm) (.lst (((ks.take m).map (·.1)).map .str))=some (.bl false):=by
  rw[Ir];congr 2;cases h:((ks.take m).map (·.1)).contains nm with
  |false=>rfl
  |true=>exact absurd (List.contains_iff_mem.mp h) hnm
 have fm:=Li m nm;have fn:=Ox m nm;rw[dR];unfold bR;generalize (((ks.take m).map (·.1)).map D.str)=A at lc inn;generalize nst m nm=O at lc fm fn;simp! only[fm,fn,wh,Q1,c1,c2,ct,cf,lc,inn,Id,Pm,P9,ed,dg,RL]
section
open Classical
variable{σ τ:List Bool}{t:List (List D)}{m:Nat}
def E5{T:List (List D)}(hs:∀r∈T,Sh τ (r.take m))(h:JD m T):T.Pairwise λa b=>a.take m≠b.take m:=
 List.Pairwise.imp_of_mem (λ{a b} ha hb e z=>by rw[z,me (hs b hb)]at e;cases e) h
structure So(τ:List Bool)(m:Nat)(L:List (List D)):Prop where
 t0:τ≠[]
 hm:m=τ.length
 sh:∀r∈L,Sh τ (r.take m)
 pw:L.Pairwise λa b=>a.take m≠b.take m
 ln:L.length<64
def So.prog{L T:List (List D)}(h:So τ m L)(r:JD m T)(p:T.Perm L):aK iP 2 2 [.int m,.lst (L.map .tup)]=.ok (.tup (T.map .tup)):=by
 have k:LY m (L.map .tup):=⟨by rw[Q1];exact h.ln,τ,h.t0,λx hx=>by
  obtain⟨r,hr,rfl⟩:=List.mem_map.mp hx;exact⟨r,rfl,h.sh r hr⟩,List.pairwise_map.mpr h.pw⟩
 have so:ku (uV m) (L.map .tup)=T.map .tup:=by
  refine zY (σ:=τ) (λx hx=>?_) ?_ ?_ (p.map _)
  ·obtain⟨r,hr,rfl⟩:=List.mem_map.mp hx;exact h.sh r hr
  ·exact List.pairwise_map.mpr h.pw
  ·exact List.pairwise_map.mpr r
 have e:qA (.lst (L.map .tup)) (.int m)=some (.lst (T.map .tup)):=by
  show(if(0:Int)<=(m:Int)then uw ((m:Int)).toNat (L.map .tup)else none)=_;rw[if_pos ‹0›,Rh];unfold uw;rw[if_pos k,so]
 rw[dR];unfold iP;simp! only[e]
noncomputable def Nn(m:Nat)(s:List (List D)):List (List D):=(fs m s).map (jm m s)
def yu(m:Nat)(s:List (List D)):vw m s=.tup ((Nn m s).map .tup):=by unfold vw Nn;rw[SD];rfl
noncomputable def Qg(m:Nat)(r:List D):Bool:=decide (r[m]?=some (.tup []))
def Cg{f:List D}(h:f.length=m)(s:List (List D)):(jm m s f)[m]?=some (.tup ((gp m s f).map .tup)):=by
 unfold jm;rw[Q8 ‹0›,show m-f.length=0 by omega];rfl
def wF{f:List D}(h:f.length=m)(s:List (List D)):(jm m s f).take m=f:=by
 unfold jm;rw[<-h,Tj]
section
variable{s:List (List D)}
def yn(T:Tab σ s)(hm:m<=σ.length){r:List D}(h:r∈Nn m s):∃f∈fs m s,f.length=m/\Sh (σ.take m) f/\r=jm m s f/\gp m s f≠[]:=by
 obtain⟨f,hf,rfl⟩:=List.mem_map.mp h;refine⟨f,hf,J7 T hm f hf,yU s (T.fsh hm) f hf,rfl,λz=>?_⟩;obtain⟨r,hr,e⟩:=(lQ m).mp hf;unfold gp at z
 have:=List.map_eq_nil_iff.mp z
 exact List.filter_eq_nil_iff.mp this r hr (decide_eq_true e)
def JF(T:Tab σ s)(hm:m<=σ.length){r:List D}(h:r∈Nn m s):Qg m r=false:=by
 obtain⟨f,hf,fl,_,rfl,g0⟩:=yn T hm h;refine decide_eq_false λz=>?_;rw[Cg fl]at z;injection z with z;injection z with z;exact g0 (List.map_eq_nil_iff.mp z)
def HI(T:Tab σ s)(hm:m<=σ.length){r:List D}(h:r∈Nn m s):Sh (σ.take m) (r.take m):=by
 obtain⟨f,hf,fl,sh,rfl,g0⟩:=yn T hm h;rw[wF fl];exact sh
def KJ(T:Tab σ s)(hm:m<=σ.length):(Nn m s).map (λr=>r.take m)=fs m s:=by
 unfold Nn;rw[SD]
 conv=>rhs;rw[<-Tg (fs m s)]
 exact RP λf hf=>wF (J7 T hm f hf) s
def HE(T:Tab σ s)(hm:m<=σ.length):JD m (Nn m s):=by
 have h:=(Fx m rfl T.sh hm T.ri).1;rw[<-KJ T hm]at h;exact List.pairwise_map.mp h
def JC(T:Tab σ s)(hm:m<=σ.length)(m8:m<=8)(h4:∀r∈s,∀v∈r,AL 4 v):Tab (σ.take m) (Nn m s):=by
 have ml:(σ.take m).length=m:=by rw[Q7];omega
 refine⟨λr h=>by rw[ml];exact HI T hm h,by rw[ml];exact HE T hm,?_,λr h=>?_,λr h v hv=>?_⟩
 ·have:=mI m s
  have:=T.ln
  unfold Nn;rw[Q1];omega
 ·obtain⟨f,hf,fl,_,rfl,_⟩:=yn T hm h;unfold jm;rw[Rg,Rm,ml];omega
 ·obtain⟨f,hf,fl,fs',rfl,_⟩:=yn T hm h;unfold jm at hv;rcases List.mem_append.mp hv with z|z
  ·exact(wR fs' v z).of0 _
  ·rw[List.mem_singleton.mp z];have gl:=xx m s f;have tl:=T.ln;refine AL.tup (by rw[Q1];omega) λu hu=>?_;obtain⟨g,hg,rfl⟩:=List.mem_map.mp hu;unfold gp at hg;obtain⟨r,hr,rfl⟩:=List.mem_map.mp hg;have hr:=(List.mem_filter.mp hr).1
   have:=(T.rl r hr).1
   exact AL.tup (by rw[Ri];omega) λx hx=>h4 r hr x (Tp hx)
end
def Kj(xs:List D):BJ [.lst xs]=some (.lst xs):=nr rfl
def Ov{r:List D}{m:Nat}{d:D}(h:r[m]?=some d):aG (.tup r) (.int m)=some d:=by
 have hl:=cw h;rw[IX,qe (QV _) ‹0›];rw[RJ hl]at h;exact h
def K4{w:List D}(h:rN w=true):lI (.tup w) (.tup [])=some (.bl (decide (w=[]))):=by
 have e:lI (.tup w) (.tup [])=if(pl (.tup w)&&pl (.tup []))&&(iX 8 (.tup w)||iX 8 (.tup []))then some (.bl (pyEq (.tup w) (.tup [])))else none:=rfl
 have d:iX 8 (.tup [])=true:=rfl;have p:pl (.tup ([]:List D))=true:=rfl;rw[e,eI,h,d,p,Bool.or_true,RL,RL,if_pos rfl];cases w with
 |nil=>rw[decide_eq_true rfl,pyEq];rfl
 |cons a w=>rw[decide_eq_false (by simp),pyEq];rfl
section
variable{s v:List (List D)}
def Iz(T:Tab σ s)(V:Tab σ v)(m1:1<=m)(hm:m<=σ.length)(o f0:D)(kk:List D)(f1:D)(hk:kk.length=m)(hf:f0=.tup [.tup kk,f1]):
  aK de 4 6 [o,f0,.tup ((Nn m s).map .tup),.tup (v.map .tup)]=.ok (.tup ((Nn m v).map .tup)):=by
 have nl0:(Nn m v).length<64:=by
  have:=mI m v
  have:=V.ln
  unfold Nn;rw[Q1];omega
 have sp:=(show So (σ.take m) m (Nn m v)from⟨λz=>by have:=congrArg List.length z;rw[Q7,Rr]at this;omega,by rw[Q7];omega,λr h=>HI V hm h,E5 (λr h=>HI V hm h) (HE V hm),nl0⟩).prog (HE V hm) (List.Perm.refl _);have gi:=ue V hm;have fl:=mI m v;have tl:=V.ln;have fsL:=yU v (V.fsh hm);have it:=uL ((fs m v).map λf=>(kq f,D.tup ((gp m v f).map .tup)));have nl:(Nn m v).length<=63:=by omega
 have lc1:∀tb a5,jX [none,none] (jk (fR (aK fg 2 4) (af (ah 4) (af (ah 3) (aw))))) (gT 2 (lE [0,1])) (dH) (f2 ce (ah 0) (fF (af (ah 1) (aw)))) [‹o›,‹f0›,‹tb›,‹.tup (v.map .tup)›,‹.int m›,a5]=.ok (.lst ((Nn m v).map .tup)):=λtb a5=>by
  refine eU (ds:=((fs m v).map λf=>(kq f,D.tup ((gp m v f).map .tup))).map kP) ?_ (by rw[Q1,Q1];omega) ?_
  ·show(Except.bind _ _)=_;generalize oR ((fs m v).map λf=>(kq f,D.tup ((gp m v f).map .tup)))=Z at gi it;simp! only[gi,it]
  ·unfold Nn;rw[SD,SD];refine jo _ _ (fs m v) λf hf=>?_;have ad:ce (.tup ((kq f).map bx)) (.tup [.tup ((gp m v f).map .tup)])=some (.tup (jm m v f)):=by
    have:=Cv V f hf
    rw[vE (fsL f hf)];exact iW f _ (by rw[Rm];omega)
   refine⟨[‹.tup ((kq f).map bx)›,‹.tup ((gp m v f).map .tup)›],rfl,rfl,?_⟩;simp! only[Pm,ad];rfl
 have vr:∀r∈Nn m v,Sh (σ.take m) (r.take m):=λr h=>HI V hm h;have f2':jX [none,some 0] (bT (ah 1)) (gN 0) (dH) (fF (af (dJ (ah 0) (cN) (fI (ah 1))) (af (ah 0) (aw)))) [‹.int m›,‹.lst ((Nn m v).map .tup)›]=.ok (.lst (((Nn m v).map λr=>(kq (r.take m),D.tup r)).map kP)):=by
  refine eU (ds:=(Nn m v).map .tup) (by simp! only[]) (by rw[Q1];omega) ?_;rw[SD];refine jo D.tup _ (Nn m v) λr hr=>⟨[‹.tup r›,‹.int m›],rfl,rfl,?_⟩
  simp! only[tx,Id];show _=Except.ok (D.tup [.tup ((kq (r.take m)).map bx),.tup r]);rw[vE (vr r hr)]
 have knd:(((Nn m v).map λr=>(kq (r.take m),D.tup r)).map (·.1)).Nodup:=by
  rw[SD];refine List.pairwise_map.mpr (List.Pairwise.imp_of_mem (λ{a b} ha hb ne e=>ne ?_) (E5 vr (HE V hm)));exact A7 (vr a ha) (vr b hb) e
 have gd:xI [.lst (((Nn m v).map λr=>(kq (r.take m),D.tup r)).map kP)]=some (dB ((Nn m v).map λr=>(kq (r.take m),D.tup r))):=by
  show(i5 _).bind _=_;rw[tQ];show(if small _ then _ else _)=_;rw[if_pos (dE (by rw[Q1];omega))];unfold vQ;rw[xZ _ [] knd];rfl
 have bk:aK nq 2 2 [.int m,.lst ((Nn m v).map .tup)]=.ok (dB ((Nn m v).map λr=>(kq (r.take m),D.tup r))):=by
  rw[dR];unfold nq;generalize dB ((Nn m v).map λr=>(kq (r.take m),D.tup r))=Z at gd;simp! only[f2',gd]
 have st:aK jQ 3 4 [.int m,.lst ((Nn m v).map .tup),.lst []]=.ok (.tup ((Nn m v).map .tup)):=by
  generalize dB ((Nn m v).map λr=>(kq (r.take m),D.tup r))=Z at bk;have lc3:jX [none,some 0,some 3] (bT (ah 2)) (gN 0) (fB (f2 xl (dJ (ah 0) (cN) (fI (ah 1))) (ah 2))) (ah 0) [‹.int m›,‹.lst ((Nn m v).map .tup)›,‹.lst []›,‹Z›]=.ok (.lst []):=rfl;have ad:=Ez ((Nn m v).map .tup) [] (by rw[Q1,Rr];omega);rw[Q4]at ad;rw[ph];unfold jQ;simp! only[bk,lc3,Kj,ad,sp]
 have lc2:∀a3,jX [none,some 4] (bT (ah 2)) (gN 0) (fB (f2 lI (f2 aG (ah 0) (ah 1)) (fF (aw)))) (ah 0) [‹o›,‹f0›,‹.tup ((Nn m s).map .tup)›,a3,‹.int m›,‹.lst ((Nn m v).map .tup)›]=.ok (.lst []):=λa3=>by
  refine eU (ds:=(Nn m s).map .tup) (by simp! only[]) (by
   have:=mI m s
   have:=T.ln
   unfold Nn;rw[Q1,Q1];omega) ?_
  have:=Cp (ρ:=[none,‹.int m›]) (g:=gN 0) (C:=fB (f2 lI (f2 aG (ah 0) (ah 1)) (fF (aw)))) (Fe:=ah 0) D.tup (Qg m) D.tup (Nn m s) λr hr=>by
   obtain⟨f,hf,fl,_,e,g0⟩:=yn T hm hr;have at_:=Cg fl s;have ix:=Ov at_;have eq:=K4 (w:=(gp m s f).map .tup) (xO λx hx=>by
    obtain⟨w,hw,rfl⟩:=List.mem_map.mp hx;unfold gp at hw;obtain⟨r,hr,rfl⟩:=List.mem_map.mp hw;rw[eI];exact xO λy hy=>Jh (T.al r (List.mem_filter.mp hr).1 y (Tp hy)))
   rw[JF T hm hr];rw[decide_eq_false λz=>g0 (List.map_eq_nil_iff.mp z)]at eq;subst e;refine⟨[‹.tup (jm m s f)›,‹.int m›],rfl,?_,λz=>by cases z⟩;generalize (gp m s f).map D.tup=W at ix eq;simp! only[ix,Qz,eq]
  rw[List.filter_eq_nil_iff.mpr λr h=>by rw[JF T hm h];simp]at this;exact this
 rw[Bg];unfold de;subst hf;simp! only[hk,lc1,lc2,st]
def Hx(T:Tab σ s)(hm:m<=σ.length)(o f0:D)(kk:List D)(f1:D)(hk:kk.length=m)(hf:f0=.tup [.tup kk,f1]):aK cZ 3 3 [o,f0,.tup ((Nn m s).map .tup)]=.ok (.tup (s.map .tup)):=by
 have u:=rK T hm;rw[yu]at u;rw[ph];unfold cZ;subst hf;simp! only[hk,u]
end
end
abbrev sr(nm:Str):D:=.obj "Unnest" ["name"] [.str nm]
abbrev pf(ks is:KL)(jq:List (Str×D))(nm:Str)(sm:Bool):D:=.tup [.tup (ks.map kf),.tup [.tup [.str nm,.tup [.str "rows",fr is jq,.bl sm]]]]
def Pb:(["name"]:List Str).contains "exact"=false:=by decide +kernel
def Jz(ks is:KL)(jq:List (Str×D))(nm:Str)(b:Bool)(k8:ks.length<=8)(nd:(ks.map (·.1)++[nm]).Nodup):aK eZ 2 4 [pf ks is jq nm b,.str nm]=.ok (.int ks.length)/\aK ga 2 2 [pf ks is jq nm b,.int ks.length]=.ok (.tup [.str "rows",fr is jq,.bl b]):=by
 have em:ks.map kf++[D.tup [.str nm,.tup [.str "rows",fr is jq,.bl b]]]=(ks.map toD++[(nm,D.tup [.str "rows",fr is jq,.bl b])]).map fld:=by rw[RQ,tY];rfl
 have pl:(ks.map toD++[(nm,D.tup [.str "rows",fr is jq,.bl b])]).length<=100:=by rw[Rg,Q1,Rm];omega
 have hi:(ks.map toD++[(nm,D.tup [.str "rows",fr is jq,.bl b])])[ks.length]?=some (nm,.tup [.str "rows",fr is jq,.bl b]):=by
  rw[Q8 (by rw[Q1];exact QT _),Q1,Sg];rfl
 exact⟨Bl _ _ _ pl em (by
  rw[RQ,SD];exact nd) ks.length nm _ hi,DE _ _ _ pl em ks.length nm _ hi⟩
def zc(ks is:KL)(jq:List (Str×D))(nm:Str)(b:Bool)(k8:ks.length<=8)(nd:(ks.map (·.1)++[nm]).Nodup):aK bi 2 2 [sr nm,pf ks is jq nm b]=.ok (.bl b):=by
 obtain⟨pp,kp'⟩:=Jz ks is jq nm b k8 nd;have fn:lK "name" ["Unnest"] (sr nm)=some (.str nm):=by rfl
 rw[dR];unfold bi;simp! only[fn,pp,kp']
def DH(ks is:KL)(jq:List (Str×D))(nm:Str)(b:Bool)(k8:ks.length<=8)(nd:(ks.map (·.1)++[nm]).Nodup):aK bX 2 2 [sr nm,pf ks is jq nm b]=.ok (.bl b):=by
 have ei:=zc ks is jq nm b k8 nd;have m1:∀(fas:aq->R (List D))(ρ:aq),ah 0 ρ=.ok (sr nm)->dX "exact" [("Unnest",(aK bi 2 2))] (ah 0) fas ρ=(fas ρ).bind λas=>(aK bi 2 2) (sr nm::as):=λfas ρ h=>by
  unfold dX;rw[h,cu]
  have:List.lookup ("Unnest":Str) [(("Unnest":Str),(aK bi 2 2))]=some (aK bi 2 2):=by
   rw[Rw,BEq.rfl]
  simp only[this,Pb];rfl
 rw[dR];unfold bX;simp! only[m1,ei]
def GD(ks is:KL)(jq:List (Str×D))(nm:Str)(b:Bool)(k8:ks.length+is.length<=8)(j8:is.length+jq.length<=100)(nd:(ks.map (·.1)++[nm]).Nodup)(dj:∀w∈ks.map (·.1),w∉is.map (·.1)++jq.map (·.1)):aK bH 2 5 [sr nm,pf ks is jq nm b]=.ok (fr (ks++is) jq):=by
 obtain⟨pp,kp'⟩:=Jz ks is jq nm b ‹0› nd;have fn:lK "name" ["Unnest"] (sr nm)=some (.str nm):=by rfl
 have em2:is.map kf++jq.map fld=(is.map toD++jq).map fld:=by rw[RQ,tY]
 have no:=uB (is.map kf) (jq.map fld) (is.map toD++jq) (by rw[Rg,Q1];omega) em2;have e3:(is.map toD++jq).map (λp=>D.str p.1)=(is.map (·.1)++jq.map (·.1)).map .str:=by
  rw[RQ,RQ,SD,SD,SD];rfl
 rw[e3]at no;have no:aK eD 1 1 [fr is jq]=.ok (.tup ((is.map (·.1)++jq.map (·.1)).map .str)):=no;have lc:∀a2,jX [none,some 4] (bT (ah 3)) (gN 0) (dH) (f2 Jw (f2 aG (ah 0) (fC (.int 0))) (fR (aK eD 1 1) (af (ah 1) (aw)))) [‹sr nm›,‹pf ks is jq nm b›,a2,‹.tup (ks.map kf)›,‹fr is jq›]=.ok (.lst ((ks.map λ_=>false).map .bl)):=λa2=>by
  refine eU (ds:=ks.map kf) (by simp! only[]) (by rw[Q1];omega) ?_;rw[SD];refine jo kf _ ks λp hp=>⟨[‹kf p›,‹fr is jq›],rfl,rfl,?_⟩
  have i0:aG (kf p) (.int 0)=some (.str p.1):=rfl;have ii:Jw (.str p.1) (.tup ((is.map (·.1)++jq.map (·.1)).map .str))=some (.bl false):=by
   rw[B5];congr 2;cases h:(is.map (·.1)++jq.map (·.1)).contains p.1 with
   |false=>rfl
   |true=>exact absurd (List.contains_iff_mem.mp h) (dj _ (List.mem_map.mpr ⟨p,hp,rfl⟩))
  simp! only[i0,no,ii];rfl
 have an:Ei [.lst ((ks.map λ_=>false).map .bl)]=some (.bl false):=by
  rw[Im];congr 2;cases h:(ks.map λ_=>false).any id with
  |false=>rfl
  |true=>
   obtain⟨x,hx,ex⟩:=List.any_eq_true.mp h;obtain⟨_,_,rfl⟩:=List.mem_map.mp hx;cases ex
 have ad:=iW (ks.map kf) (is.map kf) (by rw[Q1,Q1];omega);rw[<-RQ]at ad;have rr:(!(("rows":Str)==("rows":Str)))=false:=by decide +kernel
 have z1:(!(((1:Nat):Int)==1))=false:=rfl;have g8:decide (((ks.length:Int)+(is.length:Int))>8)=false:=decide_eq_false ‹0›;rw[dR];unfold bH;simp! only[fn,pp,kp',rr,z1,lc,an,Q1,g8,ad,Id]
def HL:∀(n g:Nat),n+1<=g->∀(ks:KL)(qs:List (Str×D)),qs.length<=8->(∀q∈qs,KG n q.2)->∃d:Int,0<=d/\bE g [fr ks qs]=.ok (.int d)/\(d<1->∀q∈qs,KG 0 q.2)/\(d<2->∀q∈qs,KG 1 q.2):=by
 intro n
 induction n with
 |zero=>
  intro g hg ks qs q8 hq;obtain⟨g,rfl⟩:∃g',g=g'+1:=⟨g-1,by omega⟩
  refine⟨0,by decide,?_,λ_=>hq,λ_ q h=>.inl (hq q h)⟩;rw[fh,kD];unfold iT;simp! only[];refine dP (Q:=λz=>z=.ok (.int 0)) (λi ρ=>ρ=[‹fr ks qs›,‹.int 0›,none,none]) ?_ rfl ?_
  ·rintro i d ρ kk hd rfl;have hi:=cw hd;rw[Q1]at hi;rw[Rb,RJ hi]at hd;cases hd;obtain⟨c,_,ec⟩:=hq _ (Sy hi);obtain⟨x,i1,i2⟩:=BQ c;generalize qs[i]=q at ec;rw[<-ec]at i1;refine⟨[‹fr ks qs›,‹.int 0›,‹.str q.1›,‹q.2›],_,rfl,rfl,?_⟩;simp! only[i1,i2]
  ·rintro ρ' rfl;rfl
 |succ n ih=>
  intro g hg ks qs q8 hq;obtain⟨g,rfl⟩:∃g',g=g'+1:=⟨g-1,by omega⟩
  rw[fh,kD];unfold iT;simp! only[];refine dP (Q:=λz=>∃d:Int,0<=d/\z=.ok (.int d)/\(d<1->∀q∈qs,KG 0 q.2)/\(d<2->∀q∈qs,KG 1 q.2)) (λi ρ=>∃a:Int,0<=a/\(a<1->∀q∈qs.take i,KG 0 q.2)/\(a<2->∀q∈qs.take i,KG 1 q.2)/\ρ=[‹fr ks qs›,‹.int a›,none,none]) ?_ ⟨0,by decide,(λ_ q h=>by rw[RB]at h;cases h),(λ_ q h=>by rw[RB]at h;cases h),rfl⟩ ?_
  ·rintro i d ρ kk hd ⟨a,a0,a1,a2,rfl⟩;have hi:=cw hd;rw[Q1]at hi;rw[Rb,RJ hi]at hd;cases hd;have hk:=hq _ (Sy hi);have tk:∀q,q∈qs.take (i+1)->q∈qs.take i\/q=qs[i]:=λq h=>by
    rw[Th hi]at h;rcases List.mem_append.mp h with z|z
    ·exact .inl z
    ·exact .inr (List.mem_singleton.mp z)
   generalize qs[i]=q at hk tk;rcases hk with⟨c,cg,ec⟩|⟨ks',qs',b,ec,k1',k8',hk',q8',hq'⟩
   ·obtain⟨x,i1,i2⟩:=BQ c;rw[<-ec]at i1;have k0:KG 0 q.2:=⟨c,cg,ec⟩
    refine⟨[‹fr ks qs›,‹.int a›,‹.str q.1›,‹q.2›],_,rfl,⟨a,a0,λz p h=>?_,λz p h=>?_,rfl⟩,?_⟩
    ·rcases tk p h with y|y
     ·exact a1 z p y
     ·rw[y];exact k0
    ·rcases tk p h with y|y
     ·exact a2 z p y
     ·rw[y];exact .inl k0
    ·simp! only[i1,i2]
   ·obtain⟨d',d0,ed,e1,e2⟩:=ih g ‹0› ks' qs' q8' hq';have i0:aG q.2 (.int 0)=some (.str "rows"):=(by rw[ec];rfl);have i1:aG q.2 (.int 1)=some (fr ks' qs'):=(by rw[ec];rfl);refine⟨[‹fr ks qs›,‹.int a›,‹.str q.1›,‹q.2›],_,rfl,⟨if 1+d'>a then 1+d' else a,by split<;>omega,λz=>?_,λz p h=>?_,rfl⟩,?_⟩
    ·exfalso;split at z<;>omega
    ·have z1:a<2/\d'<1:=(by split at z<;>omega);rcases tk p h with y|y
     ·exact a2 z1.1 p y
     ·rw[y];exact .inr ⟨ks',qs',b,ec,k1',k8',hk',q8',e1 z1.2⟩
    ·generalize fr ks' qs'=f' at i1 ed;simp! only[i0,BEq.rfl,i1,ed]
  ·rintro ρ' ⟨a,a0,a1,a2,rfl⟩;rw[Q1,RV]at a1 a2;exact⟨a,a0,rfl,a1,a2⟩
def Fu:∀{xs:List D},(∀x∈xs,lf x=true)->Jr xs=true
 |[],_=>by unfold Jr;rfl
 |x::xs,h=>by
  unfold Jr;rw[h x QN,Fu λy hy=>h y (QO _ hy)];rfl
def zz:∀{n:Nat}{d:D},AB n d->lf d=true
 |0,_,h=>by rcases h with⟨i,rfl⟩|⟨x,rfl⟩|⟨b,rfl⟩<;>(unfold lf;rfl)
 |n+1,_,h=>by
  rcases h with(⟨i,rfl⟩|⟨x,rfl⟩|⟨b,rfl⟩)|⟨ds,rfl,_,f⟩
  ·unfold lf;rfl
  ·unfold lf;rfl
  ·unfold lf;rfl
  ·unfold lf;exact Fu λx hx=>zz (f x hx)
def EF:∀{n:Nat}{d:D},AL n d->AB n d
 |0,_,h=>by rcases h with h|h;exact .inl h;exact .inr (.inl h)
 |n+1,_,h=>by
  rcases h with(h|h)|⟨ds,e,l,f⟩
  ·exact .inl (.inl h)
  ·exact .inl (.inr (.inl h))
  ·exact .inr ⟨ds,e,l,λx hx=>EF (f x hx)⟩
def Md{m:Nat}{nm w:Str}{g1 g2 g3:List D->R D}{fo:FX}{fas:aq->R (List D)}{ρ:aq}{as:List D}(h:fo ρ=.ok (nst m nm))(ha:fas ρ=.ok as)(hm:(["many","name"]:List Str).contains w=false):dX w [("Step",g1),("Nest",g2),("Unnest",g3)] fo fas ρ=g2 (nst m nm::as):=by
 unfold dX;rw[h,cu];have h1:(("Nest":Str)==("Step":Str))=false:=by decide +kernel
 have:List.lookup ("Nest":Str) [(("Step":Str),g1),(("Nest":Str),g2),(("Unnest":Str),g3)]=some g2:=by
  rw[Rw,h1,Rw,BEq.rfl]
 simp only[this,hm,ha,cu];rfl
def L5{nm w:Str}{g1 g2 g3:List D->R D}{fo:FX}{fas:aq->R (List D)}{ρ:aq}{as:List D}(h:fo ρ=.ok (sr nm))(ha:fas ρ=.ok as)(hm:(["name"]:List Str).contains w=false):dX w [("Step",g1),("Nest",g2),("Unnest",g3)] fo fas ρ=g3 (sr nm::as):=by
 unfold dX;rw[h,cu];have h1:(("Unnest":Str)==("Step":Str))=false:=by decide +kernel
 have h2:(("Unnest":Str)==("Nest":Str))=false:=by decide +kernel
 have:List.lookup ("Unnest":Str) [(("Step":Str),g1),(("Nest":Str),g2),(("Unnest":Str),g3)]=some g3:=by
  rw[Rw,h1,Rw,h2,Rw,BEq.rfl]
 simp only[this,hm,ha,cu];rfl
structure Lr(o F T V F' T' V':D):Prop where
 gt:∀(fo:FX)(fas:aq->R (List D))(ρ:aq),fo ρ=.ok o->fas ρ=.ok [F,T]->dX "got" [("Step",(aK gR 3 3)),("Nest",(aK eJ 3 3)),("Unnest",(aK cZ 3 3))] fo fas ρ=.ok T'
 vf:∀(fo:FX)(fas:aq->R (List D))(ρ:aq),fo ρ=.ok o->fas ρ=.ok [F]->dX "view_form" [("Step",(aK dA 2 2)),("Nest",(aK bR 2 4)),("Unnest",(aK bH 2 5))] fo fas ρ=.ok F'
 ex:∀(fo:FX)(fas:aq->R (List D))(ρ:aq),fo ρ=.ok o->fas ρ=.ok [F]->dX "exact" [("Step",(aK cB 2 2)),("Nest",(aK cB 2 2)),("Unnest",(aK bi 2 2))] fo fas ρ=.ok (.bl true)
 st:∀(fo:FX)(fas:aq->R (List D))(ρ:aq),fo ρ=.ok o->fas ρ=.ok [F]->dX "steady" [("Step",(aK bW 2 2)),("Nest",(aK bW 2 2)),("Unnest",(aK bX 2 2))] fo fas ρ=.ok (.bl true)
 pt:∀(fo:FX)(fas:aq->R (List D))(ρ:aq),fo ρ=.ok o->fas ρ=.ok [F,T,V']->dX "put" [("Step",(aK hV 4 4)),("Nest",(aK eA 4 4)),("Unnest",(aK de 4 6))] fo fas ρ=.ok V
 lt:lf T'=true
 lF:lf F'=true
def M9{m:Nat}{nm:Str}{F T V F' T' V':D}(gt:aK eJ 3 3 [nst m nm,F,T]=.ok T')(vf:aK bR 2 4 [nst m nm,F]=.ok F')(pt:aK eA 4 4 [nst m nm,F,T,V']=.ok V)(lt:lf T'=true)(lF:lf F'=true):Lr (nst m nm) F T V F' T' V':=
 ⟨λ_ _ _ h a=>by rw[Md h a (by decide +kernel)];exact gt,λ_ _ _ h a=>by rw[Md h a (by decide +kernel)];exact vf,λ_ _ _ h a=>by rw[Md h a (by decide +kernel)];rfl,λ_ _ _ h a=>by rw[Md h a (by decide +kernel)];rfl,λ_ _ _ h a=>by rw[Md h a (by decide +kernel)];exact pt,lt,lF⟩
def LX{nm:Str}{F T V F' T' V':D}(gt:aK cZ 3 3 [sr nm,F,T]=.ok T')(vf:aK bH 2 5 [sr nm,F]=.ok F')(ex:aK bi 2 2 [sr nm,F]=.ok (.bl true))(st:aK bX 2 2 [sr nm,F]=.ok (.bl true))(pt:aK de 4 6 [sr nm,F,T,V']=.ok V)(lt:lf T'=true)(lF:lf F'=true):Lr (sr nm) F T V F' T' V':=
 ⟨λ_ _ _ h a=>by rw[L5 h a (by decide +kernel)];exact gt,λ_ _ _ h a=>by rw[L5 h a (by decide +kernel)];exact vf,λ_ _ _ h a=>by rw[L5 h a (by decide +kernel)];exact ex,λ_ _ _ h a=>by rw[L5 h a (by decide +kernel)];exact st,λ_ _ _ h a=>by rw[L5 h a (by decide +kernel)];exact pt,lt,lF⟩
abbrev rm(F:Nat->D)(k:Nat):List D:=(List.range k).map F
def Ku(F:Nat->D)(k:Nat):rm F (k+1)=rm F k++[F k]:=by
 unfold rm;rw[List.range_succ,RQ];rfl
def JI(F:Nat->D){k i:Nat}(h:i<k):aG (.lst (rm F k)) (.int i)=some (F i):=by
 rw[Ip,Dl];unfold rm;rw[Rb,RX h];rfl
def sO(F:Nat->D)(k:Nat):aG (.lst (rm F (k+1))) (.int (-1))=some (F k):=by
 rw[Ku,Ip,HP]
section
variable{S:List D}{F T V:Nat->D}
def Lb(h:∀i o,S[i]?=some o->Lr o (F i) (T i) (V i) (F (i+1)) (T (i+1)) (V (i+1)))(sl:S.length<=4):aK h7 3 6 [.lst S,F 0,T 0]=.ok (.tup [.lst (rm F (S.length+1)),.lst (rm T (S.length+1))]):=by
 have Qk:∀a:D,jZ [a]=some (.lst [a]):=λ_=>nr rfl;rw[ph];unfold h7;simp! only[Qk];refine dP (Q:=λz=>z=.ok (.tup [.lst (rm F (S.length+1)),.lst (rm T (S.length+1))])) (λi ρ=>ρ=[‹.lst S›,none,none,some (.own (.lst (rm F (i+1)))),some (.own (.lst (rm T (i+1)))),none]) ?_ rfl ?_
 ·rintro i o ρ kk hd rfl;have hi:=cw hd;have st:=h i o hd;have lF:=sO F i;have lT:=sO T i;have al:(rm F (i+1)).length<100/\(rm T (i+1)).length<100:=by
   unfold rm;rw[Q1,RU,Q1,RU];omega
  have ap1:gY (rm T (i+1)) [T (i+1)]=some (rm T (i+1+1)):=by rw[mP ‹0›,<-Ku]
  have ap2:gY (rm F (i+1)) [F (i+1)]=some (rm F (i+1+1)):=by rw[mP ‹0›,<-Ku]
  generalize rm F (i+1)=A at lF ap2 al;generalize rm T (i+1)=B at lT ap1 al;generalize rm F (i+1+1)=A' at ap2;generalize rm T (i+1+1)=B' at ap1;have pk1:uK [3,4] (dX "got" [("Step",(aK gR 3 3)),("Nest",(aK eJ 3 3)),("Unnest",(aK cZ 3 3))] (ah 5) (af (f2 aG (ah 3) (mN (fC (.int 1)))) (af (f2 aG (ah 4) (mN (fC (.int 1)))) (aw)))) [‹.lst S›,none,none,some (.own (.lst A)),some (.own (.lst B)),‹o›]=.ok (T (i+1)):=by
   show(Ab (dX _ _ _ _ [‹.lst S›,none,none,‹.lst A›,‹.lst B›,‹o›])).bind _=_;rw[st.gt _ _ _ rfl (by simp! only[lF,lT]),gf,cu,if_pos st.lt]
  have pk2:uK [3] (dX "view_form" [("Step",(aK dA 2 2)),("Nest",(aK bR 2 4)),("Unnest",(aK bH 2 5))] (ah 5) (af (f2 aG (ah 3) (mN (fC (.int 1)))) (aw))) [‹.lst S›,none,none,some (.own (.lst A)),some (.own (.lst B')),‹o›]=.ok (F (i+1)):=by
   show(Ab (dX _ _ _ _ [‹.lst S›,none,none,‹.lst A›,some (.own (.lst B')),‹o›])).bind _=_;rw[st.vf _ _ _ rfl (by simp! only[lF]),gf,cu,if_pos st.lF]
  have sm1:=λ(f:aq->R (List D))(K:Ks)=>ng 4 gY f K [‹.lst S›,none,none,some (.own (.lst A)),some (.own (.lst B)),‹o›] (xs:=B) rfl;have sm2:=λ(f:aq->R (List D))(K:Ks)=>ng 3 gY f K [‹.lst S›,none,none,some (.own (.lst A)),some (.own (.lst B')),‹o›] (xs:=A) rfl;refine⟨_,_,rfl,rfl,?_⟩;simp! only[sm1,pk1,ap1,sm2,pk2,ap2]
 ·rintro ρ' rfl;generalize rm F (S.length+1)=A;generalize rm T (S.length+1)=B;simp! only[Id]
def Eo:∀(xs ys:List D)(i:Nat)(d:D),(mO xs ys)[i]?=some d->∃x y,xs[i]?=some x/\ys[i]?=some y/\d=.tup [x,y]
 |x::xs,y::ys,0,d,h=>by cases h;exact⟨x,y,rfl,rfl,rfl⟩
 |x::xs,y::ys,i+1,d,h=>Eo xs ys i d h
 |[],_,i,d,h=>by simp[mO]at h
 |_::_,[],i,d,h=>by simp[mO]at h
def Hi(f:FX)(g:GF)(k:Ks)(ρ:aq):Fi f g k ρ=sZ (f ρ) k ρ λd=>(rO (g d ρ)).bind k.nx:=nr rfl
def Ec(f:aq->R (List D))(ρ:aq):pR f ρ=(f ρ).bind λds=>rO (sE ds):=nr rfl
def Ii:∃G:cm,G=(aW (Fi (fR (aK h7 3 6) (af (ah 9) (af (ah 1) (af (ah 6) (aw))))) (gT 2 (lE [10,11]))) (aW (mK (En (uJ (fS (fR (aC 20) (af (f2 aG (ah 10) (mN (fC (.int 1)))) (af (ah 1) (aw)))))) (uJ (fS (fR (aC 20) (af (f2 aG (ah 11) (mN (fC (.int 1)))) (af (ah 6) (aw))))))) (bM (fC (.bl false))) (cM)) (dL [0,1,2,3,4,5,6,8] (aW (jU (C0 (af (ah 9) (af (ah 10) (aw)))) (gT 2 (lE [12,13])) (aW (mK (En (fB (f2 lM (dX "exact" [("Step",(aK cB 2 2)),("Nest",(aK cB 2 2)),("Unnest",(aK bi 2 2))] (ah 12) (af (ah 13) (aw))) (fC (.bl true)))) (fB (f2 lM (dX "steady" [("Step",(aK bW 2 2)),("Nest",(aK bW 2 2)),("Unnest",(aK bX 2 2))] (ah 12) (af (ah 13) (aw))) (fC (.bl true))))) (bM (fC (.bl false))) (cM)) (dL [12,13] cM))) (aW (cy 14 (ah 7)) (dL [0,1,2,3,4,5,6,8,12,13] (aW (jU (pR (af (f2 vi (fL jh (af (ah 9) (aw))) (fC (.int 1))) (af (mN (fC (.int 1))) (af (mN (fC (.int 1))) (aw))))) (gN 15) (aW (cy 14 (dX "put" [("Step",(aK hV 4 4)),("Nest",(aK eA 4 4)),("Unnest",(aK de 4 6))] (f2 aG (ah 9) (ah 15)) (af (f2 aG (ah 10) (ah 15)) (af (f2 aG (ah 11) (ah 15)) (af (ah 14) (aw)))))) (dL [15] cM))) (bM (fR (aC 20) (af (ah 14) (af (ah 7) (aw))))))))))))/\∀(S:List D)(F T V:Nat->D)(a0 a2 a3 a4 a5 a8:Option TG.S),(∀i o,S[i]?=some o->Lr o (F i) (T i) (V i) (F (i+1)) (T (i+1)) (V (i+1)))->S.length<=4->1<=S.length->aC 20 [F S.length,F 0]=.ok (.bl true)->aC 20 [T S.length,T 0]=.ok (.bl true)->aC 20 [V 0,V S.length]=.ok (.bl true)->
  G K0 [a0,‹F 0›,a2,a3,a4,a5,‹T 0›,‹V S.length›,a8,‹.lst S›,none,none,none,none,none,none]=.ok (.bl true):=by
 refine⟨_,rfl,λS F T V a0 a2 a3 a4 a5 a8 h sl s1 aF aT aV=>?_⟩;have wo:=Lb h sl;have lF:=sO F S.length;have lT:=sO T S.length;have zp:Bs [.lst S,.lst (rm F (S.length+1))]=some (mO S (rm F (S.length+1))):=nr rfl;have hF:∀i,i<S.length+1->aG (.lst (rm F (S.length+1))) (.int i)=some (F i):=λi hi=>JI F hi;have hT:∀i,i<S.length+1->aG (.lst (rm T (S.length+1))) (.int i)=some (T i):=λi hi=>JI T hi;have rF:∀i:Nat,i<S.length->(rm F (S.length+1))[i]?=some (F i):=λi hi=>by
  unfold rm;rw[Rb,RX ‹0›];rfl
 have gr:sE [.int ((S.length:Int)-1),.int (-1),.int (-1)]=some (sf ((S.length:Int)-1) S.length):=by
  show(if decide ((-1:Int)=-1)&&(okR ((S.length:Int)-1)&&okR (-1))then some (sf ((S.length:Int)-1) ((S.length:Int)-1-(-1)).toNat)else none)=_;have o1:okR ((S.length:Int)-1)=true:=decide_eq_true ⟨by omega,by omega⟩;have o2:okR (-1)=true:=decide_eq_true ⟨by decide,by decide⟩;rw[o1,o2,show((S.length:Int)-1-(-1)).toNat=S.length by omega];rfl
 have un:∀(A B:D) ρ,gT 2 (lE [10,11]) (.tup [A,B]) ρ=some (setV 11 B (setV 10 A ρ)):=λ_ _ _=>rfl;have it:lM (.bl true) (.bl true)=some (.bl false):=rfl;generalize rm F (S.length+1)=Fl at wo lF zp hF rF;generalize rm T (S.length+1)=Tl at wo lT hT;simp! only[Hi,wo,un,lF,lT,aF,aT,zp];refine dP (Q:=λz=>z=.ok (.bl true)) (λi ρ=>ρ=[none,none,none,none,none,none,none,‹V S.length›,none,‹.lst S›,‹.lst Fl›,‹.lst Tl›,none,none,none,none]) ?_ rfl ?_
 ·rintro i d ρ kk hd rfl;obtain⟨o,f,ho,hf,rfl⟩:=Eo _ _ _ _ hd;have st:=h i o ho;rw[rF i (cw ho)]at hf;cases hf;have e1:=st.ex (ah 12) (af (ah 13) (aw)) [none,none,none,none,none,none,none,‹V S.length›,none,‹.lst S›,‹.lst Fl›,‹.lst Tl›,‹o›,‹F i›,none,none] rfl rfl;have e2:=st.st (ah 12) (af (ah 13) (aw)) [none,none,none,none,none,none,none,‹V S.length›,none,‹.lst S›,‹.lst Fl›,‹.lst Tl›,‹o›,‹F i›,none,none] rfl rfl;refine⟨[none,none,none,none,none,none,none,‹V S.length›,none,‹.lst S›,‹.lst Fl›,‹.lst Tl›,‹o›,‹F i›,none,none],_,rfl,rfl,?_⟩;simp! only[e1,e2,it]
 ·rintro ρ' rfl;simp! only[Ec,gr];refine dP (Q:=λz=>z=.ok (.bl true)) (λi ρ=>i<=S.length/\ρ=[none,none,none,none,none,none,none,‹V S.length›,none,‹.lst S›,‹.lst Fl›,‹.lst Tl›,none,none,‹V (S.length-i)›,none]) ?_ ⟨Q3 _,rfl⟩ ?_
  ·rintro i d ρ kk hd ⟨hi0,rfl⟩;have hi:=cw hd;rw[rh]at hi;have hdi:d=.int ((S.length-1-i:Nat):Int):=by
    unfold sf at hd;rw[Rb,RX hi]at hd;cases hd;show D.int _=D.int _;congr 1;omega
   subst hdi;obtain⟨j,ej⟩:∃j,j=S.length-1-i:=⟨_,rfl⟩
   have hj:j<S.length:=(by omega);have e1:S.length-i=j+1:=(by omega);have e2:S.length-(i+1)=j:=(by omega);rw[<-ej,e1];have ho:S[j]?=some S[j]:=RJ hj;have st:=h j _ ho;have i9:aG (.lst S) (.int j)=some S[j]:=(by rw[Ip,Dl,ho]);have fj:=hF j ‹0›;have tj:=hT j ‹0›;have pe:=st.pt (f2 aG (ah 9) (ah 15)) (af (f2 aG (ah 10) (ah 15)) (af (f2 aG (ah 11) (ah 15)) (af (ah 14) (aw)))) [none,none,none,none,none,none,none,‹V S.length›,none,‹.lst S›,‹.lst Fl›,‹.lst Tl›,none,none,‹V (j+1)›,‹.int j›] (by simp! only[i9]) (by simp! only[fj,tj]);refine⟨[none,none,none,none,none,none,none,‹V S.length›,none,‹.lst S›,‹.lst Fl›,‹.lst Tl›,none,none,‹V (j+1)›,‹.int j›],_,rfl,⟨by omega,rfl⟩,?_⟩;rw[e2];simp! only[pe]
  ·rintro ρ' ⟨_,rfl⟩;rw[rh,Sg];simp! only[aV]
end
section
open Classical
variable{σ:List Bool}{t:List (List D)}{m:Nat}
def Tab.ALv(T:Tab σ t)(m:Nat):AL 10 (vw m t):=by
 have:=T.ln
 have fl:=mI m t;refine AL.tup (by rw[Q1];omega) λv hv=>?_;obtain⟨f,hf,rfl⟩:=List.mem_map.mp hv;have f16:=Cv T f hf;refine AL.tup (by unfold jm;rw[Rg,Rm];omega) λw hw=>?_;unfold jm at hw;rcases List.mem_append.mp hw with z|z
 ·obtain⟨r,hr,rfl⟩:=(lQ m).mp hf;exact AL.le (by decide) (T.al r hr w (To z))
 ·rw[List.mem_singleton.mp z];have gl:=xx m t f;refine AL.tup (by rw[Q1];omega) λu hu=>?_;obtain⟨g,hg,rfl⟩:=List.mem_map.mp hu;unfold gp at hg;obtain⟨r,hr,rfl⟩:=List.mem_map.mp hg;have hr:=(List.mem_filter.mp hr).1
  have:=(T.rl r hr).1
  exact AL.tup (by rw[Ri];omega) λx hx=>T.al r hr x (Tp hx)
end
def IV(z:Int)(i n:Nat):xR (.int z) (.int ((i:Int)%(n:Int)))=some (.int (z/2^(i%n))):=by
 rw[<-Int.natCast_emod];exact FL z (i%n)
def B1{t:List (List D)}(tl:t.length<64)(y d g:Int)(hd:0<d)(hd':d<10^200)(hg:0<g):∃s:List (List D),s.Sublist t/\∀a0 a1 a2 a4 a6 a7 a8 a9 a10 a11 a12 a13 a14 a15:Option S,jX [none,none,some 3] (fY (af (ah 5) (aw))) (gT 2 (lE [0,1])) (fB (f2 lI (f2 rR (f2 xR (f2 dN (ah 2) (fC (.int d))) (f2 cS (ah 0) (fC (.int g)))) (fC (.int 1))) (fC (.int 1)))) (ah 1) [a0,a1,a2,‹.int y›,a4,‹.tup (t.map .tup)›,a6,a7,a8,a9,a10,a11,a12,a13,a14,a15]=.ok (.lst (s.map .tup)):=by
 obtain⟨n,rfl⟩:=Int.eq_ofNat_of_zero_le (Int.le_of_lt hg);have gg:=λi=>fU (i:=i) hg;have dd:=λi=>mX (i:=i) hd hd';obtain⟨s,b,c⟩:=DB (ρ:=[none,none,‹.int y›]) (C:=fB (f2 lI (f2 rR (f2 xR (f2 dN (ah 2) (fC (.int d))) (f2 cS (ah 0) (fC (.int n)))) (fC (.int 1))) (fC (.int 1)))) t 0 λi r=>⟨[‹.int i›,‹.tup r›,‹.int y›],_,rfl,by simp! only[gg,dd,IV,xD];rfl,rfl⟩
 exact⟨s,b,λ_ _ _ _ _ _ _ _ _ _ _ _ _ _=>eU (ds:=gP 0 (t.map .tup)) (by simp! only[wL]) (by rw[lX,Q1];omega) c⟩
def sK(c:Str)(a b:Str)(fas:aq->R (List D))(ρ:aq):fNew c [a,b] fas ρ=(fas ρ).bind λas=>if as.length=2 then .ok (.obj c [a,b] as)else un:=nr rfl
def sR(c:Str)(a:Str)(fas:aq->R (List D))(ρ:aq):fNew c [a] fas ρ=(fas ρ).bind λas=>if as.length=1 then .ok (.obj c [a] as)else un:=nr rfl
def JE{A B:List Str}(h:(A++B).Nodup):∀w∈A,w∉B:=λw a b=>(List.nodup_append.mp h).2.2 w a w b rfl
def Fs{σ:List Bool}{t v:List (List D)}(T:Tab σ t)(V:Tab σ v)(ks:KL)(qs:List (Str×D))(m:Nat)(nm:Str)(n:Nat)(hn:n<=2)(m1:1<=m)(m2:m<ks.length)(sl:σ.length=ks.length)(k8:ks.length<=8)(q8:qs.length<=8)(hk:∀p∈ks,p.2.gd)(hq:∀q∈qs,KG n q.2)(nd:((ks.take m).map (·.1)++[nm]).Nodup)(dj:(ks.map (·.1)++qs.map (·.1)).Nodup)(lF:lf (fr ks qs)=true):
  Lr (nst m nm) (fr ks qs) (.tup (t.map .tup)) (.tup (v.map .tup)) (vf ks qs m nm) (vw m t) (vw m v)/\Lr (sr nm) (vf ks qs m nm) (vw m t) (vw m v) (fr ks qs) (.tup (t.map .tup)) (.tup (v.map .tup)):=by
 have hm:m<=σ.length:=by omega
 have tl:(ks.take m).length=m:=by rw[Q7];omega
 have kl:((ks.take m).map kf).length=m:=by rw[Q1,tl]
 have dj':∀w∈(ks.take m).map (·.1),w∉(ks.drop m).map (·.1)++qs.map (·.1):=JE (by
  rw[<-R0,<-RQ,Tf];exact dj)
 have uv:=GD (ks.take m) (ks.drop m) qs nm true (by rw[Q7,Ri];omega) (by rw[Ri];omega) nd dj';rw[Tf]at uv;have ug:=Hx T hm (sr nm) (vf ks qs m nm) ((ks.take m).map kf) _ kl rfl;have up:=Iz T V m1 hm (sr nm) (vf ks qs m nm) ((ks.take m).map kf) _ kl rfl;rw[<-yu]at ug up;rw[<-yu]at up;have lt:lf (.tup (t.map .tup))=true:=zz (EF T.ALt);exact⟨M9 (Kb T hm (nst m nm) _ (Li m nm)) (Hk ks qs m nm n hn m1 m2 k8 q8 hq λz=>JE nd nm z QN) (Hw V hm (nst m nm) _ _ (Li m nm)) (zz (EF (T.ALv m))) (zz (L7 ks qs m nm n hn k8 q8 hk hq)),
  LX ug uv (zc _ _ _ _ _ ‹0› nd) (DH _ _ _ _ _ ‹0› nd) up lt lF⟩
def math(ns:List Int)(hl:ns.length<=63):aK tP 1 16 [.lst (ns.map .int)]=.ok (.bl true):=by
 obtain⟨c1,e1⟩:=TD.NC ns 1 (by decide);obtain⟨ks,qs,n,hn,k2,k8,q8,hk,hq,fn,ed⟩:=Fz ns c1 e1;obtain⟨x,x0,x1,ex⟩:=xJ ns 2 (by decide);have ex:aK cQ 2 3 [.lst (ns.map .int),.int 2]=.ok (.int x):=ex;obtain⟨y,y0,y1,ey⟩:=jf x x0 ‹0›;have gk:=λi=>fU (i:=i) (show(0:Int)<(ks.length:Int)-1 by omega);have q0:=S3 y (show(ks.length:Int)-1≠0 by omega);have q1:=S4 y (show(0:Int)<(ks.length:Int)-1 by omega);obtain⟨m,hm,em⟩:∃m:Nat,(1<=m/\m<ks.length)/\(1:Int)+y%((ks.length:Int)-1)=m:=⟨(1+y%((ks.length:Int)-1)).toNat,by omega,by omega⟩
 obtain⟨t0,⟨T0,h4⟩,et⟩:=Gc ks qs n hn ‹0› k8 q8 hk hq m ns hl;have sl:(ks.map (·.2.b)).length=ks.length:=by rw[Q1]
 have sk:(ks.map (·.2.b)).take m=(ks.take m).map (·.2.b):=by rw[Tq]
 generalize ks.map (·.2.b)=σ at T0 sl sk;obtain⟨t,bt,lt⟩:=B1 T0.ln y 3 20 (by decide) (by decide) (by decide);obtain⟨v,bv,lv⟩:=B1 T0.ln y 5 19 (by decide) (by decide) (by decide);have T:=T0.sub bt;have V:=T0.sub bv;have g2:=gm 2;have g3:=gm 3;have gM:=gm 2147483647;have mm:=λi=>pM (i:=i) (j:=48271) (by decide) (by decide);have d64:=gd 64;have d256:=gd 256;have d1024:=gd 1024;have d2048:=gd 2048;have M4:∀a b:D,jZ [a,b]=some (.lst [a,b]):=λ_ _=>nr rfl;have b0:=S3 (c1*48271) (show(2147483647:Int)≠0 by decide);obtain⟨nm0,en0,nP0⟩:=xk (c1*48271%2147483647) (17+y/64%3) b0 ‹0›;obtain⟨nm1,en1,nP1⟩:=xk (c1*48271%2147483647) (20+y/256%3) b0 ‹0›;have Ll:(ks.map (·.1)++qs.map (·.1)).length<=16:=by rw[Rg,Q1,Q1];omega
 have nin:∀(w:Str)(k:Int),Dx (c1*48271%2147483647) k w->16<=k->k<24->w∉ks.map (·.1)++qs.map (·.1):=λw k hw k0 k1 z=>by
  obtain⟨i,hi,ei⟩:=RN z;have a:=fn i w (by rw[RJ hi,ei])
  have:=x3 ‹0› ‹0› ‹0› ‹0› a hw
  omega
 have D1:(ks.map (·.1)++qs.map (·.1)).Nodup:=List.pairwise_iff_getElem.mpr λi j hi hj hij e=>by
  have a:=fn i _ (RJ hi);have b:=fn j _ (RJ hj);rw[e]at a
  have:=x3 ‹0› ‹0› ‹0› ‹0› a b
  omega
 have D0:(ks.map (·.1)++qs.map (·.1)++[nm0,nm1]).Nodup:=List.nodup_append.mpr ⟨D1,List.nodup_cons.mpr ⟨λz=>by
  rw[List.mem_singleton.mp z]at nP0
  have:=x3 ‹0› ‹0› ‹0› ‹0› nP0 nP1
  omega,by simp⟩,λa ha b hb e=>by
   subst e;rcases List.mem_cons.mp hb with z|z
   ·rw[z]at ha;exact nin nm0 _ nP0 ‹0› ‹0› ha
   ·rw[List.mem_singleton.mp z]at ha;exact nin nm1 _ nP1 ‹0› ‹0› ha⟩
 have tsub:((ks.take m).map (·.1)).Sublist (ks.map (·.1)++qs.map (·.1)):=by
  rw[Tq];exact(Rc _ _).trans (List.sublist_append_left _ _)
 have nd0:((ks.take m).map (·.1)++[nm0]).Nodup:=D0.sublist (tsub.append (List.Sublist.cons₂ _ (List.nil_sublist _)));have fa0:=Gk (n:=4*n) ks qs k8 q8 hk λq h=>Gx n _ (hq q h);have lF0:=zz fa0;have aF:=HD (5+4*n) 20 _ ‹0› fa0;have aT:=uS 8 20 _ (by decide) T.ALt;have aV:=uS 8 20 _ (by decide) V.ALt;obtain⟨s0,s1⟩:=Fs T V ks qs m nm0 n hn hm.1 hm.2 sl k8 q8 hk hq nd0 D1 lF0;obtain⟨d,d0,dd,_,dk⟩:=HL n 20 ‹0› ks qs q8 hq;obtain⟨RR,hR,LR⟩:=Ii;have two:=LR [nst m nm0,sr nm0] (λi=>match i with|1=>vf ks qs m nm0|_=>fr ks qs) (λi=>match i with|1=>vw m t|_=>.tup (t.map .tup)) (λi=>match i with|1=>vw m v|_=>.tup (v.map .tup)) (‹.lst (ns.map .int)›) (‹.int (c1*48271%2147483647)›) (‹.int y›) (‹.int m›) (‹.tup (t0.map .tup)›) (‹.lst [.str nm0,.str nm1]›) (λi o ho=>by
  rcases i with _|_|i
  ·cases ho;exact s0
  ·cases ho;exact s1
  ·cases ho) (by simp) (by simp) aF aT aV
 have two:RR K0 [‹.lst (ns.map .int)›,‹fr ks qs›,‹.int (c1*48271%2147483647)›,‹.int y›,‹.int m›,‹.tup (t0.map .tup)›,‹.tup (t.map .tup)›,‹.tup (v.map .tup)›,‹.lst [.str nm0,.str nm1]›,‹.lst [nst m nm0,sr nm0]›,none,none,none,none,none,none]=.ok (.bl true):=two;rw[kD];unfold tP;rw[<-hR];cases hb1:decide ((m:Int)>1)with
 |false=>
  simp! only[ed,e1,mm,gM,ex,ey,Q1,gk,em,et,lt,lv,d64,g3,en0,d256,en1,M4,sK,sR,hb1];exact two
 |true=>
  have mg1:1<m:=by have:=of_decide_eq_true hb1;omega
  cases hb2:decide (d<2)with
  |false=>
   simp! only[ed,e1,mm,gM,ex,ey,Q1,gk,em,et,lt,lv,d64,g3,en0,d256,en1,M4,sK,sR,hb1,dd,hb2];exact two
  |true=>
   cases hb3:(y/1024%2==1)with
   |false=>
    simp! only[ed,e1,mm,gM,ex,ey,Q1,gk,em,et,lt,lv,d64,g3,en0,d256,en1,M4,sK,sR,hb1,dd,hb2,d1024,g2,hb3];exact two
   |true=>
    have hq1:=dk (of_decide_eq_true hb2);have gm1:=λi=>fU (i:=i) (show(0:Int)<(m:Int)-1 by omega);have r0:=S3 (y/2048) (show(m:Int)-1≠0 by omega);have r1:=S4 (y/2048) (show(0:Int)<(m:Int)-1 by omega);obtain⟨m',hm',em'⟩:∃m':Nat,(1<=m'/\m'<m)/\(1:Int)+y/2048%((m:Int)-1)=m':=⟨(1+y/2048%((m:Int)-1)).toNat,by omega,by omega⟩
    have kl:(ks.take m).length=m:=(by rw[Q7];omega);have T1:=JC T (m:=m) ‹0› ‹0› λr h=>h4 r (bt.subset h);have V1:=JC V (m:=m) ‹0› ‹0› λr h=>h4 r (bv.subset h);have hk1:∀p∈ks.take m,p.2.gd:=λp h=>hk p (To h);have hk0:∀q∈[(nm0,D.tup [.str "rows",fr (ks.drop m) qs,.bl true])],KG 2 q.2:=λq h=>by
     rw[List.mem_singleton.mp h];exact .inr ⟨ks.drop m,qs,true,rfl,by rw[Ri];omega,by rw[Ri];omega,λp h=>hk p (Tp h),q8,hq1⟩
    have nd1:(((ks.take m).take m').map (·.1)++[nm1]).Nodup:=D0.sublist (List.Sublist.append (List.Sublist.trans (by rw[Tq];exact Rc _ _) tsub) (List.Sublist.cons _ (List.Sublist.refl _)));obtain⟨s2,s3⟩:=Fs T1 V1 (ks.take m) [(nm0,D.tup [.str "rows",fr (ks.drop m) qs,.bl true])] m' nm1 2 (by decide) hm'.1 ‹0› (by rw[sk,Q1]) ‹0› (by simp) hk1 hk0 nd1 nd0 s0.lF;rw[<-yu,<-yu]at s2 s3;have MD:∀a b c d:D,jZ [a,b,c,d]=some (.lst [a,b,c,d]):=λ_ _ _ _=>nr rfl;have four:=LR [nst m nm0,nst m' nm1,sr nm1,sr nm0] (λi=>match i with|1=>vf ks qs m nm0|2=>vf (ks.take m) [(nm0,D.tup [.str "rows",fr (ks.drop m) qs,.bl true])] m' nm1|3=>vf ks qs m nm0|_=>fr ks qs) (λi=>match i with|1=>vw m t|2=>vw m' (Nn m t)|3=>vw m t|_=>.tup (t.map .tup)) (λi=>match i with|1=>vw m v|2=>vw m' (Nn m v)|3=>vw m v|_=>.tup (v.map .tup)) (‹.lst (ns.map .int)›) (‹.int (c1*48271%2147483647)›) (‹.int y›) (‹.int m›) (‹.tup (t0.map .tup)›) (‹.lst [.str nm0,.str nm1]›) (λi o ho=>by
     rcases i with _|_|_|_|i
     ·cases ho;exact s0
     ·cases ho;exact s2
     ·cases ho;exact s3
     ·cases ho;exact s1
     ·cases ho) (by simp) (by simp) aF aT aV
    have four:RR K0 [‹.lst (ns.map .int)›,‹fr ks qs›,‹.int (c1*48271%2147483647)›,‹.int y›,‹.int m›,‹.tup (t0.map .tup)›,‹.tup (t.map .tup)›,‹.tup (v.map .tup)›,‹.lst [.str nm0,.str nm1]›,‹.lst [nst m nm0,nst m' nm1,sr nm1,sr nm0]›,none,none,none,none,none,none]=.ok (.bl true):=four;simp! only[ed,e1,mm,gM,ex,ey,Q1,gk,em,et,lt,lv,d64,g3,en0,d256,en1,M4,sK,sR,hb1,dd,hb2,d1024,g2,hb3,d2048,gm1,em',MD];exact four
end Tk46
open PySem PySem.W PyProof.Rows
theorem PySem.W.Fast.tw5028205720825256207 : True := trivial
theorem PySem.W.Fast.tw1814062649218615205 : True := trivial
theorem PySem.W.Fast.tw5771163950605086343 : True := trivial
theorem PySem.W.Fast.tw3398084790261267044 : True := trivial
theorem PySem.W.Fast.tw11893526819864940551 : True := trivial
theorem PySem.W.Fast.tw6086782285768377608 : True := trivial
theorem PySem.W.Fast.tw3264499256251971401 : True := trivial
theorem PySem.W.Fast.tw13251639589416520013 : True := trivial
theorem PySem.W.Fast.tw13450983112165173047 : True := trivial
theorem PySem.W.Fast.tw2600308987651203787 : True := trivial
theorem PySem.W.Fast.tw7077996049167606285 : True := trivial
theorem PySem.W.Fast.tw8072411258301996677 : True := trivial
theorem PySem.W.Fast.tw14572502820008015388 : True := trivial
theorem PySem.W.Fast.tw2934498293093781125 : True := trivial
theorem PySem.W.Fast.tw8341108171342548888 : True := trivial
theorem PySem.W.Fast.tw5044340928388134599 : True := trivial
theorem PySem.W.Fast.tw8121077288932959960 : True := trivial
theorem PySem.W.Fast.tw1445596108302334432 : True := trivial
theorem PySem.W.Fast.tw15522293721982320861 : True := trivial
theorem PySem.W.Fast.tw3986891310830745389 : True := trivial
theorem PySem.W.Fast.tw16283264664282654626 : True := trivial
theorem PySem.W.Fast.tw5197055875182233066 : True := trivial
theorem PySem.W.Fast.tw8513054367735255140 : True := trivial
theorem PySem.W.Fast.tw8926908984300719747 : True := trivial
theorem PySem.W.Fast.tw5138625864657504836 : True := trivial
theorem PySem.W.Fast.tw10341615956545605061 : True := trivial
theorem PySem.W.Fast.tw13497470197084305590 : True := trivial
theorem PySem.W.Fast.tw2721613692605103173 : True := trivial
theorem PySem.W.Fast.tw253074823898542054 : True := trivial
theorem PySem.W.Fast.tw11288894968459146725 : True := trivial
theorem PySem.W.Fast.tw12516842759458104096 : True := trivial
theorem PySem.W.Fast.tw9448428004545623957 : True := trivial
theorem PySem.W.Fast.tw9624630834484704108 : True := trivial
theorem PySem.W.Fast.tw1065941041248764315 : True := trivial
theorem PySem.W.Fast.tw12415410259582853682 : True := trivial
theorem PySem.W.Fast.tw15935267514672095824 : True := trivial
theorem PySem.W.Fast.tw8355771998402510313 : True := trivial
theorem PySem.W.Fast.tw9144655788059686511 : True := trivial
theorem PySem.W.Fast.tw7972983021285534177 : True := trivial
theorem PySem.W.Fast.tw8018688483090676562 : True := trivial
theorem PySem.W.Fast.tw3574759719595299440 : True := trivial
theorem PySem.W.Fast.tw15504043935360615170 : True := trivial
theorem PySem.W.Fast.tw2444017397471987332 : True := trivial
theorem PySem.W.Fast.tw7354289119706398695 : True := trivial
theorem PySem.W.Fast.tw17147181583589452198 : True := trivial
theorem PySem.W.Fast.tw1926209788784279985 : True := trivial
theorem PySem.W.Fast.tw7492988021138612955 : True := trivial
theorem PySem.W.Fast.tw1987862216485465632 : True := trivial
theorem PySem.W.Fast.tw9199696421124684671 : True := trivial
theorem PySem.W.Fast.tw11934559091713481449 : True := trivial
theorem PySem.W.Fast.tw7331645693973138618 : True := trivial
theorem PySem.W.Fast.tw9447833256080377295 : True := trivial
theorem PySem.W.Fast.tw6265266024064246978 : True := trivial
theorem PySem.W.Fast.tw12085657165308547062 : True := trivial
theorem PySem.W.Fast.tw1023282993758447234 : True := trivial
theorem PySem.W.Fast.tw11330654636209631330 : True := trivial
theorem PySem.W.Fast.tw17298732458632718768 : True := trivial
theorem PySem.W.Fast.tw6948638816646917451 : True := trivial
theorem PySem.W.Fast.tw10649922428007238877 : True := trivial
theorem PySem.W.Fast.tw6155461650248288094 : True := trivial
theorem PySem.W.Fast.tw6923777220986604954 : True := trivial
theorem PySem.W.Fast.tw15164224237668772407 : True := trivial
theorem PySem.W.Fast.tw2203136879175700554 : True := trivial
theorem PySem.W.Fast.tw7902414697261972196 : True := trivial
theorem PySem.W.Fast.tw4173412335700453849 : True := trivial
theorem PySem.W.Fast.tw17411223064495177898 : True := trivial
theorem PySem.W.Fast.tw15136651089923549859 : True := trivial
theorem PySem.W.Fast.tw10259406771081508148 : True := trivial
theorem PySem.W.Fast.tw7861016492658384025 : True := trivial
theorem PySem.W.Fast.tw6994860426083927902 : True := trivial
theorem PySem.W.Fast.tw241091354398400115 : True := trivial
theorem PySem.W.Fast.tw4651392468331353894 : True := trivial
theorem PySem.W.Fast.tw4806099094965570952 : True := trivial
theorem PySem.W.Fast.tw83740410452153572 : True := trivial
theorem PySem.W.Fast.tw7033847586809097831 : True := trivial
theorem PySem.W.Fast.tw10567239276480206967 : True := trivial
theorem PySem.W.Fast.tw14495258154672389646 : True := trivial
theorem PySem.W.Fast.tw10830462387477966684 : True := trivial
theorem PySem.W.Fast.tw9400080436178162880 : True := trivial
theorem PySem.W.Fast.tw9481692045476540567 : True := trivial
theorem PySem.W.Fast.tw13235761964035276430 : True := trivial
theorem PySem.W.Fast.tw12843192164200109457 : True := trivial
theorem PySem.W.Fast.tw3279927768383645849 : True := trivial
theorem PySem.W.Fast.tw14764393958097499743 : True := trivial
theorem PySem.W.Fast.tw543490383207753305 : True := trivial
theorem PySem.W.Fast.tw16181402849133187479 : True := trivial
theorem PySem.W.Fast.tw5963922077212692314 : True := trivial
theorem PySem.W.Fast.tw3955048677310984715 : True := trivial
theorem PySem.W.Fast.tw18337563333824985308 : True := trivial
theorem PySem.W.Fast.tw16718274777372372022 : True := trivial
theorem PySem.W.Fast.tw13938334593571589108 : True := trivial
theorem PySem.W.Fast.tw5455589961324537007 : True := trivial
theorem PySem.W.Fast.tw16901039573433216682 : True := trivial
theorem PySem.W.Fast.tw6515745524522690655 : True := trivial
theorem PySem.W.Fast.tw8542952273421968324 : True := trivial
theorem PySem.W.Fast.tw1983666328181490299 : True := trivial
theorem PySem.W.Fast.tw16742128328520583837 : True := trivial
theorem PySem.W.Fast.tw6081920968555207897 : True := trivial
theorem PySem.W.Fast.tw1561080556569836179 : True := trivial
theorem PySem.W.Fast.tw14986343895055810337 : True := trivial
theorem PySem.W.Fast.tw8142721767097820213 : True := trivial
theorem PySem.W.Fast.tw10179226920811607513 : True := trivial
set_option maxRecDepth 100000 in
set_option maxHeartbeats 0 in
theorem PySem.Challenge.cw_twoglass_k46_whole_nested_and_back_holds : PySem.Challenge.rw_twoglass_k46_whole_nested_and_back.Holds := by
  w_on; o_law; k_head; (case hw => w_witness2)
  k_fill
  refine Tk46.walk (l := PySem.Challenge.rw_twoglass_k46_whole_nested_and_back) rfl rfl (fun w h Y => ⟨PySem.W.km_in_of Y, PySem.W.km_tabs_of Y _ (List.Mem.head _)⟩) ?F Tk46.math
  case F =>
    intro w mg fa h KX G hmg
    refine' Tk46.all_mk KX G hmg ?ac0 ?ac1 ?ac2 ?a0 ?l0 ?c0 ?k0 ?a1 ?i1 ?l1 ?c1 ?k1 ?a2 ?l2 ?c2 ?k2 ?a3 ?i3 ?l3 ?c3 ?k3 ?a4 ?l4 ?c4 ?k4 ?a5 ?l5 ?c5 ?k5 ?a6 ?l6 ?c6 ?k6 ?a7 ?l7 ?c7 ?k7 ?a8 ?i8 ?l8 ?c8 ?k8 ?a9 ?a9_2 ?i9 ?l9 ?c9 ?k9 ?a10 ?l10 ?c10 ?k10 ?a11 ?l11 ?c11 ?k11 ?a12 ?l12 ?c12 ?k12 ?a13 ?i13 ?l13 ?c13 ?k13 ?a14 ?i14 ?l14 ?c14 ?k14 ?a15 ?a15_2 ?i15 ?l15 ?c15 ?k15 ?a16 ?i16 ?l16 ?c16 ?k16 ?a17 ?l17 ?c17 ?k17 ?a18 ?l18 ?c18 ?k18 ?a19 ?l19 ?c19 ?k19 ?a20 ?i20 ?l20 ?c20 ?k20 ?a21 ?i21 ?l21 ?c21 ?k21 ?a22 ?i22 ?l22 ?c22 ?k22 ?a23 ?i23 ?l23 ?c23 ?k23 ?a24 ?i24 ?l24 ?c24 ?k24 ?a25 ?l25 ?c25 ?k25 ?a26 ?l26 ?c26 ?k26 ?a27 ?l27 ?c27 ?k27 ?a28 ?l28 ?c28 ?k28 ?a29 ?l29 ?c29 ?k29 ?a30 ?l30 ?c30 ?k30 ?a31 ?l31 ?c31 ?k31 ?a32 ?l32 ?c32 ?k32 ?a33 ?l33 ?c33 ?k33 ?a34 ?l34 ?c34 ?k34 ?a35 ?l35 ?c35 ?k35 ?a36 ?l36 ?c36 ?k36 ?a37 ?l37 ?c37 ?k37 ?a38 ?l38 ?c38 ?k38 ?a39 ?l39 ?c39 ?k39 ?a40 ?l40 ?c40 ?k40 ?a41 ?i41 ?l41 ?c41 ?k41 ?a42 ?i42 ?l42 ?c42 ?k42 ?p0 ?q0 ?r0 ?s0 ?n0_0 ?n0_1 ?m0 ?kp0 ?p1 ?q1 ?r1 ?s1 ?n1_0 ?m1 ?kp1 ?p2 ?q2 ?r2 ?s2 ?z0 ?z1 ?z2 ?z3 ?z4 ?z5 ?z6 ?z7 ?z8 ?z9 ?z10 ?z11 ?z12 ?z13 ?z14 ?e0 ?e1 ?lc ?lh ?lt
    case ac0|ac1|ac2|a0|l0|c0|k0|a1|i1|l1|c1|k1|a2|l2|c2|k2|a3|i3|l3|c3|k3|a4|l4|c4|k4|a5|l5|c5|k5|a6|l6|c6|k6|a7|l7|c7|k7|a8|i8|l8|c8|k8|a9|a9_2|i9|l9|c9|k9|a10|l10|c10|k10|a11|l11|c11|k11|a12|l12|c12|k12|a13|i13|l13|c13|k13|a14|i14|l14|c14|k14|a15|a15_2|i15|l15|c15|k15|a16|i16|l16|c16|k16|a17|l17|c17|k17|a18|l18|c18|k18|a19|l19|c19|k19|a20|i20|l20|c20|k20|a21|i21|l21|c21|k21|a22|i22|l22|c22|k22|a23|i23|l23|c23|k23|a24|i24|l24|c24|k24|a25|l25|c25|k25|a26|l26|c26|k26|a27|l27|c27|k27|a28|l28|c28|k28|a29|l29|c29|k29|a30|l30|c30|k30|a31|l31|c31|k31|a32|l32|c32|k32|a33|l33|c33|k33|a34|l34|c34|k34|a35|l35|c35|k35|a36|l36|c36|k36|a37|l37|c37|k37|a38|l38|c38|k38|a39|l39|c39|k39|a40|l40|c40|k40|a41|i41|l41|c41|k41|a42|i42|l42|c42|k42|p0|q0|r0|s0|n0_0|n0_1|m0|kp0|p1|q1|r1|s1|n1_0|m1|kp1|p2|q2|r2|s2|z0|z1|z2|z3|z4|z5|z6|z7|z8|z9|z10|z11|z12|z13|z14|e0|e1 => first|delta TX.Lk;k_is|k_is
    case lc => rfl
    case lh|lt => kernel_rfl
