import PyProof.Rows.All
import Wide.All
import OpenK.AllK
import Wide.FinOn
import Lean
import PyProof.EqAt
import PyProof.EqKinds
import PyProof.TupleCall
import PyProof.NeKinds
import PyProof.ZipIter
import PyProof.Draws
import PyProof.FactsAll.zip
import KE.KSortTup
import KE.KDictSum
import PyProof.TupleOfSeq
import PyProof.StrWalks
import PyProof.Rows.SetFrom
import KE.KRevIter
import PyProof.Rows.Range3
import KE.KTryMore
import KE.KIsNot
import PyProof.ExcArgsOwn
import PyProof.ExcAttrAll.ValueError
import PyProof.ExcBaseAll.ValueError
import PyProof.NsDelKeeps
import PyProof.Rows.CallKwBuiltin
import PyProof.WalkInts
import PyProof.Rows.Catch
import KE.KLam
import KE.KNestM
import PyProof.FactsAll.list_3
import KE.KDictList
import PyProof.Rows.CountFlat
import KE.KDictOf
import PyProof.AttrMissHeap
import PyProof.DictFindH
import PySem.Challenge.RW_twoglass_k46_whole_nested_and_back
set_option Elab.async false
set_option linter.all false
set_option maxRecDepth 100000
open List renaming filterMap_cons→QN,mem_cons_self→QO,mem_cons_of_mem→QP,mem_append_left→QQ,getElem?_set_self→QR,getElem?_set_ne→QS,mem_append_right→QV,size_toArray→QY,length_cons→Q0,map_cons→Q1,length_map→Q2,append_nil→Q5,of_mem_zip→Q7,length_take→Q8,getElem?_append_right→Q9,getElem?_replicate→Ra,getElem?_append_left→Rb,getElem?_map→Rc,take_sublist→Rf,mem_of_getElem?→Rg,length_append→Rh,length_drop→Rj,length_singleton→Rn,map_nil→Rp,find?_cons→Rq,any_cons→Rr,length_nil→Rt,nodup_nil→Rw,lookup_cons→Rx,forIn_cons→Ry,cons_append→RB,take_zero→RC,take_nil→RD,take_succ_cons→RE,drop_zero→RF,drop_succ_cons→RG,all_cons→RH,range_succ_eq_map→RJ,getElem?_eq_getElem→RK,getElem_of_mem→RO,nil_append→RP,map_congr_left→RQ,map_append→RT,take_add_one→RU,length_range→RV,take_length→RW,getElem?_range→RY,drop_eq_getElem_cons→RZ,append_assoc→R1,drop_length→R3,mem_cons→R4,not_mem_nil→R5,getElem?_cons_zero→R6,getElem?_cons_succ→R7,zip_cons_cons→Sd,contains_cons→Se,nodup_append→Sg,replicate_zero→Sj,any_map→Sl,zip_nil_right→Sn,replicate_succ→Sq,foldl_cons→Sr,not_lt_nil→Ss,nil_lt_cons→Su,cons_lt_cons_iff→Sv,pairwise_singleton→Sw,filter_cons_of_pos→Sx,filter_cons_of_neg→Sy,getElem_mem→Sz,pairwise_map→SA,getD_eq_getElem?_getD→SD,map_map→SE,mem_nil_iff→SF,toList_toArray→SG,getElem?_eq_none→SJ,take_of_length_le→SK,mem_singleton→SL,find?_cons_of_pos→SU,find?_cons_of_neg→SV,set_cons_zero→SW,set_cons_succ→SY,getElem_map→S3,foldl_append→S6,take_take→S7,getLast?_append→S8,getLast?_eq_getLast→S9,getLast_mem→Ta,dropLast_concat_getLast→Tb,flatMap_cons→Tc,flatMap_append→Td,flatMap_singleton→Te,map_singleton→Tf,take_append_drop→Tg,map_id→Th,take_succ_eq_append_getElem→Ti,getElem_append_right→Tj,take_left→Tn,mem_of_mem_take→Tp,mem_of_mem_drop→Tq,map_take→Tr
open Int renaming natCast_nonneg→QW,fdiv_eq_ediv_of_nonneg→QX,toNat_natCast→Ri,emod_nonneg→S4,emod_lt_of_pos→S5,toNat_of_nonneg→To
open Nat renaming lt_of_lt_of_le→QI,lt_irrefl→QJ,ne_of_lt→QK,le_trans→QL,le_of_lt→QM,ne_of_gt→QT,le_refl→QU,le_of_eq→Q3,zero_le→Q4,le_succ→Q6,lt_trans→Rv,lt_succ_of_lt→RA,min_self→RL,sub_zero→RX,lt_of_le_of_lt→R0,le_add_right→R8,add_lt_add_left→R9,lt_add_of_pos_right→Sa,zero_add→Sb,sub_self→Si,lt_or_ge→SH,le_total→SM,min_eq_left→SN,min_eq_right→SR
open Bool renaming false_ne_true→QZ,and_eq_true→Rl,and_false→Ro,false_eq_true→Rz,and_true→RM,or_eq_true→RN,or_eq_false_iff→Sf,not_true→SZ,not_false→S0
open Option renaming getD_none→Rm,isSome_map→Ru
open PySem renaming Value→UK,World→UL,Program→UM,Addr→UN,Paired→UO,Heap→UP,sizeLine→UQ,mainGlobals→UT,builtinsNs→UU,bootBuiltins→UV,Around→UW,Shared→UX,Scope→UY,wpAny→UZ,Expr→U0,starEach→U1,Stmt→U2,wpAny_mono→U3,wpAny_Name→U4,wpAny_truthy_bool→U5,wpAny_execs_nil→U6,wpAny_pure→U7,wpAny_bind→U8,IsRangeIter→U9,wpAny_pyIter_list→Va,PassesOwn→Vb,foldedSetIterable→Vc,wpAny_passesOwn→Vd,binaryOp→Ve,compareOp→Vf,CmpOp→Vg,behindInMarks→Vh,sizeLine_eq→Vi,Result→Vj,codeAny→Vk,attributeBase→Vl,callWith→Vm,keywordEach→Vn,recursionLimit→Vo,cLine→Vp,FuncData→Vq,BindsTo→Vr,wpAny_call→Vs,codeAny_mono→Vt,wpAny_Call_Name_kw→Vu,Keyword→Vv,wpAny_standAt→Vw,NameKind→Vx,Arguments→Vy,concat_meets→Vz,noFill_tuple_add→VA,seq_tuple_add→VB,IsPart→VC,wpAny_field→VD,wpAny_holding→VE,wpAny_callSpecial?_slot→VF,wpAny_call_entry→VG,wpAny_typeOf→VH,wpAny_newObj_type→VI,evalPart_none→VJ,tupleKind_room_in1→VM,wpAny_comprehension_free→VN,wpAny_rule→VO,wpAny_getItem_str_slice→VP,post_val_or_str→VQ,wpAny_seqItems→VR,wpAny_setField→VS,wpAny_of_eq→VU,wpAny_handled→VV,IsZip→VW,IsPair→VX,wpAny_setField_rec→VY,wpAny_onRaise→VZ,wpAny_updateSeq_pair→V0,wpAny_letGo→V2,wpAny_newTuple→V3,wpAny_attempt→V4,wpAny_isInstance→V5,isSubtype_stop→V6,wpAny_newList→Wc,wpAny_collect_seq→Wd,codeAny_builtin→We,wpAny_tryCatch→Wf,wpAny_updateSeq→Wg,plainId_quiet→Wh,wpAny_notOrdered_dict→Wj,wpAny_dictEntries→Wk,DictEntry→Wl,wpAny_dictEpoch→Wm,IsItemIter→Wn,IsItemIterOut→Wo,wpAny_typeNameOfWhole_itemiter→Wp,wpAny_typeNameOf_itemiter→Wq,wpAny_fieldsOf→Wr,wpAny_isOneOf_itemiter→Wt,wpAny_typeNameOfWhole_keyiter→Wu,wpAny_typeNameOf_keyiter→Wv
open PySem.W renaming instObj→Ts,methodObj→Tt,Frag→Tu,lookIn→Tv,plainGet→Tw,hasDictIn→Tx,findIn→Tz,handedIn→TB,plainGet_of→TC,isFn→TF,plainOver→TH,takerIn→TJ,makesIn→TK,emptyDict→TL,keepIn→TN,callWith_K→TQ,cellsFrom_some→TR,fnOf→TU,codeIn→TV,nsIn→TY,kitOne→TZ,kia_one→T2,BoolBack→T3,tabObj→T5,kla_fn→T6,OpenLaw→T7,kdl_call→T8,codeHdIn→T9,mg_of→Ua,mg_none_of→Ub,kas_ask→V8,kla_obj→Wi
open PySem.Heap renaming lt_size→Uc,get?_none_of_le→Ud,SameBut→Ue,get?_push_of_some→Ug,get?_push_size→Uh,size_push→Ui,get?_update_other→Uj,get?_update_self→Uk,ExtBut→Ul,get?_push_ne→Um,size_update→Uo,get?_update_ne→Uq
open PyProof.Rows renaming callWith_type1→Ur,slot_tuple_getitem→Us,envOfC→Ut,IsTup→Uu,Call_→Uv,callWith_kw→Uw,boot_str→Ux,boot_bool→Uy,boot_int→Uz,boot_tuple→UA,boot_dict→UB,boot_list→UC,boot_max→UD,IsTup→UR,Subscript_→VL,SortKind→V7,listUpdate_at→V9,get?_update_seq→Wa,seqEpoch_at→Wb
open PySem.F renaming slot_tuple_add→UE,entry_tuple_add→UG,args_tuple_add_2→UH,slot_list_append→UI,type_list_append→UJ
set_option maxHeartbeats 1000000
local macro_rules | `(‹1›)=>`(by first | exact Or.inl rfl | exact Or.inr rfl)
local macro_rules | `(‹2›)=>`(⟨rfl, rfl, rfl, by decide +kernel, rfl, by decide +kernel, by decide +kernel⟩)
local macro_rules | `(‹0›)=>`(by omega)
namespace L2
open PySem PySem.Spec PyProof.Rows
abbrev Key:=Sum Int Str
def sg:Key->UK->Bool
 |.inl k,v=>Value.isInt k v
 |.inr x,v=>Value.isStrOf x v
def PY(w:UL):Key->Int
 |.inl k=>hashInt k
 |.inr x=>hashStr w x
theorem dq:∀{k:Key}{v:UK},sg k v=true->(∃i t,k=Sum.inl i/\v=Value.int i t)\/(∃x t,k=Sum.inr x/\v=Value.str x t)
 |.inl i,v,h=>by
  obtain⟨t,e⟩:=Value.isInt_shape (k:=i) (v:=v) h;exact .inl ⟨i,t,rfl,e⟩
 |.inr x,v,h=>by
  obtain⟨t,e⟩:=Value.isStrOf_shape (x:=x) (v:=v) h;exact .inr ⟨x,t,rfl,e⟩
theorem Dg(i:Int)(t:Tok):sg (.inl i) (.int i t)=true:=by simp[sg,Value.isInt]
theorem Dx(x:Str)(t:Tok):sg (.inr x) (.str x t)=true:=by simp[sg,Value.isStrOf]
theorem JS(a b:Int):decide ((Sum.inl a:Key)=Sum.inl b)=(a==b):=by
 by_cases e:a=b
 ·subst e;simp
 ·have h:¬(Sum.inl a:Key)=Sum.inl b:=λq=>e (Sum.inl.inj q);rw[decide_eq_false h];exact(beq_eq_false_iff_ne.mpr e).symm
theorem Lc(a b:Str):decide ((Sum.inr a:Key)=Sum.inr b)=decide (a=b):=by
 by_cases e:a=b
 ·subst e;simp
 ·have h:¬(Sum.inr a:Key)=Sum.inr b:=λq=>e (Sum.inr.inj q);rw[decide_eq_false h,decide_eq_false e]
theorem Kf(a:Int)(b:Str):decide ((Sum.inl a:Key)=Sum.inr b)=false:=decide_eq_false (λq=>nomatch q)
theorem Kp(a:Str)(b:Int):decide ((Sum.inr a:Key)=Sum.inl b)=false:=decide_eq_false (λq=>nomatch q)
def bY(prog:UM)(w:UL):PySem.KeyKind prog w Key where
 is:=sg
 hash:=PY w
 inj:=λv a b ha hb=>by
  rcases dq ha with⟨i,t,rfl,rfl⟩|⟨x,t,rfl,rfl⟩
  ·rcases dq hb with⟨j,u,rfl,e⟩|⟨y,u,rfl,e⟩
   ·injection e with e1 _;rw[e1]
   ·exact nomatch e
  ·rcases dq hb with⟨j,u,rfl,e⟩|⟨y,u,rfl,e⟩
   ·exact nomatch e
   ·injection e with e1 _;rw[e1]
 byValue:=λk v h=>by
  rcases dq h with⟨i,t,rfl,rfl⟩|⟨x,t,rfl,rfl⟩<;>rfl
 pyHash:=λhv h=>by
  rcases dq hv with⟨i,t,rfl,rfl⟩|⟨x,t,rfl,rfl⟩
  ·exact wpAny_pyHash_int h
  ·exact wpAny_pyHash_str h
 eqBool:=λhu hv h=>by
  rcases dq hu with⟨i,t,rfl,rfl⟩|⟨x,t,rfl,rfl⟩
  ·rcases dq hv with⟨j,u,rfl,rfl⟩|⟨y,u,rfl,rfl⟩
   ·rw[JS]at h;exact wpAny_eqBool_int h
   ·rw[Kf]at h;exact SeqAt.EqAt.int_str i t y u _ _ _ _ h
  ·rcases dq hv with⟨j,u,rfl,rfl⟩|⟨y,u,rfl,rfl⟩
   ·rw[Kp]at h;exact SeqAt.EqAt.str_int x t j u _ _ _ _ h
   ·rw[Lc]at h;exact wpAny_eqBool_str h
 «strs»:=λk x t v h=>by
  rcases dq h with⟨i,u,rfl,e⟩|⟨y,u,rfl,e⟩
  ·exact nomatch e
  ·injection e with e1 _;subst e1;cases v<;>rfl
theorem AG(prog:UM)(w:UL)(k:Key)(v:UK):(bY prog w).is k v=sg k v:=rfl
theorem yN(prog:UM)(w:UL)(i:Int)(t:Tok):(bY prog w).is (.inl i) (.int i t)=true:=Dg i t
theorem zE(prog:UM)(w:UL)(x:Str)(t:Tok):(bY prog w).is (.inr x) (.str x t)=true:=Dx x t
inductive V where
 |non|bl (b:Bool)|int (i:Int)|str (x:Str)|byt (b:Array UInt8)|flt (b:UInt64)|ref (a:UN)|ty (n:String)
 deriving DecidableEq
def RelV:V->UK->Prop
 |.non,u=>u=Value.none
 |.bl b,u=>u=Value.bool b
 |.int i,u=>∃t,u=Value.int i t
 |.str x,u=>∃t,u=Value.str x t
 |.byt b,u=>∃t,u=Value.bytes b t
 |.flt b,u=>∃t,u=Value.float b t
 |.ref a,u=>u=Value.ref a
 |.ty n,u=>u=Value.type n
abbrev Vals:List V->List UK->Prop:=UO RelV
theorem Vals.length{xs:List V}{us:List UK}(r:Vals xs us):xs.length=us.length:=Paired.length r
theorem Vals.get:∀{xs:List V}{us:List UK}{i:Nat}{x:V},Vals xs us->xs[i]?=some x->∃u,us[i]?=some u/\RelV x u
 |_,_,_,_,.nil,e=>by simp at e
 |_,_,0,_,.cons r _,e=>by simp at e;subst e;exact⟨_,rfl,r⟩
 |_,_,i+1,x,.cons _ t,e=>by
  obtain⟨u,h1,h2⟩:=Vals.get (i:=i) (x:=x) t (by simpa using e);exact⟨u,by simpa using h1,h2⟩
theorem Vals.append:∀{xs ys:List V}{us ws:List UK},Vals xs us->Vals ys ws->Vals (xs++ys) (us++ws)
 |_,_,_,_,.nil,s=>s
 |_,_,_,_,.cons r t,s=>.cons r (Vals.append t s)
theorem Vals.take:∀{xs:List V}{us:List UK}(n:Nat),Vals xs us->Vals (xs.take n) (us.take n)
 |_,_,0,_=>.nil
 |_,_,_+1,.nil=>.nil
 |_,_,n+1,.cons r t=>.cons r (Vals.take n t)
theorem Vals.drop:∀{xs:List V}{us:List UK}(n:Nat),Vals xs us->Vals (xs.drop n) (us.drop n)
 |_,_,0,r=>r
 |_,_,_+1,.nil=>.nil
 |_,_,n+1,.cons _ t=>Vals.drop n t
def ub:Option V->Option UK->Prop
 |some v,some u=>RelV v u
 |none,none=>True
 |_,_=>False
def KV{κ:Type}:List (κ×V)->List (κ×UK)->Prop:=UO λ(p:κ×V)(q:κ×UK)=>p.1=q.1/\RelV p.2 q.2
def kV:Key->V
 |.inl i=>.int i
 |.inr x=>.str x
inductive HO where
  |lst (xs:List V)
  |tup (xs:List V)
  |dK (kvs:List (Key×V))|dT (kvs:List (List Key×V))
  |set (S:Int->Bool) (n:Nat)
  |ins (C dx:UN) (fs:List (Str×V))
  |own (x:UN)
  |xd (fs:List (Str×V))
  |met (f x:UN)
  |rng (lo hi:Int)
  |frz (o:Obj) (u:HO)
  |tbl (ps:Array UK)
  |ext (φ:(UN->Prop)->UP->Prop)
abbrev Hp:=UN->Option HO
def upd(H:Hp)(a:UN)(o:HO):Hp:=λb=>if b=a then some o else H b
theorem aY{H:Hp}{a:UN}{o:HO}:upd H a o a=some o:=by unfold upd;rw[if_pos rfl]
theorem aD{H:Hp}{a b:UN}{o:HO}(h:b≠a):upd H a o b=H b:=by unfold upd;rw[if_neg h]
theorem IU{H:Hp}{a:UN}{o u:HO}:upd (upd H a o) a u=upd H a u:=by
 funext b;unfold upd;split<;>rfl
theorem GY{H:Hp}{a b:UN}{o u:HO}(h:H a=some o)(h':H b=some u)(d:o≠u):a≠b:=by
 intro e;subst e;rw[h]at h';exact d (Option.some.inj h')
theorem bc{H:Hp}{a b:UN}{o:HO}(h:H a=some o)(h':H b=none):a≠b:=by
 intro e;subst e;rw[h]at h';cases h'
section
variable(P:UM)(w:UL)
def cH(H:Hp)(h:UP)(a:UN):HO->Prop
 |.lst xs=>xs.length<=UQ/\∃(its:List UK)(n:Nat),Vals xs its/\h.get? a=some {cls:=.type "list",data:=.seq its.toArray n}
 |.tup xs=>xs.length<=UQ/\∃its:List UK,Vals xs its/\UR h a its.toArray
 |.dK kvs=>kvs.length<=UQ/\(a==sysModules)=false/\∃vs,KV kvs vs/\h.DictOf (bY P w) a vs
 |.dT kvs=>kvs.length<=UQ/\(a==sysModules)=false/\∃xs:List (List Key×UN×UK),
   UO (λ(p:List Key×V)(q:List Key×UN×UK)=>p.1=q.1/\H q.2.1=some (.tup (p.1.map kV))/\RelV p.2 q.2.2) kvs xs/\
   ∃o es ep,h.get? a=some o/\o.ExactDict/\o.data=.dict es ep/\es.toList=xs.map (entryOfKey (tupleKind (bY P w)))/\(xs.map (·.1)).Nodup
 |.set S n=>h.SetOf (intKind P w) a S n
 |.ins C dx fs=>H dx=some (.own a)/\fs.length<=1000/\dx≠a/\h.get? a=some (Ts C dx)/\
   ∃mA,h.Ns1 dx mA/\(∀f,ub (fs.lookup f) (mA f))/\PySem.Within mA (fs.map (·.1))
 |.own _=>∃o,h.get? a=some o
 |.xd fs=>∃mA,h.Ns1 a mA/\∀f,ub (fs.lookup f) (mA f)
 |.rng lo hi=>∃t u v,h.get? a=some {cls:=.type "range",data:=.fields #[.int lo t,.int hi u,.int 1 v]}
 |.frz o u=>h.get? a=some o/\cH H h a u
 |.tbl ps=>h.get? a=some {cls:=.none,data:=.fields ps}
 |.met f x=>h.get? a=some (Tt (.ref f) (.ref x))
 |.ext φ=>φ (λb=>H b=some (.own a)) h/\(∃o,h.get? a=some o)/\∀(S1 S2:UN->Prop)(h1 h2:UP),φ S1 h1->(∀b,S1 b->S2 b)->(∀b o,(b=a\/S1 b)->h1.get? b=some o->h2.get? b=some o)->φ S2 h2
def pT(H:Hp)(h:UP):Prop:=∀a o,H a=some o->cH P w H h a o
end
section
variable{P:UM}{w:UL}{H H':Hp}{h h':UP}{a:UN}{o:HO}
theorem cH.lt(x:cH P w H h a o):a<h.objs.size:=by
 cases o with
 |lst xs=>obtain⟨_,_,_,_,e⟩:=x;exact Uc e
 |tup xs=>obtain⟨_,_,_,p⟩:=x;exact p.lt
 |dK kvs=>obtain⟨_,_,_,_,o,_,_,e,_⟩:=x;exact Uc e
 |dT kvs=>obtain⟨_,_,_,_,o,_,_,e,_⟩:=x;exact Uc e
 |set S n=>obtain⟨o,_,_,_,e,_⟩:=x;exact Uc e
 |ins C dx fs=>obtain⟨_,_,_,e,_⟩:=x;exact Uc e
 |own y=>obtain⟨_,e⟩:=x;exact Uc e
 |xd fs=>obtain⟨_,⟨_,_,_,e,_⟩,_⟩:=x;exact Uc e
 |rng lo hi=>obtain⟨_,_,_,e⟩:=x;exact Uc e
 |frz ob u=>obtain⟨e,_⟩:=x;exact Uc e
 |tbl ps=>exact Uc (show h.get? a=some _ from x)
 |met f y=>exact Uc (show h.get? a=some _ from x)
 |ext φ=>obtain⟨_,⟨_,e⟩,_⟩:=x;exact Uc e
theorem Paired.mapP{α β:Type}{F G:α->β->Prop}:∀{l₁:List α}{l₂:List β},UO F l₁ l₂->(∀a b,F a b->G a b)->UO G l₁ l₂
 |_,_,.nil,_=>.nil
 |_,_,.cons r t,f=>.cons (f _ _ r) (Paired.mapP t f)
theorem cH.stay(x:cH P w H h a o)(k:∀b u,(b=a\/H b=some (.own a))->h.get? b=some u->h'.get? b=some u)
  (ho:∀b,H b=some (.own a)->H' b=some (.own a)) (ht:∀b xs,H b=some (.tup xs)->H' b=some (.tup xs)):cH P w H' h' a o:=by
 induction o with
 |lst xs=>obtain⟨z,its,n,r,e⟩:=x;exact⟨z,its,n,r,k _ _ (.inl rfl) e⟩
 |tup xs=>obtain⟨z,its,r,ob,e,c⟩:=x;exact⟨z,its,r,ob,k _ _ (.inl rfl) e,c⟩
 |dK kvs=>obtain⟨z,y,vs,r,ob,es,ep,e,c⟩:=x;exact⟨z,y,vs,r,ob,es,ep,k _ _ (.inl rfl) e,c⟩
 |dT kvs=>
  obtain⟨z,y,xs,r,ob,es,ep,e,c⟩:=x;exact⟨z,y,xs,Paired.mapP r λp q z=>⟨z.1,ht _ _ z.2.1,z.2.2⟩,ob,es,ep,k _ _ (.inl rfl) e,c⟩
 |set S n=>obtain⟨ob,es,ep,t,e,c⟩:=x;exact⟨ob,es,ep,t,k _ _ (.inl rfl) e,c⟩
 |ins C dx fs=>
  obtain⟨d,z,ne,e,mA,⟨od,es,ep,e2,c⟩,r⟩:=x;exact⟨ho _ d,z,ne,k _ _ (.inl rfl) e,mA,⟨od,es,ep,k _ _ (.inr d) e2,c⟩,r⟩
 |own y=>obtain⟨ob,e⟩:=x;exact⟨ob,k _ _ (.inl rfl) e⟩
 |xd fs=>obtain⟨mA,⟨od,es,ep,e,c⟩,r⟩:=x;exact⟨mA,⟨od,es,ep,k _ _ (.inl rfl) e,c⟩,r⟩
 |rng lo hi=>obtain⟨t,u,v,e⟩:=x;exact⟨t,u,v,k _ _ (.inl rfl) e⟩
 |frz ob u ih=>obtain⟨e,q⟩:=x;exact⟨k _ _ (.inl rfl) e,ih q⟩
 |tbl ps=>
  have e:h.get? a=some {cls:=.none,data:=.fields ps}:=x;show h'.get? a=some {cls:=.none,data:=.fields ps};exact k a _ (.inl rfl) e
 |met f y=>
  have e:h.get? a=some (Tt (.ref f) (.ref y)):=x;show h'.get? a=some (Tt (.ref f) (.ref y));exact k a _ (.inl rfl) e
 |ext φ=>obtain⟨p,⟨o,e⟩,st⟩:=x;exact⟨st _ _ _ _ p ho k,⟨o,k _ _ (.inl rfl) e⟩,st⟩
theorem pT.lt(x:pT P w H h)(e:H a=some o):a<h.objs.size:=(x a o e).lt
theorem pT.fresh(x:pT P w H h)(e:h.objs.size<=a):H a=none:=by
 cases q:H a with
 |none=>rfl
 |some u=>exact absurd (QI (x.lt q) e) (QJ _)
theorem pT.kept(x:pT P w H h)(k:∀b u,h.get? b=some u->h'.get? b=some u):pT P w H h':=λa o e=>
 (x a o e).stay (λb u _ q=>k b u q) (λ_ q=>q) λ_ _ q=>q
theorem pT.laid(x:pT P w H h)(k:∀b u,h.get? b=some u->h'.get? b=some u)(hp:h.objs.size<=a)(new:cH P w (upd H a o) h' a o):pT P w (upd H a o) h':=λb u e=>by
 have hn:=x.fresh hp;by_cases hb:b=a
 ·subst hb;rw[aY]at e;cases e;exact new
 ·rw[aD hb]at e;exact(x b u e).stay (λc v _ q=>k c v q) (λc q=>by rw[aD (bc q hn)];exact q) λc xs q=>by rw[aD (bc q hn)];exact q
end
def Rd(H:Hp)(a:UN)(u:HO):Prop:=H a=some u\/∃o,H a=some (.frz o u)
theorem Rd.ok{P:UM}{w:UL}{H:Hp}{h:UP}{a:UN}{u:HO}(r:Rd H a u)(x:pT P w H h):cH P w H h a u:=by
 rcases r with r|⟨o,r⟩
 ·exact x a u r
 ·obtain⟨_,q⟩:=x a _ r;exact q
def M2:Option HO->Prop
 |some (.lst _)=>True
 |some (.dK _)=>True
 |some (.dT _)=>True
 |some (.set _ _)=>True
 |some (.ins _ _ _)=>True
 |some (.ext _)=>True
 |_=>False
section
variable{P:UM}{w:UL}{H:Hp}{h h':UP}{x e:UN}{o':HO}
theorem pT.write(ok:pT P w H h)(mu:M2 (H x))(he:e=x\/H e=some (.own x))(k:∀b u,b≠e->h.get? b=some u->h'.get? b=some u)(heo:∃u,h'.get? e=some u)
  (new:cH P w (upd H x o') h' x o'):pT P w (upd H x o') h':=λb u q=>by
 have nown:∀c y,H c=some (.own y)->c≠x:=λc y r z=>by subst z;rw[r]at mu;exact mu
 have ntup:∀c xs,H c=some (.tup xs)->c≠x:=λc xs r z=>by subst z;rw[r]at mu;exact mu
 by_cases hb:b=x
 ·subst hb;rw[aY]at q;cases q;exact new
 ·rw[aD hb]at q;by_cases hbe:b=e
  ·have q':H b=some (.own x):=by
    rcases he with z|z
    ·exact absurd (hbe.trans z) hb
    ·rw[hbe];exact z
   rw[q]at q';cases q';obtain⟨v,hv⟩:=heo;exact⟨v,by rw[hbe];exact hv⟩
  ·refine(ok b u q).stay (λc v hc r=>k c v ?_ r) (λc r=>by rw[aD (nown c b r)];exact r) λc xs r=>by rw[aD (ntup c xs r)];exact r
   rcases hc with rfl|hc
   ·exact hbe
   ·rintro rfl;rcases he with z|z
    ·exact nown c b hc z
    ·rw[hc]at z;cases z;exact hb rfl
end
structure Un(fs ex:List UN)(H H':Hp)(h h':UP):Prop where
 keep:∀b o,h.get? b=some o->H b=none->b∉fs->b∉ex->h'.get? b=some o
 slot:∀b o,h.get? b=some o->H b=none->b∈fs->b∉ex->∃sl,h'.get? b=some {o with slots:=sl}
 free:∀b o,h.get? b=some o->H b=none->b∉ex->H' b=none
 there:∀b o,h.get? b=some o->b∉ex->∃o',h'.get? b=some o'
 tups:∀b xs,H b=some (.tup xs)->H' b=some (.tup xs)
 frzs:∀b o u,H b=some (.frz o u)->H' b=some (.frz o u)
 tbls:∀b ps,H b=some (.tbl ps)->∃more,H' b=some (.tbl (ps++more))
section
variable{fs fs' ex ex':List UN}{H H1 H2:Hp}{h h1 h2 h':UP}{a x e:UN}{o:HO}
theorem Un.any(u:Un fs ex H H1 h h1){b:UN}{ob:Obj}(q:h.get? b=some ob)(n:H b=none)(hx:b∉ex):∃sl,h1.get? b=some {ob with slots:=sl}:=by
 by_cases hb:b∈fs
 ·exact u.slot b ob q n hb hx
 ·exact⟨ob.slots,u.keep b ob q n hb hx⟩
theorem Un.kept(k:∀b u,h.get? b=some u->h'.get? b=some u):Un fs ex H H h h':=
 ⟨λb ob q _ _ _=>k b ob q,λb ob q _ _ _=>⟨ob.slots,k b ob q⟩,λ_ _ _ n _=>n,λb ob q _=>⟨ob,k b ob q⟩,λ_ _ q=>q,λ_ _ _ q=>q,λ_ ps q=>⟨#[],by rw[q];simp⟩⟩
theorem Un.refl:Un fs ex H H h h:=Un.kept λ_ _ q=>q
theorem Un.laid(k:∀b u,h.get? b=some u->h'.get? b=some u)(hp:h.objs.size<=a)(hn:H a=none):Un fs ex H (upd H a o) h h' where
 keep:=λb u q _ _ _=>k b u q
 slot:=λb u q _ _ _=>⟨u.slots,k b u q⟩
 free:=λb u q n _=>by rw[aD (QK (QI (Uc q) hp))];exact n
 there:=λb u q _=>⟨u,k b u q⟩
 tups:=λb xs q=>by rw[aD (bc q hn)];exact q
 frzs:=λb u xs q=>by rw[aD (bc q hn)];exact q
 tbls:=λb ps q=>⟨#[],by rw[aD (bc q hn),q];simp⟩
theorem Un.write(mu:M2 (H x))(he:e=x\/H e=some (.own x))(k:∀b u,b≠e->h.get? b=some u->h'.get? b=some u)(heo:∃u,h'.get? e=some u):Un fs ex H (upd H x o) h h':=by
 have hx:∀b,H b=none->b≠x:=λb n z=>by subst z;rw[n]at mu;exact mu
 have hb:∀b,H b=none->b≠e:=λb n z=>by
  subst z;rcases he with r|r
  ·exact hx b n r
  ·rw[n]at r;cases r
 have hm:∀b u,H b=some u->¬M2 (some u)->b≠x:=λb u q nm z=>by subst z;rw[q]at mu;exact nm mu
 refine⟨λb u q n _ _=>k b u (hb b n) q,λb u q n _ _=>⟨u.slots,k b u (hb b n) q⟩,λb u q n _=>by rw[aD (hx b n)];exact n,λb u q _=>?_,
  λb xs q=>by rw[aD (hm b _ q λz=>z)];exact q,λb u xs q=>by rw[aD (hm b _ q λz=>z)];exact q,λb ps q=>⟨#[],by rw[aD (hm b _ q λz=>z),q];simp⟩⟩
 by_cases hbe:b=e
 ·subst hbe;exact heo
 ·exact⟨u,k b u hbe q⟩
end
def Nz(h:UP)(H:Hp):List UN:=(List.range h.objs.size).filter λa=>(H a).isSome
def xY(h:UP)(H:Hp):UP:=PySem.W.hideAll h (Nz h H)
theorem De(h:UP)(H:Hp):(xY h H).objs.size=h.objs.size:=PySem.W.hideAll_size _ _
theorem uL{h:UP}{H:Hp}{b:UN}{o:Obj}(e:h.get? b=some o)(n:H b=none):(xY h H).get? b=some o:=
 PySem.W.hideAll_get _ e λhm=>by
  have q:(H b).isSome=true:=(List.mem_filter.mp hm).2;rw[n]at q;simp at q
theorem HD{h:UP}{H:Hp}{b:UN}{o:Obj}(e:(xY h H).get? b=some o):h.get? b=some o/\H b=none:=by
 have e':h.get? b=some o:=PySem.W.of_hideAll (Nz h H) e;refine⟨e',?_⟩;cases q:H b with
 |none=>rfl
 |some x=>
  have hm:b∈Nz h H:=List.mem_filter.mpr ⟨List.mem_range.mpr (Uc e'),by simp[q]⟩;have z:(xY h H).get? b=none:=PySem.W.hideAll_none (Nz h H) hm;rw[z]at e;cases e
def Hy(g h:UP)(L:UN):List (UN×Obj):=(List.range h.objs.size).filterMap λa=>if a=L\/(g.get? a).isSome=true then none else(h.get? a).map λo=>(a,o)
def rest(g h:UP)(L d:UN):List (UN×Obj):=(Hy g h L).filter λp=>decide (p.1≠d)
structure Mod(K:Tu)(mg:Str->Option UK)(base:UP):Prop where
 kin:K.In base
 glob:base.Ns UT mg
 blt:∃mb,base.Ns UU mb/\∀x:Str,x≠"__name__"->mb x=UV x
 nolimit:base.NoLimit
structure Cx where
 prog:UM
 w:UL
 K:Tu
 mg:Str->Option UK
 base:UP
 A:UW
 N:List Str
 s₀:UX
 H₀:Hp
 env:Env
 outer:List Env
 stack:List Env
 ex:List UN
 fn:Str->Bool
 calm:Bool
 pn:List (UN×Obj)
 xe:UK->UX->Prop
def frs(l:List Env):List UN:=l.filterMap (·.frame)
abbrev Cx.fs(X:Cx):List UN:=frs X.outer
def J9(sc:UY)(x:Str):Prop:=sc.names.lookup x=some .local\/sc.names.lookup x=some .cell\/sc.names.lookup x=some .free
def Loc(sc:UY)(x:Str):Prop:=sc.names.lookup x=some .local\/sc.names.lookup x=some .cell
def Look(env:Env)(h:UP)(m:Str->Option UK)(x:Str)(u:UK):Prop:=
 (env.kindOf x=some .local/\m x=some u)\/((env.kindOf x=some .cell\/env.kindOf x=some .free)/\∃c,env.cells.lookup x=some c/\h.IsCell c (some u))
structure Cx.Ok(X:Cx):Prop where
 mod:Mod X.K X.mg X.base
 kind:X.env.scope.kind=.function
 glob:X.env.globals=UT
 blt:X.env.builtins=UU
 above:X.s₀.heap.objs.size<=X.env.locals
 inj:∀x y c,X.env.cells.lookup x=some c->X.env.cells.lookup y=some c->x=y
 has:∀x,(X.env.kindOf x=some .cell\/X.env.kindOf x=some .free)->∃c,X.env.cells.lookup x=some c
 cab:∀x c,X.fn x=true->X.env.cells.lookup x=some c->X.s₀.heap.objs.size<=c
 hd:X.calm=true->X.A.handled=none
 frames:X.A.frames=some X.stack
 stk:X.stack=X.outer\/(X.stack=X.env::X.outer/\X.env.frame=some X.env.locals)
 exf:∀b∈X.ex,b≠X.env.locals/\∀x c,X.env.cells.lookup x=some c->c≠b
 bs:∀b o,X.base.get? b=some o->X.s₀.heap.get? b=some o/\X.H₀ b=none
 bsz:X.base.objs.size<=X.s₀.heap.objs.size
 noex:∀b o,X.base.get? b=some o->b∉X.ex
 exfs:∀b∈X.ex,b∉X.fs
 funs:X.s₀.heap.FunFrames X.base X.outer
 frf:∀b∈X.fs,X.H₀ b=none
structure Inv(X:Cx)(pins:List (UN×Obj))(σ:List (Option V))(H:Hp)(s:UX):Prop where
 ok:X.Ok
 os:s.os=X.s₀.os
 bare:AllBare s.gens
 base:Un X.fs X.ex X.H₀ H X.s₀.heap s.heap
 loc:∃m,s.heap.Ns X.env.locals m/\∀(i:Nat)(x:Str)(v:V),X.N[i]?=some x->σ[i]?=some (some v)->J9 X.env.scope x->∃u,RelV v u/\Look X.env s.heap m x u
 cell:∀x c,X.env.cells.lookup x=some c->∃v,s.heap.IsCell c v
 free:H X.env.locals=none
 freeC:∀x c,X.env.cells.lookup x=some c->H c=none
 pin:∀p∈X.pn++pins,s.heap.get? p.1=some p.2/\H p.1=none/\p.1≠X.env.locals/\p.1∉X.fs/\∀v,p.2.data≠.cell v
 hok:pT X.prog X.w H s.heap
 len:σ.length=X.N.length
section
variable{X:Cx}{pins:List (UN×Obj)}{σ:List (Option V)}{H H':Hp}{s:UX}{h':UP}
theorem Cx.Ok.nofr(ok:X.Ok){b:UN}{o:Obj}(e:X.base.get? b=some o):b∉X.fs:=λhb=>by
 have:=(ok.funs.mem hb).1
 rw[e]at this;cases this
theorem Inv.bs(I:Inv X pins σ H s):∀b o,X.base.get? b=some o->s.heap.get? b=some o/\H b=none:=λb o e=>
 ⟨I.base.keep b o (I.ok.bs b o e).1 (I.ok.bs b o e).2 (I.ok.nofr e) (I.ok.noex b o e),I.base.free b o (I.ok.bs b o e).1 (I.ok.bs b o e).2 (I.ok.noex b o e)⟩
theorem Inv.bk(I:Inv X pins σ H s):∀b o,X.base.get? b=some o->s.heap.get? b=some o:=λb o e=>(I.bs b o e).1
theorem Inv.mod(I:Inv X pins σ H s):Mod X.K X.mg X.base:=I.ok.mod
theorem Inv.kIn(I:Inv X pins σ H s):X.K.In s.heap:=I.ok.mod.kin.keeps I.bk
theorem Inv.nolimit(I:Inv X pins σ H s):s.heap.NoLimit:=I.ok.mod.nolimit.keeps I.bk
theorem Inv.lt(I:Inv X pins σ H s):X.env.locals<s.heap.objs.size:=let ⟨_,hn,_⟩:=I.loc;hn.lt
theorem Inv.sz(I:Inv X pins σ H s):X.s₀.heap.objs.size<=s.heap.objs.size:=QL I.ok.above (QM I.lt)
theorem Inv.nofs(I:Inv X pins σ H s){a:UN}(h:s.heap.objs.size<=a):a∉X.fs:=λhb=>by
 obtain⟨_,o,ho,_⟩:=I.ok.funs.mem hb;exact absurd (QI (Uc ho) (QL I.sz h)) (QJ _)
theorem Inv.cne(I:Inv X pins σ H s):∀x c,X.env.cells.lookup x=some c->c≠X.env.locals:=λx c e z=>by
 obtain⟨v,o,ho,hd⟩:=I.cell x c e;obtain⟨m,⟨o',es,ep,ho',hd',_⟩,_⟩:=I.loc;rw[z,ho']at ho;cases ho;rw[hd']at hd;cases hd
theorem Inv.funs(I:Inv X pins σ H s):s.heap.FunFrames X.base X.outer:=by
 have all:∀(l:List Env),(∀b∈frs l,b∈X.fs)->X.s₀.heap.FunFrames X.base l->s.heap.FunFrames X.base l:=by
  intro l
  induction l with
  |nil=>intro _ _;trivial
  |cons env r ih=>
   intro hs hl;obtain⟨hk,⟨L,o,hf,hn,ho,hd⟩,hr⟩:=hl;have hL:L∈X.fs:=hs L (by unfold frs;rw[QN,hf];exact QO);obtain⟨sl,e⟩:=I.base.slot L o ho (I.ok.frf L hL) hL λz=>I.ok.exfs L z hL;exact⟨hk,⟨L,_,hf,hn,e,hd⟩,ih (λb hb=>hs b (by unfold frs;rw[QN,hf];exact QP _ hb)) hr⟩
 exact all X.outer (λ_ hb=>hb) I.ok.funs
theorem Inv.stack(I:Inv X pins σ H s):s.heap.FunFrames X.base X.stack:=by
 rcases I.ok.stk with e|⟨e,hf⟩
 ·rw[e];exact I.funs
 ·rw[e];obtain⟨m,hn,_⟩:=I.loc;refine .cons (by rw[I.ok.kind];decide) hf hn ?_ I.funs;exact Ud (QL I.ok.bsz I.ok.above)
theorem Inv.stkSub(I:Inv X pins σ H s):∀b∈frs X.stack,b∈X.env.locals::X.fs:=λb hb=>by
 rcases I.ok.stk with e|⟨e,hf⟩
 ·rw[e]at hb;exact QP _ hb
 ·rw[e]at hb;unfold frs at hb;rw[QN,hf]at hb;exact hb
theorem Inv.stkFree(I:Inv X pins σ H s):∀b∈frs X.stack,H b=none:=λb hb=>by
 rcases List.mem_cons.mp (I.stkSub b hb)with e|hb
 ·rw[e];exact I.free
 ·obtain⟨_,o,ho,_⟩:=I.ok.funs.mem hb;exact I.base.free b o ho (I.ok.frf b hb) λz=>I.ok.exfs b z hb
theorem Inv.step{g':Array GenState}{t':Nat}{d':Drawn}{ch:List UN}(I:Inv X pins σ H s)
  (hch:∀b∈ch,(b∈X.ex\/X.s₀.heap.objs.size<=b)/\b≠X.env.locals/\(∀x c,X.env.cells.lookup x=some c->c≠b)/\∀p∈X.pn++pins,p.1≠b)
  (keep:∀b o,b≠X.env.locals->b∉X.fs->b∉ch->s.heap.get? b=some o->H b=none->h'.get? b=some o)
  (slot:∀b o,b≠X.env.locals->b∈X.fs->b∉ch->s.heap.get? b=some o->H b=none->∃sl,h'.get? b=some {o with slots:=sl}) (free:∀b o,b∉ch->s.heap.get? b=some o->H b=none->H' b=none)
  (there:∀b o,b∉ch->s.heap.get? b=some o->∃o',h'.get? b=some o')
  (tups:∀b xs,H b=some (.tup xs)->H' b=some (.tup xs)) (frzs:∀b o u,H b=some (.frz o u)->H' b=some (.frz o u)) (tbls:∀b ps,H b=some (.tbl ps)->∃more,H' b=some (.tbl (ps++more)))
  (ns:∀m,s.heap.Ns X.env.locals m->h'.Ns X.env.locals m) (hok:pT X.prog X.w H' h') (hg:AllBare g'):
  Inv X pins σ H' {s with heap:=h',gens:=g',drawn:=d',toks:=t'}:=by
 have neL:∀b o,X.s₀.heap.get? b=some o->b≠X.env.locals:=λb o e=>QK (QI (Uc e) I.ok.above);have neC:∀b o,X.s₀.heap.get? b=some o->b∉X.ex->b∉ch:=λb o e hx hb=>by
  rcases(hch b hb).1 with z|z
  ·exact hx z
  ·exact absurd (QI (Uc e) z) (QJ _)
 have cellK:∀x c,X.env.cells.lookup x=some c->∀v,s.heap.IsCell c v->h'.IsCell c v:=λx c e v ⟨o,ho,hd⟩=>by
  have nch:c∉ch:=λz=>(hch c z).2.2.1 x c e rfl;by_cases hc:c∈X.fs
  ·obtain⟨sl,q⟩:=slot c o (I.cne x c e) hc nch ho (I.freeC x c e);exact⟨_,q,hd⟩
  ·exact⟨o,keep c o (I.cne x c e) hc nch ho (I.freeC x c e),hd⟩
 refine⟨I.ok,I.os,hg,⟨λb o e n hb hx=>?_,λb o e n hb hx=>?_,λb o e n hx=>?_,λb o e hx=>?_,λb xs e=>tups b xs (I.base.tups b xs e),λb o xs e=>frzs b o xs (I.base.frzs b o xs e),λb ps e=>?_⟩,?_,λx c e=>?_,?_,λx c e=>?_,λp hp=>?_,hok,I.len⟩
 ·exact keep b o (neL b o e) hb (neC b o e hx) (I.base.keep b o e n hb hx) (I.base.free b o e n hx)
 ·obtain⟨sl,e1⟩:=I.base.slot b o e n hb hx;obtain⟨sl',e2⟩:=slot b _ (neL b o e) hb (neC b o e hx) e1 (I.base.free b o e n hx);exact⟨sl',e2⟩
 ·obtain⟨o',e1⟩:=I.base.there b o e hx;exact free b o' (neC b o e hx) e1 (I.base.free b o e n hx)
 ·obtain⟨o',e1⟩:=I.base.there b o e hx;exact there b o' (neC b o e hx) e1
 ·obtain⟨m1,e1⟩:=I.base.tbls b ps e;obtain⟨m2,e2⟩:=tbls b _ e1;exact⟨m1++m2,by rw[e2,Array.append_assoc]⟩
 ·obtain⟨m,hn,hl⟩:=I.loc;refine⟨m,ns m hn,λi x v e1 e2 e3=>?_⟩;obtain⟨u,r,l⟩:=hl i x v e1 e2 e3;refine⟨u,r,?_⟩;rcases l with l|⟨k,c,e,z⟩
  ·exact .inl l
  ·exact .inr ⟨k,c,e,cellK x c e _ z⟩
 ·obtain⟨v,z⟩:=I.cell x c e;exact⟨v,cellK x c e v z⟩
 ·obtain⟨m,⟨o,_,_,ho,_⟩,_⟩:=I.loc;exact free _ o (λz=>(hch _ z).2.1 rfl) ho I.free
 ·obtain⟨v,o,ho,hd⟩:=I.cell x c e;exact free c o (λz=>(hch c z).2.2.1 x c e rfl) ho (I.freeC x c e)
 ·obtain⟨e,n,ne,nf,d⟩:=I.pin p hp;have nch:p.1∉ch:=λz=>(hch p.1 z).2.2.2 p hp rfl;exact⟨keep p.1 p.2 ne nf nch e n,free p.1 p.2 nch e n,ne,nf,d⟩
theorem Inv.un{t':Nat}(I:Inv X pins σ H s)(u:Un X.fs [] H H' s.heap h')(hok:pT X.prog X.w H' h'):Inv X pins σ H' {s with heap:=h',toks:=t'}:=by
 obtain⟨m,⟨o,es,ep,ho,r⟩,_⟩:=id I.loc;obtain⟨sl,hL⟩:=u.any ho I.free (by simp);exact I.step (g':=s.gens) (d':=s.drawn) (ch:=[]) (λ_ z=>nomatch z) (λb o _ hb _ e n=>u.keep b o e n hb (by simp)) (λb o _ hb _ e n=>u.slot b o e n hb (by simp)) (λb o _ e n=>u.free b o e n (by simp)) (λb o _ e=>u.there b o e (by simp)) u.tups u.frzs u.tbls (λm' hm=>by
  obtain⟨o',es',ep',ho',r'⟩:=hm;rw[ho]at ho';cases ho';exact⟨_,es',ep',hL,r'⟩) hok I.bare
theorem Inv.call{g':Array GenState}{t':Nat}{d':Drawn}{ch:List UN}(I:Inv X pins σ H s)(u:Un (frs X.stack) ch H H' s.heap h')(hok:pT X.prog X.w H' h')(hg:AllBare g')
  (hch:∀b∈ch,(b∈X.ex\/X.s₀.heap.objs.size<=b)/\b≠X.env.locals/\(∀x c,X.env.cells.lookup x=some c->c≠b)/\∀p∈X.pn++pins,p.1≠b):
  Inv X pins σ H' {s with heap:=h',gens:=g',drawn:=d',toks:=t'}:=by
 obtain⟨m,⟨o,es,ep,ho,r⟩,_⟩:=id I.loc;obtain⟨sl,hL⟩:=u.any ho I.free λz=>(hch _ z).2.1 rfl;exact I.step (ch:=ch) hch (λb o hL hb hc e n=>u.keep b o e n (λz=>(List.mem_cons.mp (I.stkSub b z)).elim hL hb) hc) (λb o _ _ hc e n=>u.any e n hc) (λb o hc e n=>u.free b o e n hc) (λb o hc e=>u.there b o e hc) u.tups u.frzs u.tbls (λm' hm=>by
  obtain⟨o',es',ep',ho',r'⟩:=hm;rw[ho]at ho';cases ho';exact⟨_,es',ep',hL,r'⟩) hok hg
theorem Inv.turned{t':Nat}{it:UN}(I:Inv X pins σ H s)(k:∀b o,b≠it->s.heap.get? b=some o->h'.get? b=some o)(hn:H it=none)(hL:it≠X.env.locals)
  (h1:it∈X.ex\/X.s₀.heap.objs.size<=it) (h2:∀x c,X.env.cells.lookup x=some c->c≠it) (h3:∀p∈X.pn++pins,p.1≠it):Inv X pins σ H {s with heap:=h',toks:=t'}:=by
 have nit:∀b u,H b=some u->b≠it:=λb u e z=>by rw[z,hn]at e;cases e
 refine I.step (g':=s.gens) (d':=s.drawn) (ch:=[it]) (λb hb=>?_) (λb o _ _ hc e _=>k b o (λz=>hc (by simp[z])) e) (λb o _ _ hc e _=>⟨o.slots,k b o (λz=>hc (by simp[z])) e⟩) (λ_ _ _ _ n=>n)
  (λb o hc e=>⟨o,k b o (λz=>hc (by simp[z])) e⟩) (λ_ _ e=>e) (λ_ _ _ e=>e) (λb ps e=>⟨#[],by rw[e];simp⟩) (λm hm=>?_) (λb u e=>?_) I.bare
 ·have e:b=it:=by simpa using hb
  subst e;exact⟨h1,hL,h2,h3⟩
 ·obtain⟨o,es,ep,ho,r⟩:=hm;exact⟨o,es,ep,k _ o (Ne.symm hL) ho,r⟩
 ·refine(I.hok b u e).stay (λc v hc q=>k c v ?_ q) (λ_ q=>q) λ_ _ q=>q;rcases hc with z|z
  ·rw[z];exact nit b u e
  ·exact nit c _ z
theorem Inv.tok(I:Inv X pins σ H s)(t:Nat):Inv X pins σ H {s with toks:=t}:=I.un (h':=s.heap) (t':=t) Un.refl I.hok
theorem Inv.kept{t':Nat}(I:Inv X pins σ H s)(k:∀b u,s.heap.get? b=some u->h'.get? b=some u):Inv X pins σ H {s with heap:=h',toks:=t'}:=I.un (Un.kept k) (I.hok.kept k)
theorem Inv.laid{a:UN}{o:HO}{t':Nat}(I:Inv X pins σ H s)(k:∀b u,s.heap.get? b=some u->h'.get? b=some u)(hp:s.heap.objs.size<=a)(new:cH X.prog X.w (upd H a o) h' a o):
  Inv X pins σ (upd H a o) {s with heap:=h',toks:=t'}:=I.un (Un.laid k hp (I.hok.fresh hp)) (I.hok.laid k hp new)
theorem Inv.write{x e:UN}{o:HO}{t':Nat}(I:Inv X pins σ H s)(mu:M2 (H x))(he:e=x\/H e=some (.own x))(k:∀b u,b≠e->s.heap.get? b=some u->h'.get? b=some u)(heo:∃u,h'.get? e=some u)
  (new:cH X.prog X.w (upd H x o) h' x o):Inv X pins σ (upd H x o) {s with heap:=h',toks:=t'}:=I.un (Un.write mu he k heo) (I.hok.write mu he k heo new)
theorem Inv.pins_of{pins':List (UN×Obj)}(I:Inv X pins σ H s)(h:∀p∈pins',s.heap.get? p.1=some p.2/\H p.1=none/\p.1≠X.env.locals/\p.1∉X.fs/\∀v,p.2.data≠.cell v):Inv X pins' σ H s:=
 ⟨I.ok,I.os,I.bare,I.base,I.loc,I.cell,I.free,I.freeC,λp hp=>(List.mem_append.mp hp).elim (λz=>I.pin p (QQ _ z)) (h p),I.hok,I.len⟩
theorem yI{N:List Str}(hN:N.Nodup){i j:Nat}{x:Str}(a:N[i]?=some x)(b:N[j]?=some x):i=j:=by
 obtain⟨h1,e1⟩:=List.getElem?_eq_some_iff.mp a;obtain⟨h2,e2⟩:=List.getElem?_eq_some_iff.mp b;exact(List.getElem_inj hN).mp (e1.trans e2.symm)
theorem wX{M:Model}{A:UW}{E:UK->UX->Prop}{i:Nat}{x:Str}{v:V}{u:UK}{Q:Unit->UX->Prop}(I:Inv X pins σ H s)(hN:X.N.Nodup)(hi:X.N[i]?=some x)(hx:Loc X.env.scope x)(r:RelV v u)
  (h:∀s',Inv X pins (σ.set i (some v)) H s'->(∃a,Ue a s.heap s'.heap/\(a=X.env.locals\/X.env.cells.lookup x=some a))->Q () s') (hf:X.fn x=true\/X.env.scope.names.lookup x=some .local:=by first|exact .inl rfl|exact .inr rfl|assumption):UZ M A (storeName X.env x u) Q E s:=by
 obtain⟨m,hn,hl⟩:=id I.loc;have hcls:(X.env.scope.kind==.class||(X.env.scope.kind==.module&&X.env.locals !=X.env.globals))=false:=by rw[I.ok.kind];rfl
 have hiσ:i<σ.length:=by rw[I.len];exact(List.getElem?_eq_some_iff.mp hi).1
 have cne:=I.cne;have tracked:∀{a:UN}{h':UP},(∃o,s.heap.get? a=some o/\H a=none)->Ue a s.heap h'->pT X.prog X.w H h':=λ{a h'} ha hs b ob e=>by
  obtain⟨_,_,hfree⟩:=ha;refine(I.hok b ob e).stay (λc w' hc q=>(hs.2 c ?_).trans q) (λ_ q=>q) λ_ _ q=>q;rintro rfl;rcases hc with rfl|hc
  ·rw[hfree]at e;cases e
  ·rw[hfree]at hc;cases hc
 rcases hx with hk|hk
 ·refine wpAny_storeName_local hk hn (λh' hn' hs=>?_) hcls;obtain⟨oL,_,_,hoL,_⟩:=id hn;refine h _ ⟨I.ok,I.os,I.bare,⟨λb o e n hb hx=>?_,λb o e n hb hx=>?_,I.base.free,λb o e hx=>?_,I.base.tups,I.base.frzs,I.base.tbls⟩,⟨_,hn',λj y v' e1 e2 e3=>?_⟩,λy c e=>?_,I.free,I.freeC,λp hp=>?_,tracked ⟨oL,hoL,I.free⟩ hs,by simpa using I.len⟩ ⟨_,hs,.inl rfl⟩
  ·exact(hs.2 b (QK (QI (Uc e) I.ok.above))).trans (I.base.keep b o e n hb hx)
  ·obtain⟨sl,e1⟩:=I.base.slot b o e n hb hx;exact⟨sl,(hs.2 b (QK (QI (Uc e) I.ok.above))).trans e1⟩
  ·obtain⟨o',e1⟩:=I.base.there b o e hx;exact⟨o',(hs.2 b (QK (QI (Uc e) I.ok.above))).trans e1⟩
  ·by_cases hj:j=i
   ·subst hj;rw[hi]at e1;cases e1;rw[QR hiσ]at e2;cases e2;exact⟨u,r,.inl ⟨hk,by simp⟩⟩
   ·rw[QS (Ne.symm hj)]at e2;obtain⟨u',r',q⟩:=hl j y v' e1 e2 e3;refine⟨u',r',?_⟩;rcases q with⟨k,e⟩|⟨k,c,e,z⟩
    ·refine .inl ⟨k,?_⟩
     have:y≠x:=λe=>hj (yI hN e1 (e ▸ hi))
     simp[this,e]
    ·exact .inr ⟨k,c,e,z.sameBut hs (cne y c e)⟩
  ·obtain⟨w',z⟩:=I.cell y c e;exact⟨w',z.sameBut hs (cne y c e)⟩
  ·obtain⟨e,n,ne,nf,d⟩:=I.pin p hp;exact⟨(hs.2 p.1 ne).trans e,n,ne,nf,d⟩
 ·have hfn:X.fn x=true:=by
   rcases hf with z|z
   ·exact z
   ·rw[z]at hk;cases hk
  obtain⟨c,hc⟩:=I.ok.has x (.inl hk);obtain⟨w',z⟩:=I.cell x c hc;refine wpAny_storeName_cell I.ok.kind hk hc z (λh' hc' hs=>?_);obtain⟨oc,hoc,hocd⟩:=id z;refine h {s with heap:=h'} ⟨I.ok,I.os,I.bare,⟨λb o e n hb hx=>?_,λb o e n hb hx=>?_,I.base.free,λb o e hx=>?_,I.base.tups,I.base.frzs,I.base.tbls⟩,⟨m,hn.sameBut hs (Ne.symm (cne x c hc)),λj y v' e1 e2 e3=>?_⟩,λy c' e=>?_,I.free,I.freeC,λp hp=>?_,tracked ⟨oc,hoc,I.freeC x c hc⟩ hs,by simpa using I.len⟩ ⟨c,hs,.inr hc⟩
  ·exact(hs.2 b (QK (QI (Uc e) (I.ok.cab x c hfn hc)))).trans (I.base.keep b o e n hb hx)
  ·obtain⟨sl,e1⟩:=I.base.slot b o e n hb hx;exact⟨sl,(hs.2 b (QK (QI (Uc e) (I.ok.cab x c hfn hc)))).trans e1⟩
  ·obtain⟨o',e1⟩:=I.base.there b o e hx;exact⟨o',(hs.2 b (QK (QI (Uc e) (I.ok.cab x c hfn hc)))).trans e1⟩
  ·by_cases hj:j=i
   ·subst hj;rw[hi]at e1;cases e1;rw[QR hiσ]at e2;cases e2;exact⟨u,r,.inr ⟨.inl hk,c,hc,hc'⟩⟩
   ·rw[QS (Ne.symm hj)]at e2;obtain⟨u',r',q⟩:=hl j y v' e1 e2 e3;refine⟨u',r',?_⟩;rcases q with q|⟨k,c',e,z'⟩
    ·exact .inl q
    ·refine .inr ⟨k,c',e,z'.sameBut hs ?_⟩;rintro rfl;exact hj (yI hN e1 (I.ok.inj _ _ _ e hc ▸ hi))
  ·by_cases hcc:c'=c
   ·subst hcc;exact⟨_,hc'⟩
   ·obtain⟨w2,z2⟩:=I.cell y c' e;exact⟨w2,z2.sameBut hs hcc⟩
  ·obtain⟨e,n,ne,nf,d⟩:=I.pin p hp;refine⟨(hs.2 p.1 ?_).trans e,n,ne,nf,d⟩;intro q;rw[q,hoc]at e;have q':oc=p.2:=Option.some.inj e;exact d w' (by rw[<-q'];exact hocd)
theorem yw{M:Model}{A:UW}{E:UK->UX->Prop}{i:Nat}{x:Str}{v:V}{u:UK}{Q:Unit->UX->Prop}(I:Inv X pins σ H s)(hN:X.N.Nodup)(hi:X.N[i]?=some x)(hx:Loc X.env.scope x)(r:RelV v u)
  (h:∀s',Inv X pins (σ.set i (some v)) H s'->Q () s') (hf:X.fn x=true\/X.env.scope.names.lookup x=some .local:=by first|exact .inl rfl|exact .inr rfl|assumption):UZ M A (storeName X.env x u) Q E s:=
 wX I hN hi hx r (λs' I' _=>h s' I') hf
theorem Inv.call'{s':UX}{ch:List UN}(I:Inv X pins σ H s)(ho:s'.os=s.os)(u:Un (frs X.stack) ch H H' s.heap s'.heap)(hok:pT X.prog X.w H' s'.heap)(hg:AllBare s'.gens)
  (hch:∀b∈ch,(b∈X.ex\/X.s₀.heap.objs.size<=b)/\b≠X.env.locals/\(∀x c,X.env.cells.lookup x=some c->c≠b)/\∀p∈X.pn++pins,p.1≠b):Inv X pins σ H' s':=by
 obtain⟨h',g',d',t',o'⟩:=s';have e:o'=s.os:=ho;subst e;exact I.call (g':=g') (t':=t') (d':=d') u hok hg hch
end
abbrev XK:=UK->Option UN->Hp->Prop
abbrev St:=List (Option V)
abbrev VK:=V->Hp->Prop
abbrev TE:=St->Hp->VK->Prop
abbrev TT:=St->Hp->(Bool->Hp->Prop)->Prop
abbrev TA:=St->Hp->(List V->Hp->Prop)->Prop
structure Ends where
 nx:St->Hp->Prop
 rt:VK
 bk:St->Hp->Prop:=λ_ _=>False
 ct:St->Hp->Prop:=λ_ _=>False
abbrev TS:=Ends->St->Hp->Prop
def EP(X:Cx)(pins:List (UN×Obj))(σ:St)(Q:VK)(u:UK)(s':UX):Prop:=∃v H',Inv X pins σ H' s'/\RelV v u/\Q v H'
def TP(X:Cx)(pins:List (UN×Obj))(σ:St)(Q:Bool->Hp->Prop)(b:Bool)(s':UX):Prop:=∃H',Inv X pins σ H' s'/\Q b H'
def AP(X:Cx)(pins:List (UN×Obj))(σ:St)(Q:List V->Hp->Prop)(us:List UK)(s':UX):Prop:=∃vs H',Inv X pins σ H' s'/\Vals vs us/\Q vs H'
def SP(X:Cx)(pins:List (UN×Obj))(D:Ends)(f:Flow)(s':UX):Prop:=
 match f with
 |.next=>∃σ' H',Inv X pins σ' H' s'/\D.nx σ' H'
 |.brk=>∃σ' H',Inv X pins σ' H' s'/\D.bk σ' H'
 |.cont=>∃σ' H',Inv X pins σ' H' s'/\D.ct σ' H'
 |.ret u=>∃v σ' H',Inv X pins σ' H' s'/\RelV v u/\D.rt v H'
def PE(X:Cx)(e:U0)(t:TE):Prop:=
 ∀(pins:List (UN×Obj))(s:UX)(σ:St)(H:Hp)(Q:VK),Inv X pins σ H s->t σ H Q->UZ (model X.prog X.w) X.A (eval e X.env) (EP X pins σ Q) X.xe s
def PT(X:Cx)(e:U0)(t:TT):Prop:=
 ∀(pins:List (UN×Obj))(s:UX)(σ:St)(H:Hp)(Q:Bool->Hp->Prop),Inv X pins σ H s->t σ H Q->UZ (model X.prog X.w) X.A (isTrue e X.env (eval e X.env)) (TP X pins σ Q) X.xe s
def PW(X:Cx)(e:U0)(t:TT):Prop:=
 ∀(whole:Sem UK)(pins:List (UN×Obj))(s:UX)(σ:St)(H:Hp)(Q:Bool->Hp->Prop),Inv X pins σ H s->t σ H Q->UZ (model X.prog X.w) X.A (isTrue e X.env whole) (TP X pins σ Q) X.xe s
theorem PW.pt{X:Cx}{e:U0}{t:TT}(h:PW X e t):PT X e t:=h _
def PA(X:Cx)(es:List U0)(t:TA):Prop:=
 ∀(pos:Pos)(pins:List (UN×Obj))(s:UX)(σ:St)(H:Hp)(Q:List V->Hp->Prop),Inv X pins σ H s->t σ H Q->UZ (model X.prog X.w) X.A (spliced (backTo pos (U1 es X.env))) (AP X pins σ Q) X.xe s
def PS(X:Cx)(st:U2)(t:TS):Prop:=
 ∀(pins:List (UN×Obj))(s:UX)(σ:St)(H:Hp)(D:Ends),Inv X pins σ H s->t D σ H->UZ (model X.prog X.w) X.A (exec st X.env) (SP X pins D) X.xe s
def y8(X:Cx)(st:List U2)(t:TS):Prop:=
 ∀(pins:List (UN×Obj))(s:UX)(σ:St)(H:Hp)(D:Ends),Inv X pins σ H s->t D σ H->UZ (model X.prog X.w) X.A (execs st X.env) (SP X pins D) X.xe s
theorem dL{α:Type}{t:Sem α}{Q Q':α->UX->Prop}{M:Model}{A:UW}{E:UK->UX->Prop}{s:UX}(h:UZ M A t Q E s)(hQ:∀a s,Q a s->Q' a s):UZ M A t Q' E s:=U3 h hQ λ_ _ x=>x
section
variable{X:Cx}
def qy(i:Nat):TE:=λσ H Q=>∃v,σ[i]?=some (some v)/\Q v H
def tC(v:V):TE:=λ_ H Q=>Q v H
theorem Km{i:Nat}{x:Str}{pos:Pos}(hN:X.N[i]?=some x)(hv:J9 X.env.scope x)(hd:(x==("__debug__":Str))=false:=by decide)(hcd:(x==("__classdict__":Str))=false:=by decide):PE X (.Name x pos) (qy i):=by
 intro pins s σ H Q I h;obtain⟨v,e,h⟩:=h;obtain⟨m,hn,hl⟩:=I.loc;obtain⟨u,r,l⟩:=hl i x v hN e hv;have fin:EP X pins σ Q u s:=⟨v,H,I,r,h⟩
 rcases l with⟨hk,hm⟩|⟨hk,c,hc,hcell⟩
 ·exact U4 (wpAny_loadName_local I.ok.kind hk hn hm fin) hd
 ·rcases hk with hk|hk
  ·exact U4 (wpAny_loadName_cell I.ok.kind hk hc hcell fin) hd
  ·exact U4 (wpAny_loadName_free I.ok.kind hk hc hcell fin hcd) hd
theorem Fy{i j pos}:PE X (.Constant (.int i) j pos) (tC (.int i)):=λ_ _ _ H _ I h=>wpAny_Constant_int ⟨.int i,H,I.tok _,⟨_,rfl⟩,h⟩
theorem Mo{b j pos}:PE X (.Constant (.bool b) j pos) (tC (.bl b)):=λ_ _ _ H _ I h=>Constant_bool ⟨.bl b,H,I,rfl,h⟩
theorem J1{x j pos}:PE X (.Constant (.str x) j pos) (tC (.str x)):=λ_ _ _ H _ I h=>Calls.Constant_str ⟨.str x,H,I.tok _,⟨_,rfl⟩,h⟩
def Gl(X:Cx)(x:Str):Prop:=X.env.kindOf x=some .globalImplicit
theorem xn{E:UK->UX->Prop}{pins:List (UN×Obj)}{s:UX}{σ:St}{H:Hp}{x:Str}{u:UK}{pos:Pos}{Q:UK->UX->Prop}(I:Inv X pins σ H s)(hg:Gl X x)(hm:X.mg x=some u)(h:Q u s)
  (hd:(x==("__debug__":Str))=false:=by decide):UZ (model X.prog X.w) X.A (eval (.Name x pos) X.env) Q E s:=
 Calls.Name_function_global I.ok.kind hg (Calls.loadGlobal_global (by rw[I.ok.glob];exact I.mod.glob.keeps I.bk) hm h) hd
theorem ky{E:UK->UX->Prop}{pins:List (UN×Obj)}{s:UX}{σ:St}{H:Hp}{x:Str}{u:UK}{pos:Pos}{Q:UK->UX->Prop}(I:Inv X pins σ H s)(hg:Gl X x)(hm:X.mg x=none)(hv:UV x=some u)(h:Q u s)
  (hn:x≠"__name__":=by decide) (hd:(x==("__debug__":Str))=false:=by decide):UZ (model X.prog X.w) X.A (eval (.Name x pos) X.env) Q E s:=by
 obtain⟨mb,h1,h2⟩:=I.mod.blt;exact Calls.Name_function_global I.ok.kind hg (Calls.loadGlobal_builtin (by rw[I.ok.glob];exact I.mod.glob.keeps I.bk) hm (by rw[I.ok.blt];exact h1.keeps I.bk) ((h2 x hn).trans hv) h) hd
theorem Hs{x:Str}{v:V}{u:UK}{pos:Pos}(hg:Gl X x)(hm:X.mg x=some u)(r:RelV v u)(hd:(x==("__debug__":Str))=false:=by decide):PE X (.Name x pos) (tC v):=
 λ_ _ _ H _ I h=>xn I hg hm ⟨v,H,I,r,h⟩ hd
theorem Iy{x:Str}{v:V}{u:UK}{pos:Pos}(hg:Gl X x)(hm:X.mg x=none)(hv:UV x=some u)(r:RelV v u)(hn:x≠"__name__":=by decide)(hd:(x==("__debug__":Str))=false:=by decide):PE X (.Name x pos) (tC v):=
 λ_ _ _ H _ I h=>ky I hg hm hv ⟨v,H,I,r,h⟩ hn hd
variable{a b:U0}{ta tb:TE}{pos:Pos}
variable{tA tB':TT}{rest:List U0}
def N6(t u:TT):TT:=λσ H Q=>t σ H λc H1=>if c=true then u σ H1 Q else Q false H1
def Qu(t u:TT):TT:=λσ H Q=>t σ H λc H1=>if c=true then Q true H1 else u σ H1 Q
def Ph(t:TT):TT:=λσ H Q=>t σ H λc H1=>Q (!c) H1
theorem HF(ha:PT X a tA):PW X (.BoolOp .And [a] pos) tA:=by
 intro wh pins s σ H Q I h;refine isTrue_and (dL (ha pins s σ H Q I h) λc s1 e=>?_);cases c with
 |true=>exact isTrue_and_nil e
 |false=>exact e
theorem JV(ha:PT X a tA):PW X (.BoolOp .Or [a] pos) tA:=by
 intro wh pins s σ H Q I h;refine isTrue_or (dL (ha pins s σ H Q I h) λc s1 e=>?_);cases c with
 |false=>exact isTrue_or_nil e
 |true=>exact e
theorem J2(ha:PT X a tA)(hb:PW X (.BoolOp .And (b::rest) pos) tB'):PW X (.BoolOp .And (a::b::rest) pos) (N6 tA tB'):=by
 intro wh pins s σ H Q I h;refine isTrue_and (dL (ha pins s σ H _ I h) λc s1 ⟨H1,I1,q1⟩=>?_);cases c with
 |true=>exact hb wh pins s1 σ H1 Q I1 q1
 |false=>exact⟨H1,I1,q1⟩
theorem LU(ha:PT X a tA)(hb:PW X (.BoolOp .Or (b::rest) pos) tB'):PW X (.BoolOp .Or (a::b::rest) pos) (Qu tA tB'):=by
 intro wh pins s σ H Q I h;refine isTrue_or (dL (ha pins s σ H _ I h) λc s1 ⟨H1,I1,q1⟩=>?_);cases c with
 |true=>exact⟨H1,I1,q1⟩
 |false=>exact hb wh pins s1 σ H1 Q I1 q1
theorem K5(ha:PT X a tA):PT X (.UnaryOp .Not a pos) (Ph tA):=by
 intro pins s σ H Q I h;exact isTrue_not (ha pins s σ H (λc H1=>Q (!c) H1) I h)
def MT(ta tb:TE):TE:=λσ H Q=>ta σ H λx H1=>∃c,x=.bl c/\if c=true then tb σ H1 Q else Q (.bl false) H1
def Mw(ta:TE):TE:=λσ H Q=>ta σ H λx H1=>∃c,x=.bl c/\Q (.bl (!c)) H1
theorem KZ{op}{t:TE}(h:PE X a t):PE X (.BoolOp op [a] pos) t:=λpins s σ H Q I hw=>BoolOp_one (h pins s σ H Q I hw)
theorem Lj(ha:PE X a ta)(hb:PE X (.BoolOp .And (b::rest) pos) tb):PE X (.BoolOp .And (a::b::rest) pos) (MT ta tb):=by
 intro pins s σ H Q I h;refine BoolOp_and (dL (ha pins s σ H _ I h) λv s1 ⟨x,H1,I1,r1,q1⟩=>?_);obtain⟨c,rfl,q1⟩:=q1;cases r1;refine U5 ?_;cases c with
 |true=>exact hb pins s1 σ H1 Q I1 q1
 |false=>exact⟨.bl false,H1,I1,rfl,q1⟩
theorem La(ha:PE X a ta):PE X (.UnaryOp .Not a pos) (Mw ta):=by
 intro pins s σ H Q I h;refine UnaryOp_ (dL (ha pins s σ H _ I h) λv s1 ⟨x,H1,I1,r1,q1⟩=>?_);obtain⟨c,rfl,q1⟩:=q1;cases r1;exact not_of (U5 ⟨.bl (!c),H1,I1,rfl,q1⟩)
end
def pH(K:Tu)(H:Hp)(a:UN)(xs:List V):Prop:=
 Rd H a (.lst xs) \/
  ∃(o:Obj)(its:Array UK)(n:Nat),K.lookup a=some o/\o.cls=.type "list"/\o.dict=none/\o.data=.seq its n/\its.size<=UQ/\Vals xs its.toList
def qN(K:Tu)(H:Hp)(a:UN)(xs:List V):Prop:=
 Rd H a (.tup xs) \/
  ∃(o:Obj)(its:Array UK)(n:Nat),K.lookup a=some o/\o.cls=.type "tuple"/\o.data=.seq its n/\its.size<=UQ/\Vals xs its.toList
def Om:UK->Option V
 |.none=>some .non
 |.bool b=>some (.bl b)
 |.int i _=>some (.int i)
 |.str x _=>some (.str x)
 |.bytes b _=>some (.byt b)
 |.float b _=>some (.flt b)
 |.ref a=>some (.ref a)
 |.type n=>some (.ty n)
 |_=>none
theorem RelV.abs{x:V}{u:UK}(r:RelV x u):Om u=some x:=by
 cases x with
 |non=>cases r;rfl
 |bl _=>cases r;rfl
 |int _=>obtain⟨t,rfl⟩:=r;rfl
 |str _=>obtain⟨t,rfl⟩:=r;rfl
 |byt _=>obtain⟨t,rfl⟩:=r;rfl
 |flt _=>obtain⟨t,rfl⟩:=r;rfl
 |ref _=>cases r;rfl
 |ty _=>cases r;rfl
theorem RelV.inj{x y:V}{u:UK}(r:RelV x u)(q:RelV y u):x=y:=Option.some.inj (r.abs.symm.trans q.abs)
theorem Vals.inj:∀{xs ys:List V}{us:List UK},Vals xs us->Vals ys us->xs=ys
 |_,_,_,.nil,.nil=>rfl
 |_,_,_,.cons r t,.cons r' t'=>by rw[r.inj r',Vals.inj t t']
section
variable{X:Cx}{pins:List (UN×Obj)}{σ:St}{H:Hp}{s:UX}{a:UN}{xs ys:List V}
theorem pH.of{K:Tu}(h:H a=some (.lst xs)):pH K H a xs:=.inl (.inl h)
theorem qN.of{K:Tu}(h:H a=some (.tup xs)):qN K H a xs:=.inl (.inl h)
theorem Inv.list(I:Inv X pins σ H s)(h:pH X.K H a xs):∃its:List UK,Vals xs its/\PlainL s.heap a its.toArray/\xs.length<=UQ:=by
 rcases h with h|⟨o,its,n,hk,hc,hd,hs,hz,r⟩
 ·obtain⟨z,its,n,r,e⟩:=h.ok I.hok;exact⟨its,r,⟨_,n,e,rfl,rfl,rfl⟩,z⟩
 ·refine⟨its.toList,r,⟨o,n,I.kIn a o hk,hc,hd,by simpa using hs⟩,?_⟩;have e:=r.length;simp only[Array.length_toList]at e;omega
theorem Inv.tuple(I:Inv X pins σ H s)(h:qN X.K H a xs):∃its:List UK,Vals xs its/\UR s.heap a its.toArray/\xs.length<=UQ:=by
 rcases h with h|⟨o,its,n,hk,hc,hs,hz,r⟩
 ·obtain⟨z,its,r,p⟩:=h.ok I.hok;exact⟨its,r,p,z⟩
 ·refine⟨its.toList,r,⟨o,I.kIn a o hk,hc,n,by simpa using hs⟩,?_⟩;have e:=r.length;simp only[Array.length_toList]at e;omega
theorem Inv.list_inj(I:Inv X pins σ H s)(h:pH X.K H a xs)(h':pH X.K H a ys):xs=ys:=by
 obtain⟨its,r,⟨o,n,e,_,_,d⟩,_⟩:=I.list h;obtain⟨its',r',⟨o',n',e',_,_,d'⟩,_⟩:=I.list h';rw[e]at e';cases e';rw[d]at d';injection d' with d1 _
 have:its=its':=by simpa using congrArg Array.toList d1
 subst this;exact r.inj r'
theorem Inv.tuple_inj(I:Inv X pins σ H s)(h:qN X.K H a xs)(h':qN X.K H a ys):xs=ys:=by
 obtain⟨its,r,⟨o,e,_,n,d⟩,_⟩:=I.tuple h;obtain⟨its',r',⟨o',e',_,n',d'⟩,_⟩:=I.tuple h';rw[e]at e';cases e';rw[d]at d';injection d' with d1 _
 have:its=its':=by simpa using congrArg Array.toList d1
 subst this;exact r.inj r'
end
abbrev Cx.wish(X:Cx)(E:UK->UX->Prop):Cx:={X with xe:=E}
abbrev Cx.nox(X:Cx):Cx:=X.wish λ_ _=>False
theorem Cx.Ok.wish{X:Cx}(ok:X.Ok)(E:UK->UX->Prop):(X.wish E).Ok:=
 ⟨ok.mod,ok.kind,ok.glob,ok.blt,ok.above,ok.inj,ok.has,ok.cab,ok.hd,ok.frames,ok.stk,ok.exf,ok.bs,ok.bsz,ok.noex,ok.exfs,ok.funs,ok.frf⟩
theorem Cx.Ok.unwish{X:Cx}{E:UK->UX->Prop}(ok:(X.wish E).Ok):X.Ok:=
 ⟨ok.mod,ok.kind,ok.glob,ok.blt,ok.above,ok.inj,ok.has,ok.cab,ok.hd,ok.frames,ok.stk,ok.exf,ok.bs,ok.bsz,ok.noex,ok.exfs,ok.funs,ok.frf⟩
section
variable{X:Cx}{pins:List (UN×Obj)}{σ:St}{H:Hp}{s:UX}{E:UK->UX->Prop}
theorem Inv.wish(I:Inv X pins σ H s)(E:UK->UX->Prop):Inv (X.wish E) pins σ H s:=⟨I.ok.wish E,I.os,I.bare,I.base,I.loc,I.cell,I.free,I.freeC,I.pin,I.hok,I.len⟩
theorem Inv.unwish(I:Inv (X.wish E) pins σ H s):Inv X pins σ H s:=⟨I.ok.unwish,I.os,I.bare,I.base,I.loc,I.cell,I.free,I.freeC,I.pin,I.hok,I.len⟩
theorem SP.unwish{D:Ends}{f:Flow}{s':UX}(h:SP (X.wish E) pins D f s'):SP X pins D f s':=by
 cases f with
 |next=>obtain⟨σ',H',I,q⟩:=h;exact⟨σ',H',I.unwish,q⟩
 |brk=>obtain⟨σ',H',I,q⟩:=h;exact⟨σ',H',I.unwish,q⟩
 |cont=>obtain⟨σ',H',I,q⟩:=h;exact⟨σ',H',I.unwish,q⟩
 |ret u=>obtain⟨v,σ',H',I,r,q⟩:=h;exact⟨v,σ',H',I.unwish,r,q⟩
theorem y8.nox{st:List U2}{t:TS}(h:y8 X.nox st t):y8 X st t:=λpins s σ H D I hw=>
 U3 (h pins s σ H D (I.wish _) hw) (λ_ _ q=>q.unwish) λ_ _ z=>False.elim z
end
section
variable{X:Cx}{st:U2}{rest:List U2}{t u:TS}{e:U0}{te:TE}{pos:Pos}
def Mf:TS:=λD σ H=>D.nx σ H
def OT(t u:TS):TS:=λD σ H=>t {D with nx:=u D} σ H
theorem Hw:y8 X [] Mf:=λ_ _ σ H _ I h=>U6 ⟨σ,H,I,h⟩
theorem zI(h1:PS X st t)(h2:y8 X rest u):y8 X (st::rest) (OT t u):=by
 intro pins s σ H D I h;refine wpAny_execs_cons (dL (h1 pins s σ H {D with nx:=u D} I h) λf s1 q=>?_);cases f with
 |next=>
  obtain⟨σ',H',I',q⟩:=q;exact h2 pins s1 σ' H' D I' q
 |ret v=>exact q
 |brk=>exact q
 |cont=>exact q
theorem BD(h1:PS X st t):y8 X [st] t:=by
 intro pins s σ H D I h;refine wpAny_execs_cons (dL (h1 pins s σ H D I h) λf s1 q=>?_);cases f with
 |next=>exact U6 q
 |ret v=>exact q
 |brk=>exact q
 |cont=>exact q
theorem Inv.quiet{pins:List (UN×Obj)}{σ:St}{H:Hp}{s:UX}(I:Inv X pins σ H s):interactive X.env=false:=by simp[interactive,I.ok.kind]
def MY(te:TE):TS:=λD σ H=>te σ H λ_ H1=>D.nx σ H1
theorem xF(he:PE X e te)(hs:swapsWith e none pos.line X.env=pure false:=by rfl):PS X (.Expr e pos) (MY te):=by
 intro pins s σ H D I h;exact wpAny_Expr_any (dL (he pins s σ H _ I h) λv s1 ⟨x,H1,I1,r1,q1⟩=>⟨σ,H1,I1,q1⟩) I.quiet hs
def Oq(te:TE):TS:=λD σ H=>te σ H D.rt
theorem Ln(he:PE X e te):PS X (.Return (some e) pos) (Oq te):=by
 intro pins s σ H D I h;exact wpAny_Return_some (dL (he pins s σ H _ I h) λv s1 ⟨x,H1,I1,r1,q1⟩=>⟨x,σ,H1,I1,r1,q1⟩)
def Ot(c:TT)(t u:TS):TS:=λD σ H=>c σ H λb H1=>if b=true then t D σ H1 else u D σ H1
theorem Nf{c:U0}{a b:List U2}{tc:TT}(hc:PT X c tc)(ha:y8 X a t)(hb:y8 X b u):PS X (.If c a b pos) (Ot tc t u):=by
 intro pins s σ H D I h;refine wpAny_If (dL (hc pins s σ H _ I h) λd s1 ⟨H1,I1,q1⟩=>?_);cases d with
 |true=>exact ha pins s1 σ H1 D I1 q1
 |false=>exact hb pins s1 σ H1 D I1 q1
end
abbrev TG:=V->St->Hp->(St->Hp->Prop)->Prop
abbrev Ji:=List V->St->Hp->(St->Hp->Prop)->Prop
def PG(X:Cx)(target:U0)(t:TG):Prop:=
 ∀(pins:List (UN×Obj))(s:UX)(σ:St)(H:Hp)(v:V)(u:UK)(Q:St->Hp->Prop),Inv X pins σ H s->RelV v u->t v σ H Q->
  UZ (model X.prog X.w) X.A (assign target X.env u) (λ_ s'=>∃σ' H',Inv X pins σ' H' s'/\Q σ' H') X.xe s
def L3(X:Cx)(ts:List U0)(t:Ji):Prop:=
 ∀(pins:List (UN×Obj))(s:UX)(σ:St)(H:Hp)(vs:List V)(us:List UK)(Q:St->Hp->Prop),Inv X pins σ H s->Vals vs us->t vs σ H Q->
  UZ (model X.prog X.w) X.A (assignInOrder ((assignEach ts X.env).map (·.2)) us) (λ_ s'=>∃σ' H',Inv X pins σ' H' s'/\Q σ' H') X.xe s
section
variable{X:Cx}{pos:Pos}
def wW(i:Nat):TG:=λv σ H Q=>Q (σ.set i (some v)) H
theorem Ja{i:Nat}{x:Str}(hN:X.N.Nodup)(hi:X.N[i]?=some x)(hx:Loc X.env.scope x)(hf:X.fn x=true\/X.env.scope.names.lookup x=some .local:=by first|exact .inl rfl|exact .inr rfl|assumption):PG X (.Name x pos) (wW i):=by
 intro pins s σ H v u Q I r h;exact wpAny_assign_Name (yw I hN hi hx r (λs' I'=>⟨_,H,I',h⟩) hf)
def Qa:Ji:=λvs σ H Q=>vs=[]/\Q σ H
def My(t:TG)(u:Ji):Ji:=λvs σ H Q=>∃v r,vs=v::r/\t v σ H λσ' H'=>u r σ' H' Q
theorem Ie:L3 X [] Qa:=by
 intro pins s σ H vs us Q I r h;obtain⟨e,h⟩:=h;subst e;cases r;exact assignInOrder_nil ⟨σ,H,I,h⟩
theorem Gs{e:U0}{es:List U0}{t:TG}{u:Ji}(h1:PG X e t)(h2:L3 X es u)
  (hs:(assignEach (e::es) X.env).map (·.2)=assign e X.env::(assignEach es X.env).map (·.2):=by rfl):L3 X (e::es) (My t u):=by
 intro pins s σ H vs us Q I r h;obtain⟨v,vr,e1,h⟩:=h;subst e1;cases r with
 |cons r rr=>
  rw[hs];refine assignInOrder_cons (dL (h1 pins s σ H _ _ _ I r h) λ_ s1 ⟨σ1,H1,I1,q1⟩=>?_);exact h2 pins s1 σ1 H1 _ _ Q I1 rr q1
def Ol(K:Tu)(n:Nat)(t:Ji):TG:=λv σ H Q=>∃a xs,v=.ref a/\qN K H a xs/\xs.length=n/\t xs σ H Q
theorem Le{es:List U0}{k:Nat}{t:Ji}{n:Nat}(hc:X.calm=true)(h:L3 X es t)
  (hn:(assignEach es X.env).length=n:=by rfl) (hst:(assignEach es X.env).findIdx? (·.1)=none:=by rfl):PG X (.Tuple es k pos) (Ol X.K n t):=by
 intro pins s σ H v u Q I r hw;obtain⟨a,xs,e1,hq,hl,hw⟩:=hw;subst e1;cases r;obtain⟨its,rv,ht,hz⟩:=I.tuple hq;refine assign_Tuple_tuple (I.ok.hd hc) ht (by simp[hn,<-hl,rv.length]) hst λh' hx=>?_;have I1:Inv X pins σ H {s with heap:=h'}:=I.kept (t':=s.toks) λb o e=>hx b o (QK (Uc e)) e;exact h pins _ σ H xs _ Q I1 (by simpa using rv) hw
def Gb(te:TE)(g:TG):TS:=λD σ H=>te σ H λx H1=>g x σ H1 D.nx
theorem KN{tg e:U0}{te:TE}{g:TG}(he:PE X e te)(hg:PG X tg g)(hs:swapsWithSole [tg] e pos.line X.env=pure false:=by rfl)(hw:swappedStores [tg] e X.env=pure none:=by rfl)
  (h1:(assignEach [tg] X.env).map (·.2)=[assign tg X.env]:=by rfl):PS X (.Assign [tg] e pos) (Gb te g):=by
 intro pins s σ H D I h;refine wpAny_Assign_stores (dL (he pins s σ H _ I h) λv s1 ⟨x,H1,I1,r1,q1⟩=>?_) hs hw;rw[h1];exact dL (hg pins s1 σ H1 x v _ I1 r1 q1) λ_ s2 q=>q
theorem Bd{i:Nat}{x:Str}{e:U0}{te:TE}{pos':Pos}(hN:X.N.Nodup)(hi:X.N[i]?=some x)(hx:Loc X.env.scope x)(he:PE X e te)(hs:swapsWith e (some (.Name x pos')) pos.line X.env=pure false:=by rfl)(hf:X.fn x=true\/X.env.scope.names.lookup x=some .local:=by first|exact .inl rfl|exact .inr rfl|assumption):
  PS X (.Assign [.Name x pos'] e pos) (Gb te (wW i)):=by
 intro pins s σ H D I h;refine wpAny_Assign_Name (dL (he pins s σ H _ I h) λv s1 ⟨y,H1,I1,r1,q1⟩=>?_) hs;exact yw I1 hN hi hx r1 (λs2 I2=>⟨_,H1,I2,q1⟩) hf
end
structure It where
 go:Nat->Hp->Prop
 yld:Nat->Hp->V->Hp->Prop
 stop:Nat->Hp->Prop
def vt(X:Cx)(pins:List (UN×Obj))(H:Hp)(b:UN):Prop:=
 H b=none/\b≠X.env.locals/\b∉X.fs/\(b∈X.ex\/X.s₀.heap.objs.size<=b)/\(∀x c,X.env.cells.lookup x=some c->c≠b)/\∀p∈X.pn++pins,p.1≠b
theorem Inv.fpOk{X:Cx}{pins:List (UN×Obj)}{σ:St}{H H':Hp}{s:UX}{b:UN}(I:Inv X pins σ H s)(hb:s.heap.objs.size<=b)(hn:H' b=none):vt X pins H' b:=by
 refine⟨hn,QT (QI I.lt hb),I.nofs hb,.inr (QL I.sz hb),λx c e z=>?_,λp hp z=>?_⟩
 ·obtain⟨v,q⟩:=I.cell x c e;exact absurd (QI q.lt (by rw[z];exact hb)) (QJ _)
 ·exact absurd (QI (Uc (I.pin p hp).1) (by rw[z];exact hb)) (QJ _)
structure Turn(P:UM)(w:UL)(K:Tu)(tg:U0)(J:It)(fp:List UN)(it:UN)(tn:Nat->UP->Prop):Prop where
 mem:it∈fp
 obj:∀i h,tn i h->∀b∈fp,∃o,h.get? b=some o/\∀v,o.data≠.cell v
 keep:∀i h h',tn i h->(∀b∈fp,∀o,h.get? b=some o->h'.get? b=some o)->tn i h'
 item:∀(X:Cx),X.prog=P->X.w=w->X.K=K->X.calm=true->∀(i:Nat)(pins:List (UN×Obj))(s:UX)(σ:St)(H:Hp)(E:UK->UX->Prop),Inv X pins σ H s->(∀b∈fp,vt X pins H b)->tn i s.heap->J.go i H->
  UZ (model P w) X.A (pyNext (.ref it)) (λr s1=>∃u,r=some u/\
   UZ (model P w) X.A (letOwnedTupleGo tg (.ref it) u) (λ_ s2=>∃x H',Inv X pins σ H' s2/\RelV x u/\J.yld i H x H'/\tn (i+1) s2.heap/\∀b∈fp,H' b=none) E s1) E s
 done:∀(X:Cx),X.prog=P->X.w=w->X.K=K->X.calm=true->∀(i:Nat)(pins:List (UN×Obj))(s:UX)(σ:St)(H:Hp)(E:UK->UX->Prop),Inv X pins σ H s->(∀b∈fp,vt X pins H b)->tn i s.heap->J.stop i H->
  UZ (model P w) X.A (pyNext (.ref it)) (λr s1=>r=none/\Inv X pins σ H s1) E s
 self:∀(A:UW)(i:Nat)(s:UX)(Q:UK->UX->Prop)(E:UK->UX->Prop),tn i s.heap->Q (.ref it) s->UZ (model P w) A (pyIter (.ref it)) Q E s
abbrev TI:=St->Hp->(It->Hp->Prop)->Prop
def PIE(X:Cx)(pins:List (UN×Obj))(σ:St)(tg:U0)(R:It->Hp->Prop)(itv:UK)(s2:UX):Prop:=
 ∃(it:UN)(fp:List UN)(tn:Nat->UP->Prop)(J:It)(H':Hp),itv=.ref it/\Inv X pins σ H' s2/\Turn X.prog X.w X.K tg J fp it tn/\tn 0 s2.heap/\(∀b∈fp,vt X pins H' b)/\R J H'
def PI(X:Cx)(tg iter:U0)(wi:TI):Prop:=
 ∀(pins:List (UN×Obj))(s:UX)(σ:St)(H:Hp)(R:It->Hp->Prop),Inv X pins σ H s->wi σ H R->
  UZ (model X.prog X.w) X.A (eval iter X.env) (λv s1=>UZ (model X.prog X.w) X.A (pyIter v) (PIE X pins σ tg R) X.xe s1) X.xe s
theorem BF{M:Model}{A:UW}{E:UK->UX->Prop}{s:UX}{tg:U0}{it:UN}{u:UK}{o:Obj}{n:String}{vs:Array UK}{Q:Unit->UX->Prop}(ho:s.heap.get? it=some o)(hc:o.cls=.type n)(hd:o.data=.fields vs)
    (hn:["enumerate","zip","dict_itemiterator","dict_reverseitemiterator","odict_iterator","itertools.zip_longest","itertools.pairwise"].contains n=false) (hQ:Q () s):UZ M A (letOwnedTupleGo tg (.ref it) u) Q E s:=by
  unfold letOwnedTupleGo;cases tg<;>first
    |exact U7 hQ
    | (cases u <;> first
        |exact U7 hQ
        | (refine U8 (wpAny_load ho ?_)
           rw[hc,hd];show UZ M A (if(["enumerate","zip","dict_itemiterator","dict_reverseitemiterator","odict_iterator","itertools.zip_longest","itertools.pairwise"].contains n&&vs[0]?==some (rawInt _))=true then _ else _) Q E s;rw[if_neg (by intro h;rw[hn,Bool.false_and]at h;cases h)];exact U7 hQ))
def Pu(K:Tu)(a:UN):It:=
 ⟨λi H=>∃xs x,pH K H a xs/\xs[i]?=some x,λi H x H'=>H'=H/\∀xs,pH K H a xs->xs[i]?=some x,λi H=>∃xs,pH K H a xs/\xs.length<=i⟩
def PF(K:Tu)(a:UN):It:=
 ⟨λi H=>∃xs x,qN K H a xs/\xs[i]?=some x,λi H x H'=>H'=H/\∀xs,qN K H a xs->xs[i]?=some x,λi H=>∃xs,qN K H a xs/\xs.length<=i⟩
def Mj(lo:Int)(n:Nat):It:=⟨λi _=>i<n,λi H x H'=>H'=H/\x=.int (lo+i),λi _=>n<=i⟩
theorem Ef{P:UM}{w:UL}{K:Tu}{tg:U0}(a it:UN):Turn P w K tg (Pu K a) [it] it (λi h=>h.IsListIter it a i)where
 mem:=by simp
 obj:=λi h st b hb=>by
  have e:b=it:=by simpa using hb
  subst e;obtain⟨o,e,c,d⟩:=st;exact⟨o,e,λv z=>by rw[d]at z;cases z⟩
 keep:=λi h h' st k=>st.at λo e=>k it (by simp) o e
 item:=by
  intro X hP hw hK hc i pins s σ H E I hf st hg;subst hP hw hK;obtain⟨xs,x,hq,hx⟩:=hg;obtain⟨its,rv,p,hz⟩:=I.list hq;obtain⟨u,hu,ru⟩:=rv.get hx;obtain⟨f0,f1,f2,f3,f4,f5⟩:=hf it (by simp);refine wpAny_pyNext_list_item st p.isList (x:=u) (by simpa using hu) λh' st' sb=>?_;have I1:Inv X pins σ H {s with heap:=h'}:=I.turned (t':=s.toks) (λb o hb e=>(sb.2 b hb).trans e) f0 f1 f3 f4 f5;obtain⟨o,e,c,d⟩:=id st';exact⟨u,rfl,BF (s:={s with heap:=h'}) e c d (by decide) ⟨x,H,I1,ru,⟨rfl,λys hy=>by rw[I.list_inj hy hq];exact hx⟩,st',λb hb=>(hf b hb).1⟩⟩
 done:=by
  intro X hP hw hK hc i pins s σ H E I hf st hg;subst hP hw hK;obtain⟨xs,hq,hx⟩:=hg;obtain⟨its,rv,p,hz⟩:=I.list hq;obtain⟨f0,f1,f2,f3,f4,f5⟩:=hf it (by simp);have hl:=rv.length;exact wpAny_pyNext_list_end (I.ok.hd hc) st p.isList (by simp;omega) λh' eb=>⟨rfl,I.turned (t':=s.toks) (λb o hb e=>eb b o hb e) f0 f1 f3 f4 f5⟩
 self:=λ_ _ _ _ _ st h=>wpAny_pyIter_listiter st h
theorem Aq{P:UM}{w:UL}{K:Tu}{tg:U0}(a it:UN):Turn P w K tg (PF K a) [it] it (λi h=>h.IsTupleIter it a i)where
 mem:=by simp
 obj:=λi h st b hb=>by
  have e:b=it:=by simpa using hb
  subst e;obtain⟨o,e,c,d⟩:=st;exact⟨o,e,λv z=>by rw[d]at z;cases z⟩
 keep:=λi h h' st k=>st.at λo e=>k it (by simp) o e
 item:=by
  intro X hP hw hK hc i pins s σ H E I hf st hg;subst hP hw hK;obtain⟨xs,x,hq,hx⟩:=hg;obtain⟨its,rv,p,hz⟩:=I.tuple hq;obtain⟨u,hu,ru⟩:=rv.get hx;obtain⟨f0,f1,f2,f3,f4,f5⟩:=hf it (by simp);refine wpAny_pyNext_tuple_item st (show s.heap.IsTuple a its.toArray from p) (x:=u) (by simpa using hu) λh' st' sb=>?_;have I1:Inv X pins σ H {s with heap:=h'}:=I.turned (t':=s.toks) (λb o hb e=>(sb.2 b hb).trans e) f0 f1 f3 f4 f5;obtain⟨o,e,c,d⟩:=id st';exact⟨u,rfl,BF (s:={s with heap:=h'}) e c d (by decide) ⟨x,H,I1,ru,⟨rfl,λys hy=>by rw[I.tuple_inj hy hq];exact hx⟩,st',λb hb=>(hf b hb).1⟩⟩
 done:=by
  intro X hP hw hK hc i pins s σ H E I hf st hg;subst hP hw hK;obtain⟨xs,hq,hx⟩:=hg;obtain⟨its,rv,p,hz⟩:=I.tuple hq;obtain⟨f0,f1,f2,f3,f4,f5⟩:=hf it (by simp);have hl:=rv.length;exact wpAny_pyNext_tuple_end (I.ok.hd hc) st (show s.heap.IsTuple a its.toArray from p) (by simp;omega) λh' eb=>⟨rfl,I.turned (t':=s.toks) (λb o hb e=>eb b o hb e) f0 f1 f3 f4 f5⟩
 self:=λ_ _ _ _ _ st h=>wpAny_pyIter_tupleiter st h
theorem Au{P:UM}{w:UL}{K:Tu}{tg:U0}(it:UN)(lo:Int)(n:Nat):Turn P w K tg (Mj lo n) [it] it (λi h=>U9 h it (lo+(i:Nat)*1) ((n:Int)-(i:Nat)) 1)where
 mem:=by simp
 obj:=λi h st b hb=>by
  have e:b=it:=by simpa using hb
  subst e;exact⟨_,st,λv z=>by
   have z':Data.fields _=Data.cell v:=z;cases z'⟩
 keep:=λi h h' st k=>k it (by simp) _ st
 item:=by
  intro X hP hw hK hc i pins s σ H E I hf st hg;subst hP hw hK;obtain⟨f0,f1,f2,f3,f4,f5⟩:=hf it (by simp);have W:=Walks.range (prog:=X.prog) (w:=X.w) (I.ok.hd hc) it lo 1 n;refine W.item i s _ _ hg st λv h' tk hv st' kk=>?_;obtain⟨t,rfl⟩:=hv;have I1:Inv X pins σ H {s with heap:=h',toks:=tk}:=I.turned (λb o hb e=>kk b o (by simpa using hb) e) f0 f1 f3 f4 f5;refine⟨_,rfl,BF (s:={s with heap:=h',toks:=tk}) (n:="range_iterator") st' rfl rfl (by decide) ⟨.int (lo+i),H,I1,⟨t,?_⟩,⟨rfl,rfl⟩,st',λb hb=>(hf b hb).1⟩⟩;rw[Int.mul_one]
 done:=by
  intro X hP hw hK hc i pins s σ H E I hf st hg;subst hP hw hK;obtain⟨f0,f1,f2,f3,f4,f5⟩:=hf it (by simp);exact wpAny_pyNext_range_end (I.ok.hd hc) st (by have:n<=i:=hg;omega) λh' eb=>⟨rfl,I.turned (t':=s.toks) (λb o hb e=>eb b o hb e) f0 f1 f3 f4 f5⟩
 self:=λ_ _ _ _ _ st h=>wpAny_pyIter_rangeiter st h
section
variable{X:Cx}{tg:U0}
def L7(K:Tu)(tl:TE):TI:=λσ H R=>tl σ H λx H1=>∃a,x=.ref a/\(∃xs,pH K H1 a xs)/\R (Pu K a) H1
def OB(K:Tu)(tl:TE):TI:=λσ H R=>tl σ H λx H1=>∃a,x=.ref a/\(∃xs,qN K H1 a xs)/\R (PF K a) H1
theorem Ct{l:U0}{tl:TE}(hl:PE X l tl):PI X tg l (L7 X.K tl):=by
 intro pins s σ H R I h;refine dL (hl pins s σ H _ I h) λv s1 ⟨x,H1,I1,r1,q1⟩=>?_;obtain⟨a,e,⟨xs,hq⟩,q⟩:=q1;subst e;cases r1;obtain⟨its,rv,p,hz⟩:=I1.list hq;refine Va p.isList ?_;refine⟨s1.heap.objs.size,[s1.heap.objs.size],_,_,H1,rfl,I1.kept (t':=s1.toks) λb o e=>Ug _ e,Ef a _,⟨_,Uh _ rfl,rfl,rfl⟩,λb hb=>?_,q⟩;have e:b=s1.heap.objs.size:=by simpa using hb
 subst e;exact I1.fpOk (QU _) (I1.hok.fresh (QU _))
theorem JZ{l:U0}{tl:TE}(hl:PE X l tl):PI X tg l (OB X.K tl):=by
 intro pins s σ H R I h;refine dL (hl pins s σ H _ I h) λv s1 ⟨x,H1,I1,r1,q1⟩=>?_;obtain⟨a,e,⟨xs,hq⟩,q⟩:=q1;subst e;cases r1;obtain⟨its,rv,p,hz⟩:=I1.tuple hq;refine wpAny_pyIter_tuple (show s1.heap.IsTuple a its.toArray from p) ?_;refine⟨s1.heap.objs.size,[s1.heap.objs.size],_,_,H1,rfl,I1.kept (t':=s1.toks) λb o e=>Ug _ e,Aq a _,⟨_,Uh _ rfl,rfl,rfl⟩,λb hb=>?_,q⟩;have e:b=s1.heap.objs.size:=by simpa using hb
 subst e;exact I1.fpOk (QU _) (I1.hok.fresh (QU _))
theorem zV{pins:List (UN×Obj)}{σ:St}{H:Hp}{s:UX}{R:It->Hp->Prop}{E:UK->UX->Prop}{lo hi:Int}{t u v:Tok}{tk:Nat}(I:Inv X pins σ H s)(h1:-(2^62)<=lo)(h2:lo<2^62)(h3:-(2^62)<=hi)(h4:hi<2^62)
  (q:R (Mj lo (hi-lo).toNat) H):UZ (model X.prog X.w) X.A (pyIter (.ref s.heap.objs.size)) (PIE X pins σ tg R) E {s with heap:=s.heap.push {cls:=.type "range",data:=.fields #[.int lo t,.int hi u,.int 1 v]},toks:=tk}:=by
 refine wpAny_pyIter_range (IsRange.new ..) (small_one h1 h2 h3 h4) ?_;have I1:Inv X pins σ H {s with heap:=s.heap.push {cls:=.type "range",data:=.fields #[.int lo t,.int hi u,.int 1 v]},toks:=tk}:=I.kept λb o e=>Ug _ e;refine⟨(s.heap.push {cls:=.type "range",data:=.fields #[.int lo t,.int hi u,.int 1 v]}).objs.size,[(s.heap.push {cls:=.type "range",data:=.fields #[.int lo t,.int hi u,.int 1 v]}).objs.size],_,_,H,rfl,
  I1.kept (t':=tk) λb o e=>Ug _ e,Au _ lo (hi-lo).toNat,?_,λb hb=>?_,q⟩
 ·have e1:lo+((0:Nat):Int)*1=lo:=by simp
  have e2:(((hi-lo).toNat:Nat):Int)-((0:Nat):Int)=Builtin.Range.rangeSize lo hi 1:=by rw[rangeSize_one];split<;>omega
  show U9 _ _ (lo+((0:Nat):Int)*1) ((((hi-lo).toNat:Nat):Int)-((0:Nat):Int)) 1;rw[e1,e2];exact Uh _ rfl
 ·have e:b=(s.heap.push {cls:=.type "range",data:=.fields #[.int lo t,.int hi u,.int 1 v]}).objs.size:=by simpa using hb
  subst e;exact I1.fpOk (QU _) (I1.hok.fresh (QU _))
def Mt(ta:TA):TI:=λσ H R=>ta σ H λvs H1=>∃j:Int,vs=[.int j]/\-(2^62)<=j/\j<2^62/\R (Mj 0 j.toNat) H1
def L4(ta:TA):TI:=λσ H R=>ta σ H λvs H1=>∃i j:Int,vs=[.int i,.int j]/\(-(2^62)<=i/\i<2^62/\-(2^62)<=j/\j<2^62)/\R (Mj i (j-i).toNat) H1
theorem Ed{a:U0}{ta:TA}{p pos:Pos}(hg:Gl X "range")(hm:X.mg "range"=none)(ha:PA X [a] ta)(hs:U1 [a] X.env=[(false,eval a X.env)]:=by rfl):PI X tg (.Call (.Name "range" p) [a] [] pos) (Mt ta):=by
 intro pins s σ H R I h;refine Call_ (ky I hg hm boot_range (Ur (dL (ha pos pins s σ H _ I h) λus s1 ⟨vs,H1,I1,r1,q1⟩=>?_) hs rfl));obtain⟨j,e,q1,q2,q⟩:=q1;subst e;cases r1 with
 |cons r rr=>
  cases rr;obtain⟨t,rfl⟩:=r;exact call_range_1 (zV I1 ‹0› ‹0› q1 q2 (by simpa using q))
theorem DF{a b:U0}{ta:TA}{p pos:Pos}(hg:Gl X "range")(hm:X.mg "range"=none)(ha:PA X [a,b] ta)(hs:U1 [a,b] X.env=[(false,eval a X.env),(false,eval b X.env)]:=by rfl)(hs2:U1 [b] X.env=[(false,eval b X.env)]:=by rfl):
  PI X tg (.Call (.Name "range" p) [a,b] [] pos) (L4 ta):=by
 intro pins s σ H R I h;refine Call_ (ky I hg hm boot_range (Ur (dL (ha pos pins s σ H _ I h) λus s1 ⟨vs,H1,I1,r1,q1⟩=>?_) (by rw[hs,hs2]) (by rw[hs2];rfl)));obtain⟨i,j,e,⟨q1,q2,q3,q4⟩,q⟩:=q1;subst e;cases r1 with
 |cons r rr=>
  cases rr with
  |cons r' rr=>
   cases rr;obtain⟨t,rfl⟩:=r;obtain⟨t',rfl⟩:=r';exact call_range_2 (zV I1 q1 q2 q3 q4 q)
def Oz(wi:TI)(g:TG)(tb:TS):TS:=λD σ H=>wi σ H λJ H1=>∃W:Nat->Nat->St->Hp->Prop,(∃m,W 0 m σ H1)/\∀i m σ H,W i m σ H->
 (J.stop i H/\D.nx σ H)\/(J.go i H/\∃N:St->Hp->Prop,(∀σ' H',N σ' H'->∃m',m'<m/\W (i+1) m' σ' H')/\∀x H',J.yld i H x H'->g x σ H' λσ2 H2=>tb {D with nx:=N,ct:=N,bk:=D.nx} σ2 H2)
def uP(fp:List UN)(h:UP):List (UN×Obj):=fp.filterMap λb=>(h.get? b).map λo=>(b,o)
theorem md{fp:List UN}{h:UP}{b:UN}{o:Obj}(hb:b∈fp)(e:h.get? b=some o):(b,o)∈uP fp h:=List.mem_filterMap.mpr ⟨b,hb,by rw[e];rfl⟩
theorem Di{fp:List UN}{h:UP}{p:UN×Obj}(hp:p∈uP fp h):p.1∈fp/\h.get? p.1=some p.2:=by
 obtain⟨b,hb,e⟩:=List.mem_filterMap.mp hp;cases q:h.get? b with
 |none=>rw[q]at e;cases e
 |some o=>
  rw[q]at e;have e':(b,o)=p:=Option.some.inj e;subst e';exact⟨hb,q⟩
theorem Inv.pinned{pins:List (UN×Obj)}{σ:St}{H:Hp}{s:UX}{fp:List UN}(I:Inv X pins σ H s)(hf:∀b∈fp,vt X pins H b)(ho:∀b∈fp,∃o,s.heap.get? b=some o/\∀v,o.data≠.cell v):Inv X (pins++uP fp s.heap) σ H s:=
 I.pins_of λp hp=>(List.mem_append.mp hp).elim (λz=>I.pin p (QV _ z)) λz=>by
  obtain⟨hb,e⟩:=Di z;obtain⟨f0,f1,f2,_⟩:=hf p.1 hb;obtain⟨o,e',d⟩:=ho p.1 hb;rw[e]at e';cases e';exact⟨e,f0,f1,f2,d⟩
theorem Inv.unpinned{pins pl:List (UN×Obj)}{σ:St}{H:Hp}{s:UX}(I:Inv X (pins++pl) σ H s):Inv X pins σ H s:=I.pins_of λp hp=>I.pin p (QV _ (QQ _ hp))
theorem KU{iter:U0}{body:List U2}{wi:TI}{g:TG}{tb:TS}{pos:Pos}(hp:Vb (model X.prog X.w) X.A X.env X.xe)(hc:X.calm=true)(hi:PI X tg iter wi)(hg:PG X tg g)(hb:y8 X body tb)
  (hs:∀x,Vc iter X.env x=pure x:=by intro _;rfl):PS X (.For tg iter body [] pos) (Oz wi g tb):=by
 intro pins s σ H D I h;refine wpAny_For (dL (hi pins s σ H _ I h) λv s1 h1=>dL h1 λitv s2 h2=>?_) hs;obtain⟨it,fp,tn,J,H2,e,I2,T,st2,f2,W,⟨m0,w0⟩,turn⟩:=h2;subst e;have stat:∀{H':Hp},(∀b∈fp,H' b=none)->∀b∈fp,vt X pins H' b:=λhn b hb=>⟨hn b hb,(f2 b hb).2⟩
 refine codeAny_forLoop_any (λn s'=>∃i σ' H',Inv X pins σ' H' s'/\tn i s'.heap/\(∀b∈fp,H' b=none)/\W i n σ' H') ?_ m0 ⟨0,σ,H2,I2,st2,λb hb=>(f2 b hb).1,w0⟩;rintro n s3 ⟨i,σ3,H3,I3,st3,fr3,w3⟩;rcases turn i n σ3 H3 w3 with⟨stop,qn⟩|⟨go,N,hN,step⟩
 ·refine Vd hp (dL (T.done X rfl rfl rfl hc i pins s3 σ3 H3 X.xe I3 (stat fr3) st3 stop) λr s4 ⟨hr,I4⟩=>?_);subst hr;exact U6 ⟨σ3,H3,I4,qn⟩
 ·refine Vd hp (dL (T.item X rfl rfl rfl hc i pins s3 σ3 H3 X.xe I3 (stat fr3) st3 go) λr s4 ⟨u,hr,h4⟩=>?_);subst hr;refine Vd hp (dL h4 λ_ s5 ⟨x,H5,I5,r5,y5,st5,fr5⟩=>?_);have I5':=I5.pinned (stat fr5) (T.obj _ _ st5);refine Vd hp (dL (hg _ s5 σ3 H5 x u _ I5' r5 (step x H5 y5)) λ_ s6 ⟨σ6,H6,I6,q6⟩=>?_);refine Vd hp (dL (hb _ s6 σ6 H6 _ I6 q6) λf s7 q7=>?_);have again:∀{σ7:St}{H7:Hp},Inv X (pins++uP fp s5.heap) σ7 H7 s7->N σ7 H7->∃m,m<n/\∃i σ' H',Inv X pins σ' H' s7/\tn i s7.heap/\(∀b∈fp,H' b=none)/\W i m σ' H':=λ{σ7 H7} I7 n7=>by
   obtain⟨m',hm,w7⟩:=hN σ7 H7 n7;refine⟨m',hm,i+1,σ7,H7,I7.unpinned,T.keep _ _ _ st5 λb hb o e=>(I7.pin (b,o) (QV _ (QV _ (md hb e)))).1,λb hb=>?_,w7⟩;obtain⟨o,e,d⟩:=T.obj _ _ st5 b hb;exact(I7.pin (b,o) (QV _ (QV _ (md hb e)))).2.1
  cases f with
  |next=>obtain⟨σ7,H7,I7,n7⟩:=q7;exact again I7 n7
  |cont=>obtain⟨σ7,H7,I7,n7⟩:=q7;exact again I7 n7
  |brk=>obtain⟨σ7,H7,I7,q7⟩:=q7;exact⟨σ7,H7,I7.unpinned,q7⟩
  |ret v=>obtain⟨x7,σ7,H7,I7,r7,q7⟩:=q7;exact⟨x7,σ7,H7,I7.unpinned,r7,q7⟩
end
abbrev R2:=V->V->Hp->VK->Prop
def j7(X:Cx)(f:UK->UK->Sem UK)(r:R2):Prop:=
 ∀(pins:List (UN×Obj))(s:UX)(σ:St)(H:Hp)(x y:V)(v u:UK)(Q:VK),Inv X pins σ H s->RelV x v->RelV y u->r x y H Q->
  UZ (model X.prog X.w) X.A (f v u) (EP X pins σ Q) X.xe s
def PQ(X:Cx)(f:UK->Sem UK)(r:V->Hp->VK->Prop):Prop:=
 ∀(pins:List (UN×Obj))(s:UX)(σ:St)(H:Hp)(x:V)(v:UK)(Q:VK),Inv X pins σ H s->RelV x v->r x H Q->
  UZ (model X.prog X.w) X.A (f v) (EP X pins σ Q) X.xe s
def dY(X:Cx)(f:UK)(r:List V->Hp->VK->Prop):Prop:=
 ∀(pins:List (UN×Obj))(s:UX)(σ:St)(H:Hp)(xs:List V)(us:List UK)(Q:VK),Inv X pins σ H s->Vals xs us->r xs H Q->
  UZ (model X.prog X.w) X.A (call f us) (EP X pins σ Q) X.xe s
def OO(X:Cx)(r:V->Hp->(Bool->Hp->Prop)->Prop):Prop:=
 ∀(pins:List (UN×Obj))(s:UX)(σ:St)(H:Hp)(x:V)(v:UK)(Q:Bool->Hp->Prop),Inv X pins σ H s->RelV x v->r x H Q->
  UZ (model X.prog X.w) X.A (truthy v) (TP X pins σ Q) X.xe s
def LZ(r:R2)(ta tb:TE):TE:=λσ H Q=>ta σ H λx H1=>tb σ H1 λy H2=>r x y H2 Q
def Ql(r:V->Hp->VK->Prop)(ta:TE):TE:=λσ H Q=>ta σ H λx H1=>r x H1 Q
def rI(C:Int->Int->Prop)(g:Int->Int->V):R2:=λx y H Q=>∃i j,x=.int i/\y=.int j/\C i j/\Q (g i j) H
def C9(g:Int->Int->V):R2:=λx y H Q=>∃i j,x=.int i/\y=.int j/\Q (g i j) H
def rU(g:Int->V):V->Hp->VK->Prop:=λx H Q=>∃i,x=.int i/\Q (g i) H
section
variable{X:Cx}{a b c:U0}{ta tb tc:TE}{pos:Pos}
theorem Kh(ha:PE X a ta)(hb:PE X b tb){pins:List (UN×Obj)}{s:UX}{σ:St}{H:Hp}{R:V->V->Hp->Prop}(I:Inv X pins σ H s)
  (h:ta σ H λx H1=>tb σ H1 λy H2=>R x y H2) {Q:UK->UX->Prop} {f:UK->UK->Sem UK}
  (hf:∀v u s2 x y H2,Inv X pins σ H2 s2->RelV x v->RelV y u->R x y H2->UZ (model X.prog X.w) X.A (f v u) Q X.xe s2):
  UZ (model X.prog X.w) X.A (eval a X.env) (λv s₁=>UZ (model X.prog X.w) X.A (eval b X.env) (λu s₂=>UZ (model X.prog X.w) X.A (f v u) Q X.xe s₂) X.xe s₁) X.xe s:=by
 refine dL (ha pins s σ H _ I h) λv s1 ⟨x,H1,I1,r1,q1⟩=>?_;refine dL (hb pins s1 σ H1 _ I1 q1) λu s2 ⟨y,H2,I2,r2,q2⟩=>?_;exact hf v u s2 x y H2 I2 r1 r2 q2
theorem L6{op:Operator}{r:R2}(ho:j7 X (Ve op) r)(ha:PE X a ta)(hb:PE X b tb):PE X (.BinOp a op b pos) (LZ r ta tb):=by
 intro pins s σ H Q I h;exact wpAny_BinOp (Kh ha hb I h λv u s2 x y H2 I2 rx ry q=>ho pins s2 σ H2 x y v u Q I2 rx ry q)
theorem MM{op:UnaryOp}{r:V->Hp->VK->Prop}(ho:PQ X (unaryOp op) r)(ha:PE X a ta):PE X (.UnaryOp op a pos) (Ql r ta):=by
 intro pins s σ H Q I h;exact UnaryOp_ (dL (ha pins s σ H _ I h) λv s1 ⟨x,H1,I1,r1,q1⟩=>ho pins s1 σ H1 x v Q I1 r1 q1)
theorem Mu{f:UK->UK->Sem UK}{C:Int->Int->Prop}{g:Int->Int->Int}
  (rule:∀(i j:Int)(t u:Tok)(s:UX)(Q:UK->UX->Prop)(E:UK->UX->Prop),C i j->Q (.int (g i j) s.toks) {s with toks:=s.toks+1}->UZ (model X.prog X.w) X.A (f (.int i t) (.int j u)) Q E s):
  j7 X f (rI C λi j=>.int (g i j)):=by
 intro pins s σ H x y v u Q I rx ry h;obtain⟨i,j,rfl,rfl,hc,q⟩:=h;obtain⟨t,rfl⟩:=rx;obtain⟨t',rfl⟩:=ry;exact rule i j t t' s _ _ hc ⟨.int (g i j),H,I.tok _,⟨_,rfl⟩,q⟩
theorem KI{f:UK->UK->Sem UK}{g:Int->Int->Int}
  (rule:∀(i j:Int)(t u:Tok)(s:UX)(Q:UK->UX->Prop)(E:UK->UX->Prop),Q (.int (g i j) s.toks) {s with toks:=s.toks+1}->UZ (model X.prog X.w) X.A (f (.int i t) (.int j u)) Q E s):
  j7 X f (C9 λi j=>.int (g i j)):=by
 intro pins s σ H x y v u Q I rx ry h;obtain⟨i,j,rfl,rfl,q⟩:=h;obtain⟨t,rfl⟩:=rx;obtain⟨t',rfl⟩:=ry;exact rule i j t t' s _ _ ⟨.int (g i j),H,I.tok _,⟨_,rfl⟩,q⟩
theorem Ho{f:UK->UK->Sem UK}{g:Int->Int->Bool}
  (rule:∀(i j:Int)(t u:Tok)(s:UX)(Q:UK->UX->Prop)(E:UK->UX->Prop),Q (.bool (g i j)) s->UZ (model X.prog X.w) X.A (f (.int i t) (.int j u)) Q E s):
  j7 X f (C9 λi j=>.bl (g i j)):=by
 intro pins s σ H x y v u Q I rx ry h;obtain⟨i,j,rfl,rfl,q⟩:=h;obtain⟨t,rfl⟩:=rx;obtain⟨t',rfl⟩:=ry;exact rule i j t t' s _ _ ⟨.bl (g i j),H,I,rfl,q⟩
def MN(i j:Int):Prop:=0<=j/\j<=1000000/\i.natAbs<2^64
def Lg(i j:Int):Prop:=(-(2^64)<i/\i<2^64)\/(-(2^64)<j/\j<2^64)
theorem Lg.ok{i j:Int}(h:Lg i j):IntMulOk i j:=by
 rcases h with⟨h1,h2⟩|⟨h1,h2⟩
 ·exact .of_left (intBits_le_64 h1 h2)
 ·exact .of_right (intBits_le_64 h1 h2)
theorem AY(k:Nat):(0:Int)<=2^k:=by
 rw[two_pow_cast];exact QW _
theorem K6:j7 X (Ve .Add) (C9 λi j=>.int (i+j)):=KI λ_ _ _ _ _ _ _ q=>add_int q
theorem nz:j7 X (Ve .Sub) (C9 λi j=>.int (i-j)):=KI λ_ _ _ _ _ _ _ q=>sub_int q
theorem kF:j7 X (Ve .Mult) (rI Lg λi j=>.int (i*j)):=Mu λ_ _ _ _ _ _ _ hc q=>mul_int q hc.ok
theorem bB:j7 X (Ve .Mod) (rI (λ_ j=>0<j) λi j=>.int (i%j)):=Mu λi j _ _ _ _ _ hc q=>by
 have h1:(0:Int)<j:=hc;exact mod_int' ‹0› (by rw[Int.fmod_eq_emod_of_nonneg i ‹0›];exact q)
theorem qT:j7 X (Ve .Pow) (rI MN λi j=>.int (i^j.toNat)):=Mu λ_ _ _ _ _ _ _ hc q=>pow_int_small hc.1 hc.2.1 hc.2.2 q
theorem AX:j7 X (Ve .RShift) (rI (λ_ j=>0<=j) λi j=>.int (i/2^j.toNat)):=Mu λi j _ _ _ _ _ hc q=>
 rshift_int hc (by rw[QX i (AY _)];exact q)
theorem Bj:j7 X (Ve .BitAnd) (C9 λi j=>.int (Builtin.bitAnd i j)):=KI λ_ _ _ _ _ _ _ q=>and_int q
theorem Qv{f:UK->Sem UK}{g:Int->Int}
  (rule:∀(i:Int)(t:Tok)(s:UX)(Q:UK->UX->Prop)(E:UK->UX->Prop),Q (.int (g i) s.toks) {s with toks:=s.toks+1}->UZ (model X.prog X.w) X.A (f (.int i t)) Q E s):
  PQ X f (rU λi=>.int (g i)):=by
 intro pins s σ H x v Q I rx h;obtain⟨i,rfl,q⟩:=h;obtain⟨t,rfl⟩:=rx;exact rule i t s _ _ ⟨.int (g i),H,I.tok _,⟨_,rfl⟩,q⟩
theorem JY:PQ X (unaryOp .USub) (rU λi=>.int (-i)):=Qv λ_ _ _ _ _ q=>neg_int q
end
section
variable{X:Cx}{a b c:U0}{ta tb tc:TE}{pos:Pos}
theorem E9{pins:List (UN×Obj)}{σ:St}{H:Hp}{s:UX}{Q:VK}{k k':Bool}(I:Inv X pins σ H s)(q:Q (.bl k) H)(e:k=k'):EP X pins σ Q (.bool k') s:=by
 subst e;exact⟨.bl k,H,I,rfl,q⟩
theorem LV:j7 X (Vf .Lt) (C9 λi j=>.bl (decide (i<j))):=Ho λ_ _ _ _ _ _ _ q=>lt_int q
theorem MJ:j7 X (Vf .LtE) (C9 λi j=>.bl (decide (i<=j))):=Ho λ_ _ _ _ _ _ _ q=>le_int q
theorem JH:j7 X (Vf .Gt) (C9 λi j=>.bl (decide (j<i))):=Ho λ_ _ _ _ _ _ _ q=>gt_int q
theorem MA:j7 X (Vf .GtE) (C9 λi j=>.bl (decide (j<=i))):=Ho λ_ _ _ _ _ _ _ q=>ge_int q
theorem DC:j7 X (Vf .Lt) (λx y H Q=>∃i j,x=.str i/\y=.str j/\Q (.bl (decide (i.cps.toList<j.cps.toList))) H):=by
 intro pins s σ H x y v u Q I rx ry h;obtain⟨i,j,rfl,rfl,q⟩:=h;obtain⟨t,rfl⟩:=rx;obtain⟨t',rfl⟩:=ry;exact lt_str (E9 I q rfl)
theorem cj(b:U0){op:Vg}(h:op≠.In:=by decide)(h2:op≠.NotIn:=by decide):Vh op b=false:=by
 have e1:(op==CmpOp.In)=false:=by cases op<;>first|rfl|exact absurd rfl h
 have e2:(op==CmpOp.NotIn)=false:=by cases op<;>first|rfl|exact absurd rfl h2
 cases b<;>simp[Vh,e1,e2]
theorem Io{op:Vg}{r:R2}(ho:j7 X (Vf op) r)(ha:PE X a ta)(hb:PE X b tb)(hm:Vh op b=false):PE X (.Compare a [op] [b] pos) (LZ r ta tb):=by
 intro pins s σ H Q I h;exact wpAny_Compare1 (Kh ha hb I h λv u s2 x y H2 I2 rx ry q=>ho pins s2 σ H2 x y v u Q I2 rx ry q) hm
def Gy(t:TE):TT:=λσ H Q=>t σ H λx H'=>∃k,x=.bl k/\Q k H'
theorem Hg{op:Vg}{r:R2}(ho:j7 X (Vf op) r)(ha:PE X a ta)(hb:PE X b tb)(hm:Vh op b=false):PT X (.Compare a [op] [b] pos) (Gy (LZ r ta tb)):=by
 intro pins s σ H Q I h;refine wpAny_isTrue_Compare1 (dL (ha pins s σ H _ I h) λv s1 ⟨x,H1,I1,r1,q1⟩=>dL (hb pins s1 σ H1 _ I1 q1) λu s2 ⟨y,H2,I2,r2,q2⟩=>
  dL (ho pins s2 σ H2 x y v u _ I2 r1 r2 q2) λc s3 ⟨z,H3,I3,r3,k,e,q3⟩=>?_) hm
 subst e;cases r3;exact U5 ⟨H3,I3,q3⟩
def FQ(r r':R2)(ta tb tc:TE):TE:=λσ H Q=>ta σ H λx H1=>tb σ H1 λy H2=>r x y H2 λz H3=>∃k,z=.bl k/\
 (if k=true then tc σ H3 λw' H4=>r' y w' H4 Q else Q (.bl false) H3)
theorem Gz{op op':Vg}{r r':R2}(ho:j7 X (Vf op) r)(ho':j7 X (Vf op') r')(ha:PE X a ta)(hb:PE X b tb)(hc:PE X c tc)
  (hm:lastMarks [op,op'] [b,c]=false:=by with_unfolding_all rfl):PT X (.Compare a [op,op'] [b,c] pos) (Gy (FQ r r' ta tb tc)):=by
 intro pins s σ H Q I h;refine isTrue_chain (dL (ha pins s σ H _ I h) λv s1 ⟨x,H1,I1,r1,q1⟩=>test_link (dL (hb pins s1 σ H1 _ I1 q1) λu s2 ⟨y,H2,I2,r2,q2⟩=>
  dL (ho pins s2 σ H2 x y v u _ I2 r1 r2 q2) λd s3 ⟨z,H3,I3,r3,k,e,q3⟩=>?_)) hm
 subst e;cases r3;refine U5 ?_;cases k with
 |false=>
  obtain⟨k',e',q'⟩:=q3;cases e';exact ite_ff ⟨H3,I3,q'⟩
 |true=>
  refine ite_tt (test_last (dL (hc pins s3 σ H3 _ I3 q3) λw' s4 ⟨z',H4,I4,r4,q4⟩=>dL (ho' pins s4 σ H4 y z' u w' _ I4 r2 r4 q4) λd' s5 ⟨z2,H5,I5,r5,k2,e2,q5⟩=>?_));subst e2;cases r5;exact U5 ⟨H5,I5,q5⟩
def Nb(K:Tu)(x:V)(H:Hp)(k:Bool):Prop:=
 match x with
 |.non=>k=false
 |.bl b=>k=b
 |.int i=>k=(i !=0)
 |.str y=>y.length<=UQ/\k=((y.length:Int) !=0)
 |.byt y=>y.size<=UQ/\k=((y.size:Int) !=0)
 |.ref p=>(∃xs,pH K H p xs/\k=!xs.isEmpty)\/(∃xs,qN K H p xs/\k=!xs.isEmpty)\/∃kvs,H p=some (.dK kvs)/\k=!kvs.isEmpty
 |_=>False
theorem A6{κ:Type}{kvs:List (κ×V)}{vs:List (κ×UK)}(r:KV kvs vs):(!vs.isEmpty)=!kvs.isEmpty:=by
 cases r<;>rfl
theorem tQ{xs:List V}{its:List UK}(r:Vals xs its):(!its.toArray.isEmpty)=!xs.isEmpty:=by
 cases r<;>simp
theorem qI:(UQ:Nat)<2^63:=by rw[Vi];decide
theorem KH:OO X (λx H Q=>∃k,Nb X.K x H k/\Q k H):=by
 intro pins s σ H x v Q I rx h;obtain⟨k,e,q⟩:=h;have hl:=qI;have hs:UQ=16777216:=Vi;cases x with
 |non=>
  cases rx;have e':k=false:=e;subst e';exact truthy_none ⟨H,I,q⟩
 |bl b=>
  cases rx;have e':k=b:=e;subst e';exact U5 ⟨H,I,q⟩
 |int i=>
  obtain⟨t,rfl⟩:=rx;have e':k=(i !=0):=e;subst e';exact PySem.P.truthy_int ⟨H,I,q⟩
 |str y=>
  obtain⟨t,rfl⟩:=rx;obtain⟨hy,e'⟩:y.length<=UQ/\k=((y.length:Int) !=0):=e;subst e';exact PySem.P.truthy_str ‹0› ⟨H,I.tok _,q⟩
 |byt y=>
  obtain⟨t,rfl⟩:=rx;obtain⟨hy,e'⟩:y.size<=UQ/\k=((y.size:Int) !=0):=e;subst e';exact PySem.W.truthy_bytes ‹0› ⟨H,I.tok _,q⟩
 |ref p=>
  cases rx;have e':(∃xs,pH X.K H p xs/\k=!xs.isEmpty)\/(∃xs,qN X.K H p xs/\k=!xs.isEmpty)\/∃kvs,H p=some (.dK kvs)/\k=!kvs.isEmpty:=e;rcases e' with⟨xs,hx,e'⟩|⟨xs,hx,e'⟩|⟨kvs,hx,e'⟩
  ·subst e';obtain⟨its,r,pl,hz⟩:=I.list hx;have hlen:=r.length;exact wpAny_truthy_list pl.isList (by simp only[QY];omega) ⟨H,I.tok _,by rw[tQ r];exact q⟩
  ·subst e';obtain⟨its,r,pl,hz⟩:=I.tuple hx;have hlen:=r.length;exact truthy_tuple pl (by simp only[QY];omega) ⟨H,I.tok _,by rw[tQ r];exact q⟩
  ·subst e';obtain⟨hz,hS,vs,r,m⟩:kvs.length<=UQ/\(p==sysModules)=false/\∃vs,KV kvs vs/\s.heap.DictOf (bY X.prog X.w) p vs:=I.hok p _ hx;have hlen:kvs.length=vs.length:=Paired.length r;exact wpAny_truthy_dict hS m ‹0› ⟨H,I.tok _,by rw[A6 r];exact q⟩
 |_=>exact(show False from e).elim
theorem GQ(ha:PE X a ta)(he:∀whole,isTrue a X.env whole=(do let v<-whole;standAt a.pos;holding [v] (truthy v))):
  PT X a (λσ H Q=>ta σ H λx H'=>∃k,Nb X.K x H' k/\Q k H'):=by
 intro pins s σ H Q I h;exact isTrue_plain (dL (ha pins s σ H _ I h) λv s1 ⟨x,H1,I1,r1,q1⟩=>KH pins s1 σ H1 x v Q I1 r1 q1) (he _)
theorem Bq:j7 X (Ve .Add) (λx y H Q=>∃i j,x=.str i/\y=.str j/\i.length+j.length<=UQ/\Q (.str (i++j)) H):=by
 intro pins s σ H x y v u Q I rx ry h;obtain⟨i,j,rfl,rfl,hz,q⟩:=h;obtain⟨t,rfl⟩:=rx;obtain⟨t',rfl⟩:=ry;exact add_str (λt' tk=>⟨.str (i++j),H,I.tok _,⟨_,rfl⟩,q⟩) hz
theorem vals1{x:V}{us:List UK}(r:Vals [x] us):∃u,us=[u]/\RelV x u:=by
 cases r with
 |cons r1 r2=>cases r2;exact⟨_,rfl,r1⟩
theorem vals2{x y:V}{us:List UK}(r:Vals [x,y] us):∃u w',us=[u,w']/\RelV x u/\RelV y w':=by
 cases r with
 |cons r1 r2=>
  cases r2 with
  |cons r3 r4=>cases r4;exact⟨_,_,rfl,r1,r3⟩
theorem Dk(hc:X.calm=true):dY X (.builtin "max") (λxs H Q=>∃i j,xs=[.int i,.int j]/\Q (.int (if j>i then j else i)) H):=by
 intro pins s σ H xs us Q I r h;obtain⟨i,j,rfl,q⟩:=h;obtain⟨u,w',rfl,⟨t,rfl⟩,⟨t',rfl⟩⟩:=vals2 r;refine max_two_ints (I.ok.hd hc) λh' tk k=>⟨_,H,I.kept k,?_,q⟩
 by_cases hj:j>i
 ·rw[if_pos hj,if_pos hj];exact⟨_,rfl⟩
 ·rw[if_neg hj,if_neg hj];exact⟨_,rfl⟩
theorem DT(hc:X.calm=true):dY X (.builtin "min") (λxs H Q=>∃i j,xs=[.int i,.int j]/\Q (.int (if j<i then j else i)) H):=by
 intro pins s σ H xs us Q I r h;obtain⟨i,j,rfl,q⟩:=h;obtain⟨u,w',rfl,⟨t,rfl⟩,⟨t',rfl⟩⟩:=vals2 r;refine min_two_ints (I.ok.hd hc) λh' tk k=>⟨_,H,I.kept k,?_,q⟩
 by_cases hj:j<i
 ·rw[if_pos hj,if_pos hj];exact⟨_,rfl⟩
 ·rw[if_neg hj,if_neg hj];exact⟨_,rfl⟩
theorem vI:dY X (.type "int") (λxs H Q=>(∃i,xs=[.int i]/\Q (.int i) H)\/∃k,xs=[.bl k]/\Q (.int (if k then 1 else 0)) H):=by
 intro pins s σ H xs us Q I r h;rcases h with⟨i,rfl,q⟩|⟨k,rfl,q⟩
 ·obtain⟨u,rfl,t,rfl⟩:=vals1 r;exact call_int_int ⟨.int i,H,I,⟨_,rfl⟩,q⟩
 ·obtain⟨u,rfl,r1⟩:=vals1 r;cases r1;exact call_int_bool ⟨.int (if k then 1 else 0),H,I.tok _,⟨_,rfl⟩,q⟩
end
structure DS(h:UP)(x dx C:UN)(mA:Str->Option UK):Prop where
 obj:h.get? x=some (Ts C dx)
 ns:h.Ns1 dx mA
 ne:dx≠x
theorem DX{h:UP}{dx:UN}{mA:Str->Option UK}(n:h.Ns1 dx mA):∃od,h.get? dx=some od/\∀name,Tv name od=some (mA name):=by
 obtain⟨o,es,ep,ho,hd,hk,_,hm⟩:=n;refine⟨o,ho,λname=>?_⟩;have e:=hm name;unfold nsFind findBy at e;rw[<-Array.find?_toList]at e;unfold Tv;rw[hd];dsimp only;split
 ·rename_i y q;rw[q]at e;exact congrArg some e
 ·rename_i q;rw[q]at e;have a:es.toList.any (·.refKey)=false:=by
   rw[List.any_eq_false];intro y hy;obtain⟨z,t,hkey⟩:=hk y (Array.mem_toList_iff.mp hy);simp[DictEntry.refKey,hkey]
  have a':¬es.toList.any (·.refKey)=true:=by rw[a];exact QZ
  rw[if_neg a'];exact congrArg some e
theorem DS.look{h:UP}{x dx C:UN}{mA:Str->Option UK}(I:DS h x dx C mA):∃od,PySem.W.InstAt h x (Ts C dx) C (some od)/\∀name,Tv name od=some (mA name):=
 let ⟨od,ho,hl⟩:=DX I.ns
 ⟨od,⟨I.obj,rfl,rfl,ho⟩,hl⟩
section
variable{prog:UM}{w:UL}{A:UW}{E:UK->UX->Prop}{s:UX}{K:Tu}{x dx C f:UN}{mA:Str->Option UK}{name:Str}{v:UK}
theorem IQ{expr:Bool}{Q:UK->UX->Prop}(X:K.In s.heap)(I:DS s.heap x dx C mA)(hg:Tw K C name=true)(hh:Tx K C=true)
  (ha:Tz K (.ref C) name=some none) (hv:mA name=some v) (hv':TB v=true) (h:Q v {s with toks:=s.toks+1}):
  UZ (model prog w) A (getAttr (.ref x) name expr) Q E s:=by
 obtain⟨od,J,hl⟩:=I.look;exact PySem.W.get_value X J (TC hg).1 (PySem.W.findObj_own hh ha rfl (by rw[hl,hv])) hv' h
theorem GP{pl:Sem Bool}{Q:UK×List UK->UX->Prop}(X:K.In s.heap)(I:DS s.heap x dx C mA)(hg:Tw K C name=true)
  (hf:Tz K (.ref C) name=some (some (.ref f))) (ht:TF K (.ref f)=true) (hv:mA name=none) (h:Q (.ref f,[.ref x]) s):
  UZ (model prog w) A (getMethod (.ref x) name pl) Q E s:=by
 obtain⟨od,J,hl⟩:=I.look;exact PySem.W.method_fn X J (TC hg).1 (TC hg).2 hf (beq_iff_eq.mp ht) (by show(Tv name od).map (·.isSome)=some false;rw[hl,hv];rfl) h
theorem HY{ns:List Str}{Q:Unit->UX->Prop}(X:K.In s.heap)(I:DS s.heap x dx C mA)
  (hs:Tz K (.ref C) "__setattr__"=some (some (.builtin "object.__setattr__"))) (hp:TH K C=true) (ht:TJ K C name=some none) (hh:Tx K C=true)
  (hw:PySem.Within mA ns) (hsz:ns.length<=UQ)
  (h:∀h',DS h' x dx C (λy=>if y=name then some v else mA y)->Ue dx s.heap h'->Q () {s with heap:=h',toks:=s.toks+2}):
  UZ (model prog w) A (setAttr (.ref x) name v) Q E s:=by
 obtain⟨od,J,hl⟩:=I.look;refine PySem.W.set_plain X J hs (PySem.W.osa_open (s:={s with toks:=s.toks+1}) (r:=none) X J hp ht λb=>?_);obtain⟨cd,hc,hd'⟩:=PySem.W.any_some hh;have hx:s.heap.get? x=some ⟨.ref C,some dx,.plain,#[]⟩:=I.obj;refine U8 (U7 (U8 (U8 (wpAny_loadPart hx (U8 (PySem.W.Looks.here (s:={s with toks:=s.toks+1}) (PySem.W.looks_clsIn X hc) ?_))))));rw[hd'];refine U7 (a:=some dx) (U8 (U7 (U8 ?_)));refine wpAny_nsSet1 (s:={s with toks:=s.toks+1}) I.ns λh' hn2 hs2=>?_;obtain⟨oD,esD,epD,hoD,hdD,hcD⟩:=hn2.count (PySem.Within.cons name v hw);refine U8 (wpAny_lookBehind hoD (by rw[hdD];exact pastItsLine_dict (QL hcD (by rw[Q0];omega))) ?_);exact U7 (h _ ⟨(hs2.2 _ (Ne.symm I.ne)).trans I.obj,hn2,I.ne⟩ hs2)
theorem EL{R:Vj->UX->Prop}{vs:List UK}{kw:List (Str×UK)}(X:K.In s.heap)(hm:TK K C=true)
  (hi:Tz K (.ref C) "__init__"=some (some (.ref f))) (hf:PySem.W.typeIn K (.ref f)=some (.type "function"))
  (h:Vk (model prog w) (A.under (.builtin "type.__call__" ⟨.ref C::vs,kw⟩)) (.call (.ref f) ⟨.ref (s.heap.objs.size+1)::vs,kw⟩) (PySem.W.InitBack (s.heap.objs.size+1) R)
   {s with heap:=(s.heap.push TL).push (Ts C s.heap.objs.size)}):
  Vk (model prog w) A (.call (.ref C) ⟨vs,kw⟩) R s:=by
 obtain⟨hh,g,d,t,os⟩:=s;exact PySem.W.make_core (PySem.W.makes_of X hm) (PySem.W.looks_findIn X hi) (λself=>PySem.W.bind_fn X self hf) (.inl rfl) h
end
def mN(f:Str)(v:V):List (Str×V)->List (Str×V)
 |[]=>[(f,v)]
 |(g,x)::r=>if g=f then(g,v)::r else(g,x)::mN f v r
theorem rX(f g:Str)(v:V):∀fs:List (Str×V),(mN f v fs).lookup g=if g=f then some v else fs.lookup g
 |[]=>by
  show List.lookup g [(f,v)]=_;by_cases h:g=f
  ·have hb:(g==f)=true:=beq_iff_eq.mpr h;simp only[List.lookup,hb,if_pos h]
  ·have hb:(g==f)=false:=beq_eq_false_iff_ne.mpr h;simp only[List.lookup,hb,if_neg h]
 |(k,x)::r=>by
  have ih:=rX f g v r;rw[show mN f v ((k,x)::r)=(if k=f then(k,v)::r else(k,x)::mN f v r)from rfl];by_cases hk:k=f
  ·rw[if_pos hk];by_cases h:g=k
   ·have hb:(g==k)=true:=beq_iff_eq.mpr h;simp only[List.lookup,hb,if_pos (h.trans hk)]
   ·have hb:(g==k)=false:=beq_eq_false_iff_ne.mpr h;simp only[List.lookup,hb,if_neg (λe:g=f=>h (e.trans hk.symm))]
  ·rw[if_neg hk];by_cases h:g=k
   ·have hb:(g==k)=true:=beq_iff_eq.mpr h;simp only[List.lookup,hb,if_neg (λe:g=f=>hk (h.symm.trans e))]
   ·have hb:(g==k)=false:=beq_eq_false_iff_ne.mpr h;simp only[List.lookup,hb];exact ih
theorem qu(f:Str)(v:V):∀fs:List (Str×V),f∈(mN f v fs).map (·.1)/\∀g,g∈fs.map (·.1)->g∈(mN f v fs).map (·.1)
 |[]=>⟨by simp[mN],λg h=>by simp at h⟩
 |(k,x)::r=>by
  obtain⟨i1,i2⟩:=qu f v r;rw[show mN f v ((k,x)::r)=(if k=f then(k,v)::r else(k,x)::mN f v r)from rfl];by_cases hk:k=f
  ·rw[if_pos hk];subst hk;exact⟨by simp,λg h=>by simpa using h⟩
  ·rw[if_neg hk];refine⟨?_,λg h=>?_⟩
   ·rw[Q1];exact QP _ i1
   ·rw[Q1]at h ⊢;rcases List.mem_cons.mp h with e|e
    ·exact List.mem_cons.mpr (.inl e)
    ·exact QP _ (i2 g e)
theorem rT(f:Str)(v:V):∀fs:List (Str×V),(mN f v fs).length<=fs.length+1
 |[]=>by simp[mN]
 |(k,x)::r=>by
  have ih:=rT f v r;rw[show mN f v ((k,x)::r)=(if k=f then(k,v)::r else(k,x)::mN f v r)from rfl];by_cases hk:k=f
  ·rw[if_pos hk,Q0,Q0];omega
  ·rw[if_neg hk,Q0,Q0];omega
theorem ub.some_of{v:V}{o:Option UK}(r:ub (some v) o):∃u,o=some u/\RelV v u:=by
 cases o with
 |none=>exact(show False from r).elim
 |some u=>exact⟨u,rfl,r⟩
theorem ub.none_of{o:Option UK}(r:ub none o):o=none:=by
 cases o with
 |none=>rfl
 |some u=>exact(show False from r).elim
theorem DB{v:V}{u:UK}(r:RelV v u):TB u=true:=by
 cases v with
 |non=>cases(show u=Value.none from r);rfl
 |bl b=>cases(show u=Value.bool b from r);rfl
 |int i=>obtain⟨t,e⟩:=(show∃t,u=Value.int i t from r);cases e;rfl
 |str x=>obtain⟨t,e⟩:=(show∃t,u=Value.str x t from r);cases e;rfl
 |byt b=>obtain⟨t,e⟩:=(show∃t,u=Value.bytes b t from r);cases e;rfl
 |flt b=>obtain⟨t,e⟩:=(show∃t,u=Value.float b t from r);cases e;rfl
 |ref a=>cases(show u=Value.ref a from r);rfl
 |ty n=>cases(show u=Value.type n from r);rfl
section
variable{P:UM}{w:UL}{H H':Hp}{h h':UP}{a C dx:UN}{fs fs':List (Str×V)}
theorem x3(hok:pT P w H h)(e:H a=some (.ins C dx fs)):∃mA,DS h a dx C mA/\(∀f,ub (fs.lookup f) (mA f))/\PySem.Within mA (fs.map (·.1))/\fs.length<=1000/\H dx=some (.own a):=by
 obtain⟨d,z,ne,ob,mA,n,r,q⟩:=(show cH P w H h a (.ins C dx fs)from hok a _ e)
 exact⟨mA,⟨ob,n,ne⟩,r,q,z,d⟩
end
structure yH(K:Tu)(C:UN):Prop where
 pg:Tw K C Str.empty=true
 hd:Tx K C=true
 po:TH K C=true
 sa:Tz K (.ref C) "__setattr__"=some (some (.builtin "object.__setattr__"))
theorem yH.get{K:Tu}{C:UN}(c:yH K C)(f:Str):Tw K C f=true:=c.pg
def kz(K:Tu)(C:UN)(f:Str):Prop:=Tz K (.ref C) f=some none
theorem kz.taker{K:Tu}{C:UN}{f:Str}(n:kz K C f):TJ K C f=some none:=by
 unfold TJ;rw[show Tz K (.ref C) f=some none from n];rfl
structure Meth(K:Tu)(C:UN)(m:Str)(f:UN):Prop where
 at_:Tz K (.ref C) m=some (some (.ref f))
 fn:TF K (.ref f)=true
 kp:TN K (.ref f)=true
section
variable{X:Cx}{pins:List (UN×Obj)}{σ:St}{H:Hp}{s:UX}{a C dx:UN}{fs:List (Str×V)}{f:Str}{v:V}{A:UW}{E:UK->UX->Prop}
theorem Bc{b:Bool}{Q:UK->UX->Prop}(I:Inv X pins σ H s)(e:H a=some (.ins C dx fs))(c:yH X.K C)(n:kz X.K C f)(l:fs.lookup f=some v)
  (h:∀u s',Inv X pins σ H s'->RelV v u->Q u s'):UZ (model X.prog X.w) A (getAttr (.ref a) f b) Q E s:=by
 obtain⟨mA,O,r,_,_,_⟩:=x3 I.hok e;obtain⟨u,hu,ru⟩:=ub.some_of (v:=v) (o:=mA f) (by rw[<-l];exact r f);exact IQ I.kIn O (c.get f) c.hd n hu (DB ru) (h u _ (I.tok _) ru)
theorem A9{m:Str}{g:UN}{pl:Sem Bool}{Q:UK×List UK->UX->Prop}(I:Inv X pins σ H s)(e:H a=some (.ins C dx fs))(c:yH X.K C)(k:Meth X.K C m g)(l:fs.lookup m=none)
  (h:Q (.ref g,[.ref a]) s):UZ (model X.prog X.w) A (getMethod (.ref a) m pl) Q E s:=by
 obtain⟨mA,O,r,_,_,_⟩:=x3 I.hok e;have hn:mA m=none:=ub.none_of (by rw[<-l];exact r m);exact GP I.kIn O (c.get m) k.at_ k.fn hn h
theorem A5{y:V}{u:UK}{Q:Unit->UX->Prop}(I:Inv X pins σ H s)(e:H a=some (.ins C dx fs))(c:yH X.K C)(n:kz X.K C f)(hl:fs.length<1000)(ry:RelV y u)
  (h:∀s',Inv X pins σ (upd H a (.ins C dx (mN f y fs))) s'->Q () s'):UZ (model X.prog X.w) A (setAttr (.ref a) f u) Q E s:=by
 obtain⟨mA,O,r,wi,_,ho⟩:=x3 I.hok e;have hz:(fs.map (·.1)).length<=UQ:=by rw[Q2,Vi];omega
 refine HY I.kIn O c.sa c.po n.taker c.hd wi hz λh' O' sb=>h _ ?_;have hd:∃o,h'.get? dx=some o:=let ⟨o,_,_,e',_⟩:=O'.ns;⟨o,e'⟩
 refine I.write (x:=a) (e:=dx) (by rw[e];exact True.intro) (.inr ho) (λb q hb z=>(sb.2 b hb).trans z) hd ?_;refine⟨by rw[aD O.ne];exact ho,?_,O.ne,O'.obj,_,O'.ns,λg=>?_,λg hg=>?_⟩
 ·have:=rT f y fs;omega
 ·show ub ((mN f y fs).lookup g) (if g=f then some u else mA g);rw[rX];by_cases q:g=f
  ·rw[if_pos q,if_pos q];exact ry
  ·rw[if_neg q,if_neg q];exact r g
 ·by_cases q:g=f
  ·rw[q];exact(qu f y fs).1
  ·refine(qu f y fs).2 g (wi g λz=>hg ?_);show(if g=f then some u else mA g)=none;rw[if_neg q];exact z
theorem Inv.made(I:Inv X pins σ H s):Inv X pins σ (upd (upd H s.heap.objs.size (.own (s.heap.objs.size+1))) (s.heap.objs.size+1) (.ins C s.heap.objs.size []))
  {s with heap:=(s.heap.push TL).push (Ts C s.heap.objs.size)}:=by
 have e1:(s.heap.push TL).get? s.heap.objs.size=some TL:=Uh s.heap rfl;have e2:((s.heap.push TL).push (Ts C s.heap.objs.size)).get? (s.heap.objs.size+1)=some (Ts C s.heap.objs.size):=by
  have:=Uh (s.heap.push TL) (o:=Ts C s.heap.objs.size) rfl
  rwa [Ui]at this
 have e3:(s.heap.push TL).Ns s.heap.objs.size (λ_=>none):=⟨TL,#[],_,e1,rfl,(λe he=>absurd he (by simp)),λ_=>rfl⟩
 have I1:=I.laid (a:=s.heap.objs.size) (o:=.own (s.heap.objs.size+1)) (h':=s.heap.push TL) (t':=s.toks) (λb u q=>Ug _ q) (QU _) ⟨_,e1⟩;refine I1.laid (a:=s.heap.objs.size+1) (o:=.ins C s.heap.objs.size []) (t':=s.toks) (λb u q=>Ug _ q) (Q3 (Ui _ _)) ?_;have ne:s.heap.objs.size≠s.heap.objs.size+1:=QK (Nat.lt_succ_self _);refine⟨by rw[aD ne,aY],Q4 _,ne,e2,λ_=>none,(Heap.Ns1.of_empty e3).at λo q=>Ug _ q,λ_=>True.intro,λy hy=>absurd rfl hy⟩
theorem G8{prog:UM}{w:UL}{env:Env}{e:U0}{f:Str}{pos:Pos}{s:UX}{Q:UK->UX->Prop}(hb:Vl e f env (eval e env)=eval e env)
  (h:UZ (model prog w) A (eval e env) (λo s₁=>UZ (model prog w) A (getAttr o f true) Q E s₁) E s):UZ (model prog w) A (eval (.Attribute e f pos) env) Q E s:=
 Attribute_any_ h (by rw[arm_eval_Attribute,hb])
end
def N3(K:Tu)(ta:TE)(f:Str):TE:=λσ H Q=>ta σ H λx H1=>∃a C dx fs v,x=.ref a/\H1 a=some (.ins C dx fs)/\yH K C/\kz K C f/\fs.lookup f=some v/\Q v H1
def Pr(K:Tu)(ta tv:TE)(f:Str):TS:=λD σ H=>tv σ H λy H1=>ta σ H1 λx H2=>∃a C dx fs,x=.ref a/\H2 a=some (.ins C dx fs)/\yH K C/\kz K C f/\fs.length<1000/\
 D.nx σ (upd H2 a (.ins C dx (mN f y fs)))
section
variable{X:Cx}{o e value:U0}{f:Str}{pos pos' tpos:Pos}{ta tv:TE}
theorem J8(he:PE X e ta)(hb:Vl e f X.env (eval e X.env)=eval e X.env):PE X (.Attribute e f pos) (N3 X.K ta f):=by
 intro pins s σ H Q I h;refine G8 hb (dL (he pins s σ H _ I h) λu s1 ⟨x,H1,I1,rx,a,C,dx,fs,v,ex,ea,c,n,l,q⟩=>?_);subst ex;obtain rfl:u=Value.ref a:=rx;exact Bc I1 ea c n l λu' s2 I2 ru=>⟨v,H1,I2,ru,q⟩
theorem E7(ha:PE X o ta)(hv:PE X value tv)(hs:swapsWith value (some (.Attribute o f pos')) pos.line X.env=pure false):PS X (.Assign [.Attribute o f pos'] value pos) (Pr X.K ta tv f):=by
 intro pins s σ H D I h;refine plainObj_wpAny_Assign_Attribute (dL (hv pins s σ H _ I h) λu s1 ⟨y,H1,I1,ry,q⟩=>dL (ha pins s1 σ H1 _ I1 q) λov s2 ⟨x,H2,I2,rx,a,C,dx,fs,ex,ea,c,n,l,q2⟩=>?_) hs;subst ex;obtain rfl:ov=Value.ref a:=rx;exact A5 I2 ea c n l ry λs3 I3=>⟨σ,_,I3,q2⟩
theorem zq{pl:Sem Bool}{m:Str}{apos:Pos}{args:List U0}{pins:List (UN×Obj)}{s:UX}{σ:St}{H:Hp}{Q:UK->UX->Prop}{te:TE}(he:PE X e te)(I:Inv X pins σ H s)
  (h:te σ H fun x H1=>∃ a C dx fs g,x=.ref a/\H1 a=some (.ins C dx fs)/\yH X.K C/\Meth X.K C m g/\fs.lookup m=none /\
   ∀s1,Inv X pins σ H1 s1->UZ (model X.prog X.w) X.A (Vm pos (.ref g) [.ref a] (backTo pos (U1 args X.env)) (backToKw pos (Vn [] X.env))) Q X.xe s1)
  (ht:eval (.Call (.Attribute e m apos) args [] pos) X.env=(do
   let ov<-eval e X.env
   standAt apos.atName
   let (f,first)<-holding [ov] (getMethod ov m pl)
   Vm pos f first (backTo pos (U1 args X.env)) (backToKw pos (Vn [] X.env)))):
  UZ (model X.prog X.w) X.A (eval (.Call (.Attribute e m apos) args [] pos) X.env) Q X.xe s:=by
 refine PySem.W.methodCall_KW (pl:=pl) (dL (he pins s σ H _ I h) λu s1 ⟨x,H1,I1,rx,a,C,dx,fs,g,ex,ea,c,k,l,q⟩=>?_) ht;subst ex;obtain rfl:u=Value.ref a:=rx;exact A9 I1 ea c k l (q s1 I1)
end
structure fY(k:Nat)(A:UW):Prop where
 hd:A.handled=none
 dp:A.depth+3*k+5<Vo
 un:A.units+16*k+200<Vp
theorem fY.mono{j k:Nat}{A:UW}(r:fY k A)(h:j<=k):fY j A:=⟨r.hd,by have:=r.dp;omega,by have:=r.un;omega⟩
theorem fY.deeper{k:Nat}{A:UW}(r:fY (k+1) A)(env:Env):fY k (A.deeper env):=
 ⟨r.hd,by have:=r.dp;show A.depth+1+3*k+5<_;omega,by have:=r.un;show A.units+3+16*k+200<_;omega⟩
theorem Ao{A:UW}{C:UN}{us:List UK}{kw:List (Str×UK)}:(A.under (.builtin "type.__call__" ⟨.ref C::us,kw⟩)).depth=A.depth+1:=by
 first|rfl|simp[Around.under,Code.weight,Code.isCreation,Code.isGuard,Code.isCaller,Code.frames,Code.isFrame,guardIds]
theorem AF{A:UW}{C:UN}{us:List UK}{kw:List (Str×UK)}:(A.under (.builtin "type.__call__" ⟨.ref C::us,kw⟩)).units=A.units+1:=by
 first|rfl|simp[Around.under,Code.cUnits,Code.frames,Code.isFrame]
theorem fY.make{k:Nat}{A:UW}(r:fY (k+1) A)(C:UN)(us:List UK)(kw:List (Str×UK)):fY k (A.under (.builtin "type.__call__" ⟨.ref C::us,kw⟩)):=
 ⟨r.hd,by have:=r.dp;rw[Ao];omega,by have:=r.un;rw[AF];omega⟩
theorem fY.depth{k:Nat}{A:UW}(r:fY k A):A.depth<Vo:=by have:=r.dp;omega
theorem fY.units{k:Nat}{A:UW}(r:fY k A):A.units+64<Vp:=by have:=r.un;omega
def MC:TA:=λ_ H Q=>Q [] H
def JA(ta:TE)(tr:TA):TA:=λσ H Q=>ta σ H λx H1=>tr σ H1 λxs H2=>Q (x::xs) H2
section
variable{X:Cx}{e:U0}{es:List U0}{te:TE}{t:TA}{pos:Pos}
theorem pF:PA X [] MC:=λ_ _ _ _ H Q I h=>Calls.spliced_nil ⟨[],H,I,.nil,h⟩
theorem j6(ha:PE X e te)(hr:PA X es t)(hs:U1 (e::es) X.env=(false,eval e X.env)::U1 es X.env:=by rfl):PA X (e::es) (JA te t):=by
 intro pos pins s σ H Q I h;rw[hs];show UZ _ _ (spliced ((false,eval e X.env)::backTo pos (U1 es X.env))) _ _ s;refine Calls.spliced_cons (dL (ha pins s σ H _ I h) λu s1 ⟨x,H1,I1,r1,q1⟩=>?_);exact dL (hr pos pins s1 σ H1 _ I1 q1) λus s2 ⟨xs,H2,I2,r2,q2⟩=>⟨x::xs,H2,I2,.cons r1 r2,q2⟩
def Ox(t:TA):TE:=λσ H Q=>t σ H λxs H1=>xs.length<=UQ/\∀p,H1 p=none->Q (.ref p) (upd H1 p (.tup xs))
def O2(t:TA):TE:=λσ H Q=>t σ H λxs H1=>xs.length<=UQ/\∀p,H1 p=none->Q (.ref p) (upd H1 p (.lst xs))
theorem JR{x1}(h:PA X es t):PE X (.Tuple es x1 pos) (Ox t):=by
 intro pins s σ H Q I hq;refine wpAny_Tuple_spliced (dL (h pos pins s σ H _ I hq) λus s1 ⟨xs,H1,I1,r,z,q⟩=>⟨by rw[<-r.length];exact z,?_⟩);have hf:H1 s1.heap.objs.size=none:=I1.hok.fresh (QU _);refine⟨.ref s1.heap.objs.size,upd H1 s1.heap.objs.size (.tup xs),I1.laid (t':=s1.toks) (λb u e=>Ug _ e) (QU _) ?_,rfl,q _ hf⟩;exact⟨z,us,r,⟨_,Uh _ rfl,rfl,_,rfl⟩⟩
theorem Bb(h:PA X es t):PE X (.List es pos) (O2 t):=by
 intro pins s σ H Q I hq;refine wpAny_List_spliced (dL (h pos pins s σ H _ I hq) λus s1 ⟨xs,H1,I1,r,z,q⟩=>⟨by rw[<-r.length];exact z,?_⟩);have hf:H1 s1.heap.objs.size=none:=I1.hok.fresh (QU _);refine⟨.ref s1.heap.objs.size,upd H1 s1.heap.objs.size (.lst xs),I1.laid (t':=s1.toks) (λb u e=>Ug _ e) (QU _) ?_,rfl,q _ hf⟩;exact⟨z,us,0,r,Uh _ rfl⟩
end
abbrev Sp:=List V->Hp->VK->XK->Prop
abbrev Ae:=List Env->Hp->UX->XK->UK->UX->Prop
structure D3(P:UM)(w:UL)(K:Tu)(mg:Str->Option UK)(base:UP)(A:UW)(outer:List Env)(s:UX)(H:Hp):Prop where
 frames:A.frames=some outer
 mod:Mod K mg base
 bs:∀b o,base.get? b=some o->s.heap.get? b=some o/\H b=none
 bsz:base.objs.size<=s.heap.objs.size
 funs:s.heap.FunFrames base outer
 frf:∀b∈frs outer,H b=none
 hok:pT P w H s.heap
 bare:AllBare s.gens
def CE(outer:List Env)(P:UM)(w:UL)(H:Hp)(s:UX)(Q:VK)(u:UK)(s':UX):Prop:=
 ∃v H',s'.os=s.os/\AllBare s'.gens/\Un (frs outer) [] H H' s.heap s'.heap/\pT P w H' s'.heap/\RelV v u/\Q v H'
def CR(CX:Ae)(outer:List Env)(P:UM)(w:UL)(H:Hp)(s:UX)(Q:VK)(E:XK)(r:Vj)(s':UX):Prop:=
 match r with
 |.ok (.ret u)=>CE outer P w H s Q u s'
 |.ok _=>False
 |.error e=>CX outer H s E e s'
structure jT(P:UM)(w:UL)(K:Tu)(mg:Str->Option UK)(base:UP)(CX:Ae)(k:Nat)(f:UN)(fd:Vq)(ps:List Str)(sp:Sp):Prop where
 len:∀vs H Q E,sp vs H Q E->vs.length=ps.length
 run:∀(A:UW)(outer:List Env)(s:UX)(H:Hp)(args:Args)(us:List UK)(vs:List V)(Q:VK)(E:XK),fY k A->D3 P w K mg base A outer s H->Vr s fd args (ps.zip us)->Vals vs us->sp vs H Q E->
  Vk (model P w) A (.call (.ref f) args) (CR CX outer P w H s Q E) s
theorem jT.mono{P:UM}{w:UL}{K:Tu}{mg:Str->Option UK}{base:UP}{CX:Ae}{j k:Nat}{f:UN}{fd:Vq}{ps:List Str}{sp:Sp}(F:jT P w K mg base CX j f fd ps sp)(h:j<=k):
  jT P w K mg base CX k f fd ps sp:=⟨F.len,λA outer s H args us vs Q E hr=>F.run A outer s H args us vs Q E (hr.mono h)⟩
theorem D3.make{P:UM}{w:UL}{K:Tu}{mg:Str->Option UK}{base:UP}{A:UW}{outer:List Env}{s:UX}{H:Hp}(e:D3 P w K mg base A outer s H)(C:UN)(us:List UK)(kw:List (Str×UK)):
  D3 P w K mg base (A.under (.builtin "type.__call__" ⟨.ref C::us,kw⟩)) outer s H:=⟨by first|exact e.frames|(simpa [Around.under,Code.envs,Code.isFrame,pushEnvs]using e.frames),e.mod,e.bs,e.bsz,e.funs,e.frf,e.hok,e.bare⟩
section
variable{X:Cx}{pins:List (UN×Obj)}{σ:St}{H:Hp}{s s':UX}
theorem Inv.env0(I:Inv X pins σ H s):D3 X.prog X.w X.K X.mg X.base X.A X.stack s H:=
 ⟨I.ok.frames,I.ok.mod,I.bs,QL I.ok.bsz I.sz,I.stack,I.stkFree,I.hok,I.bare⟩
theorem Inv.after{Q:VK}{u:UK}(I:Inv X pins σ H s)(h:CE X.stack X.prog X.w H s Q u s'):EP X pins σ Q u s':=by
 obtain⟨v,H',os,bare,un,hok,r,q⟩:=h;obtain⟨hh,g,d,t,os'⟩:=s';obtain rfl:os'=s.os:=os;exact⟨v,H',I.call (h':=hh) (g':=g) (d':=d) (t':=t) (ch:=[]) un hok bare (λb z=>absurd z (by simp)),r,q⟩
end
def M4(C:UN)(sp:Sp)(dvs:List V)(E:XK)(t:TA):TE:=λσ H Q=>t σ H λvs H1=>∀x dx,H1 x=none->H1 dx=none->dx≠x->
 sp (.ref x::(vs++dvs)) (upd (upd H1 dx (.own x)) x (.ins C dx [])) (λv H2=>v=.non/\Q (.ref x) H2) E
def Binds(K:Tu)(fd:Vq)(ps:List Str)(ds:List UK):Prop:=
 ∀(s:UX)(us:List UK),K.In s.heap->(us++ds).length=ps.length->Vr s fd ⟨us,[]⟩ (ps.zip (us++ds))
theorem Binds.all{K:Tu}{fd:Vq}{ps:List Str}(h:∀us:List UK,us.length=ps.length->bindArgs fd ⟨us,[]⟩=pure (ps.zip us)):Binds K fd ps []:=λs us _ hl=>by
 rw[Q5]at hl ⊢;exact .of_eq (h us hl)
def Bv(CX:Ae)(X:Cx)(E:XK):Prop:=∀(pins:List (UN×Obj))(σ:St)(H:Hp)(s:UX)(e:UK)(s':UX),Inv X pins σ H s->CX X.stack H s E e s'->X.xe e s'
section
variable{X:Cx}{CX:Ae}{k:Nat}{f C:UN}{fd:Vq}{ps:List Str}{sp:Sp}{dvs:List V}{ds:List UK}{E:XK}{x m:Str}{p pos apos:Pos}{e o:U0}{es:List U0}{ta:TE}{t:TA}
structure Mk(K:Tu)(C f:UN):Prop where
 makes:TK K C=true
 init:Tz K (.ref C) "__init__"=some (some (.ref f))
 fn:TF K (.ref f)=true
 kp:TN K (.ref C)=true
theorem GW{pins:List (UN×Obj)}{σ:St}{H:Hp}{s:UX}{Q:VK}{us:List UK}{vs:List V}(M:Mk X.K C f)(F:jT X.prog X.w X.K X.mg X.base CX k f fd ps sp)(hr:fY (k+1) X.A)(hb:Binds X.K fd ps ds)(hd:Vals dvs ds)
  (hx:Bv CX X E) (I:Inv X pins σ H s) (r:Vals vs us)
  (h:∀x dx,H x=none->H dx=none->dx≠x->sp (.ref x::(vs++dvs)) (upd (upd H dx (.own x)) x (.ins C dx [])) (λv H2=>v=.non/\Q (.ref x) H2) E):
  UZ (model X.prog X.w) X.A (call (.ref C) us) (EP X pins σ Q) X.xe s:=by
 have hq:=h (s.heap.objs.size+1) s.heap.objs.size (I.hok.fresh (Q6 _)) (I.hok.fresh (QU _)) (QK (Nat.lt_succ_self _));have I2:=Inv.made (C:=C) I;have r2:Vals (V.ref (s.heap.objs.size+1)::(vs++dvs)) (Value.ref (s.heap.objs.size+1)::(us++ds)):=.cons rfl (r.append hd);have hl:(Value.ref (s.heap.objs.size+1)::us++ds).length=ps.length:=by
  have e:=r2.length;rw[F.len _ _ _ _ hq]at e;exact e.symm
 refine Vs (EL (f:=f) I.kIn M.makes M.init (beq_iff_eq.mp M.fn) (Vt (F.run _ X.stack _ _ ⟨Value.ref (s.heap.objs.size+1)::us,[]⟩ (Value.ref (s.heap.objs.size+1)::(us++ds)) _ _ E (hr.make C us [])
  (I2.env0.make C us []) (hb _ (Value.ref (s.heap.objs.size+1)::us) I2.kIn hl) r2 hq) λr s' hq'=>?_))
 cases r with
 |error e=>exact hx pins σ _ _ e s' I2 hq'
 |ok fl=>
  cases fl with
  |ret u=>
   obtain⟨v,H',I3,rv,ev,q3⟩:=I2.after hq';subst ev;exact⟨rv,⟨V.ref (s.heap.objs.size+1),H',I3,rfl,q3⟩⟩
  |next=>exact False.elim hq'
  |brk=>exact False.elim hq'
  |cont=>exact False.elim hq'
theorem Ip(M:Mk X.K C f)(F:jT X.prog X.w X.K X.mg X.base CX k f fd ps sp)(hr:fY (k+1) X.A)(hg:Gl X x)(hm:X.mg x=some (.ref C))(hb:Binds X.K fd ps ds)(hd:Vals dvs ds)(hx:Bv CX X E)
  (ha:PA X (e::es) t) (hdb:(x==("__debug__":Str))=false:=by decide) (he:U1 (e::es) X.env=(false,eval e X.env)::U1 es X.env:=by rfl) (hpl:(backTo pos (U1 es X.env)).any (·.1)=false:=by rfl):
  PE X (.Call (.Name x p) (e::es) [] pos) (M4 C sp dvs E t):=by
 intro pins s σ H Q I h;refine Vu (xn I hg hm ?_ hdb);refine TQ (h₀:=X.base) I.ok.mod.kin M.kp (dL (ha pos pins s σ H _ I h) λus s1 ⟨vs,H1,I1,r,q⟩=>⟨I1.kIn,?_⟩) he hpl;exact GW M F hr hb hd hx I1 r q
end
def PK(X:Cx)(kws:List Vv)(t:TA):Prop:=
 ∀(pos:Pos)(pins:List (UN×Obj))(s:UX)(σ:St)(H:Hp)(Q:List V->Hp->Prop),Inv X pins σ H s->t σ H Q->UZ (model X.prog X.w) X.A (evalAll ((backToKw pos (Vn kws X.env)).map (·.2))) (AP X pins σ Q) X.xe s
section
variable{X:Cx}{CX:Ae}{k:Nat}{f C:UN}{fd:Vq}{ps ks:List Str}{sp:Sp}{E:XK}{x m:Str}{p pos apos kpos:Pos}{e o:U0}{es:List U0}{kws:List Vv}{te ta:TE}{t tk:TA}{nm:Option Str}
theorem K9:PK X [] MC:=λ_ _ _ _ H Q I h=>wpAny_evalAll_nil ⟨[],H,I,.nil,h⟩
theorem Im(ha:PE X e te)(hr:PK X kws t):PK X (⟨nm,e,kpos⟩::kws) (JA te t):=by
 intro pos pins s σ H Q I h;show UZ _ _ (evalAll ((do let v<-eval e X.env;standAt pos;pure v)::(backToKw pos (Vn kws X.env)).map (·.2))) _ _ s;refine wpAny_evalAll_cons (U8 (dL (ha pins s σ H _ I h) λu s1 ⟨x,H1,I1,r1,q1⟩=>U8 (Vw (U7 ?_))));exact dL (hr pos pins s1 σ H1 _ I1 q1) λus s2 ⟨xs,H2,I2,r2,q2⟩=>⟨x::xs,H2,I2,.cons r1 r2,q2⟩
variable{g:List UK->List UK->List UK}{gV:List V->List V->List V}
end
structure aM(N P:List Str)(sc:UY):Prop where
 kind:sc.kind=.function
 co:sc.isCoroutine=false
 gen:sc.isGenerator=false
 nd:N.Nodup
 pre:N.take P.length=P
 par:∀x∈P,sc.names.lookup x=some .local\/sc.names.lookup x=some .cell
 nofree:∀y∈sc.names,y.2≠.free
theorem wB{kindOf:Str->Option Vx}{x:Str}:∀{binds:List (Str×UK)}{m:Str->Option UK},(∀v,(x,v)∉binds)->bindL kindOf binds m x=m x
 |[],_,_=>rfl
 |(n,v)::r,m,h=>by
  unfold bindL;rw[wB λw hw=>h w (QP _ hw)];split
  ·have:x≠n:=(by rintro rfl;exact h v QO);simp[this]
  ·rfl
theorem v7{kindOf:Str->Option Vx}{x:Str}:∀{binds:List (Str×UK)}{m:Str->Option UK},(∀v,(x,v)∉binds)->bindC kindOf binds m x=m x
 |[],_,_=>rfl
 |(n,v)::r,m,h=>by
  unfold bindC;rw[v7 λw hw=>h w (QP _ hw)];split
  ·rfl
  ·have:x≠n:=(by rintro rfl;exact h v QO);simp[this]
theorem wR{kindOf:Str->Option Vx}{x:Str}{v:UK}:∀{P:List Str}{vs:List UK}{i:Nat}{m:Str->Option UK},P.Nodup->P[i]?=some x->vs[i]?=some v->kindOf x=some .local->
  bindL kindOf (P.zip vs) m x=some v
 |[],_,_,_,_,h,_,_=>by simp at h
 |_::_,[],_,_,_,_,h,_=>by simp at h
 |p::P,w::vs,0,m,nd,h1,h2,hk=>by
  simp at h1 h2;subst h1;subst h2;show bindL kindOf ((p,w)::P.zip vs) m p=_;unfold bindL;rw[wB λv hv=>(List.nodup_cons.mp nd).1 (Q7 hv).1,if_pos hk];simp
 |p::P,w::vs,i+1,m,nd,h1,h2,hk=>by
  show bindL kindOf ((p,w)::P.zip vs) m x=_;unfold bindL;exact wR (i:=i) (List.nodup_cons.mp nd).2 (by simpa using h1) (by simpa using h2) hk
theorem wj{kindOf:Str->Option Vx}{x:Str}{v:UK}:∀{P:List Str}{vs:List UK}{i:Nat}{m:Str->Option UK},P.Nodup->P[i]?=some x->vs[i]?=some v->kindOf x≠some .local->
  bindC kindOf (P.zip vs) m x=some v
 |[],_,_,_,_,h,_,_=>by simp at h
 |_::_,[],_,_,_,_,h,_=>by simp at h
 |p::P,w::vs,0,m,nd,h1,h2,hk=>by
  simp at h1 h2;subst h1;subst h2;show bindC kindOf ((p,w)::P.zip vs) m p=_;unfold bindC;rw[v7 λv hv=>(List.nodup_cons.mp nd).1 (Q7 hv).1,if_neg hk];simp
 |p::P,w::vs,i+1,m,nd,h1,h2,hk=>by
  show bindC kindOf ((p,w)::P.zip vs) m x=_;unfold bindC;exact wj (i:=i) (List.nodup_cons.mp nd).2 (by simpa using h1) (by simpa using h2) hk
def start(N:List Str)(vs:List V):St:=vs.map some++List.replicate (N.length-vs.length) none
def kB(CX:Ae)(P:UM)(w:UL)(K:Tu)(mg:Str->Option UK)(base:UP)(N:List Str)(qual:Str)(scope:UY)(f:UN)(cd:UK)(A:UW)(outer:List Env)(s:UX)(H:Hp)(E:XK):Cx where
 prog:=P
 w:=w
 K:=K
 mg:=mg
 base:=base
 A:=A.deeper (envOfC qual scope s.heap.objs.size f cd)
 N:=N
 s₀:=s
 H₀:=H
 env:=envOfC qual scope s.heap.objs.size f cd
 outer:=outer
 stack:=envOfC qual scope s.heap.objs.size f cd::outer
 ex:=[]
 calm:=true
 fn:=λ_=>true
 pn:=[]
 xe:=λe s'=>UZ (model P w) (A.deeper (envOfC qual scope s.heap.objs.size f cd)) (leaving (envOfC qual scope s.heap.objs.size f cd) e) (λ_ s''=>CX outer H s E e s'') (λe' s''=>CX outer H s E e' s'') s'
theorem yO{sc:UY}{n:Nat}{x:Str}(h:sc.names.lookup x=some .cell):∃c,(cellsFrom n sc.names []).lookup x=some c:=by
 have q:=TR sc.names n [] (.inl h);exact Option.isSome_iff_exists.mp q
theorem CD{CX:Ae}{P:UM}{w:UL}{K:Tu}{mg:Str->Option UK}{base:UP}{N ps:List Str}{qual:Str}{scope:UY}{f:UN}{cd:UK}{A:UW}{outer:List Env}{s s1:UX}{H:Hp}{E:XK}{us:List UK}{vs:List V}
  (S:aM N ps scope) (hd:A.handled=none) (e0:D3 P w K mg base A outer s H) (hl:vs.length=ps.length) (r:Vals vs us)
  (x:InCallC s s.heap.objs.size (bindL (envOfC qual scope s.heap.objs.size f cd).kindOf (ps.zip us) λ_=>none) (cellsFrom (s.heap.objs.size+1) scope.names []) (bindC (envOfC qual scope s.heap.objs.size f cd).kindOf (ps.zip us) λ_=>none) s1):
  Inv (kB CX P w K mg base N qual scope f cd A outer s H E) [] (start N vs) H s1:=by
 have hpl:ps.length<=N.length:=by have:=congrArg List.length S.pre;rw[Q8]at this;omega
 obtain⟨h1,tk,rfl,hk⟩:=x.done;have noA:∀b:UN,b∉(kB CX P w K mg base N qual scope f cd A outer s H E).ex:=λb z=>absurd (show b∈([]:List UN)from z) (by simp);refine⟨⟨e0.mod,S.kind,rfl,rfl,QU _,λy z c h1 h2=>?_,λy hy=>?_,λy c _ h=>?_,λ_=>hd,Around.frames_deeper e0.frames,.inr ⟨rfl,rfl⟩,λb z=>absurd z (noA b),e0.bs,e0.bsz,λb _ _=>noA b,λb z=>absurd z (noA b),e0.funs,e0.frf⟩,
  rfl,e0.bare,Un.kept hk,⟨_,x.toInCall.ns,λi y v h1 h2 h3=>?_⟩,λy c h=>⟨_,x.cell y c h⟩,e0.hok.fresh (QU _),λy c h=>?_,λp hp=>absurd (show p∈([]:List (UN×Obj))from hp) (by simp),e0.hok.kept hk,?_⟩
 ·exact name_of_addr x.apart (PySem.mem_of_lookup h1) (PySem.mem_of_lookup h2)
 ·have hy:scope.names.lookup y=some .cell\/scope.names.lookup y=some .free:=hy;rcases hy with hy|hy
  ·exact yO hy
  ·exact absurd rfl (S.nofree _ (PySem.mem_of_lookup hy))
 ·exact QM (x.above y c (PySem.mem_of_lookup h))
 ·have hi:i<vs.length:=by
   unfold start at h2;by_cases hi:i<vs.length
   ·exact hi
   ·rw[Q9 (by simpa using hi)]at h2;rw[Ra]at h2;split at h2<;>cases h2
  have ha:vs[i]?=some v:=by
   unfold start at h2;rw[Rb (by simpa using hi),Rc]at h2;cases e:vs[i]? with
   |none=>rw[e]at h2;cases h2
   |some a=>rw[e]at h2;cases h2;rfl
  obtain⟨u,hu,rv⟩:=r.get ha;have hp:ps[i]?=some y:=by
   rw[<-S.pre,List.getElem?_take_of_lt ‹0›];exact h1
  have ndP:ps.Nodup:=by rw[<-S.pre];exact S.nd.sublist (Rf _ _)
  refine⟨u,rv,?_⟩;rcases S.par y (Rg hp)with k|k
  ·exact .inl ⟨k,wR ndP hp hu k⟩
  ·obtain⟨c,e⟩:=yO (n:=s.heap.objs.size+1) k;refine .inr ⟨.inl k,c,e,?_⟩;have q:=x.cell y c e;rw[wj ndP hp hu (by show scope.names.lookup y≠_;rw[k];decide)]at q;exact q
 ·exact e0.hok.fresh (QM (x.above y c (PySem.mem_of_lookup h)))
 ·unfold start;show _=N.length;rw[Rh,Q2,List.length_replicate];omega
theorem GU{CX:Ae}{P:UM}{w:UL}{K:Tu}{mg:Str->Option UK}{base:UP}{k:Nat}{f:UN}{name qual:Str}{params:Vy}{body:List U2}{scope:UY}{dV kV doc pm cdv ct oc:UK}{an od:Option UN}
  {osl:Array (Option UK)} {N ps:List Str} {sp:Sp} (lk:K.lookup f=some ⟨oc,od,.func (TU name qual params body scope dV kV doc pm an cdv ct),osl⟩) (hcd:TV K cdv qual=true) (S:aM N ps scope)
  (len:∀vs H Q E,sp vs H Q E->vs.length=ps.length)
  (hbody:∀ (A:UW) (outer:List Env) (s:UX) (H:Hp) (vs:List V) (Q:VK) (E:XK),fY k (A.deeper (envOfC qual scope s.heap.objs.size f cdv))->sp vs H Q E ->
   ∃t,y8 (kB CX P w K mg base N qual scope f cdv A outer s H E) body t/\t {nx:=λ_ H'=>Q .non H',rt:=Q} (start N vs) H):
  jT P w K mg base CX (k+1) f (TU name qual params body scope dV kV doc pm an cdv ct) ps sp:=by
 refine⟨len,λA outer s H args us vs Q E hr e0 hb r hsp=>?_⟩;have hl:=len _ _ _ _ hsp;have KX:K.In s.heap:=e0.mod.kin.keeps λb o e=>(e0.bs b o e).1;have lim:s.heap.NoLimit:=e0.mod.nolimit.keeps λb o e=>(e0.bs b o e).1;have hkind:∀y∈ps.zip us,scope.names.lookup y.1=some .local\/(scope.names.lookup y.1=some .cell/\((cellsFrom (s.heap.objs.size+1) scope.names []).lookup y.1).isSome=true):=λ⟨n,v⟩ hy=>by
  rcases S.par n (Q7 hy).1 with q|q
  ·exact .inl q
  ·exact .inr ⟨q,TR _ _ _ (.inl q)⟩
 refine codeAny_call_function hr.depth (KX _ _ lk) rfl S.co S.gen rfl (PySem.W.codeRec_of KX hcd) (hb _ _ _ _ ?_);refine wpAny_newFunctionEnv_cells S.kind hkind λenv he s1 x=>?_;subst he;refine⟨lim.keeps x.toInCall.keep,codeAny_func ?_⟩;obtain⟨t,ht,hq⟩:=hbody A outer s H vs Q E (hr.deeper _) hsp;have I:Inv (kB CX P w K mg base N qual scope f cdv A outer s H E) [] (start N vs) H s1:=CD S hr.hd e0 hl r x;refine U3 (ht [] s1 (start N vs) H _ I hq) (λfl s' hs=>?_) λe s' hs=>hs;have fin:∀{σ':St}{H':Hp}{v:V}{u:UK},Inv (kB CX P w K mg base N qual scope f cdv A outer s H E) [] σ' H' s'->RelV v u->Q v H'->CE outer P w H s Q u s':=
  λ{σ' H' v u} J rv q=>⟨v,H',J.os,J.bare,J.base,J.hok,rv,q⟩
 cases fl with
 |ret u=>
  obtain⟨v,σ',H',J,rv,q⟩:=hs;exact fin J rv q
 |next=>
  obtain⟨σ',H',J,q⟩:=hs;exact fin (v:=V.non) (u:=Value.none) J rfl q
 |brk=>
  obtain⟨_,_,_,q⟩:=hs;exact False.elim q
 |cont=>
  obtain⟨_,_,_,q⟩:=hs;exact False.elim q
section
variable{X:Cx}{x:Str}{p pos:Pos}{e:U0}{es:List U0}{t:TA}{id T:String}{r:List V->Hp->VK->Prop}
def P7(r:List V->Hp->VK->Prop)(t:TA):TE:=λσ H Q=>t σ H λvs H1=>r vs H1 Q
theorem yR(hc:dY X (.builtin id) r)(hg:Gl X x)(hm:X.mg x=none)(hv:UV x=some (.builtin id))(ha:PA X (e::es) t)(hn:x≠"__name__":=by decide)(hdb:(x==("__debug__":Str))=false:=by decide)
  (he:U1 (e::es) X.env=(false,eval e X.env)::U1 es X.env:=by rfl) (hpl:(backTo pos (U1 es X.env)).any (·.1)=false:=by rfl):PE X (.Call (.Name x p) (e::es) [] pos) (P7 r t):=by
 intro pins s σ H Q I h;refine Vu (ky I hg hm hv ?_ hn hdb);exact PyProof.Rows.callWith_builtin1 (dL (ha pos pins s σ H _ I h) λus s1 ⟨vs,H1,I1,r1,q1⟩=>hc pins s1 σ H1 vs us Q I1 r1 q1) he hpl
theorem DJ(hc:dY X (.type T) r)(hg:Gl X x)(hm:X.mg x=none)(hv:UV x=some (.type T))(ha:PA X (e::es) t)(hn:x≠"__name__":=by decide)(hdb:(x==("__debug__":Str))=false:=by decide)
  (he:U1 (e::es) X.env=(false,eval e X.env)::U1 es X.env:=by rfl) (hpl:(backTo pos (U1 es X.env)).any (·.1)=false:=by rfl):PE X (.Call (.Name x p) (e::es) [] pos) (P7 r t):=by
 intro pins s σ H Q I h;refine Vu (ky I hg hm hv ?_ hn hdb);exact Ur (dL (ha pos pins s σ H _ I h) λus s1 ⟨vs,H1,I1,r1,q1⟩=>hc pins s1 σ H1 vs us Q I1 r1 q1) he hpl
end
end L2
namespace HT
open PySem PyProof.Rows
theorem L1(A:UW)(s:UX)(a:Int)(t:Tok)(c:Int)(u:Tok)(prog:UM)(w:UL)(E:UK->UX->Prop)(Q:UK->UX->Prop)(h:Q (.bool (decide (a<c))) s):
  UZ (model prog w) A (richCompare .Lt (.int a t) (.int c u)) Q E s:=
 (PyProof.Rows.lt_int h:UZ (model prog w) A (Vf .Lt (.int a t) (.int c u)) Q E s)
section
open PySem.SeqAt
open PySem.AutoSeq1 (wpAny_loadPart')
open PySem.MeetsSeq PySem.MeetsSeq2 PySem.MeetsSeq3
end
section
variable{prog:UM}{w:UL}{A:UW}{E:UK->UX->Prop}{s:UX}
theorem NE{t b:UN}{vs ws:List UK}{Q:UK->UX->Prop}(ht:UR s.heap t vs.toArray)(hb:UR s.heap b ws.toArray)(hv:vs≠[])
  (h1:ws=[]->Q (.ref t) s) (h2:ws≠[]->Q (.ref s.heap.objs.size) {s with heap:=s.heap.push {cls:=.type "tuple",data:=.seq (vs++ws).toArray}})
  (hsz:vs.length+ws.length<=UQ):UZ (model prog w) A (Ve .Add (.ref t) (.ref b)) Q E s:=by
 obtain⟨⟨cls,dd,data,sl⟩,ho,hc,n,hd⟩:=id ht;obtain⟨⟨cls2,dd2,data2,sl2⟩,ho2,hc2,n2,hd2⟩:=id hb;simp only at hc hd hc2 hd2;subst hc hd hc2 hd2;have e:vs.toArray++ws.toArray=(vs++ws).toArray:=by simp
 by_cases hw:ws=[]
 ·exact Vz ⟨_,ho,rfl⟩ ⟨_,ho2,rfl⟩ VA VB UE UG (UH _ _)
   (tuple_addW1 t b vs.toArray ws.toArray n n2 dd dd2 sl sl2 (by simpa using hv) (by simp[hw])) ⟨ho,ho2,h1 hw⟩
 ·refine Vz ⟨_,ho,rfl⟩ ⟨_,ho2,rfl⟩ VA VB UE UG (UH _ _)
   (tuple_addW2 t b vs.toArray ws.toArray n n2 dd dd2 sl sl2 (by simpa using hv) (by simpa using hw) (by rw[QY,QY];exact hsz)) ⟨ho,ho2,?_⟩
  rw[e];exact h2 hw
def sIx(n d:Nat):Option Int->Nat
 |none=>d
 |some v=>if v<0 then(v+(n:Int)).toNat else min v.toNat n
theorem Ms(n d:Nat):sIx n d none=d:=rfl
theorem NS(n d k:Nat):sIx n d (some (k:Int))=min k n:=by
 show(if(k:Int)<0 then((k:Int)+(n:Int)).toNat else min (k:Int).toNat n)=min k n;rw[if_neg ‹0›,Ri]
theorem Kc(n d:Nat)(hd:d<=n)(o:Option Int):sIx n d o<=n:=by
 cases o with
 |none=>exact hd
 |some v=>
  show(if v<0 then(v+(n:Int)).toNat else min v.toNat n)<=n;by_cases hv:v<0
  ·rw[if_pos hv];omega
  ·rw[if_neg hv];exact Nat.min_le_right _ _
theorem Cj(v:Int)(n d:Nat):(if v<0 then max (v+(n:Int)) 0 else min v (n:Int))=((sIx n d (some v):Nat):Int):=by
 show(if v<0 then max (v+(n:Int)) 0 else min v (n:Int))=(((if v<0 then(v+(n:Int)).toNat else min v.toNat n):Nat):Int)
 by_cases hv:v<0
 ·simp only[if_pos hv];omega
 ·simp only[if_neg hv];omega
theorem A2(lo hi:Option Int)(n:Nat):Builtin.Slice.sliceAdjust lo hi 1 (n:Int)=(((sIx n 0 lo:Nat):Int),((sIx n n hi:Nat):Int)):=by
 have h1:¬((1:Int)<0):=by omega
 unfold Builtin.Slice.sliceAdjust;simp only[h1,if_false];refine Prod.ext ?_ ?_
 ·cases lo with
  |none=>rfl
  |some v=>exact Cj v n 0
 ·cases hi with
  |none=>rfl
  |some v=>exact Cj v n n
theorem Bx(i j:Nat):Builtin.Slice.slicePlaces (i:Int) (j:Int) 1=j-i:=by
 unfold Builtin.Slice.slicePlaces;have h1:(1:Int)>0:=by omega
 simp only[h1,if_true,Int.ediv_one];split<;>omega
theorem uK{v:UK}{o:Option Int}{Q:Option Int->UX->Prop}(p:VC v o)(h:Q o s):UZ (model prog w) A (Builtin.Slice.slicePartIndex v) Q E s:=by
 cases p with
 |none=>exact slicePart_none h
 |int i t=>exact slicePart_int h
theorem qx{sl:UN}{vl vu:UK}{lo hi:Option Int}{n:Nat}{Q:Int×Int×Nat->UX->Prop}(hs:s.heap.IsSliceOf sl vl vu .none)(pl:VC vl lo)(pu:VC vu hi)
  (h:Q (((sIx n 0 lo:Nat):Int),1,sIx n n hi-sIx n 0 lo) s):UZ (model prog w) A (Builtin.Slice.sliceApplied (.ref sl) (pure (n:Int))) Q E s:=by
 obtain⟨os,hos,hcs,hds⟩:=id hs;unfold Builtin.Slice.sliceApplied Builtin.Slice.sliceFields;refine U8 (U8 (VD hos hds (x:=vl) rfl (U8 (VD hos hds (x:=vu) rfl (U8 (VD hos hds (x:=.none) rfl (U7 ?_)))))));refine U8 (slicePart_none ?_);show UZ _ _ (if((1:Int)==0)=true then _ else _) _ _ s;rw[if_neg (by decide)];refine U8 (uK pl (U8 (uK pu (U8 (U7 ?_)))));show UZ _ _ (match Builtin.Slice.sliceAdjust lo hi 1 (n:Int)with|(lo,hi)=>pure (lo,(1:Int),Builtin.Slice.slicePlaces lo hi 1)) _ _ s;rw[A2 lo hi n];show UZ _ _ (pure (((sIx n 0 lo:Nat):Int),(1:Int),Builtin.Slice.slicePlaces ((sIx n 0 lo:Nat):Int) ((sIx n n hi:Nat):Int) 1)) _ _ s;rw[Bx];exact U7 h
theorem Fu(xs:Array UK)(i k:Nat):((List.range k).filterMap λ(m:Nat)=>xs[((i:Int)+(m:Int)*1).toNat]?).toArray=((xs.toList.drop i).take k).toArray:=by
 have e:(λ(m:Nat)=>xs[((i:Int)+(m:Int)*1).toNat]?)=λm=>xs[i+m]?:=by
  funext m
  have:((i:Int)+(m:Int)*1).toNat=i+m:=by omega
  rw[this]
 rw[e]
 have:=pick_run xs i k
 rw[List.filterMap_map]at this;have e2:((λx=>xs[x]?)∘λx=>i+x)=λm=>xs[i+m]?:=rfl;rw[e2]at this;rw[this]
theorem B8{t sl:UN}{items:Array UK}{vl vu:UK}{lo hi:Option Int}{Q:UK->UX->Prop}(ht:UR s.heap t items)(hs:s.heap.IsSliceOf sl vl vu .none)(pl:VC vl lo)(pu:VC vu hi)
  (hw:¬(sIx items.size 0 lo=0/\sIx items.size items.size hi=items.size))
  (h:Q (.ref s.heap.objs.size) {s with heap:=s.heap.push {cls:=.type "tuple",data:=.seq ((items.toList.drop (sIx items.size 0 lo)).take (sIx items.size items.size hi-sIx items.size 0 lo)).toArray}})
  (hsz:items.size<=UQ):UZ (model prog w) A (getItem (.ref t) (.ref sl)) Q E s:=by
 have htake:sizeOk (.seq ((items.toList.drop (sIx items.size 0 lo)).take (sIx items.size items.size hi-sIx items.size 0 lo)).toArray):=by
  show((items.toList.drop (sIx items.size 0 lo)).take (sIx items.size items.size hi-sIx items.size 0 lo)).toArray.size<=UQ;rw[QY,Q8,Rj,Array.length_toList];omega
 have hj:sIx items.size items.size hi<=items.size:=Kc _ _ (QU _) hi;obtain⟨os,hos,hcs,hds⟩:=id hs;have hTs:s.TypeIs (.ref sl) "slice":=⟨os,hos,hcs⟩
 unfold getItem
 try with_reducible refine VE ?_
 first|refine U8 (U7 ?_)|skip
 refine U8 (wpAny_sequenceKey ht.typeIs (by decide) ?_);refine U8 (VF (name:=Str.ofString "__getitem__") ht.typeIs Us
  (VG Us ht.typeIs entry_tuple_getitem ?_ (args_tuple_getitem _ _)))
 show UZ _ _ (Builtin.Tuple.tupleItemsOf (.ref t) >>= _) _ _ s;refine U8 (tupleItemsOf_ ht ?_);refine U8 (VH hTs ?_);rw[if_pos (by decide)];refine U8 (qx hs pl pu ?_);have hno:¬((((sIx items.size 0 lo:Nat):Int)==0&&(1:Int)==1&&(sIx items.size items.size hi-sIx items.size 0 lo)==items.size)=true):=by
  intro q;rw[Rl,Rl]at q;have q1:((sIx items.size 0 lo:Nat):Int)=0:=eq_of_beq q.1.1;have q2:sIx items.size items.size hi-sIx items.size 0 lo=items.size:=eq_of_beq q.2;exact hw ⟨by omega,by omega⟩
 show UZ _ _ (if(((sIx items.size 0 lo:Nat):Int)==0&&(1:Int)==1&&(sIx items.size items.size hi-sIx items.size 0 lo)==items.size)=true then _ else _) _ _ s;rw[if_neg hno,Fu]
 first
  |exact U8 (m:=Builtin.Tuple.tupleExact _) (VI (U7 ⟨_,rfl,U7 h⟩) htake)
  |exact U8 (m:=Builtin.Tuple.tupleExact _) (VI (U8 (U7 (U7 ⟨_,rfl,U7 h⟩))) htake)
  |exact U8 (U8 (m:=Builtin.Tuple.tupleExact _) (VI (U7 (U7 ⟨_,rfl,U7 h⟩)) htake))
  |exact U8 (U8 (m:=Builtin.Tuple.tupleExact _) (VI (U7 ⟨_,rfl,U7 h⟩) htake))
end
end HT
namespace L2
open PySem PySem.Spec PyProof.Rows
abbrev TO:=St->Hp->(Option Int->Hp->Prop)->Prop
def PO(X:Cx)(e:Option U0)(t:TO):Prop:=
 ∀(pins:List (UN×Obj))(s:UX)(σ:St)(H:Hp)(Q:Option Int->Hp->Prop),Inv X pins σ H s->t σ H Q->
  UZ (model X.prog X.w) X.A (evalPart e X.env) (λu s'=>∃o H',Inv X pins σ H' s'/\VC u o/\Q o H') X.xe s
def HQ:TO:=λ_ H Q=>Q none H
def M5(t:TE):TO:=λσ H Q=>t σ H λx H1=>∃i,x=.int i/\Q (some i) H1
section
variable{X:Cx}{e:U0}{te:TE}{lo hi:Option U0}{tl th:TO}{pos p2:Pos}
theorem II:PO X none HQ:=by
 intro pins s σ H Q I h;rw[VJ];exact U7 ⟨none,H,I,.none,h⟩
theorem IC(h:PE X e te):PO X (some e) (M5 te):=by
 intro pins s σ H Q I hw;rw[evalPart_some];refine dL (h pins s σ H _ I hw) λu s1 ⟨x,H1,I1,r1,q1⟩=>?_;obtain⟨i,rfl,q⟩:=q1;obtain⟨t,rfl⟩:=r1;exact⟨some i,H1,I1,.int i t,q⟩
def Nq(X:Cx)(r:V->Option Int->Option Int->Hp->VK->Prop):Prop:=
 ∀(pins:List (UN×Obj))(s:UX)(σ:St)(H:Hp)(x:V)(v vl vu:UK)(lo hi:Option Int)(sl:UN)(Q:VK),Inv X pins σ H s->RelV x v->s.heap.IsSliceOf sl vl vu .none->VC vl lo->VC vu hi->r x lo hi H Q->
  ∃T id,typeLookup (.type T) "__getitem__"=pure (some (.builtin id))/\s.TypeIs v T/\UZ (model X.prog X.w) X.A (getItem v (.ref sl)) (EP X pins σ Q) X.xe s
def QD(r:V->Option Int->Option Int->Hp->VK->Prop)(te:TE)(tl th:TO):TE:=λσ H Q=>te σ H λx H1=>tl σ H1 λl H2=>th σ H2 λu H3=>r x l u H3 Q
theorem FC{r:V->Option Int->Option Int->Hp->VK->Prop}(hr:Nq X r)(he:PE X e te)(hl:PO X lo tl)(hu:PO X hi th):PE X (.Subscript e (.Slice lo hi none p2) pos) (QD r te tl th):=by
 intro pins s σ H Q I h;refine VL (dL (he pins s σ H _ I h) λv s1 ⟨x,H1,I1,r1,q1⟩=>?_);refine wpAny_Slice (dL (hl pins s1 σ H1 _ I1 q1) λvl s2 ⟨l,H2,I2,pl,q2⟩=>dL (hu pins s2 σ H2 _ I2 q2) λvu s3 ⟨u,H3,I3,pu,q3⟩=>?_);rw[VJ];refine U7 ?_;have I4:Inv X pins σ H3 {s3 with heap:=s3.heap.push {cls:=.type "slice",data:=.fields #[vl,vu,.none]}}:=I3.kept (t':=s3.toks) λb ob q=>Ug _ q;obtain⟨T,id,hT,ht,hg⟩:=hr pins {s3 with heap:=s3.heap.push {cls:=.type "slice",data:=.fields #[vl,vu,.none]}} σ H3 x v vl vu l u s3.heap.objs.size Q I4 r1 (Heap.IsSliceOf.new ..) pl pu q3;show UZ (model X.prog X.w) X.A (subscriptTail e (.Slice lo hi none p2) v (.ref s3.heap.objs.size)) (EP X pins σ Q) X.xe {s3 with heap:=s3.heap.push {cls:=.type "slice",data:=.fields #[vl,vu,.none]}};exact tail_any (ops:=[.ref s3.heap.objs.size,v]) ht hT hg (by with_unfolding_all rfl)
def yp(xs:List V)(lo hi:Option Int):List V:=(xs.drop (HT.sIx xs.length 0 lo)).take (HT.sIx xs.length xs.length hi-HT.sIx xs.length 0 lo)
theorem rP(xs:List V)(lo hi:Option Int):(yp xs lo hi).length<=xs.length:=by
 unfold yp;rw[Q8,Rj];omega
def OC(K:Tu):V->Option Int->Option Int->Hp->VK->Prop:=λx lo hi H Q=>∃a xs,x=.ref a/\qN K H a xs/\
 ¬(HT.sIx xs.length 0 lo=0/\HT.sIx xs.length xs.length hi=xs.length)/\∀p,H p=none->Q (.ref p) (upd H p (.tup (yp xs lo hi)))
theorem J7:Nq X (OC X.K):=by
 intro pins s σ H x v vl vu lo hi sl Q I rx hs pl pu h;obtain⟨a,xs,rfl,hx,hw,q⟩:=h;cases rx;obtain⟨its,r,ht,hz⟩:=I.tuple hx;have hlen:its.toArray.size=xs.length:=by rw[QY];exact r.length.symm
 refine⟨"tuple",_,PyProof.Rows.slot_tuple_getitem.lookup,ht.typeIs,?_⟩;refine HT.B8 ht hs pl pu (by rw[hlen];exact hw) ?_ (by rw[hlen];exact hz);rw[hlen];refine⟨.ref s.heap.objs.size,_,I.laid (t':=s.toks) (o:=.tup (yp xs lo hi)) (λb ob q=>Ug _ q) (QU _) ?_,rfl,q _ (I.hok.fresh (QU _))⟩;exact⟨QL (rP xs lo hi) hz,_,(r.drop (HT.sIx xs.length 0 lo)).take (HT.sIx xs.length xs.length hi-HT.sIx xs.length 0 lo),IsTup.new _ _⟩
def MO(K:Tu):R2:=λx y H Q=>∃a b xs ys,x=.ref a/\y=.ref b/\qN K H a xs/\qN K H b ys/\xs≠[]/\xs.length+ys.length<=UQ/\
 (ys=[]->Q (.ref a) H)/\(ys≠[]->∀p,H p=none->Q (.ref p) (upd H p (.tup (xs++ys))))
theorem Vals.nil_iff{xs:List V}{us:List UK}(r:Vals xs us):us=[]↔xs=[]:=by
 cases r with
 |nil=>simp
 |cons _ _=>simp
theorem HH:j7 X (Ve .Add) (MO X.K):=by
 intro pins s σ H x y v u Q I rx ry h;obtain⟨a,b,xs,ys,rfl,rfl,ha,hb,hx,hz,q1,q2⟩:=h;cases rx;cases ry;obtain⟨its,r1,p1,_⟩:=I.tuple ha;obtain⟨its2,r2,p2,_⟩:=I.tuple hb;refine HT.NE p1 p2 (λz=>hx (r1.nil_iff.mp z)) (λz=>⟨.ref a,H,I,rfl,q1 (r2.nil_iff.mp z)⟩) (λz=>?_) (by rw[<-r1.length,<-r2.length];exact hz);refine⟨.ref s.heap.objs.size,_,I.laid (t':=s.toks) (o:=.tup (xs++ys)) (λb ob q=>Ug _ q) (QU _) ?_,rfl,q2 (λw=>z (r2.nil_iff.mpr w)) _ (I.hok.fresh (QU _))⟩;exact⟨by rw[Rh];exact hz,_,r1.append r2,IsTup.new _ _⟩
end
def Jm(n:Nat)(i:Int):Option Nat:=if 0<=i then(if i<n then some i.toNat else none)else if -(n:Int)<=i then some (i+n).toNat else none
def pI{α:Type}(xs:List α)(i:Int):Option α:=(Jm xs.length i).bind λj=>xs[j]?
theorem HV{n:Nat}{i:Int}{j:Nat}(h:Jm n i=some j):seqIndex? i n=some j/\j<n/\-(n:Int)<=i/\i<n:=by
 unfold Jm at h;by_cases h0:0<=i
 ·rw[if_pos h0]at h;by_cases h1:i<n
  ·rw[if_pos h1]at h;have e:i.toNat=j:=Option.some.inj h;exact⟨by rw[seqIndex_of h0 h1,e],by omega,by omega,h1⟩
  ·rw[if_neg h1]at h;cases h
 ·rw[if_neg h0]at h;by_cases h1:-(n:Int)<=i
  ·rw[if_pos h1]at h;have e:(i+n).toNat=j:=Option.some.inj h;exact⟨by rw[seqIndex_neg ‹0› h1,e],by omega,h1,by omega⟩
  ·rw[if_neg h1]at h;cases h
theorem xR{α:Type}{xs:List α}{i:Int}{v:α}(h:pI xs i=some v):∃j,seqIndex? i xs.length=some j/\xs[j]?=some v/\j<xs.length/\-(xs.length:Int)<=i/\i<xs.length:=by
 unfold pI at h;cases e:Jm xs.length i with
 |none=>rw[e]at h;cases h
 |some j=>
  rw[e]at h;obtain⟨h1,h2,h3,h4⟩:=HV e;exact⟨j,h1,h,h2,h3,h4⟩
def xW(b:U0):Prop:=∀o i,subscripted b false o i=operate [o,i] (getItem o i)
def MK(X:Cx)(r:R2):Prop:=
 ∀(value slice:U0)(pins:List (UN×Obj))(s:UX)(σ:St)(H:Hp)(x y:V)(v u:UK)(Q:VK),Inv X pins σ H s->RelV x v->RelV y u->r x y H Q->
  subscripted slice false v u=operate [v,u] (getItem v u)->UZ (model X.prog X.w) X.A (subscriptTail value slice v u) (EP X pins σ Q) X.xe s
def Qy(X:Cx)(id:String)(r:V->List V->Hp->VK->Prop):Prop:=
 ∀(pins:List (UN×Obj))(s:UX)(σ:St)(H:Hp)(x:V)(xs:List V)(v:UK)(us:List UK)(Q:VK),Inv X pins σ H s->RelV x v->Vals xs us->r x xs H Q->
  UZ (model X.prog X.w) X.A (call (.builtin id) (v::us)) (EP X pins σ Q) X.xe s
section
variable{X:Cx}{a b:U0}{ta tb:TE}{pos:Pos}
theorem LN{r:R2}(hr:MK X r)(ha:PE X a ta)(hb:PE X b tb)(hs:xW b):PE X (.Subscript a b pos) (LZ r ta tb):=by
 intro pins s σ H Q I h;exact VL (Kh ha hb I h λv u s2 x y H2 I2 rx ry q=>hr a b pins s2 σ H2 x y v u Q I2 rx ry q (hs _ _))
def Px(K:Tu):R2:=λx y H Q=>∃p xs i v,x=.ref p/\y=.int i/\pH K H p xs/\pI xs i=some v/\Q v H
def OJ(K:Tu):R2:=λx y H Q=>∃p xs i v,x=.ref p/\y=.int i/\qN K H p xs/\pI xs i=some v/\Q v H
def O3:R2:=λx y H Q=>∃z i c,x=.str z/\y=.int i/\z.length<=UQ/\pI z.cps.toList i=some c/\Q (.str ⟨#[c]⟩) H
theorem Je:MK X (Px X.K):=by
 intro value slice pins s σ H x y v u Q I rx ry h hs;obtain⟨p,xs,i,z,rfl,rfl,hq,he,q⟩:=h;cases rx;obtain⟨t,rfl⟩:=ry;obtain⟨its,r,pl,hz⟩:=I.list hq;obtain⟨j,h1,h2,h3,h4,h5⟩:=xR he;obtain⟨w,ew,rw'⟩:=r.get h2;have hl:=r.length;have hn:=qI;have fin:EP X pins σ Q w s:=⟨z,H,I,rw',q⟩
 by_cases h0:0<=i
 ·have hj:i.toNat=j:=by
   rw[seqIndex_of h0 h5]at h1;exact Option.some.inj h1
  exact item_listR pl.isList h0 ‹0› (by rw[hj];simpa using ew) fin hs
 ·have hj:(i+(its.toArray.size:Int)).toNat=j:=by
   rw[seqIndex_neg ‹0› h4]at h1;rw[QY,<-hl];exact Option.some.inj h1
  exact subscriptTail_builtinR (x:=w) pl.isList.typeIs slot_list_getitem.lookup
   (wpAny_getItem_list_neg (Q:=λr s'=>r=w/\EP X pins σ Q r s') pl.isList ‹0› (by rw[QY]<;>omega) ‹0› (by rw[hj];simpa using ew) ⟨rfl,fin⟩) hs
theorem JW:MK X (OJ X.K):=by
 intro value slice pins s σ H x y v u Q I rx ry h hs;obtain⟨p,xs,i,z,rfl,rfl,hq,he,q⟩:=h;cases rx;obtain⟨t,rfl⟩:=ry;obtain⟨its,r,pl,hz⟩:=I.tuple hq;obtain⟨j,h1,h2,h3,h4,h5⟩:=xR he;obtain⟨w,ew,rw'⟩:=r.get h2;have hl:=r.length;have hn:=qI;have fin:EP X pins σ Q w s:=⟨z,H,I,rw',q⟩
 exact subscriptTail_builtinR (x:=w) pl.typeIs slot_tuple_getitem.lookup
  (getItem_tuple (j:=j) (Q:=λr s'=>r=w/\EP X pins σ Q r s') pl ‹0› ‹0› (by rw[QY,<-hl];exact h1) (by simpa using ew) ⟨rfl,fin⟩) hs
theorem KQ:MK X O3:=by
 intro value slice pins s σ H x y v u Q I rx ry h hs;obtain⟨z,i,c,rfl,rfl,hz,he,q⟩:=h;obtain⟨t,rfl⟩:=rx;obtain⟨t',rfl⟩:=ry;obtain⟨j,h1,h2,h3,h4,h5⟩:=xR he;have hl:z.cps.toList.length=z.length:=by simp[Str.length]
 rw[hl]at h1 h4 h5;have hn:=qI;exact tail_any (typeIs_str s z t) slot_str_getitem.lookup (getItem_str (c:=c) (by
  have e1:decide (i < -(2^63:Int))=false:=decide_eq_false ‹0›;have e2:decide (i>=2^63)=false:=decide_eq_false ‹0›;rw[e1,e2,Bool.or_false]) (by rw[h1];simpa using h2) ⟨.str ⟨#[c]⟩,H,I.tok _,⟨_,rfl⟩,q⟩) hs
theorem xZ(lo hi:Option Int)(n:Nat):(sliceBounds lo hi none n).1=((HT.sIx n 0 lo:Nat):Int)/\(sliceBounds lo hi none n).2.1=((HT.sIx n n hi:Nat):Int)/\(sliceBounds lo hi none n).2.2=1:=by
 refine⟨?_,?_,rfl⟩
 ·cases lo with
  |none=>simp[sliceBounds,HT.sIx]
  |some i=>
   simp only[sliceBounds,HT.sIx,Rm,show(1:Int)>0 by decide,if_true];by_cases h:i<0
   ·simp only[h,if_true]<;>omega
   ·simp only[h,if_false]<;>omega
 ·cases hi with
  |none=>simp[sliceBounds,HT.sIx]
  |some i=>
   simp only[sliceBounds,HT.sIx,Rm,show(1:Int)>0 by decide,if_true];by_cases h:i<0
   ·simp only[h,if_true]<;>omega
   ·simp only[h,if_false]<;>omega
theorem u6(its:List UK)(lo hi:Option Int):slicePick its.toArray lo hi none=((its.drop (HT.sIx its.length 0 lo)).take (HT.sIx its.length its.length hi-HT.sIx its.length 0 lo)).toArray:=by
 obtain⟨h1,h2,h3⟩:=xZ lo hi its.toArray.size;unfold slicePick;rw[h1,h2,h3];simp only[sliceRange_one,pick_run,QY]<;>rfl
def Oy(K:Tu):V->Option Int->Option Int->Hp->VK->Prop:=λx lo hi H Q=>∃a xs,x=.ref a/\pH K H a xs/\∀p,H p=none->Q (.ref p) (upd H p (.lst (yp xs lo hi)))
theorem Hh:Nq X (Oy X.K):=by
 intro pins s σ H x v vl vu lo hi sl Q I rx hs pl pu h;obtain⟨a,xs,rfl,hx,q⟩:=h;cases rx;obtain⟨its,r,ht,hz⟩:=I.list hx;have hlen:=r.length;refine⟨"list",_,slot_list_getitem.lookup,ht.isList.typeIs,?_⟩;refine wpAny_getItem_list_slice ht.isList hs pl pu .none (by simp) ?_ (by rw[QY]<;>omega);rw[u6,<-hlen];refine⟨.ref s.heap.objs.size,_,I.laid (t':=s.toks) (o:=.lst (yp xs lo hi)) (λb ob q=>Ug _ q) (QU _) ?_,rfl,q _ (I.hok.fresh (QU _))⟩;exact⟨QL (rP xs lo hi) hz,_,0,(r.drop (HT.sIx xs.length 0 lo)).take (HT.sIx xs.length xs.length hi-HT.sIx xs.length 0 lo),Uh _ rfl⟩
def GB:V->Bool
 |.non=>true
 |.bl _=>true
 |.int _=>true
 |.str _=>true
 |_=>false
def Oa:V->V->Bool
 |.non,.non=>true
 |.bl a,.bl b=>a==b
 |.bl a,.int b=>(if a then 1 else 0)==b
 |.int a,.bl b=>a==(if b then 1 else 0)
 |.int a,.int b=>a==b
 |.str a,.str b=>a==b
 |_,_=>false
theorem KY{A:UW}{s:UX}{y x:V}{u v:UK}(ry:RelV y u)(rx:RelV x v)(fy:GB y=true)(fx:GB x=true):SeqAt.EqAt A s u v (Oa y x):=by
 cases y with
 |non=>
  cases ry;cases x with
  |non=>cases rx;exact SeqAt.EqAt.same _
  |bl b=>cases rx;exact SeqAt.EqAt.none_bool b
  |int b=>obtain⟨t,rfl⟩:=rx;exact SeqAt.EqAt.none_int b t
  |str b=>obtain⟨t,rfl⟩:=rx;exact SeqAt.EqAt.none_str b t
  |_=>exact absurd (show false=true from fx) QZ
 |bl a=>
  cases ry;cases x with
  |non=>cases rx;exact SeqAt.EqAt.bool_none a
  |bl b=>cases rx;exact SeqAt.EqAt.bool_bool a b
  |int b=>obtain⟨t,rfl⟩:=rx;exact SeqAt.EqAt.bool_int a b t
  |str b=>obtain⟨t,rfl⟩:=rx;exact SeqAt.EqAt.bool_str a b t
  |_=>exact absurd (show false=true from fx) QZ
 |int a=>
  obtain⟨t',rfl⟩:=ry;cases x with
  |non=>cases rx;exact SeqAt.EqAt.int_none a t'
  |bl b=>cases rx;exact SeqAt.EqAt.int_bool a t' b
  |int b=>obtain⟨t,rfl⟩:=rx;exact SeqAt.EqAt.int_int a t' b t
  |str b=>obtain⟨t,rfl⟩:=rx;exact SeqAt.EqAt.int_str a t' b t
  |_=>exact absurd (show false=true from fx) QZ
 |str a=>
  obtain⟨t',rfl⟩:=ry;cases x with
  |non=>cases rx;exact SeqAt.EqAt.str_none a t'
  |bl b=>cases rx;exact SeqAt.EqAt.str_bool a t' b
  |int b=>obtain⟨t,rfl⟩:=rx;exact SeqAt.EqAt.str_int a t' b t
  |str b=>obtain⟨t,rfl⟩:=rx;exact SeqAt.EqAt.str_str a t' b t
  |_=>exact absurd (show false=true from fx) QZ
 |_=>exact absurd (show false=true from fy) QZ
theorem pX:dY X (.builtin "len") (λxs H Q=>∃p ys,xs=[.ref p]/\(pH X.K H p ys\/qN X.K H p ys)/\Q (.int ys.length) H):=by
 intro pins s σ H xs us Q I r h;obtain⟨p,ys,rfl,hq,q⟩:=h;obtain⟨u,rfl,rx⟩:=vals1 r;cases rx;have hn:=qI;rcases hq with hq|hq
 ·obtain⟨its,r',pl,hz⟩:=I.list hq;have hlen:=r'.length;exact Calls.call_len_list pl.isList (by simp only[QY]<;>omega) ⟨.int ys.length,H,I.tok _,⟨s.toks+1,by rw[QY,hlen]⟩,q⟩
 ·obtain⟨its,r',pl,hz⟩:=I.tuple hq;have hlen:=r'.length;exact len_tuple pl (by simp only[QY]<;>omega) ⟨.int ys.length,H,I.tok _,⟨s.toks+1,by rw[QY,hlen]⟩,q⟩
theorem xo:dY X (.builtin "len") (λxs H Q=>∃z,xs=[.str z]/\z.length<=UQ/\Q (.int z.length) H):=by
 intro pins s σ H xs us Q I r h;obtain⟨z,rfl,hz,q⟩:=h;obtain⟨u,rfl,t,rfl⟩:=vals1 r;have hn:=qI;exact len_str ‹0› ⟨.int z.length,H,I.tok _,⟨_,rfl⟩,q⟩
theorem p9:dY X (.type "list") (λxs H Q=>∃p ys,xs=[.ref p]/\(pH X.K H p ys\/qN X.K H p ys)/\∀l,H l=none->Q (.ref l) (upd H l (.lst ys))):=by
 intro pins s σ H xs us Q I r h;obtain⟨p,ys,rfl,hq,q⟩:=h;obtain⟨u,rfl,rx⟩:=vals1 r;cases rx;have fin:∀(its:List UK),Vals ys its->ys.length<=UQ->∀(h':UP)(c':Nat),(∀b o',s.heap.get? b=some o'->h'.get? b=some o')->
   h'.get? s.heap.objs.size=some {cls:=.type "list",dict:=none,data:=.seq its.toArray c',slots:=#[]}->EP X pins σ Q (.ref s.heap.objs.size) {s with heap:=h'}:=λits r' hz h' c' kp e=>
  ⟨.ref s.heap.objs.size,_,I.laid (t':=s.toks) kp (QU _) (show cH X.prog X.w _ h' _ (.lst ys)from⟨hz,its,c',r',e⟩),rfl,q _ (I.hok.fresh (QU _))⟩
 rcases hq with hq|hq
 ·obtain⟨its,r',pl,hz⟩:=I.list hq;have hlen:=r'.length;obtain⟨o,ho,hc,n,hd⟩:=pl.isList;exact call_list_seq p (.inl rfl) ho hc hd (λh' c' kp e=>fin its r' hz h' c' kp e) (by simp only[QY]<;>omega)
 ·obtain⟨its,r',pl,hz⟩:=I.tuple hq;have hlen:=r'.length;obtain⟨o,ho,hc,n,hd⟩:=pl;exact call_list_seq p (.inr rfl) ho hc hd (λh' c' kp e=>fin its r' hz h' c' kp e) (by simp only[QY]<;>omega)
theorem oS:dY X (.type "tuple") (λxs H Q=>∃p ys,xs=[.ref p]/\((pH X.K H p ys/\∀l,H l=none->Q (.ref l) (upd H l (.tup ys)))\/(qN X.K H p ys/\Q (.ref p) H))):=by
 intro pins s σ H xs us Q I r h;obtain⟨p,ys,rfl,h⟩:=h;obtain⟨u,rfl,rx⟩:=vals1 r;cases rx;rcases h with⟨hq,q⟩|⟨hq,q⟩
 ·obtain⟨its,r',pl,hz⟩:=I.list hq;have hlen:=r'.length;refine call_tuple_list pl.isList (λh' kp=>?_) (by simp only[QY]<;>omega);have I1:Inv X pins σ H {s with heap:=h'}:=I.kept (t':=s.toks) kp;have I2:Inv X pins σ (upd H h'.objs.size (.tup ys)) {s with heap:=h'.push {cls:=.type "tuple",data:=.seq its.toArray}}:=
   I1.laid (t':=s.toks) (λb o e=>Ug _ e) (QU _) (show cH X.prog X.w _ _ _ (.tup ys)from⟨hz,its,r',IsTup.new _ _⟩)
  exact⟨.ref h'.objs.size,_,I2,rfl,q _ (I1.hok.fresh (QU _))⟩
 ·obtain⟨its,r',pl,hz⟩:=I.tuple hq;exact call_tuple_same pl ⟨.ref p,H,I,rfl,q⟩
def P9(K:Tu)(T:String)(x:V)(H:Hp):Prop:=match x with
 |.str _=>T="str"
 |.int _=>T="int"
 |.ref p=>(T="list"/\∃xs,pH K H p xs)\/(T="tuple"/\∃o,K.lookup p=some o/\o.cls=.type "tuple"/\o.dict=none) \/
   (T="dict"/\((∃kvs,H p=some (.dK kvs))\/∃kvs,H p=some (.dT kvs)))\/(T="set"/\∃S n,H p=some (.set S n))
 |_=>False
theorem Lh{pins:List (UN×Obj)}{σ:St}{H:Hp}{s:UX}{T:String}{x:V}{v:UK}(I:Inv X pins σ H s)(r:RelV x v)(ty:P9 X.K T x H):
  s.TypeIs v T/\∀a,v=.ref a->∃ob,s.heap.get? a=some ob/\ob.dict=none:=by
 cases x with
 |str z=>
  obtain⟨t,rfl⟩:=r;cases(show T="str"from ty);exact⟨typeIs_str s z t,λ_ e=>nomatch e⟩
 |int i=>
  obtain⟨t,rfl⟩:=r;cases(show T="int"from ty);exact⟨typeIs_int s i t,λ_ e=>nomatch e⟩
 |ref p=>
  cases r;rcases ty with⟨rfl,xs,hq⟩|⟨rfl,o,hk,hc,hd⟩|⟨rfl,hk⟩|⟨rfl,S,n,hk⟩
  ·obtain⟨its,_,pl,_⟩:=I.list hq;refine⟨pl.isList.typeIs,λa e=>?_⟩;cases e;obtain⟨o,n,e,c,hd,_⟩:=pl;exact⟨o,e,hd⟩
  ·refine⟨⟨o,I.kIn p o hk,hc⟩,λa e=>?_⟩;cases e;exact⟨o,I.kIn _ o hk,hd⟩
  ·have z:∃o,s.heap.get? p=some o/\o.ExactDict:=by
    rcases hk with⟨kvs,hk⟩|⟨kvs,hk⟩
    ·obtain⟨_,_,_,_,o,_,_,e,ex,_⟩:=I.hok p _ hk;exact⟨o,e,ex⟩
    ·obtain⟨_,_,_,_,o,_,_,e,ex,_⟩:=I.hok p _ hk;exact⟨o,e,ex⟩
   obtain⟨o,e,ex⟩:=z;refine⟨⟨o,e,ex.1⟩,λa e2=>?_⟩;cases e2;exact⟨o,e,ex.2.1⟩
  ·obtain⟨o,_,_,_,e,ex,_⟩:=I.hok p _ hk;refine⟨⟨o,e,ex.1⟩,λa e2=>?_⟩;cases e2;exact⟨o,e,ex.2.1⟩
 |_=>exact False.elim ty
def QE(K:Tu)(T:String)(r:V->List V->Hp->VK->Prop)(to:TE)(t:TA):TE:=λσ H Q=>to σ H λx H1=>P9 K T x H1/\t σ H1 λxs H2=>r x xs H2 Q
variable{o e:U0}{es:List U0}{to:TE}{t:TA}{name:Str}{apos cpos:Pos}{T id:String}{r:V->List V->Hp->VK->Prop}
theorem BC(pa:PlainAttrs T)(slot:Slot T name id)(hty:typeOf (.builtin id)=pure (.type "method_descriptor"))(hm:Qy X id r)(ho:PE X o to)(ha:PA X (e::es) t)
  (hbase:Vl o name X.env (eval o X.env)=eval o X.env:=by rfl)
  (hfew:((backTo cpos (U1 (e::es) X.env)).all (fun x=>!x.1) && (backToKw cpos (Vn [] X.env)).all (fun x=>x.1.isSome)
   && decide ((e::es).length+([]:List Vv).length+(if([]:List Vv).isEmpty then 0 else 1)<30))=true:=by rfl)
  (hline:(apos.endLine==cpos.line)=true:=by rfl) (hs:U1 (e::es) X.env=(false,eval e X.env)::U1 es X.env:=by rfl) (hplain:(backTo cpos (U1 es X.env)).any (·.1)=false:=by rfl):
  PE X (.Call (.Attribute o name apos) (e::es) [] cpos) (QE X.K T r to t):=by
 intro pins s σ H Q I h;refine wpAny_Call_method_late hbase hfew hline rfl (dL (ho pins s σ H _ I h) λv s1 ⟨x,H1,I1,r1,ty,q1⟩=>?_);obtain⟨h1,h2⟩:=Lh I1 r1 ty;refine⟨T,id,pa,slot,hty,h1,h2,?_⟩;have hA:=ha cpos pins s1 σ H1 _ I1 q1;rw[hs]at hA ⊢;refine Calls.callWith_builtin (by show(false||(backTo cpos (U1 es X.env)).any (·.1))=false;rw[hplain]<;>rfl) (Calls.evalArgs_plain ?_);exact dL hA λus s2 ⟨vs,H2,I2,r2,q2⟩=>hm pins s2 σ H2 x vs v us Q I2 r1 r2 q2
end
def MZ(X:Cx)(id:String)(r:V->List V->Hp->VK->Prop):Prop:=
 ∀(pins:List (UN×Obj))(s:UX)(σ:St)(H:Hp)(x:V)(xs:List V)(v:UK)(us:List UK)(Q:VK),Inv X pins σ H s->RelV x v->Vals xs us->r x xs H Q->
  UZ (model X.prog X.w) X.A (call (.builtin id) (v::us)) (EP X pins σ Q) X.xe s
theorem Vals.one:∀{x:V}{us:List UK},Vals [x] us->∃u,us=[u]/\RelV x u
 |_,_,.cons r .nil=>⟨_,rfl,r⟩
theorem Vals.two:∀{x y:V}{us:List UK},Vals [x,y] us->∃u v,us=[u,v]/\RelV x u/\RelV y v
 |_,_,_,.cons r (.cons q .nil)=>⟨_,_,rfl,r,q⟩
section
variable{X:Cx}{pins:List (UN×Obj)}{σ:St}{H:Hp}{s:UX}{l b:UN}{xs ys zs:List V}
theorem Inv.lset{its its':List UK}{n:Nat}{f:Array UK->Array UK}{t':Nat}(I:Inv X pins σ H s)(hH:H l=some (.lst xs))
  (e:s.heap.get? l=some {cls:=.type "list",data:=.seq its.toArray n}) (hf:f its.toArray=its'.toArray) (hv:Vals ys its') (hz:ys.length<=UQ):
  Inv X pins σ (upd H l (.lst ys)) {s with heap:=s.heap.update l (Obj.mapSeq f),toks:=t'}:=by
 have q:=PySem.IsL.update e f;rw[hf]at q;refine I.write (x:=l) (e:=l) (by rw[hH];exact trivial) (.inl rfl) (λb' u hb hu=>(Uj s.heap (Obj.mapSeq f) (Ne.symm hb)).trans hu) ⟨_,q⟩ ?_;exact⟨hz,its',_,hv,q⟩
theorem Inv.lnew{its:List UK}{t':Nat}(I:Inv X pins σ H s)(hv:Vals ys its)(hz:ys.length<=UQ):
  Inv X pins σ (upd H s.heap.objs.size (.lst ys)) {s with heap:=s.heap.push {cls:=.type "list",data:=.seq its.toArray},toks:=t'}:=
 I.laid (λ_ _ q=>Ug _ q) (QU _) ⟨hz,its,0,hv,Uh _ rfl⟩
theorem Inv.fresh(I:Inv X pins σ H s):H s.heap.objs.size=none:=I.hok.fresh (QU _)
theorem Inv.lstM(I:Inv X pins σ H s)(hH:H l=some (.lst xs)):xs.length<=UQ/\∃(its:List UK)(n:Nat),Vals xs its/\xs.length=its.length/\s.heap.get? l=some {cls:=.type "list",data:=.seq its.toArray n}:=by
 obtain⟨z,its,n,r,e⟩:=I.hok l _ hH;exact⟨z,its,n,r,r.length,e⟩
theorem Fj{n:Nat}(h:n<=UQ):Builtin.List.listTooLong n=false:=by
 unfold Builtin.List.listTooLong;exact decide_eq_false ‹0›
end
section
variable{X:Cx}
def x8:V->List V->Hp->VK->Prop:=λx vs H Q=>∃l xs y,x=.ref l/\vs=[y]/\H l=some (.lst xs)/\xs.length<UQ/\Q .non (upd H l (.lst (xs++[y])))
theorem eP:MZ X "list.append" x8:=by
 intro pins s σ H x vs v us Q I rx rv h;obtain⟨l,xs,y,rfl,rfl,hH,hz,q⟩:=h;cases rx;obtain⟨u,rfl,ru⟩:=rv.one;obtain⟨z,its,n,r,hl,e⟩:=I.lstM hH;refine call_meets F.slot_list_append ⟨_,e,rfl⟩ F.entry_list_append (F.args_list_append_2 _ _) (PySem.list_append l its.toArray n u (by rw[QY];omega)) ⟨e,?_⟩;refine⟨.non,_,I.lset (its':=its++[u]) hH e (by simp) (r.append (.cons ru .nil)) ?_,rfl,q⟩;rw[Rh,Rn];omega
def Hc:V->List V->Hp->VK->Prop:=λx vs H Q=>∃l b xs zs,x=.ref l/\vs=[.ref b]/\H l=some (.lst xs)/\H b=some (.lst zs)/\xs.length+zs.length<=UQ/\Q .non (upd H l (.lst (xs++zs)))
theorem C1:MZ X "list.extend" Hc:=by
 intro pins s σ H x vs v us Q I rx rv h;obtain⟨l,b,xs,zs,rfl,rfl,hH,hB,hz,q⟩:=h;cases rx;obtain⟨u,rfl,ru⟩:=rv.one;cases ru;obtain⟨z,its,n,r,hl,e⟩:=I.lstM hH;obtain⟨z2,its2,n2,r2,hl2,e2⟩:=I.lstM hB;have hsz:its.toArray.size+its2.toArray.size<=UQ:=by rw[QY,QY];omega
 have hlong:¬(!its.toArray.isEmpty&&Builtin.List.listTooLong (its.toArray.size+its2.toArray.size))=true:=by
  rw[Fj hsz,Ro];exact QZ
 refine call_meets F.slot_list_extend ⟨_,e,rfl⟩ F.entry_list_extend (F.args_list_extend_2 _ _)
  (AutoSeq1.list_extend_list_list_0 l its.toArray n b its2.toArray n2 hlong (by rw[QY];omega) ‹0›) ⟨e,e2,?_⟩
 refine⟨.non,_,I.lset (its':=its++its2) hH e (by simp) (r.append r2) ?_,rfl,q⟩;rw[Rh];omega
end
end L2
namespace Att
open PySem PySem.W PySem.Calls PyProof.Rows
theorem sj{P:Params}{h:UP}:∀(ns:List Int)(vs:List UK),WellAll P h vs (ns.map WData.int)->IntsAre vs ns:=by
 intro ns
 induction ns with
 |nil=>
  intro vs w;rw[Rp]at w;cases w;exact .nil
 |cons n ns ih=>
  intro vs w;rw[Q1]at w;cases w with
  |cons a b=>
   cases a;exact .cons _ _ (ih _ b)
theorem CO{l:OpenLaw}{n:Nat}(hn:l.most=some n){P:Params}{h:UP}{args:List WData}{vals:List UK}
  (hpre:l.row.toRowW.claim.pre args=true) (hwl:WellAll P h vals args):
  ∃a vs ns,vals=[Value.ref a]/\args=[WData.list (ns.map WData.int)]/\h.get? a=some {cls:=.type "list",data:=.seq vs.toArray}/\IntsAre vs ns/\ns.length<=n:=by
 have hsh:WShape.hasAll [] args [.list .int]=true:=(pre_splitW hpre).1;have hc:l.pre.holds [] {args:=args}=true:=(pre_splitW hpre).2;obtain⟨d,r,rfl,h1,h2⟩:=hasAllW_cons hsh;obtain rfl:=hasAllW_nil h2;obtain⟨xs,rfl,h3⟩:=hasW_list h1;obtain⟨ns,rfl⟩:=items_int h3;have hlen:ns.length<=n:=by
  unfold OpenLaw.pre at hc;have h4:(WTm.not (.lt (.lit (.int (n:Int))) (.len (.arg 0)))).holds [] {args:=[.list (ns.map .int)]}=true:=by
   have h4:=(holds_andW hc).1;rw[hn]at h4;exact h4
  have h5:=condW_of h4 (w_not (w_lt w_lit (w_len_list (w_arg rfl))));rw[Q2]at h5;refine Nat.le_of_not_lt λq=>?_;have q':(n:Int)<((ns.length:Nat):Int):=by omega
  first
   |(rw[decide_eq_true q']at h5;exact absurd h5 (by decide))
   |(simp at h5;omega)
 cases hwl with
 |cons w1 w2=>
  cases w2;cases w1 with
  |list ho hall=>exact⟨_,_,ns,rfl,rfl,ho,sj ns _ hall,hlen⟩
theorem Dl(l:OpenLaw)(args:List WData):l.row.toRowW.claim.post args (.bool true) args=true:=
 postW_of (r:=l.row.toRowW) (X:=(true==true))
  (show WShape.has [] (.bool true) .bool=true by first|rfl|decide|simp[WShape.has,WShape.arms,WShape.armsAll])
  (show(WTm.eq .res (.lit (.bool true))).value [] {args:=args,res:=some (.bool true),after:=args}=some (.bool (true==true))from w_eq_bool (w_res rfl) w_lit) rfl
theorem Jn{l:OpenLaw}{n:Nat}{q:UM}{loose:List Str}{XP:(Str->Option UK)->UP->Prop}{YP:UL->UP->Prop}{d:DefRec}
  (hn:l.most=some n) (hdf:d.params.defaults=[])
  (call:∀ (w:UL) (s₀ s₁:UX) (mg mb:Str->Option UK) (fa:UN) (o:Obj) (pm cd doc:UK) (a:UN) (vs:List UK) (ns:List Int),
   Ground q loose [] XP w s₀ mg mb s₁.heap->YP w s₁.heap->
   s₁.heap.get? fa=some o->o.data=.func (docDef d.name d.params d.body d.scope pm cd doc)->s₁.heap.CodeRec cd d.name->mg d.name=some (.ref fa)->
   s₁.heap.get? a=some {cls:=.type "list",data:=.seq vs.toArray}->IntsAre vs ns->ns.length<=n->s₁.gens=#[]->
   Vk (model l.prog w) callerA (.call (.ref fa) ⟨[.ref a],[]⟩) (λr s'=>r=.ok (.ret (.bool true))/\OldK s₁.heap s'.heap/\s'.os=s₁.os/\AllBare s'.gens) s₁):
  WalkO q loose XP YP l.row.toRowW d [] (λf vs=>PySem.call f vs):=by
 intro w s₀ s₁ mg mb G Y fa o pm cd doc dV kV ho hd hcd hD hmg hg args vals as hpre hlay hrd hwl hlo;obtain rfl:dV=.none:=Dflts.none hD hdf;obtain rfl:kV=.none:=Dflts.noKw hD;obtain⟨a,vs,ns,rfl,rfl,hobj,hints,hlen⟩:=CO hn hpre hwl;refine enter_call (Vt (call w s₀ s₁ mg mb fa o pm cd doc a vs ns G Y ho (fd_plain hd) hcd hmg hobj hints hlen hg) λr s' hq=>?_);obtain⟨rfl,h2,h3,h4⟩:=hq;exact⟨.inl ⟨.bool true,.bool true,[],rfl,λ_=>rfl,.bool true,Dl l _,λ_=>⟨List.Pairwise.nil,λ_ hm=>(nomatch hm)⟩⟩,h2,h3,h4⟩
section
variable{prog:UM}{w:UL}{A:UW}{E:UK->UX->Prop}{s:UX}{K:Frag}
end
end Att
namespace L2
open PySem PySem.Spec PyProof.Rows
theorem wt:∀{vs:List UK}{ns:List Int},IntsAre vs ns->Vals (ns.map V.int) vs
 |_,_,.nil=>.nil
 |_,_,.cons n t h=>.cons ⟨t,rfl⟩ (wt h)
def inClass(s:U2)(j:Nat):U2:=match s with
 |.ClassDef _ _ _ body _ _ _ _ _ _ _=>body.getD j (.Pass ⟨0,0,0,0⟩)
 |_=>.Pass ⟨0,0,0,0⟩
def nY(s:U2):Vy:=match s with
 |.FunctionDef _ a _ _ _ _ _ _ _ _=>a
 |_=>{posonlyargs:=[],args:=[],vararg:=none,kwonlyargs:=[],kw_defaults:=[],kwarg:=none,defaults:=[]}
def fw(s:U2):List U2:=match s with
 |.FunctionDef _ _ b _ _ _ _ _ _ _=>b
 |_=>[]
def ax(s:U2):UY:=match s with
 |.FunctionDef _ _ _ _ _ _ sc _ _ _=>sc
 |_=>{kind:=.function,names:=[],isGenerator:=false,isCoroutine:=false}
abbrev Nx:Ae:=λ_ _ _ _ _ _=>False
abbrev E0:XK:=λ_ _ _=>False
structure uT(K:Tu)(x qual:Str)(st:U2)(f:UN)(fd:Vq):Prop where
 ex:∃(oc:UK)(od:Option UN)(kV doc pm:UK)(an:Option UN)(cdv ct:UK)(osl:Array (Option UK)),
  fd=TU x qual (nY st) (fw st) (ax st) .none kV doc pm an cdv ct/\K.lookup f=some ⟨oc,od,.func fd,osl⟩/\TV K cdv qual=true
 kp:TN K (.ref f)=true
section
variable{P:UM}{w:UL}{K:Tu}{mg:Str->Option UK}{base:UP}
theorem uT.ok{x qual:Str}{st:U2}{f:UN}{fd:Vq}{N ps:List Str}{k:Nat}{sp:Sp}(F:uT K x qual st f fd)(S:aM N ps (ax st))(len:∀vs H Q E,sp vs H Q E->vs.length=ps.length)
  (hbody:∀ (cdv:UK) (A:UW) (outer:List Env) (s:UX) (H:Hp) (vs:List V) (Q:VK) (E:XK),fY k (A.deeper (envOfC qual (ax st) s.heap.objs.size f cdv))->sp vs H Q E ->
   ∃t,y8 (kB Nx P w K mg base N qual (ax st) f cdv A outer s H E).nox (fw st) t/\t {nx:=λ_ H'=>Q .non H',rt:=Q} (start N vs) H):jT P w K mg base Nx (k+1) f fd ps sp:=by
 obtain⟨oc,od,kV,doc,pm,an,cdv,ct,osl,rfl,lk,hcd⟩:=F.ex;refine GU lk hcd S len λA outer s H vs Q E hr hsp=>?_;obtain⟨t,h,q⟩:=hbody cdv A outer s H vs Q E hr hsp;exact⟨t,h.nox,q⟩
theorem uT.binds{x qual:Str}{st:U2}{f:UN}{fd:Vq}{ps:List Str}(F:uT K x qual st f fd)
  (h:∀(kV doc pm:UK)(an:Option UN)(cdv ct:UK)(us:List UK),us.length=ps.length->bindArgs (TU x qual (nY st) (fw st) (ax st) .none kV doc pm an cdv ct) ⟨us,[]⟩=pure (ps.zip us)):Binds K fd ps []:=by
 obtain⟨oc,od,kV,doc,pm,an,cdv,ct,osl,rfl,lk,hcd⟩:=F.ex;exact .all (h kV doc pm an cdv ct)
theorem bA{x qual:Str}{st:U2}{f:UN}{oc:UK}{od an:Option UN}{osl:Array (Option UK)}{kV doc pm cdv ct:UK}(l:K.lookup f=some ⟨oc,od,.func (TU x qual (nY st) (fw st) (ax st) .none kV doc pm an cdv ct),osl⟩)
  (c:TV K cdv qual=true) (k:TN K (.ref f)=true):uT K x qual st f (TU x qual (nY st) (fw st) (ax st) .none kV doc pm an cdv ct):=⟨⟨oc,od,kV,doc,pm,an,cdv,ct,osl,rfl,l,c⟩,k⟩
end
section
variable{X:Cx}
theorem pv(i:Nat){x:Str}{pos:Pos}(hN:X.N[i]?=some x:=by rfl)(hv:J9 X.env.scope x:=by first|exact Or.inl rfl|exact Or.inr (Or.inl rfl)|exact Or.inr (Or.inr rfl))(hd:(x==("__debug__":Str))=false:=by decide)
  (hcd:(x==("__classdict__":Str))=false:=by decide):PE X (.Name x pos) (qy i):=Km hN hv hd hcd
end
theorem DP{A B:Prop}(h:B):if false=true then A else B:=by
 rw[if_neg QZ];exact h
theorem C2{A B:Prop}(h:A):if true=true then A else B:=by
 rw[if_pos rfl];exact h
def bj(H H':Hp):Prop:=∀b o,H b=some o->H' b=some o
theorem bj.refl(H:Hp):bj H H:=λ_ _ h=>h
theorem bj.trans{H H1 H2:Hp}(a:bj H H1)(b:bj H1 H2):bj H H2:=λc o h=>b c o (a c o h)
theorem bj.free{H H':Hp}(e:bj H H'){l:UN}(h:H' l=Option.none):H l=Option.none:=by
 cases q:H l with
 |none=>rfl
 |some o=>
  rw[e l o q]at h;cases h
theorem bj.seq{K:Tu}{H H':Hp}{a:UN}{xs:List V}(e:bj H H')(h:pH K H a xs):pH K H' a xs:=by
 rcases h with(h|⟨o,h⟩)|h
 ·exact .inl (.inl (e _ _ h))
 ·exact .inl (.inr ⟨o,e _ _ h⟩)
 ·exact .inr h
section
variable{κ:Type}[DecidableEq κ]
def jF(kvs:List (κ×V))(k:κ):Option V:=(kvs.find? λkv=>decide (kv.1=k)).map (·.2)
def putK(kvs:List (κ×V))(k:κ)(v:V):List (κ×V):=
 if(kvs.any λkv=>decide (kv.1=k))=true then kvs.map (λkv=>if kv.1=k then(kv.1,v)else kv)else kvs++[(k,v)]
theorem lB{p:κ×V}{r:List (κ×V)}{k:κ}(e:p.1=k):jF (p::r) k=some p.2:=by simp[jF,Rq,e]
theorem jL{p:κ×V}{r:List (κ×V)}{k:κ}(e:¬p.1=k):jF (p::r) k=jF r k:=by simp[jF,Rq,e]
theorem tW(k:κ):∀kvs:List (κ×V),(kvs.any λkv=>decide (kv.1=k))=(jF kvs k).isSome
 |[]=>rfl
 |p::r=>by
  rw[Rr];by_cases e:p.1=k
  ·simp only[lB e,decide_eq_true e,Bool.true_or,Option.isSome_some]
  ·rw[jL e,decide_eq_false e,Bool.false_or];exact tW k r
theorem kn(kvs:List (κ×V))(k:κ)(v:V):(putK kvs k v).length<=kvs.length+1:=by
 unfold putK;split
 ·rw[Q2];omega
 ·rw[Rh,Q0,Rt];omega
theorem ub.isSome_eq{o:Option V}{u:Option UK}(r:ub o u):o.isSome=u.isSome:=by
 cases o with
 |none=>cases u with
  |none=>rfl
  |some _=>exact(show False from r).elim
 |some _=>cases u with
  |none=>exact(show False from r).elim
  |some _=>rfl
theorem KV.val{kvs:List (κ×V)}{vs:List (κ×UK)}(r:KV kvs vs)(k:κ):ub (jF kvs k) (valueAt vs k):=by
 unfold KV at r
 induction r with
 |nil=>exact True.intro
 |@cons p q ps qs h t ih=>
  obtain⟨h1,h2⟩:=h;by_cases e:p.1=k
  ·have e':q.1=k:=h1.symm.trans e;have b:valueAt (q::qs) k=some q.2:=(by simp[valueAt,Rq,e']);rw[lB e,b];exact h2
  ·have e':¬q.1=k:=λz=>e (h1.trans z);have b:valueAt (q::qs) k=valueAt qs k:=(by simp[valueAt,Rq,e']);rw[jL e,b];exact ih
theorem KV.any{kvs:List (κ×V)}{vs:List (κ×UK)}(r:KV kvs vs)(k:κ):(kvs.any λkv=>decide (kv.1=k))=vs.any λkv=>decide (kv.1=k):=by
 unfold KV at r
 induction r with
 |nil=>rfl
 |cons h t ih=>rw[Rr,Rr,ih,h.1]
theorem KV.repl{kvs:List (κ×V)}{vs:List (κ×UK)}(r:KV kvs vs)(k:κ){y:V}{u:UK}(ry:RelV y u):
  KV (kvs.map λkv=>if kv.1=k then(kv.1,y)else kv) (vs.map λkv=>if kv.1=k then(kv.1,u)else kv):=by
 unfold KV at r ⊢
 induction r with
 |nil=>exact .nil
 |@cons p q ps qs h t ih=>
  rw[Q1,Q1];refine .cons ?_ ih;obtain⟨h1,h2⟩:=h;by_cases e:p.1=k
  ·rw[if_pos e,if_pos (h1.symm.trans e)];exact⟨h1,ry⟩
  ·rw[if_neg e,if_neg (λz=>e (h1.trans z))];exact⟨h1,h2⟩
theorem KV.put{kvs:List (κ×V)}{vs:List (κ×UK)}(r:KV kvs vs)(k:κ){y:V}{u:UK}(ry:RelV y u):KV (putK kvs k y) (stored vs k u):=by
 unfold putK stored;rw[r.any k];by_cases e:(vs.any λkv=>decide (kv.1=k))=true
 ·rw[if_pos e,if_pos e];exact r.repl k ry
 ·rw[if_neg e,if_neg e];exact Paired.snoc r ⟨rfl,ry⟩
theorem KV.keys{kvs:List (κ×V)}{vs:List (κ×UK)}(r:KV kvs vs):kvs.map (·.1)=vs.map (·.1):=by
 unfold KV at r
 induction r with
 |nil=>rfl
 |cons h t ih=>rw[Q1,Q1,ih,h.1]
theorem KV.length{kvs:List (κ×V)}{vs:List (κ×UK)}(r:KV kvs vs):kvs.length=vs.length:=Paired.length r
end
theorem BH{P:UM}{w:UL}{k:Key}{u:UK}(r:RelV (kV k) u):(bY P w).is k u=true:=by
 cases k with
 |inl i=>obtain⟨t,e⟩:=(show∃t,u=Value.int i t from r);subst e;exact yN P w i t
 |inr x=>obtain⟨t,e⟩:=(show∃t,u=Value.str x t from r);subst e;exact zE P w x t
theorem wg{P:UM}{w:UL}:∀{ks:List Key}{us:List UK},Vals (ks.map kV) us->ItemsAre (bY P w) ks us
 |[],_,r=>by rw[Rp]at r;cases r;exact .nil
 |k::ks,_,r=>by
  rw[Q1]at r;cases r with
  |cons h t=>exact .cons (BH h) (wg t)
abbrev KT(H:Hp):List (List Key×V)->List (List Key×UN×UK)->Prop:=UO λp q=>p.1=q.1/\H q.2.1=some (.tup (p.1.map kV))/\RelV p.2 q.2.2
theorem KT.val{H:Hp}{kvs:List (List Key×V)}{xs:List (List Key×UN×UK)}(r:KT H kvs xs)(k:List Key):ub (jF kvs k) ((atKey xs k).map (·.2)):=by
 induction r with
 |nil=>exact True.intro
 |@cons p q ps qs h t ih=>
  obtain⟨h1,_,h2⟩:=h;by_cases e:p.1=k
  ·have e':q.1=k:=h1.symm.trans e;have b:atKey (q::qs) k=some q.2:=(by simp[atKey,Rq,e']);rw[lB e,b];exact h2
  ·have e':¬q.1=k:=λz=>e (h1.trans z);have b:atKey (q::qs) k=atKey qs k:=(by simp[atKey,Rq,e']);rw[jL e,b];exact ih
theorem KT.repl{H:Hp}{kvs:List (List Key×V)}{xs:List (List Key×UN×UK)}(r:KT H kvs xs)(k:List Key){y:V}{u:UK}(ry:RelV y u):
  KT H (kvs.map λkv=>if kv.1=k then(kv.1,y)else kv) (xs.map (putAt k u)):=by
 induction r with
 |nil=>exact .nil
 |@cons p q ps qs h t ih=>
  rw[Q1,Q1];refine .cons ?_ ih;obtain⟨h1,h2,h3⟩:=h;unfold putAt;by_cases e:p.1=k
  ·rw[if_pos e,if_pos (h1.symm.trans e)];exact⟨h1,h2,ry⟩
  ·rw[if_neg e,if_neg (λz=>e (h1.trans z))];exact⟨h1,h2,h3⟩
theorem KT.put{H:Hp}{kvs:List (List Key×V)}{xs:List (List Key×UN×UK)}(r:KT H kvs xs)(k:List Key){b:UN}{y:V}{u:UK}(hb:H b=some (.tup (k.map kV)))(ry:RelV y u):
  KT H (putK kvs k y) (storedH xs k b u):=by
 have e:(kvs.any λkv=>decide (kv.1=k))=(atKey xs k).isSome:=by
  rw[tW,(r.val k).isSome_eq,Ru]
 unfold putK storedH;rw[e];by_cases q:(atKey xs k).isSome=true
 ·rw[if_pos q,if_pos q];exact r.repl k ry
 ·rw[if_neg q,if_neg q];exact Paired.snoc r ⟨rfl,hb,ry⟩
theorem KT.keeps{H H':Hp}{kvs:List (List Key×V)}{xs:List (List Key×UN×UK)}(r:KT H kvs xs)(ht:∀b ys,H b=some (.tup ys)->H' b=some (.tup ys)):KT H' kvs xs:=
 Paired.mapP r λ_ _ z=>⟨z.1,ht _ _ z.2.1,z.2.2⟩
section
variable{P:UM}{w:UL}{H:Hp}{h:UP}{a:UN}
theorem Jo{u:HO}(ok:pT P w H h)(e:Rd H a u):cH P w H h a u:=e.ok ok
theorem B6{kvs:List (Key×V)}(ok:pT P w H h)(e:Rd H a (.dK kvs)):kvs.length<=UQ/\(a==sysModules)=false/\∃vs,KV kvs vs/\h.DictOf (bY P w) a vs:=
 show cH P w H h a (.dK kvs)from Jo ok e
theorem JG{kvs:List (Key×V)}(ok:pT P w H h)(e:H a=some (.dK kvs)):kvs.length<=UQ/\(a==sysModules)=false/\∃vs,KV kvs vs/\h.DictOf (bY P w) a vs:=B6 ok (.inl e)
theorem pq{ks:List Key}(ok:pT P w H h)(e:H a=some (.tup (ks.map kV))):(tupleKind (bY P w)).is h ks a:=by
 obtain⟨_,its,r,o,h1,h2,n,h3⟩:=(show cH P w H h a (.tup (ks.map kV))from ok a _ e)
 exact⟨o,its.toArray,n,h1,h2,h3,by simpa using wg r⟩
theorem zc{kvs:List (List Key×V)}(ok:pT P w H h)(e:Rd H a (.dT kvs)):kvs.length<=UQ/\(a==sysModules)=false/\
  ∃xs,KT H kvs xs/\h.DictOfH (tupleKind (bY P w)) a xs:=by
 obtain⟨z,y,xs,r,o,es,ep,h1,h2,h3,h4,h5⟩:=(show cH P w H h a (.dT kvs)from Jo ok e)
 refine⟨z,y,xs,r,o,es,ep,h1,h2,h3,h4,λx hx=>?_,h5⟩;have all:∀{l:List (List Key×V)}{m:List (List Key×UN×UK)},KT H l m->∀x∈m,(tupleKind (bY P w)).is h x.1 x.2.1:=by
  intro l m q
  induction q with
  |nil=>intro x hx;exact nomatch hx
  |@cons p q ps qs hq t ih=>
   intro x hx;rcases List.mem_cons.mp hx with e|hx
   ·subst e;exact pq ok (by rw[<-hq.1];exact hq.2.1)
   ·exact ih x hx
 exact all r x hx
theorem JE{kvs:List (List Key×V)}(ok:pT P w H h)(e:H a=some (.dT kvs)):kvs.length<=UQ/\(a==sysModules)=false/\
  ∃xs,KT H kvs xs/\h.DictOfH (tupleKind (bY P w)) a xs:=zc ok (.inl e)
end
def GN(H:Hp)(a:UN)(y:V)(r:Option V):Prop:=
 (∃kvs k,Rd H a (.dK kvs)/\y=kV k/\r=jF kvs k)\/∃kvs k b,Rd H a (.dT kvs)/\y=.ref b/\H b=some (.tup (k.map kV))/\r=jF kvs k
def KA(H:Hp)(a:UN)(y v:V)(H':Hp):Prop:=
 (∃kvs k,H a=some (.dK kvs)/\y=kV k/\kvs.length<UQ/\H'=upd H a (.dK (putK kvs k v))) \/
 ∃kvs k b,H a=some (.dT kvs)/\y=.ref b/\H b=some (.tup (k.map kV))/\kvs.length<UQ/\H'=upd H a (.dT (putK kvs k v))
theorem GN.t{H:Hp}{a b:UN}{kvs:List (List Key×V)}{k:List Key}(e:H a=some (.dT kvs))(eb:H b=some (.tup (k.map kV))):GN H a (.ref b) (jF kvs k):=.inr ⟨kvs,k,b,.inl e,rfl,eb,rfl⟩
theorem KA.k{H:Hp}{a:UN}{kvs:List (Key×V)}{k:Key}{v:V}(e:H a=some (.dK kvs))(hl:kvs.length<UQ):KA H a (kV k) v (upd H a (.dK (putK kvs k v))):=.inl ⟨kvs,k,e,rfl,hl,rfl⟩
theorem KA.t{H:Hp}{a b:UN}{kvs:List (List Key×V)}{k:List Key}{v:V}(e:H a=some (.dT kvs))(eb:H b=some (.tup (k.map kV)))(hl:kvs.length<UQ):
  KA H a (.ref b) v (upd H a (.dT (putK kvs k v))):=.inr ⟨kvs,k,b,e,rfl,eb,hl,rfl⟩
section
variable{X:Cx}{pins:List (UN×Obj)}{σ:St}{H:Hp}{s:UX}{a:UN}{y v:V}{u r:UK}{o:Option V}{A:UW}{E:UK->UX->Prop}
theorem Inv.big(I:Inv X pins σ H s):sysModules<s.heap.objs.size:=by
 have h:UT<s.heap.objs.size:=(I.mod.glob.keeps I.bk).lt;exact Rv (by decide) h
theorem Ea{Q:UK->UX->Prop}(hu:A.units+1<Vp)(I:Inv X pins σ H s)(g:GN H a y (some v))(ry:RelV y u)(h:∀w' s',Inv X pins σ H s'->RelV v w'->Q w' s'):
  UZ (model X.prog X.w) A (getItem (.ref a) u) Q E s:=by
 rcases g with⟨kvs,k,e,ey,l⟩|⟨kvs,k,b,e,ey,eb,l⟩
 ·subst ey;obtain⟨z,hd,vs,rel,dd⟩:=B6 I.hok e;obtain⟨w',hw,rw'⟩:=ub.some_of (v:=v) (o:=valueAt vs k) (by rw[l];exact rel.val k);exact wpAny_getItem_of (BH ry) dd.mapOf hw (h w' _ (I.tok _) rw')
 ·subst ey;cases(show u=Value.ref b from ry);obtain⟨z,hd,xs,rel,dd⟩:=zc I.hok e;obtain⟨w',hw,rw'⟩:=ub.some_of (v:=v) (o:=(atKey xs k).map (·.2)) (by rw[l];exact rel.val k);obtain⟨p,hp,hp2⟩:=Option.map_eq_some_iff.mp hw;refine wpAny_getItem_heap (VM hu) (pq I.hok eb) dd hp ?_;rw[hp2];exact h w' _ (I.tok _) rw'
theorem Cm{Q:UK->UX->Prop}(hu:A.units+1<Vp)(I:Inv X pins σ H s)(g:GN H a y o)(ry:RelV y u)(h:∀s',Inv X pins σ H s'->Q (.bool (!o.isSome)) s'):
  UZ (model X.prog X.w) A (Vf .NotIn u (.ref a)) Q E s:=by
 rcases g with⟨kvs,k,e,ey,l⟩|⟨kvs,k,b,e,ey,eb,l⟩
 ·subst ey;obtain⟨z,hd,vs,rel,dd⟩:=B6 I.hok e;refine wpAny_notIn_of (BH ry) hd dd.mapOf ?_;rw[<-(rel.val k).isSome_eq,<-l];exact h _ (I.tok _)
 ·subst ey;cases(show u=Value.ref b from ry);obtain⟨z,hd,xs,rel,dd⟩:=zc I.hok e;refine wpAny_notIn_heap (VM hu) (pq I.hok eb) hd dd ?_;have q:=(rel.val k).isSome_eq;rw[Ru]at q;rw[<-q,<-l];exact h _ (I.tok _)
theorem oy{h':UP}{t':Nat}{ob:HO}(I:Inv X pins σ H s)(mu:M2 (H a))(hs:Ue a s.heap h')(he:∃q,h'.get? a=some q)(new:cH X.prog X.w (upd H a ob) h' a ob):
  Inv X pins σ (upd H a ob) {s with heap:=h',toks:=t'}:=
 I.write (x:=a) (e:=a) mu (.inl rfl) (λb q hb z=>(hs.2 b hb).trans z) he new
theorem Kl{P:UM}{w:UL}{H':Hp}{h':UP}{kvs:List (Key×V)}{vs:List (Key×UK)}(z:kvs.length<=UQ)(hd:(a==sysModules)=false)(rel:KV kvs vs)(dd:h'.DictOf (bY P w) a vs):
  cH P w H' h' a (.dK kvs):=⟨z,hd,vs,rel,dd⟩
theorem nW{H':Hp}{Q:Unit->UX->Prop}(hu:A.units+1<Vp)(I:Inv X pins σ H s)(g:KA H a y v H')(ry:RelV y u)(rv:RelV v r)(h:∀s',Inv X pins σ H' s'->Q () s'):
  UZ (model X.prog X.w) A (setItem (.ref a) u r) Q E s:=by
 rcases g with⟨kvs,k,e,ey,l,eH⟩|⟨kvs,k,b,e,ey,eb,l,eH⟩
 ·subst ey eH;obtain⟨z,hd,vs,rel,dd⟩:=JG I.hok e;have hz:vs.length<=UQ:=by rw[<-rel.length];exact z
  have hl:(putK kvs k v).length<=UQ:=by have:=kn kvs k v;omega
  refine wpAny_setItem_pairs (hsz:=hz) (BH ry) dd λh' dd' hs=>h _ ?_;have he:∃q,h'.get? a=some q:=let ⟨q,_,_,hq,_⟩:=dd';⟨q,hq⟩
  exact oy I (by rw[e];exact True.intro) hs he (Kl hl hd (rel.put k rv) dd')
 ·subst ey eH;cases(show u=Value.ref b from ry);obtain⟨z,hd,xs,rel,dd⟩:=JE I.hok e;have hz:xs.length<=UQ:=by rw[<-Paired.length rel];exact z
  have hl:(putK kvs k v).length<=UQ:=by have:=kn kvs k v;omega
  refine wpAny_setItem_heap (hsz:=hz) (VM hu) (pq I.hok eb) dd λh' dd' hs=>h _ ?_;obtain⟨q,es,ep,hq,h2,h3,h4,_,h5⟩:=dd';refine oy I (by rw[e];exact True.intro) hs ⟨q,hq⟩ ⟨hl,hd,_,(rel.put k eb rv).keeps λc ys ec=>?_,q,es,ep,hq,h2,h3,h4,h5⟩;rw[aD (GY ec e (λz=>nomatch z))];exact ec
end
def He(i:U0):Prop:=∀ov iv,subscripted i false ov iv=operate [ov,iv] (getItem ov iv)
theorem Hz{prog:UM}{w:UL}{A:UW}{E:UK->UX->Prop}{s:UX}{env:Env}{value slice:U0}{pos:Pos}{T id:String}{Q:UK->UX->Prop}
  (hl:typeLookup (.type T) "__getitem__"=pure (some (.builtin id))) (hs:He slice)
  (h:UZ (model prog w) A (eval value env) (λo s₁=>UZ (model prog w) A (eval slice env) (λi s₂=>s₂.TypeIs o T/\UZ (model prog w) A (getItem o i) Q E s₂) E s₁) E s):
  UZ (model prog w) A (eval (.Subscript value slice pos) env) Q E s:=by
 refine VL (U3 h (λo s₁ h₁=>U3 h₁ (λi s₂ h₂=>?_) λ_ _ x=>x) λ_ _ x=>x);obtain⟨hT,h₂⟩:=h₂;unfold subscriptTail;refine U8 ?_;rw[getitemInPython_of_ne hT.not_modules];refine U8 (wpAny_specialOf hT hl ?_);have fin:UZ (model prog w) A (subscripted slice false o i) (λr s₃=>UZ (model prog w) A (letTemporaryGo value o r >>= λ_=>pure r) Q E s₃) E s₂:=by
  rw[hs o i];exact wpAny_operating (U3 h₂ (λr s₃ h₃=>U8 (wpAny_letTemporaryGo (U7 h₃))) λ_ _ x=>x)
 first
  |exact U7 (U8 fin)
  |exact U8 (U7 (U8 fin))
  |exact U8 fin
theorem zu{X:Cx}{pins:List (UN×Obj)}{σ:St}{H:Hp}{s:UX}{a:UN}{y:V}{o:Option V}(I:Inv X pins σ H s)(g:GN H a y o):s.TypeIs (.ref a) "dict":=by
 rcases g with⟨kvs,k,e,_,_⟩|⟨kvs,k,b,e,_,_,_⟩
 ·obtain⟨_,_,vs,_,dd⟩:=B6 I.hok e;exact dd.typeIs
 ·obtain⟨_,_,xs,_,dd⟩:=zc I.hok e;exact dd.typeIs
def M8(td ty:TE):TE:=λσ H Q=>td σ H λx H1=>ty σ H1 λy H2=>∃a v,x=.ref a/\GN H2 a y (some v)/\Q v H2
section
variable{X:Cx}{o i e value:U0}{pos pos' tpos:Pos}{td ty tv:TE}
theorem IG(hu:X.A.units+1<Vp)(ho:PE X o td)(hi:PE X i ty)(hs:He i):PE X (.Subscript o i pos) (M8 td ty):=by
 intro pins s σ H Q I h;refine Hz PySem.F.slot_dict_getitem.lookup hs (dL (ho pins s σ H _ I h) λu s1 ⟨x,H1,I1,rx,q1⟩=>dL (hi pins s1 σ H1 _ I1 q1) λiv s2 ⟨y,H2,I2,ry,a,v,ex,g,q2⟩=>?_);subst ex;obtain rfl:u=Value.ref a:=rx;exact⟨zu I2 g,Ea hu I2 g ry λw' s3 I3 rw'=>⟨v,H2,I3,rw',q2⟩⟩
end
theorem GH{P:UM}{w:UL}{H:Hp}(h:UP)(hb:sysModules<h.objs.size):cH P w H (h.push {cls:=.type "dict",data:=.dict #[]}) h.objs.size (.dT []):=
 ⟨Q4 _,beq_eq_false_iff_ne.mpr (Ne.symm (QK hb)),[],.nil,_,#[],0,Uh _ rfl,⟨rfl,rfl,rfl⟩,rfl,rfl,Rw⟩
def Lq:TE:=λ_ H Q=>∀p,H p=none->Q (.ref p) (upd H p (.dT []))
section
variable{X:Cx}{pos:Pos}
theorem EB:PE X (.Dict [] [] pos) Lq:=λpins s σ H Q I h=>
 wpAny_Dict_empty ⟨.ref s.heap.objs.size,_,I.laid (a:=s.heap.objs.size) (o:=.dT []) (t':=s.toks) (λ_ _ q=>Ug _ q) (QU _) (GH s.heap I.big),rfl,h _ (I.hok.fresh (QU _))⟩
end
def dW(cells:List (Str×UN)):List (Str×Vx)->List (Str×UN)->List (Str×UN)
 |[],acc=>acc
 |(n,k)::r,acc=>if k=.free then(match cells.lookup n with|some c=>dW cells r ((n,c)::acc)|none=>dW cells r acc)else dW cells r acc
theorem nS{cells:List (Str×UN)}:∀(names:List (Str×Vx))(acc:List (Str×UN)),(∀x c,acc.lookup x=some c->cells.lookup x=some c)->
  ∀x c,(dW cells names acc).lookup x=some c->cells.lookup x=some c
 |[],acc,h=>h
 |(n,k)::r,acc,h=>by
  unfold dW;by_cases hk:k=.free
  ·rw[if_pos hk];cases e:cells.lookup n with
   |none=>exact nS r acc h
   |some c0=>
    refine nS r _ λx c q=>?_;rw[Rx]at q;cases hx:x==n with
    |true=>
     rw[hx]at q;have e1:x=n:=(by simpa using hx);cases q;rw[e1];exact e
    |false=>rw[hx]at q;exact h x c q
  ·rw[if_neg hk];exact nS r acc h
theorem mh{cells:List (Str×UN)}:∀(names:List (Str×Vx))(acc:List (Str×UN))(x:Str),(acc.lookup x).isSome=true->((dW cells names acc).lookup x).isSome=true
 |[],acc,x,h=>h
 |(n,k)::r,acc,x,h=>by
  unfold dW;by_cases hk:k=.free
  ·rw[if_pos hk];cases e:cells.lookup n with
   |none=>exact mh r acc x h
   |some c0=>
    refine mh r _ x ?_;rw[Rx];cases hx:x==n with
    |true=>rfl
    |false=>exact h
  ·rw[if_neg hk];exact mh r acc x h
theorem kZ{cells:List (Str×UN)}:∀(names:List (Str×Vx))(acc:List (Str×UN))(x:Str),(x,NameKind.free)∈names->(∃c,cells.lookup x=some c)->((dW cells names acc).lookup x).isSome=true
 |[],acc,x,h,_=>absurd h (by simp)
 |(n,k)::r,acc,x,h,hc=>by
  unfold dW;rcases List.mem_cons.mp h with e|h
  ·cases e;rw[if_pos rfl];obtain⟨c,e⟩:=hc;rw[e];refine mh r _ _ ?_;rw[Rx];simp
  ·by_cases hk:k=.free
   ·rw[if_pos hk];cases e:cells.lookup n with
    |none=>exact kZ r acc x h hc
    |some c0=>exact kZ r _ x h hc
   ·rw[if_neg hk];exact kZ r acc x h hc
theorem qa{scope:UY}{env:Env}(h:∀p∈scope.names,p.2=.free->∃c,env.cells.lookup p.1=some c):closureFor scope env=pure (dW env.cells scope.names []):=by
 have go:∀(names:List (Str×Vx))(acc:List (Str×UN)),(∀p∈names,p.2=.free->∃c,env.cells.lookup p.1=some c)->
   (forIn names acc λx cs=>(match x with|(name,kind)=>if(kind==NameKind.free)=true then do let a<-cellOf env name;pure (ForInStep.yield ((name,a)::cs))else pure (ForInStep.yield cs):Sem (ForInStep (List (Str×UN)))))=pure (dW env.cells names acc):=by
  intro names
  induction names with
  |nil=>intro acc _;rfl
  |cons p r ih=>
   intro acc hp;obtain⟨n,k⟩:=p;rw[Ry];by_cases hk:k=.free
   ·obtain⟨c,e⟩:=hp (n,k) QO hk;subst hk;have e2:cellOf env n=pure c:=(by unfold cellOf;rw[e]);simp only[beq_self_eq_true,if_true,e2,pure_bind];rw[ih _ λq hq=>hp q (QP _ hq)]
    conv=>rhs;rw[dW]
    simp[e]
   ·have hb:(k==NameKind.free)=false:=(by simpa using hk);simp only[hb,Rz,if_false,pure_bind];rw[ih _ λq hq=>hp q (QP _ hq)]
    conv=>rhs;rw[dW,if_neg hk]
 have:=go scope.names [] h
 unfold closureFor;simp only[];rw[this];rfl
def cQ(X:Cx)(scope:UY)(N:List Str)(cl:List (Str×UN))(C:UN)(fp:List UN)(s:UX)(H:Hp)(E:UK->UX->Prop):Cx where
 prog:=X.prog
 w:=X.w
 K:=X.K
 mg:=X.mg
 base:=X.base
 A:=X.A
 N:=N
 s₀:=s
 H₀:=H
 env:=compEnvC scope cl C X.env
 outer:=X.stack
 stack:=X.stack
 ex:=fp
 fn:=λ_=>false
 calm:=X.calm
 pn:=[]
 xe:=E
def x6(XN N:List Str)(names:List (Str×Vx))(ix:List (Option Nat)):Bool:=
 decide (ix.length=N.length)&&(N.zip ix).all λp=>match p.2 with
  |some i=>decide (XN[i]?=some p.1)&&decide (names.lookup p.1=some .free)
  |none=>true
def inBlock(ix:List (Option Nat))(σ:St):St:=ix.map λo=>match o with
 |some i=>(σ[i]?).getD none
 |none=>none
theorem x6.len{XN N:List Str}{names:List (Str×Vx)}{ix:List (Option Nat)}(h:x6 XN N names ix=true):ix.length=N.length:=by
 unfold x6 at h;rw[Rl]at h;exact of_decide_eq_true h.1
theorem x6.at_{XN N:List Str}{names:List (Str×Vx)}{ix:List (Option Nat)}(h:x6 XN N names ix=true){j i:Nat}{x:Str}(h1:N[j]?=some x)(h2:ix[j]?=some (some i)):XN[i]?=some x/\names.lookup x=some .free:=by
 unfold x6 at h;rw[Rl]at h;have hm:(x,some i)∈N.zip ix:=by
  have e:(N.zip ix)[j]?=some (x,some i):=by rw[List.getElem?_zip_eq_some];exact⟨h1,h2⟩
  exact Rg e
 have q:=List.all_eq_true.mp h.2 _ hm;simp only[Rl]at q;exact⟨of_decide_eq_true q.1,of_decide_eq_true q.2⟩
theorem nq{env:Env}:∀{names:List (Str×Vx)}{x:Str}{k:Vx},
  (names.map λ(n,k)=>if(k==NameKind.free&&env.scope.kind==.function&&env.kindOf n==some .cell)then(n,NameKind.cell)else(n,k)).lookup x=some k->
  names.lookup x=some k\/(names.lookup x=some .free/\k=.cell)
 |[],_,_,h=>by simp at h
 |(n,k0)::r,x,k,h=>by
  have ih:=@nq env r x k
  replace h:List.lookup x ((if(k0==NameKind.free&&env.scope.kind==.function&&env.kindOf n==some .cell)=true then(n,NameKind.cell)else(n,k0))::(r.map λ(n,k)=>if(k==NameKind.free&&env.scope.kind==.function&&env.kindOf n==some .cell)then(n,NameKind.cell)else(n,k)))=some k:=h
  by_cases hc:(k0==NameKind.free&&env.scope.kind==.function&&env.kindOf n==some .cell)=true
  ·rw[if_pos hc]at h;have hk0:k0=.free:=by
    simp only[Rl]at hc
    simpa using hc.1.1
   cases hx:x==n with
   |true=>
    simp only[Rx,hx]at h;simp only[Rx,hx];cases h;exact .inr ⟨by rw[hk0],rfl⟩
   |false=>
    simp only[Rx,hx]at h ⊢;exact ih h
  ·rw[if_neg hc]at h;cases hx:x==n with
   |true=>
    simp only[Rx,hx]at h ⊢;exact .inl h
   |false=>
    simp only[Rx,hx]at h ⊢;exact ih h
def K2(X:Cx)(ifs:List U0)(t:TT):Prop:=
 ∀(pins:List (UN×Obj))(s:UX)(σ:St)(H:Hp)(Q:Bool->Hp->Prop),Inv X pins σ H s->t σ H Q->
  UZ (model X.prog X.w) X.A (forIn ifs true λc r=>if r=true then do let ok<-isTrue c X.env (eval c X.env);pure (ForInStep.yield ok)else pure (ForInStep.yield r)) (TP X pins σ Q) X.xe s
def Mg:TT:=λ_ H Q=>Q true H
theorem Ia{X:Cx}:K2 X [] Mg:=λ_ _ _ H _ I h=>wpAny_tests_nil ⟨H,I,h⟩
theorem HP{X:Cx}{c:U0}{t:TT}(h:PT X c t):K2 X [c] t:=λpins s σ H Q I q=>wpAny_tests_one (h pins s σ H Q I q)
theorem nB{prog:UM}{w:UL}{A:UW}{R:Vj->UX->Prop}{s:UX}{elt target iter:U0}{ifs:List U0}{scope:UY}{pos:Pos}{it acc:UK}{env:Env}(I:Nat->UX->Prop)
  (turn:∀ n s,I n s->UZ (model prog w) A (pyNext it) (fun r s₁=>match r with
   |none=>R (.ok .next) s₁
   |some v=>UZ (model prog w) A (letOwnedTupleGo target it v) (λ_ s₁'=>UZ (model prog w) A (assign target env v) (λ_ s₂=>
     UZ (model prog w) A (forIn ifs true λc r=>if r=true then do let ok<-isTrue c env (eval c env);pure (ForInStep.yield ok)else pure (ForInStep.yield r)) (λok s₃=>
      if ok=true then UZ (model prog w) A (eval elt env) (λx s₄=>
       UZ (model prog w) A (call (.builtin "list.append") [acc,x]) (λ_ s₅=>∃m,m<n/\I m s₅) (notedBy (model prog w) A env λe s'=>R (.error e) s') s₄) (notedBy (model prog w) A env λe s'=>R (.error e) s') s₃
      else∃m,m<n/\I m s₃) (notedBy (model prog w) A env λe s'=>R (.error e) s') s₂) (notedBy (model prog w) A env λe s'=>R (.error e) s') s₁') (notedBy (model prog w) A env λe s'=>R (.error e) s') s₁) (notedBy (model prog w) A env λe s'=>R (.error e) s') s)
  (n:Nat) (h:I n s):
  Vk (model prog w) A (.compLoop (.ListComp elt [⟨target,iter,ifs,0⟩] scope pos) 0 it acc env) R s:=by
 refine codeAny_loop rfl I (λn s hI=>?_) n h;show UZ _ A ((compTurn (.ListComp elt [⟨target,iter,ifs,0⟩] scope pos) 0 it acc env).onRaise (λx=>do noteFrame x env;theTreesLotGoes x)) _ _ s;refine wpAny_noted ?_;rw[compTurn_list];refine U8 (Vw (U8 (U3 (turn n s hI) (λr s₁ h₁=>?_) λ_ _ h'=>h')));cases r with
 |none=>exact U7 h₁
 |some v=>
  refine U8 (U3 h₁ (λ_ s₁' h₁'=>?_) λ_ _ h'=>h');refine U8 (U3 h₁' (λ_ s₂ h₂=>U8 (U3 h₂ (λok s₃ h₃=>?_) λ_ _ h'=>h')) λ_ _ h'=>h');cases ok with
  |false=>exact U7 ⟨rfl,h₃⟩
  |true=>
   exact U8 (U8 (U3 h₃ (λx s₄ h₄=>U8 (U3 h₄ (λ_ s₅ h₅=>U7 (U7 ⟨rfl,h₅⟩)) λ_ _ h'=>h')) λ_ _ h'=>h'))
def NI(wi:TI)(g:TG)(tc:TT)(te:TE)(ix:List (Option Nat)):TE:=λσ H Q=>
 wi σ H λJ H1=>∀D,H1 D=none->∃W:Nat->Nat->St->Hp->Prop,(∃m,W 0 m (inBlock ix σ) (upd H1 D (.lst [])))/\
  ∀i m σ' H',W i m σ' H'->(J.stop i H'/\Q (.ref D) H') \/
   (J.go i H'/\∀ x H2,J.yld i H' x H2->g x σ' H2 fun σ3 H3=>tc σ3 H3 fun b H4 =>
    if b=true then te σ3 H4 λv H5=>∃acc,H5 D=some (.lst acc)/\acc.length<UQ/\∃m',m'<m/\W (i+1) m' σ3 (upd H5 D (.lst (acc++[v])))
    else∃m',m'<m/\W (i+1) m' σ3 H4)
section
variable{X:Cx}{elt tg iter:U0}{ifs:List U0}{scope:UY}{pos:Pos}{N:List Str}{ix:List (Option Nat)}{wi:TI}{g:TG}{tc:TT}{te:TE}
theorem uc{pins:List (UN×Obj)}{σ:St}{s2:UX}{H2:Hp}{it:UN}{fp:List UN}{tn:Nat->UP->Prop}{J:It}{Q:V->Hp->Prop}{E:UK->UX->Prop}{RR:UK->UN->Vj->UX->Prop}
    (hc:X.calm=true) (hcell:∀y∈scope.names,y.2≠.cell) (hkind:scope.kind=.function)
    (hfr:∀y∈scope.names,y.2=.free->X.env.scope.names.lookup y.1=some .cell\/X.env.scope.names.lookup y.1=some .free)
    (hix:x6 X.N N scope.names ix=true)
    (hb:∀cl C fp s H E,PG (cQ X scope N cl C fp s H E) tg g/\K2 (cQ X scope N cl C fp s H E) ifs tc/\PE (cQ X scope N cl C fp s H E) elt te)
    (I2:Inv X pins σ H2 s2) (T:Turn X.prog X.w X.K tg J fp it tn) (st2:tn 0 s2.heap) (f2:∀b∈fp,vt X pins H2 b)
    (q:∀ D,H2 D=none->∃ W:Nat->Nat->St->Hp->Prop,(∃ m,W 0 m (inBlock ix σ) (upd H2 D (.lst []))) /\
      ∀i m σ' H',W i m σ' H'->(J.stop i H'/\Q (.ref D) H') \/
        (J.go i H'/\∀ x H3,J.yld i H' x H3->g x σ' H3 fun σ3 H3=>tc σ3 H3 fun b H4 =>
          if b=true then te σ3 H4 λv H5=>∃acc,H5 D=some (.lst acc)/\acc.length<UQ/\∃m',m'<m/\W (i+1) m' σ3 (upd H5 D (.lst (acc++[v])))
          else∃m',m'<m/\W (i+1) m' σ3 H4))
    (hRR:∀D C H' s' m,H2 D=none->s2.heap.objs.size<=C->H' C=none->s'.heap.Ns C m->(∀h',Ue C s'.heap h'->Inv X pins σ H' {s' with heap:=h'})->Q (.ref D) H'->RR (.ref D) C (.ok .next) s'):
    UZ (model X.prog X.w) X.A (newList []) (λacc s₃=>UZ (model X.prog X.w) X.A (newFunctionEnv scope X.env.globals (dW X.env.cells scope.names []) [] X.env.qual none .none (some X.env)) (λcenv s₄=>
      Vk (model X.prog X.w) X.A (.compStart (.ListComp elt [⟨tg,iter,ifs,0⟩] scope pos) 0 (.ref it) acc {cenv with scope:=relabel scope X.env}) (RR acc cenv.locals) s₄) E s₃) E s2:=by
  refine VI (wpAny_newFunctionEnv hcell (by intro y hy;simp at hy) (λh₁ hns₁ hsb₁=>?_) hkind);dsimp only at hns₁ hsb₁ ⊢;have I3:Inv X pins σ (upd H2 s2.heap.objs.size (.lst [])) {s2 with heap:=s2.heap.push {cls:=.type "list",dict:=none,data:=.seq ([]:List UK).toArray},toks:=s2.toks}:=I2.lnew (its:=[]) (t':=s2.toks) .nil (Q4 _);generalize hs3:({s2 with heap:=s2.heap.push {cls:=.type "list",dict:=none,data:=.seq ([]:List UK).toArray},toks:=s2.toks}:UX)=s3 at I3;have eh3:s2.heap.push {cls:=.type "list",dict:=none,data:=.seq ([]:List UK).toArray}=s3.heap:=by rw[<-hs3]
  rw[eh3]at hns₁ hsb₁ ⊢;have hC3:s3.heap.objs.size=s2.heap.objs.size+1:=by rw[<-eh3,Ui]
  have hD:H2 s2.heap.objs.size=none:=I2.fresh;obtain⟨W,⟨m0,w0⟩,turn⟩:=q s2.heap.objs.size hD;generalize hH3:upd H2 s2.heap.objs.size (.lst [])=H3 at I3 w0;have old:∀b o,s3.heap.get? b=some o->h₁.get? b=some o:=λb o e=>hsb₁.extBut b o (QK (Uc e)) (Ug _ e);have fpH3:∀b∈fp,H3 b=none:=λb hb'=>by
    rw[<-hH3,aD]
    ·exact(f2 b hb').1
    · obtain⟨o,e,_⟩:=T.obj _ _ st2 b hb'
      exact QK (Uc e)
  have fpLt:∀b∈fp,b<s3.heap.objs.size:=λb hb'=>by
    obtain⟨o,e,_⟩:=T.obj _ _ st2 b hb';rw[hC3];exact RA (Uc e)
  have hfree:∀p∈scope.names,p.2=.free->∃c,X.env.cells.lookup p.1=some c:=λp hp hk=>I2.ok.has p.1 (hfr p hp hk);have csub:∀x c,(dW X.env.cells scope.names []).lookup x=some c->X.env.cells.lookup x=some c:=nS scope.names [] (λx c e=>by simp at e);have names':∀x k,(relabel scope X.env).names.lookup x=some k->scope.names.lookup x=some k\/(scope.names.lookup x=some .free/\k=.cell):=λx k h=>nq h;have ok:(cQ X scope N (dW X.env.cells scope.names []) s3.heap.objs.size fp s3 H3 (notedBy (model X.prog X.w) X.A (compEnvC scope (dW X.env.cells scope.names []) s3.heap.objs.size X.env) λe s'=>RR (.ref s2.heap.objs.size) s3.heap.objs.size (.error e) s')).Ok:=
    { mod:=I3.ok.mod
      kind:=hkind
      glob:=I3.ok.glob
      blt:=I3.ok.blt
      above:=QU _
      inj:=λx y c h1 h2=>I3.ok.inj x y c (csub x c h1) (csub y c h2)
      has:=λx hx=>by
        have fr:scope.names.lookup x=some .free:=by
          rcases hx with hx|hx
          · rcases names' x .cell hx with h|⟨h,_⟩
            ·exact absurd rfl (hcell _ (PySem.mem_of_lookup h))
            ·exact h
          · rcases names' x .free hx with h|⟨_,h⟩
            ·exact h
            ·cases h
        have hm:=PySem.mem_of_lookup fr;exact Option.isSome_iff_exists.mp (kZ scope.names [] x hm (hfree _ hm rfl))
      cab:=λx c h _=>by cases h
      hd:=I3.ok.hd
      frames:=I3.ok.frames
      stk:=.inl rfl
      exf:=λb hb'=>⟨QK (fpLt b hb'),λx c e=>(f2 b hb').2.2.2.2.1 x c (csub x c e)⟩
      bs:=λb o e=>I3.bs b o e
      bsz:=QL I3.ok.bsz I3.sz
      noex:=λb o e hb'=>by
        obtain⟨_,_,_,h4,_⟩:=f2 b hb';rcases h4 with h4|h4
        ·exact I3.ok.noex b o e h4
        ·exact absurd (QI (Uc (I3.ok.bs b o e).1) h4) (QJ _)
      exfs:=λb hb' hs=>by
        obtain⟨_,h2,h3,_⟩:=f2 b hb';rcases List.mem_cons.mp (I3.stkSub b hs)with e|e
        ·exact h2 e
        ·exact h3 e
      funs:=I3.stack
      frf:=λb hb'=>I3.stkFree b hb'}
  generalize hE:(notedBy (model X.prog X.w) X.A (compEnvC scope (dW X.env.cells scope.names []) s3.heap.objs.size X.env) λe s'=>RR (.ref s2.heap.objs.size) s3.heap.objs.size (.error e) s')=E' at ok;obtain⟨hg,htc,hel⟩:=hb (dW X.env.cells scope.names []) s3.heap.objs.size fp s3 H3 E';have Istart:∀tk,Inv (cQ X scope N (dW X.env.cells scope.names []) s3.heap.objs.size fp s3 H3 E') [] (inBlock ix σ) H3 {s3 with heap:=h₁,toks:=tk}:=λtk=>by
    refine⟨ok,rfl,I3.bare,Un.kept old,⟨_,hns₁,λj x v e1 e2 _=>?_⟩,λx c e=>?_,I3.fresh,λx c e=>I3.freeC x c (csub x c e),λp hp=>absurd (show p∈([]:List (UN×Obj))from hp) (by simp),I3.hok.kept old,?_⟩
    ·
      unfold inBlock at e2;rw[Rc]at e2;cases q1:ix[j]? with
      |none=>rw[q1]at e2;simp at e2
      |some o=>
        rw[q1]at e2;cases o with
        |none=>simp at e2
        |some i=>
          obtain⟨n1,n2⟩:=x6.at_ hix e1 q1;have e2':(σ[i]?).getD none=some v:=Option.some.inj e2;have e3:σ[i]?=some (some v):=by
            cases q2:σ[i]? with
            |none=>rw[q2]at e2';simp at e2'
            |some o2=>rw[q2]at e2';simpa using e2'
          obtain⟨m,hn,hl⟩:=I3.loc;have hm:=PySem.mem_of_lookup n2;have hk:=hfr _ hm rfl;have hv:J9 X.env.scope x:=by
            rcases hk with hk|hk
            ·exact .inr (.inl hk)
            ·exact .inr (.inr hk)
          obtain⟨u,r,l⟩:=hl i x v n1 e3 hv;refine⟨u,r,.inr ?_⟩;rcases l with⟨kl,_⟩|⟨_,c,hcx,hcell'⟩
          · have kl':X.env.scope.names.lookup x=some .local:=kl
            rcases hk with hk|hk
            ·rw[kl']at hk;cases hk
            ·rw[kl']at hk;cases hk
          · obtain⟨c',hc'⟩:=Option.isSome_iff_exists.mp (kZ (cells:=X.env.cells) scope.names [] x hm ⟨c,hcx⟩)
            have ec:c'=c:=Option.some.inj ((csub x c' hc').symm.trans hcx);subst ec;refine⟨?_,c',hc',?_⟩
            ·
              show(relabel scope X.env).names.lookup x=some .cell\/(relabel scope X.env).names.lookup x=some .free;have gen:∀names:List (Str×Vx),names.lookup x=some .free->((names.map λ(n,k)=>if(k==NameKind.free&&X.env.scope.kind==.function&&X.env.kindOf n==some .cell)then(n,NameKind.cell)else(n,k)).lookup x=some .cell\/(names.map λ(n,k)=>if(k==NameKind.free&&X.env.scope.kind==.function&&X.env.kindOf n==some .cell)then(n,NameKind.cell)else(n,k)).lookup x=some .free):=by
                intro names
                induction names with
                |nil=>intro h;simp at h
                |cons p r ih=>
                  obtain⟨n,k⟩:=p;intro h;show List.lookup x ((if(k==NameKind.free&&X.env.scope.kind==.function&&X.env.kindOf n==some .cell)=true then(n,NameKind.cell)else(n,k))::_)=_\/List.lookup x ((if(k==NameKind.free&&X.env.scope.kind==.function&&X.env.kindOf n==some .cell)=true then(n,NameKind.cell)else(n,k))::_)=_;cases hx:x==n with
                  |true=>
                    simp only[Rx,hx]at h;by_cases hcc:(k==NameKind.free&&X.env.scope.kind==.function&&X.env.kindOf n==some .cell)=true
                    ·rw[if_pos hcc];left;simp only[Rx,hx]
                    ·rw[if_neg hcc];right;simp only[Rx,hx];exact h
                  |false=>
                    simp only[Rx,hx]at h;by_cases hcc:(k==NameKind.free&&X.env.scope.kind==.function&&X.env.kindOf n==some .cell)=true
                    ·rw[if_pos hcc];simp only[Rx,hx];exact ih h
                    ·rw[if_neg hcc];simp only[Rx,hx];exact ih h
              exact gen scope.names n2
            ·exact hcell'.keeps old
    · obtain⟨v,z⟩:=I3.cell x c (csub x c e)
      exact⟨v,z.keeps old⟩
    · show(inBlock ix σ).length=N.length
      unfold inBlock;rw[Q2];exact x6.len hix
  have stat:∀{H':Hp},(∀b∈fp,H' b=none)->∀b∈fp,vt (cQ X scope N (dW X.env.cells scope.names []) s3.heap.objs.size fp s3 H3 E') [] H' b:=λhn b hb'=>
    ⟨hn b hb',(ok.exf b hb').1,ok.exfs b hb',.inl hb',(ok.exf b hb').2,λp hp=>absurd (show p∈([]:List (UN×Obj))from hp) (by simp)⟩
  have tn1:tn 0 h₁:=T.keep _ _ _ st2 λb hb' o e=>old b o (by rw[<-eh3];exact Ug _ e);have loop:∀tk,Vk (model X.prog X.w) X.A (.compLoop (.ListComp elt [⟨tg,iter,ifs,0⟩] scope pos) 0 (.ref it) (.ref s2.heap.objs.size) (compEnvC scope (dW X.env.cells scope.names []) s3.heap.objs.size X.env))
      (RR (.ref s2.heap.objs.size) s3.heap.objs.size) {s3 with heap:=h₁,toks:=tk}:=by
    intro tk;refine nB (λn s'=>∃i σ' H',Inv (cQ X scope N (dW X.env.cells scope.names []) s3.heap.objs.size fp s3 H3 E') [] σ' H' s'/\tn i s'.heap/\(∀b∈fp,H' b=none)/\W i n σ' H') ?_ m0 ⟨0,_,_,Istart tk,tn1,fpH3,w0⟩;rintro n s5 ⟨i,σ5,H5,I5,st5,fr5,w5⟩;rw[hE];rcases turn i n σ5 H5 w5 with⟨stop,qn⟩|⟨go,step⟩
    · refine dL (T.done (cQ X scope N (dW X.env.cells scope.names []) s3.heap.objs.size fp s3 H3 E') rfl rfl rfl hc i [] s5 σ5 H5 _ I5 (stat fr5) st5 stop) λr s6 ⟨hr,I6⟩=>?_
      subst hr;obtain⟨m6,hn6,_⟩:=I6.loc;refine hRR s2.heap.objs.size s3.heap.objs.size H5 s6 m6 hD (by rw[hC3];exact Q6 _) I6.free hn6 (λh' sb=>?_) qn;have ne:∀b o,s3.heap.get? b=some o->b≠s3.heap.objs.size:=λb o e=>QK (Uc e);refine I3.call' (s':={s6 with heap:=h'}) (H':=H5) (ch:=fp) I6.os ⟨λb o e n hb' hx=>?_,λb o e n hb' hx=>?_,λb o e n hx=>?_,λb o e hx=>?_,I6.base.tups,I6.base.frzs,I6.base.tbls⟩ ?_ I6.bare λb hb'=>?_
      ·exact(sb.2 b (ne b o e)).trans (I6.base.keep b o e n hb' hx)
      · obtain⟨sl,e1⟩:=I6.base.slot b o e n hb' hx
        exact⟨sl,(sb.2 b (ne b o e)).trans e1⟩
      ·exact I6.base.free b o e n hx
      · obtain⟨o',e1⟩:=I6.base.there b o e hx
        exact⟨o',(sb.2 b (ne b o e)).trans e1⟩
      · intro b ob e
        have hfreeC:H5 s3.heap.objs.size=none:=I6.free;refine(I6.hok b ob e).stay (λc v hcc q=>(sb.2 c ?_).trans q) (λ_ q=>q) λ_ _ q=>q;rintro rfl;rcases hcc with rfl|hcc
        ·rw[hfreeC]at e;cases e
        ·rw[hfreeC]at hcc;cases hcc
      · obtain⟨_,h2',_,h4',h5',h6'⟩:=f2 b hb'
        exact⟨h4',h2',h5',h6'⟩
    · refine dL (T.item (cQ X scope N (dW X.env.cells scope.names []) s3.heap.objs.size fp s3 H3 E') rfl rfl rfl hc i [] s5 σ5 H5 _ I5 (stat fr5) st5 go) λr s6 ⟨u,hr,h6⟩=>?_
      subst hr;refine dL h6 λ_ s7 ⟨x,H7,I7,r7,y7,st7,fr7⟩=>?_;have I7':=I7.pinned (stat fr7) (T.obj _ _ st7);refine dL (hg _ s7 σ5 H7 x u _ I7' r7 (step x H7 y7)) λ_ s8 ⟨σ8,H8,I8,q8⟩=>?_;refine dL (htc _ s8 σ8 H8 _ I8 q8) λb s9 ⟨H9,I9,q9⟩=>?_;have again:∀{σ':St}{H':Hp}{s':UX}{m':Nat},Inv (cQ X scope N (dW X.env.cells scope.names []) s3.heap.objs.size fp s3 H3 E') ([]++uP fp s7.heap) σ' H' s'->m'<n->W (i+1) m' σ' H'->
          ∃m,m<n/\∃i σ' H',Inv (cQ X scope N (dW X.env.cells scope.names []) s3.heap.objs.size fp s3 H3 E') [] σ' H' s'/\tn i s'.heap/\(∀b∈fp,H' b=none)/\W i m σ' H':=λ{σ' H' s' m'} I' hm w'=>by
        refine⟨m',hm,i+1,σ',H',I'.unpinned,T.keep _ _ _ st7 λb hb' o e=>(I'.pin (b,o) (QV _ (QV _ (md hb' e)))).1,λb hb'=>?_,w'⟩;obtain⟨o,e,d⟩:=T.obj _ _ st7 b hb';exact(I'.pin (b,o) (QV _ (QV _ (md hb' e)))).2.1
      cases b with
      |false=>
        rw[if_neg QZ]at q9 ⊢;obtain⟨m',hm,w9⟩:=q9;exact again I9 hm w9
      |true=>
        rw[if_pos rfl]at q9 ⊢;refine dL (hel _ s9 σ8 H9 _ I9 q9) λy s10 ⟨v,H10,I10,r10,q10⟩=>?_;obtain⟨acc,ha,hz,m',hm,w10⟩:=q10;refine dL (eP _ s10 σ8 H10 (.ref s2.heap.objs.size) [v] (.ref s2.heap.objs.size) [y] (λ_ H'=>H'=upd H10 s2.heap.objs.size (.lst (acc++[v]))) I10 rfl (.cons r10 .nil) ⟨_,acc,v,rfl,rfl,ha,hz,rfl⟩) λ_ s11 ⟨_,H11,I11,_,e11⟩=>?_;subst e11;exact again I11 hm w10
  subst hs3;exact codeAny_compStart_list (loop _) (T.self _ 0 _ _ _ tn1 (loop _))
theorem JC(hc:X.calm=true)(hcell:∀y∈scope.names,y.2≠.cell)(hkind:scope.kind=.function)(hnames:∀y∈scope.names,y.2=.local->scope.names.lookup y.1=some .local)
  (hfr:∀y∈scope.names,y.2=.free->X.env.scope.names.lookup y.1=some .cell\/X.env.scope.names.lookup y.1=some .free)
  (hix:x6 X.N N scope.names ix=true) (hi:PI X tg iter wi)
  (hb:∀cl C fp s H E,PG (cQ X scope N cl C fp s H E) tg g/\K2 (cQ X scope N cl C fp s H E) ifs tc/\PE (cQ X scope N cl C fp s H E) elt te)
  (hs:∀x,Vc iter X.env x=pure x:=by intro _;rfl):PE X (.ListComp elt [⟨tg,iter,ifs,0⟩] scope pos) (NI wi g tc te ix):=by
 intro pins s σ H Q I h;rw[eval_ListComp];refine VN (use:=none) rfl hs (qa λp hp hk=>I.ok.has p.1 (hfr p hp hk)) hkind hnames (dL (hi pins s σ H _ I h) λv s1 h1=>dL h1 λitv s2 h2=>?_);obtain⟨it,fp,tn,J,H2,e,I2,T,st2,f2,q⟩:=h2;subst e;refine uc (Q:=Q) (RR:=λacc C=>compPost (model X.prog X.w) X.A X.xe none (EP X pins σ Q) acc C) hc hcell hkind hfr hix hb I2 T st2 f2 q ?_;intro D C H' s' m _ _ _ hn hI hq;exact⟨m,hn,λh' sb=>⟨.ref D,H',hI h' sb,rfl,hq⟩⟩
theorem MV{i:Nat}{y:Str}{py spos:Pos}(hN:X.N.Nodup)(hi':X.N[i]?=some y)(hx:Loc X.env.scope y)
  (hc:X.calm=true) (hcell:∀y∈scope.names,y.2≠.cell) (hkind:scope.kind=.function) (hnames:∀y∈scope.names,y.2=.local->scope.names.lookup y.1=some .local)
  (hfr:∀y∈scope.names,y.2=.free->X.env.scope.names.lookup y.1=some .cell\/X.env.scope.names.lookup y.1=some .free)
  (hix:x6 X.N N scope.names ix=true) (hi:PI X tg iter wi)
  (hb:∀cl C fp s H E,PG (cQ X scope N cl C fp s H E) tg g/\K2 (cQ X scope N cl C fp s H E) ifs tc/\PE (cQ X scope N cl C fp s H E) elt te)
  (hsw:swapsWith (.ListComp elt [⟨tg,iter,ifs,0⟩] scope pos) (some (.Name y py)) spos.line X.env=pure true:=by rfl)
  (hs:∀x,Vc iter X.env x=pure x:=by intro _;rfl)
  (hf:X.fn y=true\/X.env.scope.names.lookup y=some .local:=by first|exact .inl rfl|exact .inr rfl|assumption):
  PS X (.Assign [.Name y py] (.ListComp elt [⟨tg,iter,ifs,0⟩] scope pos) spos) (Gb (NI wi g tc te ix) (wW i)):=by
 intro pins s σ H D0 I h;rw[exec_Assign_Name_used _ _ _ _ hsw];refine U8 (Vw (U8 ?_));show UZ _ X.A (do let _<-comprehension (.ListComp elt [⟨tg,iter,ifs,0⟩] scope pos) scope X.env _ (newList []) false (eval iter X.env) (some (assign (.Name y py) X.env))) _ _ s;refine U8 (dL (VN (use:=some (assign (.Name y py) X.env)) (Q:=λ_ s'=>SP X pins D0 .next s') rfl hs (qa λp hp hk=>I.ok.has p.1 (hfr p hp hk)) hkind hnames
  (dL (hi pins s σ H _ I h) λv s1 h1=>dL h1 λitv s2 h2=>?_)) λ_ s' hq=>U7 (U7 hq))
 obtain⟨it,fp,tn,J,H2,e,I2,T,st2,f2,q⟩:=h2;subst e;refine uc (Q:=λv H'=>wW i v σ H' D0.nx) (RR:=λacc C=>compPost (model X.prog X.w) X.A X.xe (some (assign (.Name y py) X.env)) (λ_ s'=>SP X pins D0 .next s') acc C) hc hcell hkind hfr hix hb I2 T st2 f2 q ?_;intro D C H' s' m _ hC hfree hn hI hq;have I':Inv X pins σ H' s':=hI s'.heap (.refl ..);have nL:C≠X.env.locals:=QT (QI I2.lt hC);have nC:∀x c,X.env.cells.lookup x=some c->c≠C:=λx c e z=>by
  obtain⟨v,q⟩:=I2.cell x c e;exact absurd (QI q.lt (by rw[z];exact hC)) (QJ _)
 have nP:∀p∈X.pn++pins,p.1≠C:=λp hp z=>absurd (QI (Uc (I2.pin p hp).1) (by rw[z];exact hC)) (QJ _);show UZ _ X.A (assign (.Name y py) X.env (.ref D)) _ _ _;refine wpAny_assign_Name (wX I' hN hi' hx (v:=.ref D) rfl (λs'' I'' ch=>?_) hf);obtain⟨a,sb,ha⟩:=ch;have hCa:C≠a:=by
  rcases ha with ha|ha
  ·rw[ha];exact nL
  ·exact Ne.symm (nC y a ha)
 refine⟨m,hn.sameBut sb hCa,λh' sb'=>⟨_,H',?_,hq⟩⟩;exact I''.turned (t':=s''.toks) (λb o hb' e=>(sb'.2 b hb').trans e) hfree nL (.inr (QL I2.sz hC)) nC nP
end
end L2
namespace TG
open PySem PySem.Spec L2
inductive D where
 |non|bl (b:Bool)|int (i:Int)|str (x:Str)|tup (xs:List D)|lst (xs:List D)
 |dct (ks vs:List D)|obj (c:Str) (fs:List Str) (vs:List D)|exc (c:Str) (fs:List Str) (vs:List D)
def bx:Key->D
 |.inl i=>.int i
 |.inr x=>.str x
def clsAt(K:Tu)(c:Str)(C:UN):Prop:=TY K UT c=some (some (.ref C))
def OG(C a:UN)(dx:Option UN):(UN->Prop)->UP->Prop:=λ_ h=>∃o,h.get? a=some o/\o.cls=.ref C/\o.dict=dx
mutual
def cJ(K:Tu)(H:Hp):D->V->Prop
 |.non,v=>v=.non
 |.bl b,v=>v=.bl b
 |.int i,v=>v=.int i
 |.str x,v=>v=.str x
 |.tup xs,v=>∃a vs,v=.ref a/\H a=some (.tup vs)/\bb K H xs vs
 |.lst xs,v=>∃a vs,v=.ref a/\pH K H a vs/\bb K H xs vs
 |.dct ks ds,v=>∃a vs,v=.ref a/\bb K H ds vs/\((∃kvs:List (Key×V),H a=some (.dK kvs)/\ks=kvs.map (λp=>bx p.1)/\vs=kvs.map (·.2)) \/
   (∃kvs:List (List Key×V),H a=some (.dT kvs)/\ks=kvs.map (λp=>.tup (p.1.map bx))/\vs=kvs.map (·.2)) \/
   ∃(kvs:List (List Key×V))(o:Obj),H a=some (.frz o (.dT kvs))/\ks=.non::kvs.map (λp=>.tup (p.1.map bx))/\vs=kvs.map (·.2))
 |.obj c fs ds,v=>∃a vs,v=.ref a/\bb K H ds vs/\fs.length=vs.length/\∃C dx,clsAt K c C/\H a=some (.ins C dx (fs.zip vs))
 |.exc c fs ds,v=>∃a vs,v=.ref a/\bb K H ds vs/\fs.length=vs.length/\∃C dx,clsAt K c C/\H a=some (.ext (OG C a dx))/\(fs=[]\/∃d,dx=some d/\H d=some (.xd (fs.zip vs)))
def bb(K:Tu)(H:Hp):List D->List V->Prop
 |[],vs=>vs=[]
 |x::xs,vs=>∃v r,vs=v::r/\cJ K H x v/\bb K H xs r
end
theorem C7{K:Tu}{H H':Hp}{a:UN}{xs:List V}(e:bj H H')(h:qN K H a xs):qN K H' a xs:=by
 rcases h with(h|⟨o,h⟩)|h
 ·exact .inl (.inl (e _ _ h))
 ·exact .inl (.inr ⟨o,e _ _ h⟩)
 ·exact .inr h
theorem bW{K:Tu}{H H':Hp}{a:UN}{xs:List V}(e:bj H H')(h:H a=some (.tup xs)):qN K H' a xs:=qN.of (e _ _ h)
mutual
theorem cJ.mono{K:Tu}{H H':Hp}(e:bj H H'):∀{d:D}{v:V},cJ K H d v->cJ K H' d v
 |.non,_,h=>by unfold cJ at h ⊢;exact h
 |.bl _,_,h=>by unfold cJ at h ⊢;exact h
 |.int _,_,h=>by unfold cJ at h ⊢;exact h
 |.str _,_,h=>by unfold cJ at h ⊢;exact h
 |.tup xs,_,h=>by
  unfold cJ at h ⊢;obtain⟨a,vs,e1,h1,h2⟩:=h;exact⟨a,vs,e1,e _ _ h1,bb.mono e h2⟩
 |.lst xs,_,h=>by
  unfold cJ at h ⊢;obtain⟨a,vs,e1,h1,h2⟩:=h;exact⟨a,vs,e1,e.seq h1,bb.mono e h2⟩
 |.dct _ ds,_,h=>by
  unfold cJ at h ⊢;obtain⟨a,vs,e1,h1,h2⟩:=h;refine⟨a,vs,e1,bb.mono e h1,?_⟩;rcases h2 with⟨kvs,h2,h3⟩|⟨kvs,h2,h3⟩|⟨kvs,o,h2,h3⟩
  ·exact .inl ⟨kvs,e _ _ h2,h3⟩
  ·exact .inr (.inl ⟨kvs,e _ _ h2,h3⟩)
  ·exact .inr (.inr ⟨kvs,o,e _ _ h2,h3⟩)
 |.obj _ _ ds,_,h=>by
  unfold cJ at h ⊢;obtain⟨a,vs,e1,h1,h2,C,dx,h3,h4⟩:=h;exact⟨a,vs,e1,bb.mono e h1,h2,C,dx,h3,e _ _ h4⟩
 |.exc _ _ ds,_,h=>by
  unfold cJ at h ⊢;obtain⟨a,vs,e1,h1,h2,C,dx,h3,h4,h5⟩:=h;exact⟨a,vs,e1,bb.mono e h1,h2,C,dx,h3,e _ _ h4,h5.imp id λ⟨d,q1,q2⟩=>⟨d,q1,e _ _ q2⟩⟩
theorem bb.mono{K:Tu}{H H':Hp}(e:bj H H'):∀{ds:List D}{vs:List V},bb K H ds vs->bb K H' ds vs
 |[],_,h=>by unfold bb at h ⊢;exact h
 |x::xs,_,h=>by
  unfold bb at h ⊢;obtain⟨v,r,e1,h1,h2⟩:=h;exact⟨v,r,e1,cJ.mono e h1,bb.mono e h2⟩
end
section
variable{K:Tu}{H:Hp}
theorem mj{v:V}:cJ K H .non v↔v=.non:=by unfold cJ;rfl
theorem mI{b:Bool}{v:V}:cJ K H (.bl b) v↔v=.bl b:=by unfold cJ;rfl
theorem fE{i:Int}{v:V}:cJ K H (.int i) v↔v=.int i:=by unfold cJ;rfl
theorem fO{x:Str}{v:V}:cJ K H (.str x) v↔v=.str x:=by unfold cJ;rfl
theorem cN{xs:List D}{v:V}:cJ K H (.tup xs) v↔∃a vs,v=.ref a/\H a=some (.tup vs)/\bb K H xs vs:=by unfold cJ;rfl
theorem cT{xs:List D}{v:V}:cJ K H (.lst xs) v↔∃a vs,v=.ref a/\pH K H a vs/\bb K H xs vs:=by unfold cJ;rfl
theorem NU{ks ds : List D}{v : V}: cJ K H (.dct ks ds) v ↔ ∃ a vs, v = .ref a /\ bb K H ds vs /\ ((∃ kvs : List (Key × V), H a = some (.dK kvs) /\ ks = kvs.map (fun p => bx p.1) /\ vs = kvs.map (·.2)) \/
      (∃kvs:List (List Key×V),H a=some (.dT kvs)/\ks=kvs.map (λp=>.tup (p.1.map bx))/\vs=kvs.map (·.2)) \/
      ∃(kvs:List (List Key×V))(o:Obj),H a=some (.frz o (.dT kvs))/\ks=.non::kvs.map (λp=>.tup (p.1.map bx))/\vs=kvs.map (·.2)):=by unfold cJ;rfl
theorem Hj{c:Str}{fs:List Str}{ds:List D}{v:V}:cJ K H (.obj c fs ds) v↔∃a vs,v=.ref a/\bb K H ds vs/\fs.length=vs.length/\∃C dx,clsAt K c C/\H a=some (.ins C dx (fs.zip vs)):=by unfold cJ;rfl
theorem cI{vs:List V}:bb K H [] vs↔vs=[]:=by unfold bb;rfl
theorem bo{x:D}{xs:List D}{vs:List V}:bb K H (x::xs) vs↔∃v r,vs=v::r/\cJ K H x v/\bb K H xs r:=by conv=>lhs;unfold bb
theorem bb.length:∀{ds:List D}{vs:List V},bb K H ds vs->ds.length=vs.length
 |[],_,h=>by rw[cI]at h;rw[h];rfl
 |_::xs,_,h=>by
  rw[bo]at h;obtain⟨v,r,e,_,h⟩:=h;rw[e,Q0,Q0,bb.length h]
theorem bb.get:∀{ds:List D}{vs:List V}{i:Nat}{d:D},bb K H ds vs->ds[i]?=some d->∃v,vs[i]?=some v/\cJ K H d v
 |[],_,_,_,_,e=>by simp at e
 |x::xs,_,0,d,h,e=>by
  rw[bo]at h;obtain⟨v,r,rfl,h1,_⟩:=h;simp at e;subst e;exact⟨v,rfl,h1⟩
 |x::xs,_,i+1,d,h,e=>by
  rw[bo]at h;obtain⟨v,r,rfl,_,h2⟩:=h;obtain⟨w,e1,e2⟩:=bb.get (i:=i) h2 (by simpa using e);exact⟨w,by simpa using e1,e2⟩
theorem bb.append:∀{ds es:List D}{vs ws:List V},bb K H ds vs->bb K H es ws->bb K H (ds++es) (vs++ws)
 |[],_,_,_,h,h'=>by rw[cI]at h;subst h;exact h'
 |x::xs,_,_,_,h,h'=>by
  rw[bo]at h;obtain⟨v,r,rfl,h1,h2⟩:=h;rw[RB,bo];exact⟨v,_,rfl,h1,bb.append h2 h'⟩
theorem bb.take:∀{ds:List D}{vs:List V}(n:Nat),bb K H ds vs->bb K H (ds.take n) (vs.take n)
 |_,_,0,_=>by rw[RC,RC,cI]
 |[],_,_+1,h=>by rw[cI]at h;subst h;rw[RD,RD,cI]
 |x::xs,_,n+1,h=>by
  rw[bo]at h;obtain⟨v,r,rfl,h1,h2⟩:=h;rw[RE,RE,bo];exact⟨v,_,rfl,h1,bb.take n h2⟩
theorem bb.drop:∀{ds:List D}{vs:List V}(n:Nat),bb K H ds vs->bb K H (ds.drop n) (vs.drop n)
 |_,_,0,h=>by rw[RF,RF];exact h
 |[],_,_+1,h=>by rw[cI]at h;subst h;rw[List.drop_nil,List.drop_nil,cI]
 |x::xs,_,n+1,h=>by
  rw[bo]at h;obtain⟨v,r,rfl,h1,h2⟩:=h;rw[RG,RG];exact bb.drop n h2
theorem bb.snoc{ds:List D}{vs:List V}{d:D}{v:V}(h:bb K H ds vs)(h':cJ K H d v):bb K H (ds++[d]) (vs++[v]):=
 h.append (bo.mpr ⟨v,[],rfl,h',cI.mpr rfl⟩)
theorem bb.one{d:D}{vs:List V}(h:bb K H [d] vs):∃v,vs=[v]/\cJ K H d v:=by
 rw[bo]at h;obtain⟨v,r,rfl,h1,h2⟩:=h;rw[cI]at h2;subst h2;exact⟨v,rfl,h1⟩
theorem bb.two{d e:D}{vs:List V}(h:bb K H [d,e] vs):∃v w,vs=[v,w]/\cJ K H d v/\cJ K H e w:=by
 rw[bo]at h;obtain⟨v,r,rfl,h1,h2⟩:=h;obtain⟨w,rfl,h3⟩:=h2.one;exact⟨v,w,rfl,h1,h3⟩
theorem wx:∀ns:List Int,bb K H (ns.map D.int) (ns.map V.int)
 |[]=>cI.mpr rfl
 |n::ns=>bo.mpr ⟨_,_,rfl,fE.mpr rfl,wx ns⟩
end
def hid(H:Hp)(O:List UN):Hp:=λb=>if b∈O then none else H b
theorem aB(H:Hp)(O:List UN):bj (hid H O) H:=λb o h=>by
 unfold hid at h;split at h
 ·cases h
 ·exact h
theorem bN{H H':Hp}{O:List UN}(e:bj H H'):bj (hid H O) (hid H' O):=λb o h=>by
 unfold hid at h ⊢;by_cases hb:b∈O
 ·rw[if_pos hb]at h;cases h
 ·rw[if_neg hb]at h ⊢;exact e b o h
theorem iQ{H:Hp}{O O':List UN}(s:∀a∈O,a∈O'):bj (hid H O') (hid H O):=λb o h=>by
 unfold hid at h ⊢;by_cases hb:b∈O'
 ·rw[if_pos hb]at h;cases h
 ·rw[if_neg hb]at h;rw[if_neg λz=>hb (s b z)];exact h
theorem IT(H:Hp):hid H []=H:=by funext b;unfold hid;simp
theorem sP{H:Hp}{O:List UN}{p:UN}{o:HO}(h:H p=none):bj (hid H O) (hid (upd H p o) O):=λb u q=>by
 unfold hid at q ⊢;by_cases hb:b∈O
 ·rw[if_pos hb]at q;cases q
 ·rw[if_neg hb]at q ⊢;rw[aD (bc q h)];exact q
theorem bL{H:Hp}{p:UN}(h:H p=none)(o:HO):bj H (upd H p o):=λb u q=>by rw[aD (bc q h)];exact q
theorem ja{H:Hp}{O:List UN}{p:UN}(h:p∉O):hid H O p=H p:=by unfold hid;rw[if_neg h]
theorem iE{H:Hp}{O:List UN}{p:UN}{o:HO}(h:p∈O):bj (hid H O) (hid (upd H p o) O):=λb u q=>by
 unfold hid at q ⊢;by_cases hb:b∈O
 ·rw[if_pos hb]at q;cases q
 ·rw[if_neg hb]at q ⊢;rw[aD (λz=>hb (by rw[z];exact h))];exact q
inductive S where
 |val (d:D)|own (d:D)|nest (d:D)
abbrev aq:=List (Option S)
def sB:HO->Prop
 |.lst _=>True
 |.dK _=>True
 |.dT _=>True
 |_=>False
class aW where
 tab:Hp->Prop
 same:∀{H H':Hp},tab H->bj H H'->tab H'
 own:∀{H:Hp}{p:UN}{o o':HO},tab H->H p=some o->sB o->tab (upd H p o')
variable[aW]
def dU(H:Hp)(O:List UN):Prop:=aW.tab H/\∀a∈O,∃o,H a=some o/\sB o
theorem dU.not{H:Hp}{O:List UN}(h:dU H O){p:UN}(n:H p=none):p∉O:=λz=>by
 obtain⟨vs,e,_⟩:=h.2 p z;rw[n]at e;cases e
theorem dU.same{H H':Hp}{O:List UN}(h:dU H O)(e:bj H H'):dU H' O:=⟨aW.same h.1 e,λa ha=>let ⟨vs,q,m⟩:=h.2 a ha;⟨vs,e _ _ q,m⟩⟩
theorem dU.upd{H:Hp}{O:List UN}{p:UN}{o:HO}(h:dU H O)(hp:p∈O)(m:sB o):dU (L2.upd H p o) O:=⟨let ⟨_,q,r⟩:=h.2 p hp;aW.own h.1 q r,λa ha=>by
 by_cases z:a=p
 ·rw[z];exact⟨o,aY,m⟩
 ·obtain⟨u,q,r⟩:=h.2 a ha;exact⟨u,by rw[aD z];exact q,r⟩⟩
theorem dU.cons{H:Hp}{O:List UN}{p:UN}{o:HO}(h:dU H O)(hp:H p=some o)(m:sB o):dU H (p::O):=⟨h.1,λa ha=>by
 rcases List.mem_cons.mp ha with z|z
 ·rw[z];exact⟨o,hp,m⟩
 ·exact h.2 a z⟩
def dD(K:Tu)(H:Hp)(O:List UN)(a:UN)(d:D):Prop:=∃o vs,H a=some o/\match d with
 |.lst xs=>o=.lst vs/\bb K (hid H O) xs vs
 |.dct ks ds=>bb K (hid H O) ds vs/\((∃kvs:List (Key×V),o=.dK kvs/\ks=kvs.map (λp=>bx p.1)/\vs=kvs.map (·.2)) \/
   ∃kvs:List (List Key×V),o=.dT kvs/\ks=kvs.map (λp=>.tup (p.1.map bx))/\vs=kvs.map (·.2))
 |_=>False
theorem dD.mono{K:Tu}{H H':Hp}{O O':List UN}{a:UN}{d:D}(h:dD K H O a d)(e:H a=H' a)(s:bj (hid H O) (hid H' O')):dD K H' O' a d:=by
 obtain⟨o,vs,h1,h2⟩:=h;refine⟨o,vs,by rw[<-e];exact h1,?_⟩;cases d with
 |lst xs=>exact⟨h2.1,h2.2.mono s⟩
 |dct ks ds=>exact⟨h2.1.mono s,h2.2⟩
 |_=>exact h2
theorem dD.some{K:Tu}{H:Hp}{O:List UN}{a:UN}{d:D}(h:dD K H O a d):∃o,H a=some o:=let ⟨o,_,e,_⟩:=h;⟨o,e⟩
theorem dD.den{K:Tu}{H:Hp}{O O':List UN}{a:UN}{d:D}(h:dD K H O a d)(s:bj (hid H O) (hid H O'))(ha:a∉O'):cJ K (hid H O') d (.ref a):=by
 obtain⟨o,vs,h1,h2⟩:=h;have h1':hid H O' a=Option.some o:=by rw[ja ha];exact h1
 cases d with
 |lst xs=>
  obtain⟨e,g⟩:=h2;subst e;exact cT.mpr ⟨a,vs,rfl,pH.of h1',g.mono s⟩
 |dct ks ds=>
  obtain⟨g,q⟩:=h2;refine NU.mpr ⟨a,vs,rfl,g.mono s,?_⟩;rcases q with⟨kvs,e,q⟩|⟨kvs,e,q⟩
  ·subst e;exact .inl ⟨kvs,h1',q⟩
  ·subst e;exact .inr (.inl ⟨kvs,h1',q⟩)
 |_=>exact h2.elim
structure eI(K:Tu)(O:List UN)(H:Hp)(ρ:aq)(σ:St):Prop where
 val:∀(i:Nat) d,ρ[i]?=some (some (.val d))->∃v,σ[i]?=some (some v)/\cJ K (hid H O) d v
 own:∀(i:Nat) d,ρ[i]?=some (some (.own d))->∃a,σ[i]?=some (some (.ref a))/\a∈O/\dD K H O a d
 one:∀(i j:Nat) xs ys a,ρ[i]?=some (some (.own xs))->ρ[j]?=some (some (.own ys))->σ[i]?=some (some (.ref a))->σ[j]?=some (some (.ref a))->i=j
 all:dU H O
theorem sY{H H':Hp}(e:bj H H'){a:UN}{o:HO}(h:H a=some o):H a=H' a:=by rw[h,e _ _ h]
theorem eI.same{K:Tu}{O:List UN}{H H':Hp}{ρ:aq}{σ:St}(h:eI K O H ρ σ)(e:bj H H'):eI K O H' ρ σ:=
  ⟨fun i d q=>let ⟨v,a,b⟩:=h.val i d q; ⟨v,a,b.mono (bN e)⟩,
   λi xs q=>let ⟨a,q1,q2,q3⟩:=h.own i xs q;⟨a,q1,q2,q3.mono (let ⟨_,z⟩:=q3.some;sY e z) (bN e)⟩,h.one,h.all.same e⟩
structure Ex where
 c:Str
 fs:List Str
 vs:List D
abbrev R(α:Type):=Except (Option Ex) α
abbrev un{α:Type}:R α:=.error none
def rO{α:Type}:Option α->R α
 |some a=>.ok a
 |none=>.error none
def MX(K:Tu)(Hd:Hp)(x:Ex)(C:UN)(dx:Option UN):Prop:=clsAt K x.c C/\∃ws,bb K Hd x.vs ws/\x.fs.length=ws.length/\(x.fs=[]\/∃d,dx=some d/\Hd d=some (.xd (x.fs.zip ws)))
theorem MX.mono{K:Tu}{H H':Hp}{x:Ex}{C:UN}{dx:Option UN}(h:MX K H x C dx)(e:bj H H'):MX K H' x C dx:=by
 obtain⟨h1,ws,h2,h3,h4⟩:=h;exact⟨h1,ws,h2.mono e,h3,h4.imp id λ⟨d,q1,q2⟩=>⟨d,q1,e _ _ q2⟩⟩
end TG
namespace TG
open PySem PySem.Spec L2
variable[aW]
open PyProof.Rows (AllBare)
theorem KP{P:UM}{w:UL}{H:Hp}{h:UP}{a:UN}{o:HO}(x:cH P w H h a o):∃u,h.get? a=some u:=by
 cases o with
 |lst xs=>obtain⟨_,_,_,_,e⟩:=x;exact⟨_,e⟩
 |tup xs=>obtain⟨_,_,_,o,e,_⟩:=x;exact⟨_,e⟩
 |dK kvs=>obtain⟨_,_,_,_,o,_,_,e,_⟩:=x;exact⟨_,e⟩
 |dT kvs=>obtain⟨_,_,_,_,o,_,_,e,_⟩:=x;exact⟨_,e⟩
 |set S n=>obtain⟨o,_,_,_,e,_⟩:=x;exact⟨_,e⟩
 |ins C dx fs=>obtain⟨_,_,_,e,_⟩:=x;exact⟨_,e⟩
 |own y=>exact x
 |xd fs=>obtain⟨_,⟨_,_,_,e,_⟩,_⟩:=x;exact⟨_,e⟩
 |rng lo hi=>obtain⟨_,_,_,e⟩:=x;exact⟨_,e⟩
 |frz ob u=>obtain⟨e,_⟩:=x;exact⟨_,e⟩
 |tbl ps=>exact⟨_,(show h.get? a=some _ from x)⟩
 |met f y=>exact⟨_,(show h.get? a=some _ from x)⟩
 |ext φ=>obtain⟨_,e,_⟩:=x;exact e
def uO(X:Cx)(H:Hp)(b:UN):Prop:=((∃o,X.s₀.heap.get? b=some o)/\b∉X.ex)\/H b≠none\/(∃o,(b,o)∈X.pn)\/∃x,X.env.cells.lookup x=some b
def QC(B:UP)(e:UN)(cls a0:UK)(h:UP):Prop:=h.TracedW B e cls a0\/∃oe vs,h.get? e=some oe/\oe.cls=cls/\oe.data=.fields vs/\vs[1]?=some .none/\vs[0]?=some a0
def MB(X:Cx)(H:Hp)(s:UX)(e C:UN):Prop:=∃B a0,B.StaysIn s.heap/\B.get? e=none/\s.heap.FunFrames B X.stack/\QC B e (.ref C) a0 s.heap/\∀b o,s.heap.get? b=some o->uO X H b->b∉frs X.stack->B.get? b=some o
def Qw(X:Cx)(H:Hp)(O:List UN)(s:UX)(u:UK)(x:Ex):Prop:=∃e C dx,u=.ref e/\MX X.K (hid H O) x C dx/\MB X H s e C
def oW(P:UM)(w:UL):Ae:=λouter H s E u s'=>∃e C dx H' B a0,u=.ref e/\s'.os=s.os/\AllBare s'.gens/\Un (frs outer) [] H H' s.heap s'.heap/\pT P w H' s'.heap/\Heap.FlyingW B outer e (.ref C) a0 s'.heap/\
 (∀b o,s'.heap.get? b=some o->((∃o',s.heap.get? b=some o')\/H' b≠none)->b∉frs outer->B.get? b=some o)/\E (.ref C) dx H'
def Pp(K:Tu)(H:Hp)(O:List UN)(x:Ex)(E:XK):Prop:=∀C dx H',bj H H'->MX K (hid H' O) x C dx->E (.ref C) dx H'
def Lv(X:Cx)(σ:St)(O:List UN)(H:Hp)(x:Ex):Prop:=∀pins s u H',Inv X pins σ H' s->bj H H'->Qw X H' O s u x->X.xe u s
theorem Lv.mono{X:Cx}{σ:St}{O:List UN}{H H':Hp}{x:Ex}(h:Lv X σ O H x)(s:bj H H'):Lv X σ O H' x:=λpins st u H2 I s2 f=>h pins st u H2 I (s.trans s2) f
def CB(X:Cx)(O:List UN)(H:Hp)(x:Ex):XK:=λu dx H'=>∃C,u=.ref C/\bj H H'/\MX X.K (hid H' O) x C dx
def nN(CX:Ae)(X:Cx)(σ:St)(E:XK):Prop:=∀(pins:List (UN×Obj))(H:Hp)(s:UX)(e:UK)(s':UX),Inv X pins σ H s->CX X.stack H s E e s'->X.xe e s'
theorem B4{X:Cx}{σ:St}{O:List UN}{H:Hp}{x:Ex}(h:Lv X σ O H x):nN (oW X.prog X.w) X σ (CB X O H x):=by
 rintro pins H1 s u s' I ⟨e,C,dx,H',B,a0,rfl,os,bare,un,hok,⟨f1,f2,f3,f4⟩,kp,C',eC,sm,hd⟩;cases eC;have I':Inv X pins σ H' s':=I.call' os un hok bare (ch:=[]) λb z=>absurd z (by simp);refine h pins s' _ H' I' sm ⟨e,C,dx,rfl,hd,B,a0,f1,f2,f3,.inl f4,λb o eb hb nf=>kp b o eb ?_ nf⟩;rcases hb with⟨⟨o',hb⟩,nx⟩|hb|⟨o',hb⟩|⟨y,hb⟩
 ·exact .inl (I.base.there b o' hb nx)
 ·exact .inr hb
 ·exact .inl ⟨_,(I.pin _ (QQ _ hb)).1⟩
 ·obtain⟨v,o,q,_⟩:=I.cell y b hb;exact .inl ⟨o,q⟩
theorem BE{X:Cx}{σ:St}:nN (oW X.prog X.w) X σ E0:=λ_ _ _ _ _ _ ⟨_,_,_,_,_,_,_,_,_,_,_,_,_,z⟩=>z.elim
theorem zS{X:Cx}{O:List UN}{H:Hp}{x:Ex}:Pp X.K H O x (CB X O H x):=λC dx H' s e=>⟨C,rfl,s,e⟩
section
variable{X:Cx}{pins:List (UN×Obj)}{σ:St}{H:Hp}{s:UX}{h':UP}
theorem Ik(I:Inv X pins σ H s)(k:∀b o,s.heap.get? b=some o->uO X H b->b∉frs X.stack->h'.get? b=some o):pT X.prog X.w H h':=λa ob ea=>
 (I.hok a ob ea).stay (λb u hb q=>by
  have hn:H b≠none:=by
   rcases hb with e|e
   ·rw[e,ea];intro z;cases z
   ·rw[e];intro z;cases z
  exact k b u q (.inr (.inl hn)) λhf=>hn (I.stkFree b hf)) (λ_ q=>q) λ_ _ q=>q
theorem vQ(I:Inv X pins σ H s)(us:s.heap.UpToSlots h'){b:UN}{o:Obj}(hb:b∈frs X.stack)(e:s.heap.get? b=some o):∃sl,h'.get? b=some {o with slots:=sl}:=by
 obtain⟨_,o',e',nf⟩:=I.stack.mem hb;rw[e]at e';cases e';exact us b o e nf
theorem Kq(I:Inv X pins σ H s)(hx:X.ex=[])(hst:X.stack=X.env::X.outer)(hf:X.env.frame=some X.env.locals)(us:s.heap.UpToSlots h')(k:∀b o,s.heap.get? b=some o->uO X H b->b∉frs X.stack->h'.get? b=some o):
  Un (frs X.outer) [] X.H₀ H X.s₀.heap h':=by
 have U:=I.base;rw[hx]at U;have fr:frs X.stack=X.env.locals::frs X.outer:=by rw[hst];show List.filterMap _ (_::_)=_;rw[QN,hf];rfl
 have nl:∀b o,X.s₀.heap.get? b=some o->b≠X.env.locals:=λb o q z=>by
  have h1:=Uc q;have h2:=I.ok.above;rw[z]at h1;exact QJ _ (QI h1 h2)
 have nfr:∀b o,X.s₀.heap.get? b=some o->b∉frs X.outer->b∉frs X.stack:=λb o q nb z=>by
  rw[fr]at z;rcases List.mem_cons.mp z with z|z
  ·exact nl b o q z
  ·exact nb z
 refine⟨λb o q n nb _=>k b o (U.keep b o q n nb (by simp)) (.inl ⟨⟨o,q⟩,by rw[hx];simp⟩) (nfr b o q nb),λb o q n hb _=>?_,λb o q n _=>U.free b o q n (by simp),λb o q _=>?_,U.tups,U.frzs,U.tbls⟩
 ·obtain⟨sl,e⟩:=U.slot b o q n hb (by simp);obtain⟨sl',e'⟩:=vQ I us (by rw[fr];exact QP _ hb) e;exact⟨sl',e'⟩
 ·obtain⟨o1,e1⟩:=U.there b o q (by simp);by_cases hb:b∈frs X.stack
  ·obtain⟨sl,e⟩:=vQ I us hb e1;exact⟨_,e⟩
  ·exact⟨o1,k b o1 e1 (.inl ⟨⟨o,q⟩,by rw[hx];simp⟩) hb⟩
end
theorem Gp{P:UM}{w:UL}{K:Tu}{mg:Str->Option UK}{base:UP}{N:List Str}{qual:Str}{scope:UY}{f:UN}{cd:UK}{A:UW}{outer:List Env}{s:UX}{H:Hp}{E:XK}{σ:St}{O O':List UN}{H':Hp}{x:Ex}
  (hx:Pp K H O x E) (sm:bj H H') (hs:∀a∈O,a∈O'):Lv (kB (oW P w) P w K mg base N qual scope f cd A outer s H E) σ O' H' x:=by
 rintro pins s1 u H1 I s2 ⟨e,C,dx,rfl,hd,B,a0,b1,b2,b3,b4,b5⟩;have fin:∀h',Heap.FlyingW B outer e (.ref C) a0 h'->s1.heap.UpToSlots h'->oW P w outer H s E (.ref e) {s1 with heap:=h'}:=λh' fl us=>by
  have k:∀b o,s1.heap.get? b=some o->uO (kB (oW P w) P w K mg base N qual scope f cd A outer s H E) H1 b->b∉frs (kB (oW P w) P w K mg base N qual scope f cd A outer s H E).stack->h'.get? b=some o:=λb o q kb nf=>fl.1 b o (b5 b o q kb nf);have un:=Kq I rfl rfl rfl us k;have hok:=Ik I k;refine⟨e,C,dx,H1,B,a0,rfl,I.os,I.bare,un,hok,fl,λb o q hb nf=>?_,hx C dx H1 (sm.trans s2) (hd.mono (iQ hs))⟩;have nf2:b∉frs (kB (oW P w) P w K mg base N qual scope f cd A outer s H E).stack:=λz=>by
   rcases List.mem_cons.mp (show b∈s.heap.objs.size::frs outer from z)with z|z
   ·rcases hb with hb|hb
    ·obtain⟨o',hb⟩:=hb
     have:=Uc hb
     rw[z]at this;exact QJ _ this
    ·rw[z]at hb;exact hb I.free
   ·exact nf z
  have kb:uO (kB (oW P w) P w K mg base N qual scope f cd A outer s H E) H1 b:=hb.elim (λz=>.inl ⟨z,λy=>nomatch y⟩) λz=>.inr (.inl z);obtain⟨o1,e1⟩:∃o1,s1.heap.get? b=some o1:=by
   rcases hb with⟨o',hb⟩|hb
   ·exact I.base.there b o' hb (λz=>nomatch z)
   ·cases q0:H1 b with
    |none=>exact absurd q0 hb
    |some ob=>exact KP (I.hok b ob q0)
  have:=k b o1 e1 kb nf2
  rw[q]at this;cases this;exact b5 b _ e1 kb nf2
 show UZ _ _ (leaving (Ut qual scope s.heap.objs.size f cd) (.ref e)) _ _ s1;rcases b4 with b4|⟨oe,vs,c1,c2,c3,c4,c5⟩
 ·exact wpAny_leaves_onW I.ok.frames rfl ⟨b1,b2,b3,b4⟩ fin
 ·refine wpAny_leaving_firstW I.ok.frames b3 rfl c1 b1 b2 c3 c4 c5 λh' hL=>?_;obtain⟨k1,⟨_,_,k2⟩,k3,k4⟩:=hL;exact fin h' ⟨k1,b2,k2,c2 ▸ k3⟩ k4
end TG
namespace TG
open PySem PySem.Spec L2
variable[aW]
def ji(X:Cx)(σ:St)(O:List UN)(H:Hp){α:Type}(r:R α)(Q:α->Prop):Prop:=match r with
 |.ok a=>Q a
 |.error (some x)=>Lv X σ O H x
 |.error none=>False
section
variable{X:Cx}{σ:St}{O:List UN}{H H':Hp}{α β:Type}
theorem ji.bind{r:R α}{G:α->R β}{Q:β->Prop}(h:ji X σ O H (r.bind G) Q):ji X σ O H r λa=>ji X σ O H (G a) Q:=by
 match r,h with
 |.ok a,h=>exact h
 |.error (some x),h=>exact h
 |.error none,h=>exact h
theorem ji.imp{r:R α}{Q Q':α->Prop}(h:ji X σ O H r Q)(f:∀a,Q a->Q' a):ji X σ O H r Q':=by
 match r,h with
 |.ok a,h=>exact f a h
 |.error (some x),h=>exact h
 |.error none,h=>exact h
theorem ji.mono{r:R α}{Q:α->Prop}(h:ji X σ O H r Q)(s:bj H H'):ji X σ O H' r Q:=by
 match r,h with
 |.ok a,h=>exact h
 |.error (some x),h=>exact Lv.mono h s
 |.error none,h=>exact h
theorem ji.rO{o:Option α}{Q:α->Prop}(h:ji X σ O H (rO o) Q):∃a,o=some a/\Q a:=by
 match o,h with
 |some a,h=>exact⟨a,rfl,h⟩
 |none,h=>exact h.elim
end
abbrev FX:=aq->R D
def tF(X:Cx)(F:FX):TE:=λσ H Q=>∃O ρ,eI X.K O H ρ σ/\ji X σ O H (F ρ) λd=>∀v H',bj H H'->cJ X.K (hid H' O) d v->Q v H'
def NZ(X:Cx)(F:aq->R Bool):TT:=λσ H Q=>∃O ρ,eI X.K O H ρ σ/\ji X σ O H (F ρ) λb=>∀H',bj H H'->Q b H'
def NY(X:Cx)(F:aq->R (List D)):TA:=λσ H Q=>∃O ρ,eI X.K O H ρ σ/\ji X σ O H (F ρ) λds=>∀vs H',bj H H'->bb X.K (hid H' O) ds vs->Q vs H'
def FE(X:Cx)(e:U0)(F:FX):Prop:=PE X e (tF X F)
def FT(X:Cx)(e:U0)(F:aq->R Bool):Prop:=PT X e (NZ X F)
def FW(X:Cx)(e:U0)(F:aq->R Bool):Prop:=PW X e (NZ X F)
def FA(X:Cx)(es:List U0)(F:aq->R (List D)):Prop:=PA X es (NY X F)
theorem PE.weak{X:Cx}{e:U0}{t t':TE}(h:PE X e t)(w:∀σ H Q,t' σ H Q->t σ H Q):PE X e t':=λpins s σ H Q I q=>h pins s σ H Q I (w σ H Q q)
theorem PT.weak{X:Cx}{e:U0}{t t':TT}(h:PT X e t)(w:∀σ H Q,t' σ H Q->t σ H Q):PT X e t':=λpins s σ H Q I q=>h pins s σ H Q I (w σ H Q q)
theorem PW.weak{X:Cx}{e:U0}{t t':TT}(h:PW X e t)(w:∀σ H Q,t' σ H Q->t σ H Q):PW X e t':=λwhole pins s σ H Q I q=>h whole pins s σ H Q I (w σ H Q q)
theorem PA.weak{X:Cx}{es:List U0}{t t':TA}(h:PA X es t)(w:∀σ H Q,t' σ H Q->t σ H Q):PA X es t':=λpos pins s σ H Q I q=>h pos pins s σ H Q I (w σ H Q q)
theorem PS.weak{X:Cx}{st:U2}{t t':TS}(h:PS X st t)(w:∀D σ H,t' D σ H->t D σ H):PS X st t':=λpins s σ H Q I q=>h pins s σ H Q I (w Q σ H q)
theorem y8.weak{X:Cx}{st:List U2}{t t':TS}(h:y8 X st t)(w:∀D σ H,t' D σ H->t D σ H):y8 X st t':=λpins s σ H Q I q=>h pins s σ H Q I (w Q σ H q)
def uG(ρ:aq)(i:Nat):R D:=match ρ[i]? with
 |some (some (.val d))=>.ok d
 |_=>un
theorem G9{ρ:aq}{i:Nat}{d:D}(h:uG ρ i=.ok d):ρ[i]?=some (some (.val d)):=by
 unfold uG at h;split at h
 ·rename_i e;cases h;exact e
 ·cases h
def ah(i:Nat):FX:=λρ=>uG ρ i
def fC(d:D):FX:=λ_=>.ok d
section
variable{X:Cx}
theorem wJ{σ:St}{O:List UN}{H:Hp}{ρ:aq}{i:Nat}{Q:D->Prop}(h:ji X σ O H (uG ρ i) Q):∃d,ρ[i]?=some (some (.val d))/\Q d:=by
 cases e:uG ρ i with
 |ok d=>rw[e]at h;exact⟨d,G9 e,h⟩
 |error z=>
  rw[e]at h;cases z with
  |none=>exact h.elim
  |some x=>
   exfalso;unfold uG at e;split at e
   ·cases e
   ·have:=Except.error.inj e;cases this
theorem OQ{i:Nat}{x:Str}{pos:Pos}(h:PE X (.Name x pos) (qy i)):FE X (.Name x pos) (ah i):=
 PE.weak h λσ H Q ⟨O,ρ,E,hF⟩=>by
  obtain⟨d,e,q⟩:=wJ hF;obtain⟨v,e,dv⟩:=E.val i d e;exact⟨v,e,q v H (bj.refl H) dv⟩
theorem pP{e:U0}{d:D}{v:V}(h:PE X e (tC v))(hd:∀K H,cJ K H d v):FE X e (fC d):=
 PE.weak h λσ H Q ⟨O,ρ,E,q⟩=>q v H (bj.refl H) (hd _ _)
theorem Pj{i j pos}:FE X (.Constant (.int i) j pos) (fC (.int i)):=pP Fy λ_ _=>fE.mpr rfl
theorem Qh{b j pos}:FE X (.Constant (.bool b) j pos) (fC (.bl b)):=pP Mo λ_ _=>mI.mpr rfl
theorem N7{x j pos}:FE X (.Constant (.str x) j pos) (fC (.str x)):=pP J1 λ_ _=>fO.mpr rfl
def noStar:U0->Bool
 |.Starred _ _=>false
 |_=>true
theorem dh{e:U0}{es:List U0}{env:Env}(h:noStar e=true):U1 (e::es) env=(false,eval e env)::U1 es env:=by
 cases e<;>first|rfl|cases h
theorem gz{pos:Pos}{env:Env}:∀{es:List U0},es.all noStar=true->(backTo pos (U1 es env)).any (·.1)=false
 |[],_=>rfl
 |e::es,h=>by
  rw[RH,Rl]at h;rw[dh h.1];exact gz h.2
def aw:aq->R (List D):=λ_=>.ok []
def af(f:FX)(g:aq->R (List D)):aq->R (List D):=λρ=>(f ρ).bind λx=>(g ρ).bind λxs=>.ok (x::xs)
theorem Ko:FA X [] aw:=PA.weak pF λσ H Q ⟨O,ρ,E,q⟩=>q [] H (bj.refl H) (cI.mpr rfl)
theorem bind_some{α β:Type}{o:Option α}{f:α->Option β}{b:β}(h:o.bind f=some b):∃a,o=some a/\f a=some b:=by
 cases o with
 |none=>cases h
 |some a=>exact⟨a,rfl,h⟩
theorem sE{ε α β:Type}{o:Except ε α}{f:α->Except ε β}{b:β}(h:o.bind f=.ok b):∃a,o=.ok a/\f a=.ok b:=by
 cases o with
 |error _=>cases h
 |ok a=>exact⟨a,rfl,h⟩
theorem Ij{e:U0}{es:List U0}{f:FX}{g:aq->R (List D)}(he:FE X e f)(hs:FA X es g)(hns:noStar e=true:=by rfl):FA X (e::es) (af f g):=
 PA.weak (j6 he hs (dh hns)) λσ H Q ⟨O,ρ,E,h⟩=>
  ⟨O,ρ,E,(ji.bind h).imp λx h v H1 s1 d1=>⟨O,ρ,E.same s1,((ji.bind h).mono s1).imp λxs q vs H2 s2 d2=>q (v::vs) H2 (s1.trans s2) (bo.mpr ⟨v,vs,rfl,d1.mono (bN s2),d2⟩)⟩⟩
def small(n:Nat):Bool:=decide (n<=100000)
theorem eM{n:Nat}(h:small n=true):n<=UQ:=QL (of_decide_eq_true h) (by decide)
theorem dE{n:Nat}(h:n<=100000):small n=true:=decide_eq_true h
def v9(xs:List D):Option D:=if small xs.length then some (.tup xs)else none
def ku(xs:List D):Option D:=if small xs.length then some (.lst xs)else none
def fF(g:aq->R (List D)):FX:=λρ=>(g ρ).bind λxs=>rO (v9 xs)
def jM(g:aq->R (List D)):FX:=λρ=>(g ρ).bind λxs=>rO (ku xs)
theorem bI{α:Type}{c:Bool}{a b:α}(h:(if c then some a else none)=some b):c=true/\a=b:=by
 cases c with
 |true=>exact⟨rfl,Option.some.inj h⟩
 |false=>cases h
theorem e7{K:Tu}{H:Hp}{O:List UN}{p:UN}{ds:List D}{vs:List V}(hO:dU H O)(hp:H p=none)(d:bb K (hid H O) ds vs):cJ K (hid (upd H p (.tup vs)) O) (.tup ds) (.ref p):=
 cN.mpr ⟨p,vs,rfl,by rw[ja (hO.not hp),aY],d.mono (sP hp)⟩
theorem dH{K:Tu}{H:Hp}{O:List UN}{p:UN}{ds:List D}{vs:List V}(hO:dU H O)(hp:H p=none)(d:bb K (hid H O) ds vs):cJ K (hid (upd H p (.lst vs)) O) (.lst ds) (.ref p):=
 cT.mpr ⟨p,vs,rfl,pH.of (by rw[ja (hO.not hp),aY]),d.mono (sP hp)⟩
theorem OX{es:List U0}{g:aq->R (List D)}{k pos}(h:FA X es g):FE X (.Tuple es k pos) (fF g):=
 PE.weak (JR h) λσ H Q ⟨O,ρ,E,hF⟩=>⟨O,ρ,E,(ji.bind hF).imp λxs hF vs H1 s1 d1=>by
  obtain⟨d,e,q⟩:=ji.rO hF;obtain⟨hz,e⟩:=bI e;subst e;refine⟨by rw[<-d1.length];exact eM hz,λp hp=>?_⟩;exact q _ _ (s1.trans (bL hp _)) (e7 (E.all.same s1) hp d1)⟩
theorem Of{es:List U0}{g:aq->R (List D)}{pos}(h:FA X es g):FE X (.List es pos) (jM g):=
 PE.weak (Bb h) λσ H Q ⟨O,ρ,E,hF⟩=>⟨O,ρ,E,(ji.bind hF).imp λxs hF vs H1 s1 d1=>by
  obtain⟨d,e,q⟩:=ji.rO hF;obtain⟨hz,e⟩:=bI e;subst e;refine⟨by rw[<-d1.length];exact eM hz,λp hp=>?_⟩;exact q _ _ (s1.trans (bL hp _)) (dH (E.all.same s1) hp d1)⟩
def IK(K:Tu)(r:V->Hp->VK->Prop)(g:D->Option D):Prop:=
 ∀(a d:D)(x:V)(O:List UN)(H:Hp)(Q:VK),dU H O->g a=some d->cJ K (hid H O) a x->(∀v H',bj H H'->cJ K (hid H' O) d v->Q v H')->r x H Q
def f1(g:D->Option D)(f:FX):FX:=λρ=>(f ρ).bind λa=>rO (g a)
def cX(K:Tu)(r:R2)(g:D->D->Option D):Prop:=
 ∀(a b d:D)(x y:V)(O:List UN)(H:Hp)(Q:VK),dU H O->g a b=some d->cJ K (hid H O) a x->cJ K (hid H O) b y->(∀v H',bj H H'->cJ K (hid H' O) d v->Q v H')->r x y H Q
def f2(g:D->D->Option D)(f1 f2:FX):FX:=λρ=>(f1 ρ).bind λa=>(f2 ρ).bind λb=>rO (g a b)
theorem xM{r:R2}{g:D->D->Option D}{fa fb:FX}(s:cX X.K r g):∀σ H Q,tF X (f2 g fa fb) σ H Q->LZ r (tF X fa) (tF X fb) σ H Q:=λσ H Q ⟨O,ρ,E,hF⟩=>
 ⟨O,ρ,E,(ji.bind hF).imp fun a hF x H1 s1 d1=>⟨O,ρ,E.same s1,((ji.bind hF).mono s1).imp fun b hF y H2 s2 d2=>by
  obtain⟨d,e,q⟩:=ji.rO hF;exact s a b d x y O H2 Q (E.all.same (s1.trans s2)) e (d1.mono (bN s2)) d2 λv H3 s3 d3=>q v H3 ((s1.trans s2).trans s3) d3⟩⟩
theorem Oc{a b:U0}{op:Operator}{r:R2}{g:D->D->Option D}{fa fb:FX}{pos:Pos}(ho:j7 X (Ve op) r)(s:cX X.K r g)(ha:FE X a fa)(hb:FE X b fb):FE X (.BinOp a op b pos) (f2 g fa fb):=
 PE.weak (L6 ho ha hb) (xM s)
theorem N5{a b:U0}{op:Vg}{r:R2}{g:D->D->Option D}{fa fb:FX}{pos:Pos}(ho:j7 X (Vf op) r)(s:cX X.K r g)(ha:FE X a fa)(hb:FE X b fb)(hm:Vh op b=false):FE X (.Compare a [op] [b] pos) (f2 g fa fb):=
 PE.weak (Io ho ha hb hm) (xM s)
def Oo:D->Option Bool
 |.bl b=>some b
 |_=>none
def fB(f:FX):aq->R Bool:=λρ=>(f ρ).bind λd=>rO (Oo d)
theorem yA{t:TE}{f:FX}(h:∀σ H Q,tF X f σ H Q->t σ H Q):∀σ H Q,NZ X (fB f) σ H Q->Gy t σ H Q:=λσ H Q ⟨O,ρ,E,hF⟩=>
 h σ H _ ⟨O,ρ,E,(ji.bind hF).imp λd hF v H1 s1 d1=>by
  obtain⟨b,e,q⟩:=ji.rO hF;cases d with
  |bl b'=>
   cases e;exact⟨b,mI.mp d1,q H1 s1⟩
  |_=>cases e⟩
theorem OZ{a b:U0}{op:Vg}{r:R2}{g:D->D->Option D}{fa fb:FX}{pos:Pos}(ho:j7 X (Vf op) r)(s:cX X.K r g)(ha:FE X a fa)(hb:FE X b fb)(hm:Vh op b=false):FT X (.Compare a [op] [b] pos) (fB (f2 g fa fb)):=
 PT.weak (Hg ho ha hb hm) (yA (xM s))
def BU(K:Tu)(r:List V->Hp->VK->Prop)(g:List D->Option D):Prop:=
 ∀(ds:List D)(d:D)(xs:List V)(O:List UN)(H:Hp)(Q:VK),dU H O->g ds=some d->bb K (hid H O) ds xs->(∀v H',bj H H'->cJ K (hid H' O) d v->Q v H')->r xs H Q
def fL(g:List D->Option D)(f:aq->R (List D)):FX:=λρ=>(f ρ).bind λds=>rO (g ds)
def fR(g:List D->R D)(f:aq->R (List D)):FX:=λρ=>(f ρ).bind g
theorem Ff{r:List V->Hp->VK->Prop}{g:List D->Option D}{f:aq->R (List D)}(s:BU X.K r g):∀σ H Q,tF X (fL g f) σ H Q->P7 r (NY X f) σ H Q:=λσ H Q ⟨O,ρ,E,hF⟩=>
 ⟨O,ρ,E,(ji.bind hF).imp fun ds hF vs H1 s1 d1=>by
  obtain⟨d,e,q⟩:=ji.rO hF;exact s ds d vs O H1 Q (E.all.same s1) e d1 λv H2 s2 d2=>q v H2 (s1.trans s2) d2⟩
def tS(f:aq->R Bool):aq->R Bool:=λρ=>(f ρ).bind λb=>.ok (!b)
def Fk(f g:aq->R Bool):aq->R Bool:=λρ=>(f ρ).bind λb=>if b then g ρ else .ok false
def Ek(f g:aq->R Bool):aq->R Bool:=λρ=>(f ρ).bind λb=>if b then .ok true else g ρ
variable{a b c:U0}{rest:List U0}{pos:Pos}{f g:aq->R Bool}
theorem Pb(h:FT X a f):FT X (.UnaryOp .Not a pos) (tS f):=PT.weak (K5 h) λσ H Q ⟨O,ρ,E,hF⟩=>⟨O,ρ,E,(ji.bind hF).imp λb q H1 s1=>q H1 s1⟩
theorem NA(h:FT X a f):FW X (.BoolOp .And [a] pos) f:=HF h
theorem PP(h:FT X a f):FW X (.BoolOp .Or [a] pos) f:=JV h
theorem OY(ha:FT X a f)(hb:FW X (.BoolOp .And (b::rest) pos) g):FW X (.BoolOp .And (a::b::rest) pos) (Fk f g):=PW.weak (J2 ha hb) λσ H Q ⟨O,ρ,E,hF⟩=>⟨O,ρ,E,(ji.bind hF).imp λc hF H1 s1=>by
 cases c with
 |true=>exact C2 ⟨O,ρ,E.same s1,(hF.mono s1).imp λb q H2 s2=>q H2 (s1.trans s2)⟩
 |false=>exact DP (hF H1 s1)⟩
theorem Qr(ha:FT X a f)(hb:FW X (.BoolOp .Or (b::rest) pos) g):FW X (.BoolOp .Or (a::b::rest) pos) (Ek f g):=PW.weak (LU ha hb) λσ H Q ⟨O,ρ,E,hF⟩=>⟨O,ρ,E,(ji.bind hF).imp λc hF H1 s1=>by
 cases c with
 |false=>exact DP ⟨O,ρ,E.same s1,(hF.mono s1).imp λb q H2 s2=>q H2 (s1.trans s2)⟩
 |true=>exact C2 (hF H1 s1)⟩
theorem FW.ft{e:U0}(h:FW X e f):FT X e f:=PW.pt h
def truth:D->Option Bool
 |.non=>some false
 |.bl b=>some b
 |.int i=>some (i !=0)
 |.str x=>if small x.length then some (x.length !=0)else none
 |.tup xs=>some (!xs.isEmpty)
 |.lst xs=>some (!xs.isEmpty)
 |_=>none
def fT(f:FX):aq->R Bool:=λρ=>(f ρ).bind λd=>rO (truth d)
def Av(d:D)(k:R D):R D:=match d with
 |.bl true=>k
 |.bl false=>.ok (.bl false)
 |_=>un
def MU(d:D)(k:R D):R D:=match d with
 |.bl false=>k
 |.bl true=>.ok (.bl true)
 |_=>un
def EX:D->Option D
 |.bl b=>some (.bl (!b))
 |_=>none
def sd(f g:FX):FX:=λρ=>(f ρ).bind λd=>Av d (g ρ)
def PV(f g:FX):FX:=λρ=>(f ρ).bind λd=>MU d (g ρ)
def BZ(f:FX):FX:=f1 EX f
variable{fa fb:FX}
theorem P5{op}(h:FE X a fa):FE X (.BoolOp op [a] pos) fa:=KZ h
theorem OV(ha:FE X a fa)(hb:FE X (.BoolOp .And (b::rest) pos) fb):FE X (.BoolOp .And (a::b::rest) pos) (sd fa fb):=PE.weak (Lj ha hb) λσ H Q ⟨O,ρ,E,hF⟩=>⟨O,ρ,E,(ji.bind hF).imp λd hF x H1 s1 d1=>by
 cases d with
 |bl c=>
  refine⟨c,mI.mp d1,?_⟩;cases c with
  |true=>exact C2 ⟨O,ρ,E.same s1,(hF.mono s1).imp λd q v H2 s2 d2=>q v H2 (s1.trans s2) d2⟩
  |false=>exact DP (hF _ H1 s1 (mI.mpr rfl))
 |_=>exact hF.elim⟩
theorem OL(ha:FE X a fa):FE X (.UnaryOp .Not a pos) (BZ fa):=PE.weak (La ha) λσ H Q ⟨O,ρ,E,hF⟩=>⟨O,ρ,E,(ji.bind hF).imp λd hF x H1 s1 d1=>by
 obtain⟨d',e,q⟩:=ji.rO hF;cases d with
 |bl c=>
  cases e;exact⟨c,mI.mp d1,q _ H1 s1 (mI.mpr rfl)⟩
 |_=>cases e⟩
def Qs(t:aq->R Bool)(f g:FX):FX:=λρ=>(t ρ).bind λc=>if c then f ρ else g ρ
end
end TG
namespace TG
open PySem PySem.Spec L2
variable[aW]
open PySem.SeqAt (EqAt RcAt RcNeAt)
mutual
def pyEq:D->D->Bool
 |.non,.non=>true
 |.bl a,.bl b=>a==b
 |.bl a,.int b=>(if a then 1 else 0)==b
 |.int a,.bl b=>a==(if b then 1 else 0)
 |.int a,.int b=>a==b
 |.str a,.str b=>a==b
 |.tup xs,.tup ys=>ny xs ys
 |.lst xs,.lst ys=>ny xs ys
 |.dct _ _,.dct _ _=>true
 |.obj _ _ _,.obj _ _ _=>true
 |.exc _ _ _,.exc _ _ _=>true
 |_,_=>false
def ny:List D->List D->Bool
 |[],[]=>true
 |x::xs,y::ys=>pyEq x y&&ny xs ys
 |_,_=>false
end
mutual
theorem qW:∀d:D,pyEq d d=true
 |.non=>by unfold pyEq;rfl
 |.bl b=>by unfold pyEq;simp
 |.int i=>by unfold pyEq;simp
 |.str x=>by unfold pyEq;simp
 |.tup xs=>by unfold pyEq;exact pG xs
 |.lst xs=>by unfold pyEq;exact pG xs
 |.dct _ _=>by unfold pyEq;rfl
 |.obj _ _ _=>by unfold pyEq;rfl
 |.exc _ _ _=>by unfold pyEq;rfl
theorem pG:∀ds:List D,ny ds ds=true
 |[]=>by unfold ny;rfl
 |d::ds=>by unfold ny;rw[qW d,pG ds];rfl
end
def Bn(xs ys:List D)(j:Nat):Bool:=match xs[j]?,ys[j]? with
 |some a,some b=>pyEq a b
 |_,_=>false
theorem iw:∀xs ys:List D,((List.range (min xs.length ys.length)).all (Bn xs ys)&&xs.length==ys.length)=ny xs ys
 |[],[]=>by unfold ny;rfl
 |[],_::_=>by unfold ny;simp
 |_::_,[]=>by unfold ny;simp
 |x::xs,y::ys=>by
  have ih:=iw xs ys
  conv=>rhs;unfold ny
  rw[<-ih];have e:min (x::xs).length (y::ys).length=min xs.length ys.length+1:=by simp only[Q0];omega
  rw[e,RJ,RH,List.all_map];have e2:((x::xs).length==(y::ys).length)=(xs.length==ys.length):=by simp
  rw[e2,Bool.and_assoc];have e3:(List.range (min xs.length ys.length)).all (Bn (x::xs) (y::ys)∘Nat.succ)=(List.range (min xs.length ys.length)).all (Bn xs ys):=by
   congr 1
  rw[e3];rfl
mutual
def pl:D->Bool
 |.tup xs=>rM xs
 |.lst xs=>rM xs
 |.dct _ _=>false
 |.obj _ _ _=>false
 |.exc _ _ _=>false
 |_=>true
def rM:List D->Bool
 |[]=>true
 |x::xs=>pl x&&rM xs
end
theorem iy{ks vs:List D}(h:pl (.dct ks vs)=true):False:=by unfold pl at h;cases h
theorem gS{c:Str}{fs:List Str}{vs:List D}(h:pl (.obj c fs vs)=true):False:=by unfold pl at h;cases h
theorem gU{c:Str}{fs:List Str}{vs:List D}(h:pl (.exc c fs vs)=true):False:=by unfold pl at h;cases h
theorem oM:∀{xs:List D},rM xs=true->∀x∈xs,pl x=true
 |[],_,_,h=>nomatch h
 |x::xs,h,y,hy=>by
  unfold rM at h;rw[Rl]at h;rcases List.mem_cons.mp hy with z|z
  ·rw[z];exact h.1
  ·exact oM h.2 y z
theorem xq:∀{xs:List D},(∀x∈xs,pl x=true)->rM xs=true
 |[],_=>by unfold rM;rfl
 |x::xs,h=>by
  unfold rM;rw[Rl];exact⟨h x QO,xq λy hy=>h y (QP _ hy)⟩
theorem eA{xs:List D}:pl (.tup xs)=rM xs:=by rw[pl]
theorem fG{xs:List D}:pl (.lst xs)=rM xs:=by rw[pl]
def iT:Nat->D->Bool
 |n+1,.tup xs=>xs.all (iT n)
 |n+1,.lst xs=>xs.all (iT n)
 |0,.tup _=>false
 |0,.lst _=>false
 |_,.dct _ _=>false
 |_,.obj _ _ _=>false
 |_,.exc _ _ _=>false
 |_,_=>true
section
variable{X:Cx}{pins:List (UN×Obj)}{σ:St}{H:Hp}{s:UX}
theorem Inv.not_both(I:Inv X pins σ H s){a:UN}{xs ys:List V}(h:qN X.K H a xs)(h':pH X.K H a ys):False:=by
 obtain⟨its,_,ht,_⟩:=I.tuple h;obtain⟨its2,_,hl,_⟩:=I.list h';exact absurd rfl (SeqAt.ne_of_list_tuple hl.isList (show s.heap.IsTuple a its.toArray from ht))
mutual
theorem Inv.den_inj(I:Inv X pins σ H s):∀{a b:D}{v:V},pl a=true->pl b=true->cJ X.K H a v->cJ X.K H b v->a=b
 |.non,b,v,pa,pb,h,h'=>by
  rw[mj]at h;subst h;cases b with
  |non=>rfl
  |bl _=>rw[mI]at h';cases h'
  |int _=>rw[fE]at h';cases h'
  |str _=>rw[fO]at h';cases h'
  |tup _=>rw[cN]at h';obtain⟨_,_,e,_⟩:=h';cases e
  |lst _=>rw[cT]at h';obtain⟨_,_,e,_⟩:=h';cases e
  |dct _ _=>exact(iy pb).elim
  |obj _ _ _=>exact(gS pb).elim
  |exc _ _ _=>exact(gU pb).elim
 |.bl x,b,v,pa,pb,h,h'=>by
  rw[mI]at h;subst h;cases b with
  |non=>rw[mj]at h';cases h'
  |bl _=>rw[mI]at h';cases h';rfl
  |int _=>rw[fE]at h';cases h'
  |str _=>rw[fO]at h';cases h'
  |tup _=>rw[cN]at h';obtain⟨_,_,e,_⟩:=h';cases e
  |lst _=>rw[cT]at h';obtain⟨_,_,e,_⟩:=h';cases e
  |dct _ _=>exact(iy pb).elim
  |obj _ _ _=>exact(gS pb).elim
  |exc _ _ _=>exact(gU pb).elim
 |.int x,b,v,pa,pb,h,h'=>by
  rw[fE]at h;subst h;cases b with
  |non=>rw[mj]at h';cases h'
  |bl _=>rw[mI]at h';cases h'
  |int _=>rw[fE]at h';cases h';rfl
  |str _=>rw[fO]at h';cases h'
  |tup _=>rw[cN]at h';obtain⟨_,_,e,_⟩:=h';cases e
  |lst _=>rw[cT]at h';obtain⟨_,_,e,_⟩:=h';cases e
  |dct _ _=>exact(iy pb).elim
  |obj _ _ _=>exact(gS pb).elim
  |exc _ _ _=>exact(gU pb).elim
 |.str x,b,v,pa,pb,h,h'=>by
  rw[fO]at h;subst h;cases b with
  |non=>rw[mj]at h';cases h'
  |bl _=>rw[mI]at h';cases h'
  |int _=>rw[fE]at h';cases h'
  |str _=>rw[fO]at h';cases h';rfl
  |tup _=>rw[cN]at h';obtain⟨_,_,e,_⟩:=h';cases e
  |lst _=>rw[cT]at h';obtain⟨_,_,e,_⟩:=h';cases e
  |dct _ _=>exact(iy pb).elim
  |obj _ _ _=>exact(gS pb).elim
  |exc _ _ _=>exact(gU pb).elim
 |.tup xs,b,v,pa,pb,h,h'=>by
  rw[cN]at h;obtain⟨a,vs,e,h1,h2⟩:=h;subst e;cases b with
  |non=>rw[mj]at h';cases h'
  |bl _=>rw[mI]at h';cases h'
  |int _=>rw[fE]at h';cases h'
  |str _=>rw[fO]at h';cases h'
  |tup ys=>
   rw[cN]at h';obtain⟨a',vs',e,h1',h2'⟩:=h';cases e;have ev:=I.tuple_inj (qN.of h1) (qN.of h1');subst ev;rw[Inv.denL_inj I (by first|rw[<-eA];exact pa|rw[<-fG];exact pa) (by first|rw[<-eA];exact pb|rw[<-fG];exact pb) h2 h2']
  |lst _=>rw[cT]at h';obtain⟨_,_,e,h1',_⟩:=h';cases e;exact(Inv.not_both I (qN.of h1) h1').elim
  |dct _ _=>exact(iy pb).elim
  |obj _ _ _=>exact(gS pb).elim
  |exc _ _ _=>exact(gU pb).elim
 |.lst xs,b,v,pa,pb,h,h'=>by
  rw[cT]at h;obtain⟨a,vs,e,h1,h2⟩:=h;subst e;cases b with
  |non=>rw[mj]at h';cases h'
  |bl _=>rw[mI]at h';cases h'
  |int _=>rw[fE]at h';cases h'
  |str _=>rw[fO]at h';cases h'
  |lst ys=>
   rw[cT]at h';obtain⟨a',vs',e,h1',h2'⟩:=h';cases e;have ev:=I.list_inj h1 h1';subst ev;rw[Inv.denL_inj I (by first|rw[<-eA];exact pa|rw[<-fG];exact pa) (by first|rw[<-eA];exact pb|rw[<-fG];exact pb) h2 h2']
  |tup _=>rw[cN]at h';obtain⟨_,_,e,h1',_⟩:=h';cases e;exact(Inv.not_both I (qN.of h1') h1).elim
  |dct _ _=>exact(iy pb).elim
  |obj _ _ _=>exact(gS pb).elim
  |exc _ _ _=>exact(gU pb).elim
 |.dct _ _,_,_,pa,_,_,_=>(iy pa).elim
 |.obj _ _ _,_,_,pa,_,_,_=>(gS pa).elim
 |.exc _ _ _,_,_,pa,_,_,_=>(gU pa).elim
theorem Inv.denL_inj(I:Inv X pins σ H s):∀{as bs:List D}{vs:List V},rM as=true->rM bs=true->bb X.K H as vs->bb X.K H bs vs->as=bs
 |[],bs,vs,pa,pb,h,h'=>by
  rw[cI]at h;subst h;cases bs with
  |nil=>rfl
  |cons b bs=>rw[bo]at h';obtain⟨_,_,e,_⟩:=h';cases e
 |a::as,bs,vs,pa,pb,h,h'=>by
  rw[bo]at h;obtain⟨v,r,e,h1,h2⟩:=h;subst e;cases bs with
  |nil=>rw[cI]at h';cases h'
  |cons b bs=>
   rw[bo]at h';obtain⟨v',r',e,h1',h2'⟩:=h';cases e;unfold rM at pa pb;rw[Rl]at pa pb;rw[Inv.den_inj I pa.1 pb.1 h1 h1',Inv.denL_inj I pa.2 pb.2 h2 h2']
end
def oU:D->Option V
 |.non=>some .non
 |.bl b=>some (.bl b)
 |.int i=>some (.int i)
 |.str x=>some (.str x)
 |_=>none
theorem qM{K:Tu}{d:D}{v x:V}(h:oU d=some x)(hd:cJ K H d v):v=x/\GB x=true:=by
 cases d with
 |non=>cases h;exact⟨mj.mp hd,rfl⟩
 |bl b=>cases h;exact⟨mI.mp hd,rfl⟩
 |int i=>cases h;exact⟨fE.mp hd,rfl⟩
 |str y=>cases h;exact⟨fO.mp hd,rfl⟩
 |_=>cases h
theorem Jc{a b:D}{x y:V}(ha:oU a=some x)(hb:oU b=some y):Oa x y=pyEq a b:=by
 cases a<;>cases ha<;>cases b<;>cases hb<;>(unfold pyEq Oa;rfl)
theorem zN{a:D}{x:V}(n:Nat)(h:oU a=some x):iT n a=true:=by
 cases a with
 |tup _=>cases h
 |lst _=>cases h
 |dct _ _=>cases h
 |obj _ _ _=>cases h
 |exc _ _ _=>cases h
 |_=>cases n<;>rfl
theorem yr{a:D}(h:oU a=none):iT 0 a=false:=by
 cases a with
 |tup _=>rfl
 |lst _=>rfl
 |dct _ _=>rfl
 |obj _ _ _=>rfl
 |exc _ _ _=>rfl
 |_=>cases h
theorem in1_units(A:UW):A.in1.units=A.units+1:=rfl
theorem pY{vs:List V}{us:List UK}(r:Vals vs us){j:Nat}(h:j<us.toArray.size):∃x,vs[j]?=some x/\RelV x us.toArray[j]:=by
 have hj:j<us.length:=by simpa using h
 have hl:=r.length;have hv:j<vs.length:=by omega
 obtain⟨u,e,ru⟩:=r.get (i:=j) (x:=vs[j]) (by simp[hv]);refine⟨vs[j],by simp[hv],?_⟩;have e2:us.toArray[j]=u:=by
  rw[RK hj]at e
  simpa using Option.some.inj e
 rw[e2];exact ru
theorem pL{K:Tu}{ds:List D}{vs:List V}(h:bb K H ds vs){j:Nat}{x:V}(e:vs[j]?=some x):∃d,ds[j]?=some d/\cJ K H d x:=by
 have hj:j<vs.length:=(List.getElem?_eq_some_iff.mp e).1;have hl:=h.length;have hd:j<ds.length:=by omega
 obtain⟨v,e1,e2⟩:=h.get (i:=j) (d:=ds[j]) (by simp[hd]);rw[e]at e1;cases e1;exact⟨ds[j],by simp[hd],e2⟩
theorem GC(I:Inv X pins σ H s):∀(n:Nat)(a b:D)(x y:V)(u v:UK)(A:UW),pl a=true->pl b=true->(iT n a=true\/iT n b=true)->cJ X.K H a x->cJ X.K H b y->RelV x u->RelV y v->A.units+n<Vp->EqAt A s u v (pyEq a b):=by
 intro n
 induction n with
 |zero=>
  intro a b x y u v A pa pb hd ha hb ru rv hA;have hu:A.units<Vp:=hA;cases ha':oU a with
  |some x'=>
   obtain⟨e,f⟩:=qM ha' ha;subst e;cases hb':oU b with
   |some y'=>
    obtain⟨e,f'⟩:=qM hb' hb;subst e;rw[<-Jc ha' hb'];exact KY ru rv f f'
   |none=>
    cases b with
    |tup ys=>
     rw[cN]at hb;obtain⟨p,vs,e,h1,h2⟩:=hb;subst e;cases rv;obtain⟨its,_,ht,_⟩:=I.tuple (qN.of h1);have ht':s.heap.IsTuple p its.toArray:=ht;cases a with
     |non=>cases ha';cases ru;unfold pyEq;exact .none_tuple ht' hu
     |bl z=>cases ha';cases ru;unfold pyEq;exact .bool_tuple z ht' hu
     |int z=>cases ha';obtain⟨t,rfl⟩:=ru;unfold pyEq;exact .int_tuple z t ht' hu
     |str z=>cases ha';obtain⟨t,rfl⟩:=ru;unfold pyEq;exact .str_tuple z t ht' hu
     |_=>cases ha'
    |lst ys=>
     rw[cT]at hb;obtain⟨p,vs,e,h1,h2⟩:=hb;subst e;cases rv;obtain⟨its,_,ht,_⟩:=I.list h1;have ht':s.heap.IsList p its.toArray:=ht.isList;cases a with
     |non=>cases ha';cases ru;unfold pyEq;exact .none_list ht' hu
     |bl z=>cases ha';cases ru;unfold pyEq;exact .bool_list z ht' hu
     |int z=>cases ha';obtain⟨t,rfl⟩:=ru;unfold pyEq;exact .int_list z t ht' hu
     |str z=>cases ha';obtain⟨t,rfl⟩:=ru;unfold pyEq;exact .str_list z t ht' hu
     |_=>cases ha'
    |dct _ _=>exact(iy pb).elim
    |obj _ _ _=>exact(gS pb).elim
    |exc _ _ _=>exact(gU pb).elim
    |_=>cases hb'
  |none=>
   have hdb:iT 0 b=true:=by
    rcases hd with hd|hd
    ·rw[yr ha']at hd;cases hd
    ·exact hd
   cases hb':oU b with
   |none=>rw[yr hb']at hdb;cases hdb
   |some y'=>
    obtain⟨e,f'⟩:=qM hb' hb;subst e;cases a with
    |tup xs=>
     rw[cN]at ha;obtain⟨p,vs,e,h1,h2⟩:=ha;subst e;cases ru;obtain⟨its,_,ht,_⟩:=I.tuple (qN.of h1);have ht':s.heap.IsTuple p its.toArray:=ht;cases b with
     |non=>cases hb';cases rv;unfold pyEq;exact .tuple_none ht' hu
     |bl z=>cases hb';cases rv;unfold pyEq;exact .tuple_bool z ht' hu
     |int z=>cases hb';obtain⟨t,rfl⟩:=rv;unfold pyEq;exact .tuple_int z t ht' hu
     |str z=>cases hb';obtain⟨t,rfl⟩:=rv;unfold pyEq;exact .tuple_str z t ht' hu
     |_=>cases hb'
    |lst xs=>
     rw[cT]at ha;obtain⟨p,vs,e,h1,h2⟩:=ha;subst e;cases ru;obtain⟨its,_,ht,_⟩:=I.list h1;have ht':s.heap.IsList p its.toArray:=ht.isList;cases b with
     |non=>cases hb';cases rv;unfold pyEq;exact .list_none ht' hu
     |bl z=>cases hb';cases rv;unfold pyEq;exact .list_bool z ht' hu
     |int z=>cases hb';obtain⟨t,rfl⟩:=rv;unfold pyEq;exact .list_int z t ht' hu
     |str z=>cases hb';obtain⟨t,rfl⟩:=rv;unfold pyEq;exact .list_str z t ht' hu
     |_=>cases hb'
    |dct _ _=>exact(iy pa).elim
    |obj _ _ _=>exact(gS pa).elim
    |exc _ _ _=>exact(gU pa).elim
    |_=>cases ha'
 |succ n ih=>
  intro a b x y u v A pa pb hd ha hb ru rv hA;have hu:A.units<Vp:=by omega
  have flatWay:(∀xs ys,¬(a=.tup xs/\b=.tup ys))->(∀xs ys,¬(a=.lst xs/\b=.lst ys))->EqAt A s u v (pyEq a b):=by
   intro n1 n2;cases ha':oU a with
   |some x'=>exact ih a b x y u v A pa pb (.inl (zN n ha')) ha hb ru rv ‹0›
   |none=>
    cases hb':oU b with
    |some y'=>exact ih a b x y u v A pa pb (.inr (zN n hb')) ha hb ru rv ‹0›
    |none=>
     cases a with
     |tup xs=>
      cases b with
      |tup ys=>exact absurd ⟨rfl,rfl⟩ (n1 xs ys)
      |lst ys=>
       rw[cN]at ha;obtain⟨p,vs,e,h1,h2⟩:=ha;subst e;rw[cT]at hb;obtain⟨p',vs',e,h1',h2'⟩:=hb;subst e;cases ru;cases rv;obtain⟨its,_,ht,_⟩:=I.tuple (qN.of h1);obtain⟨its2,_,ht2,_⟩:=I.list h1';unfold pyEq;exact .tuple_list (show s.heap.IsTuple p its.toArray from ht) ht2.isList hu
      |dct _ _=>exact(iy pb).elim
      |obj _ _ _=>exact(gS pb).elim
      |exc _ _ _=>exact(gU pb).elim
      |_=>cases hb'
     |lst xs=>
      cases b with
      |lst ys=>exact absurd ⟨rfl,rfl⟩ (n2 xs ys)
      |tup ys=>
       rw[cT]at ha;obtain⟨p,vs,e,h1,h2⟩:=ha;subst e;rw[cN]at hb;obtain⟨p',vs',e,h1',h2'⟩:=hb;subst e;cases ru;cases rv;obtain⟨its,_,ht,_⟩:=I.list h1;obtain⟨its2,_,ht2,_⟩:=I.tuple (qN.of h1');unfold pyEq;exact .list_tuple ht.isList (show s.heap.IsTuple p' its2.toArray from ht2) hu
      |dct _ _=>exact(iy pb).elim
      |obj _ _ _=>exact(gS pb).elim
      |exc _ _ _=>exact(gU pb).elim
      |_=>cases hb'
     |dct _ _=>exact(iy pa).elim
     |obj _ _ _=>exact(gS pa).elim
     |exc _ _ _=>exact(gU pa).elim
     |_=>cases ha'
  have items:∀(xs ys:List D)(vs vs':List V)(its its':List UK),rM xs=true->rM ys=true->(iT (n+1) (.tup xs)=true\/iT (n+1) (.tup ys)=true)->bb X.K H xs vs->bb X.K H ys vs'->Vals vs its->Vals vs' its'->
    ∀j (h1:j<its.toArray.size) (h2:j<its'.toArray.size),EqAt A.in1 s its.toArray[j] its'.toArray[j] (Bn xs ys j):=by
   intro xs ys vs vs' its its' px py hdd hx hy rx ry j h1 h2;obtain⟨w1,e1,r1⟩:=pY rx h1;obtain⟨w2,e2,r2⟩:=pY ry h2;obtain⟨d1,f1,g1⟩:=pL hx e1;obtain⟨d2,f2,g2⟩:=pL hy e2;have e3:Bn xs ys j=pyEq d1 d2:=(by unfold Bn;rw[f1,f2]);rw[e3];refine ih d1 d2 w1 w2 _ _ A.in1 (oM px _ (Rg f1)) (oM py _ (Rg f2)) ?_ g1 g2 r1 r2 (by rw[in1_units];omega);rcases hdd with hdd|hdd
   ·exact .inl (List.all_eq_true.mp hdd d1 (Rg f1))
   ·exact .inr (List.all_eq_true.mp hdd d2 (Rg f2))
  by_cases hT:∃xs ys,a=.tup xs/\b=.tup ys
  ·obtain⟨xs,ys,rfl,rfl⟩:=hT;have da:=ha;have db:=hb;rw[cN]at ha hb;obtain⟨p,vs,e,h1,h2⟩:=ha;subst e;obtain⟨p',vs',e,h1',h2'⟩:=hb;subst e;cases ru;cases rv;by_cases hp:p=p'
   ·subst hp;have e:=Inv.den_inj I pa pb da db;rw[e,qW];exact EqAt.same _
   ·obtain⟨its,rv1,ht,_⟩:=I.tuple (qN.of h1);obtain⟨its2,rv2,ht2,_⟩:=I.tuple (qN.of h1');refine EqAt.of_refs hp ?_;have q:=RcAt.tuples (e:=Bn xs ys) (show s.heap.IsTuple p its.toArray from ht) (show s.heap.IsTuple p' its2.toArray from ht2) hu (items xs ys vs vs' its its2 (by first|rw[<-eA];exact pa|rw[<-fG];exact pa) (by first|rw[<-eA];exact pb|rw[<-fG];exact pb) hd h2 h2' rv1 rv2);have z1:its.toArray.size=xs.length:=(by rw[QY,<-rv1.length,<-h2.length]);have z2:its2.toArray.size=ys.length:=(by rw[QY,<-rv2.length,<-h2'.length]);rw[z1,z2,iw]at q;unfold pyEq;exact q
  ·by_cases hL:∃xs ys,a=.lst xs/\b=.lst ys
   ·obtain⟨xs,ys,rfl,rfl⟩:=hL;have da:=ha;have db:=hb;rw[cT]at ha hb;obtain⟨p,vs,e,h1,h2⟩:=ha;subst e;obtain⟨p',vs',e,h1',h2'⟩:=hb;subst e;cases ru;cases rv;by_cases hp:p=p'
    ·subst hp;have e:=Inv.den_inj I pa pb da db;rw[e,qW];exact EqAt.same _
    ·obtain⟨its,rv1,ht,_⟩:=I.list h1;obtain⟨its2,rv2,ht2,_⟩:=I.list h1';refine EqAt.of_refs hp ?_;have z1:its.toArray.size=xs.length:=(by rw[QY,<-rv1.length,<-h2.length]);have z2:its2.toArray.size=ys.length:=(by rw[QY,<-rv2.length,<-h2'.length]);have er:=iw xs ys;by_cases hz:its.toArray.size=its2.toArray.size
     ·have q:=RcAt.lists (e:=Bn xs ys) ht.isList ht2.isList hz hu (items xs ys vs vs' its its2 (by first|rw[<-eA];exact pa|rw[<-fG];exact pa) (by first|rw[<-eA];exact pb|rw[<-fG];exact pb) hd h2 h2' rv1 rv2);rw[z1]at q;have hz':xs.length=ys.length:=(by omega);rw[<-hz',RL]at er;simp only[beq_self_eq_true,RM]at er;rw[er]at q;unfold pyEq;exact q
     ·have hne:(its.toArray.size !=its2.toArray.size)=true:=(by simpa using hz);have q:=RcAt.lists_lengths (A:=A) ht.isList ht2.isList hne hu;have hz':(xs.length==ys.length)=false:=by
       rw[z1,z2]at hz
       simpa using hz
      rw[hz',Ro]at er;unfold pyEq;rw[<-er];exact q
   ·exact flatWay (λxs ys z=>hT ⟨xs,ys,z⟩) λxs ys z=>hL ⟨xs,ys,z⟩
end
end TG
namespace TG
open PySem PySem.Spec L2
variable[aW]
open PySem.SeqAt (EqAt RcAt RcNeAt)
section
variable{X:Cx}{pins:List (UN×Obj)}{σ:St}{H:Hp}{s:UX}
theorem sG(I:Inv X pins σ H s){n:Nat}{xs ys:List D}{vs vs':List V}{its its':List UK}{A:UW}(px:rM xs=true)(py:rM ys=true)(hdd:iT (n+1) (.tup xs)=true\/iT (n+1) (.tup ys)=true)(hx:bb X.K H xs vs)(hy:bb X.K H ys vs')(rx:Vals vs its)(ry:Vals vs' its')(hA:A.units+n<Vp):
  ∀j (h1:j<its.toArray.size) (h2:j<its'.toArray.size),EqAt A s its.toArray[j] its'.toArray[j] (Bn xs ys j):=by
 intro j h1 h2;obtain⟨w1,e1,r1⟩:=pY rx h1;obtain⟨w2,e2,r2⟩:=pY ry h2;obtain⟨d1,f1,g1⟩:=pL hx e1;obtain⟨d2,f2,g2⟩:=pL hy e2;have e3:Bn xs ys j=pyEq d1 d2:=by unfold Bn;rw[f1,f2]
 rw[e3];refine GC I n d1 d2 w1 w2 _ _ A (oM px _ (Rg f1)) (oM py _ (Rg f2)) ?_ g1 g2 r1 r2 hA;rcases hdd with hdd|hdd
 ·exact .inl (List.all_eq_true.mp hdd d1 (Rg f1))
 ·exact .inr (List.all_eq_true.mp hdd d2 (Rg f2))
inductive Way(I:Inv X pins σ H s):D->UK->Prop where
 |non:Way I .non .none
 |bl (b:Bool):Way I (.bl b) (.bool b)
 |int (i:Int) (t:Tok):Way I (.int i) (.int i t)
 |str (x:Str) (t:Tok):Way I (.str x) (.str x t)
 |tup {xs:List D} {p:UN} {vs:List V} {its:List UK} (h:bb X.K H xs vs) (r:Vals vs its) (t:s.heap.IsTuple p its.toArray):Way I (.tup xs) (.ref p)
 |lst {xs:List D} {p:UN} {vs:List V} {its:List UK} (h:bb X.K H xs vs) (r:Vals vs its) (t:s.heap.IsList p its.toArray):Way I (.lst xs) (.ref p)
def top:D->Bool
 |.dct _ _=>false
 |.obj _ _ _=>false
 |.exc _ _ _=>false
 |_=>true
theorem gI{d:D}(h:pl d=true):top d=true:=by
 cases d with
 |dct _ _=>exact(iy h).elim
 |obj _ _ _=>exact(gS h).elim
 |exc _ _ _=>exact(gU h).elim
 |_=>rfl
theorem fU(I:Inv X pins σ H s){d:D}{v:V}{u:UK}(pd:top d=true)(h:cJ X.K H d v)(r:RelV v u):Way I d u:=by
 cases d with
 |non=>rw[mj]at h;subst h;cases r;exact .non
 |bl b=>rw[mI]at h;subst h;cases r;exact .bl b
 |int i=>rw[fE]at h;subst h;obtain⟨t,rfl⟩:=r;exact .int i t
 |str x=>rw[fO]at h;subst h;obtain⟨t,rfl⟩:=r;exact .str x t
 |tup xs=>
  rw[cN]at h;obtain⟨p,vs,e,h1,h2⟩:=h;subst e;cases r;obtain⟨its,rv,ht,_⟩:=I.tuple (qN.of h1);exact .tup h2 rv ht
 |lst xs=>
  rw[cT]at h;obtain⟨p,vs,e,h1,h2⟩:=h;subst e;cases r;obtain⟨its,rv,ht,_⟩:=I.list h1;exact .lst h2 rv ht.isList
 |dct _ _=>cases pd
 |obj _ _ _=>cases pd
 |exc _ _ _=>cases pd
theorem K4(I:Inv X pins σ H s){n:Nat}{a b:D}{x y:V}{u v:UK}{A:UW}(pa:pl a=true)(pb:pl b=true)(hd:iT (n+1) a=true\/iT (n+1) b=true)(ha:cJ X.K H a x)(hb:cJ X.K H b y)(ru:RelV x u)(rv:RelV y v)(hA:A.units+n+1<Vp):RcAt A s u v (pyEq a b):=by
 have hu:A.units<Vp:=by omega
 cases fU I (gI pa) ha ru with
 |non=>cases fU I (gI pb) hb rv with
  |non=>unfold pyEq;exact .none_none
  |bl b=>unfold pyEq;exact .none_bool b
  |int i t=>unfold pyEq;exact .none_int i t
  |str x t=>unfold pyEq;exact .none_str x t
  |tup h r t=>unfold pyEq;exact .none_tuple t hu
  |lst h r t=>unfold pyEq;exact .none_list t hu
 |bl z=>cases fU I (gI pb) hb rv with
  |non=>unfold pyEq;exact .bool_none z
  |bl b=>unfold pyEq;exact .bool_bool z b
  |int i t=>unfold pyEq;exact .bool_int z i t
  |str x t=>unfold pyEq;exact .bool_str z x t
  |tup h r t=>unfold pyEq;exact .bool_tuple z t hu
  |lst h r t=>unfold pyEq;exact .bool_list z t hu
 |int z tz=>cases fU I (gI pb) hb rv with
  |non=>unfold pyEq;exact .int_none z tz
  |bl b=>unfold pyEq;exact .int_bool z tz b
  |int i t=>unfold pyEq;exact .int_int z tz i t
  |str x t=>unfold pyEq;exact .int_str z tz x t
  |tup h r t=>unfold pyEq;exact .int_tuple z tz t hu
  |lst h r t=>unfold pyEq;exact .int_list z tz t hu
 |str z tz=>cases fU I (gI pb) hb rv with
  |non=>unfold pyEq;exact .str_none z tz
  |bl b=>unfold pyEq;exact .str_bool z tz b
  |int i t=>unfold pyEq;exact .str_int z tz i t
  |str x t=>unfold pyEq;exact .str_str z tz x t
  |tup h r t=>unfold pyEq;exact .str_tuple z tz t hu
  |lst h r t=>unfold pyEq;exact .str_list z tz t hu
 |@tup xs p vs its h1 r1 t1=>cases fU I (gI pb) hb rv with
  |non=>unfold pyEq;exact .tuple_none t1 hu
  |bl b=>unfold pyEq;exact .tuple_bool b t1 hu
  |int i t=>unfold pyEq;exact .tuple_int i t t1 hu
  |str x t=>unfold pyEq;exact .tuple_str x t t1 hu
  |@tup ys p' vs' its' h2 r2 t2=>
   have q:=RcAt.tuples (e:=Bn xs ys) t1 t2 hu (sG (A:=A.in1) I (by first|rw[<-eA];exact pa|rw[<-fG];exact pa) (by first|rw[<-eA];exact pb|rw[<-fG];exact pb) hd h1 h2 r1 r2 (by rw[in1_units];omega));have z1:its.toArray.size=xs.length:=(by rw[QY,<-r1.length,<-h1.length]);have z2:its'.toArray.size=ys.length:=(by rw[QY,<-r2.length,<-h2.length]);rw[z1,z2,iw]at q;unfold pyEq;exact q
  |lst h r t=>unfold pyEq;exact .tuple_list t1 t hu
 |@lst xs p vs its h1 r1 t1=>cases fU I (gI pb) hb rv with
  |non=>unfold pyEq;exact .list_none t1 hu
  |bl b=>unfold pyEq;exact .list_bool b t1 hu
  |int i t=>unfold pyEq;exact .list_int i t t1 hu
  |str x t=>unfold pyEq;exact .list_str x t t1 hu
  |tup h r t=>unfold pyEq;exact .list_tuple t1 t hu
  |@lst ys p' vs' its' h2 r2 t2=>
   have z1:its.toArray.size=xs.length:=(by rw[QY,<-r1.length,<-h1.length]);have z2:its'.toArray.size=ys.length:=(by rw[QY,<-r2.length,<-h2.length]);have er:=iw xs ys;by_cases hz:its.toArray.size=its'.toArray.size
   ·have q:=RcAt.lists (e:=Bn xs ys) t1 t2 hz hu (sG (A:=A.in1) I (by first|rw[<-eA];exact pa|rw[<-fG];exact pa) (by first|rw[<-eA];exact pb|rw[<-fG];exact pb) hd h1 h2 r1 r2 (by rw[in1_units];omega));rw[z1]at q;have hz':xs.length=ys.length:=(by omega);rw[<-hz',RL]at er;simp only[beq_self_eq_true,RM]at er;rw[er]at q;unfold pyEq;exact q
   ·have q:=RcAt.lists_lengths (A:=A) t1 t2 (by simpa using hz) hu;have hz':(xs.length==ys.length)=false:=by
     rw[z1,z2]at hz
     simpa using hz
    rw[hz',Ro]at er;unfold pyEq;rw[<-er];exact q
theorem Gi(I:Inv X pins σ H s){n:Nat}{a b:D}{x y:V}{u v:UK}{A:UW}(pa:pl a=true)(pb:pl b=true)(hd:iT (n+1) a=true\/iT (n+1) b=true)(ha:cJ X.K H a x)(hb:cJ X.K H b y)(ru:RelV x u)(rv:RelV y v)(hA:A.units+n+1<Vp):RcNeAt A s u v (!pyEq a b):=by
 have hu:A.units<Vp:=by omega
 cases fU I (gI pa) ha ru with
 |non=>cases fU I (gI pb) hb rv with
  |non=>unfold pyEq;exact .none_none
  |bl b=>unfold pyEq;exact .none_bool b
  |int i t=>unfold pyEq;exact .none_int i t
  |str x t=>unfold pyEq;exact .none_str x t
  |tup h r t=>unfold pyEq;exact .none_tuple t hu
  |lst h r t=>unfold pyEq;exact .none_list t hu
 |bl z=>cases fU I (gI pb) hb rv with
  |non=>unfold pyEq;exact .bool_none z
  |bl b=>unfold pyEq;exact .bool_bool z b
  |int i t=>unfold pyEq;exact .bool_int z i t
  |str x t=>unfold pyEq;exact .bool_str z x t
  |tup h r t=>unfold pyEq;exact .bool_tuple z t hu
  |lst h r t=>unfold pyEq;exact .bool_list z t hu
 |int z tz=>cases fU I (gI pb) hb rv with
  |non=>unfold pyEq;exact .int_none z tz
  |bl b=>unfold pyEq;exact .int_bool z tz b
  |int i t=>unfold pyEq;exact .int_int z tz i t
  |str x t=>unfold pyEq;exact .int_str z tz x t
  |tup h r t=>unfold pyEq;exact .int_tuple z tz t hu
  |lst h r t=>unfold pyEq;exact .int_list z tz t hu
 |str z tz=>cases fU I (gI pb) hb rv with
  |non=>unfold pyEq;exact .str_none z tz
  |bl b=>unfold pyEq;exact .str_bool z tz b
  |int i t=>unfold pyEq;exact .str_int z tz i t
  |str x t=>unfold pyEq;exact .str_str z tz x t
  |tup h r t=>unfold pyEq;exact .str_tuple z tz t hu
  |lst h r t=>unfold pyEq;exact .str_list z tz t hu
 |@tup xs p vs its h1 r1 t1=>cases fU I (gI pb) hb rv with
  |non=>unfold pyEq;exact .tuple_none t1 hu
  |bl b=>unfold pyEq;exact .tuple_bool b t1 hu
  |int i t=>unfold pyEq;exact .tuple_int i t t1 hu
  |str x t=>unfold pyEq;exact .tuple_str x t t1 hu
  |@tup ys p' vs' its' h2 r2 t2=>
   have q:=RcNeAt.tuples (e:=Bn xs ys) t1 t2 hu (sG (A:=A.in1) I (by first|rw[<-eA];exact pa|rw[<-fG];exact pa) (by first|rw[<-eA];exact pb|rw[<-fG];exact pb) hd h1 h2 r1 r2 (by rw[in1_units];omega));have z1:its.toArray.size=xs.length:=(by rw[QY,<-r1.length,<-h1.length]);have z2:its'.toArray.size=ys.length:=(by rw[QY,<-r2.length,<-h2.length]);rw[z1,z2,iw]at q;unfold pyEq;exact q
  |lst h r t=>unfold pyEq;exact .tuple_list t1 t hu
 |@lst xs p vs its h1 r1 t1=>cases fU I (gI pb) hb rv with
  |non=>unfold pyEq;exact .list_none t1 hu
  |bl b=>unfold pyEq;exact .list_bool b t1 hu
  |int i t=>unfold pyEq;exact .list_int i t t1 hu
  |str x t=>unfold pyEq;exact .list_str x t t1 hu
  |tup h r t=>unfold pyEq;exact .list_tuple t1 t hu
  |@lst ys p' vs' its' h2 r2 t2=>
   have z1:its.toArray.size=xs.length:=(by rw[QY,<-r1.length,<-h1.length]);have z2:its'.toArray.size=ys.length:=(by rw[QY,<-r2.length,<-h2.length]);have er:=iw xs ys;by_cases hz:its.toArray.size=its'.toArray.size
   ·have q:=RcNeAt.lists (e:=Bn xs ys) t1 t2 hz hu (sG (A:=A.in1) I (by first|rw[<-eA];exact pa|rw[<-fG];exact pa) (by first|rw[<-eA];exact pb|rw[<-fG];exact pb) hd h1 h2 r1 r2 (by rw[in1_units];omega));rw[z1]at q;have hz':xs.length=ys.length:=(by omega);rw[<-hz',RL]at er;simp only[beq_self_eq_true,RM]at er;rw[er]at q;unfold pyEq;exact q
   ·have q:=RcNeAt.lists_lengths (A:=A) t1 t2 (by simpa using hz) hu;have hz':(xs.length==ys.length)=false:=by
     rw[z1,z2]at hz
     simpa using hz
    rw[hz',Ro]at er;unfold pyEq;rw[<-er];exact q
end
section
variable{X:Cx}
def rD(K:Tu)(g:D->D->Option D):R2:=λx y H Q=>∃O a b d,dU H O/\cJ K (hid H O) a x/\cJ K (hid H O) b y/\g a b=some d/\∀v H',bj H H'->cJ K (hid H' O) d v->Q v H'
theorem au{K:Tu}{g:D->D->Option D}:cX K (rD K g) g:=λa b d x y O H Q hO hg ha hb q=>⟨O,a,b,d,hO,ha,hb,hg,q⟩
theorem tx{f : UK -> UK -> Sem UK}{g : D -> D -> Option D}(h : ∀ (pins : List (UN × Obj)) (s : UX) (σ : St) (H : Hp) (a b d : D) (x y : V) (u v : UK), Inv X pins σ H s -> cJ X.K H a x -> cJ X.K H b y -> RelV x u -> RelV y v -> g a b = some d ->
      ∃c,d=.bl c/\∀(Q:UK->UX->Prop),Q (.bool c) s->UZ (model X.prog X.w) X.A (f u v) Q X.xe s):j7 X f (rD X.K g):=by
  intro pins s σ H x y u v Q I rx ry ⟨O,a,b,d,hO,ha,hb,hg,q⟩;obtain⟨c,rfl,hq⟩:=h pins s σ H a b d x y u v I (ha.mono (aB H O)) (hb.mono (aB H O)) rx ry hg;exact hq _ ⟨.bl c,H,I,rfl,q _ H (bj.refl H) (mI.mpr rfl)⟩
def lI(a b:D):Option D:=if(pl a&&pl b)&&(iT 8 a||iT 8 b)then some (.bl (pyEq a b))else none
def G6(a b:D):Option D:=if(pl a&&pl b)&&(iT 8 a||iT 8 b)then some (.bl (!pyEq a b))else none
theorem d7(hu:X.A.units+64<Vp):j7 X (Vf .Eq) (rD X.K lI):=tx λpins s σ H a b d x y u v I ha hb ru rv hg=>by
 obtain⟨h1,h2⟩:=bI hg;subst h2;rw[Rl,Rl,RN]at h1;exact⟨_,rfl,λQ q=>K4 (n:=7) (A:=X.A) I h1.1.1 h1.1.2 h1.2 ha hb ru rv ‹0› X.prog X.w X.xe Q q⟩
theorem AZ(hu:X.A.units+64<Vp):j7 X (Vf .NotEq) (rD X.K G6):=tx λpins s σ H a b d x y u v I ha hb ru rv hg=>by
 obtain⟨h1,h2⟩:=bI hg;subst h2;rw[Rl,Rl,RN]at h1;exact⟨_,rfl,λQ q=>Gi (n:=7) (A:=X.A) I h1.1.1 h1.1.2 h1.2 ha hb ru rv ‹0› X.prog X.w X.xe Q q⟩
def inD(x:D)(ys:List D):Bool:=ys.any λy=>pyEq y x
def JI(x y:D):Option D:=match y with
 |.tup ys=>if(pl x&&rM ys)&&iT 8 x then some (.bl (inD x ys))else none
 |.lst ys=>if(pl x&&rM ys)&&iT 8 x then some (.bl (inD x ys))else none
 |_=>none
open Classical in
theorem Jy{pins:List (UN×Obj)}{σ:St}{H:Hp}{s:UX}(I:Inv X pins σ H s){xd:D}{x:V}{u:UK}{A:UW}(px:pl xd=true)(hd:iT 8 xd=true)(hx:cJ X.K H xd x)(ru:RelV x u)(hA:A.units+8<Vp){ys:List D}{vs:List V}{its:List UK}(py:rM ys=true)(hy:bb X.K H ys vs)(rv:Vals vs its):
  ∃e:UK->Bool,(∀y,y∈its.toArray->EqAt A s y u (e y))/\its.toArray.any e=inD xd ys:=by
 let e:UK->Bool:=λy=>decide (∃d w,pl d=true/\cJ X.K H d w/\RelV w y/\pyEq d xd=true)
 have he:∀d w y,pl d=true->cJ X.K H d w->RelV w y->e y=pyEq d xd:=λd w y h0 h1 h2=>by
  cases hq:pyEq d xd with
  |true=>exact decide_eq_true ⟨d,w,h0,h1,h2,hq⟩
  |false=>
   refine decide_eq_false ?_;rintro⟨d',w',g0,g1,g2,g3⟩;have ew:=RelV.inj h2 g2;subst ew;rw[Inv.den_inj I h0 g0 h1 g1,g3]at hq;cases hq
 refine⟨e,λy hy'=>?_,?_⟩
 ·have hm:y∈its:=by simpa using hy'
  obtain⟨j,hj,rfl⟩:=RO hm;obtain⟨w,e1,r1⟩:=pY rv (j:=j) (by simpa using hj);obtain⟨d,f1,g1⟩:=pL hy e1;have r1':RelV w its[j]:=by simpa using r1
  have pd:=oM py _ (Rg f1);rw[he d w _ pd g1 r1'];exact GC I 8 d xd w x _ u A pd px (.inr hd) g1 hx r1' ru hA
 ·unfold inD;have go:∀(ys:List D)(vs:List V)(its:List UK),rM ys=true->bb X.K H ys vs->Vals vs its->its.any e=ys.any λy=>pyEq y xd:=by
   intro ys
   induction ys with
   |nil=>
    intro vs its py h r;rw[cI]at h;subst h;cases r;rfl
   |cons y ys ih=>
    intro vs its py h r;unfold rM at py;rw[Rl]at py;rw[bo]at h;obtain⟨v,r',e1,h1,h2⟩:=h;subst e1;cases r with
    |cons q1 q2=>rw[Rr,Rr,he y v _ py.1 h1 q1,ih _ _ py.2 h2 q2]
  rw[List.any_toArray];exact go ys vs its py hy rv
theorem Gx(hu:X.A.units+64<Vp):j7 X (Vf .In) (rD X.K JI):=tx λpins s σ H a b d x y u v I ha hb ru rv hg=>by
 cases b with
 |tup ys=>
  obtain⟨h1,h2⟩:=bI hg;subst h2;rw[Rl,Rl]at h1;rw[cN]at hb;obtain⟨p,vs,e,g1,g2⟩:=hb;subst e;cases rv;obtain⟨its,r,t,_⟩:=I.tuple (qN.of g1);obtain⟨e,he,ea⟩:=Jy (A:=X.A.in1) I h1.1.1 h1.2 ha ru (by rw[in1_units];omega) h1.1.2 g2 r;exact⟨_,rfl,λQ q=>SeqAt.in_tupleAt e (show s.heap.IsTuple p its.toArray from t) he (by rw[ea];exact q)⟩
 |lst ys=>
  obtain⟨h1,h2⟩:=bI hg;subst h2;rw[Rl,Rl]at h1;rw[cT]at hb;obtain⟨p,vs,e,g1,g2⟩:=hb;subst e;cases rv;obtain⟨its,r,t,_⟩:=I.list g1;obtain⟨e,he,ea⟩:=Jy (A:=X.A.in1) I h1.1.1 h1.2 ha ru (by rw[in1_units];omega) h1.1.2 g2 r;exact⟨_,rfl,λQ q=>SeqAt.in_listAt e t.isList he (by rw[ea];exact q)⟩
 |_=>cases hg
def Jp(p:Int->Int->D)(a b:D):Option D:=match a,b with
 |.int i,.int j=>some (p i j)
 |_,_=>none
def Qz:=Jp λi j=>.bl (decide (i<j))
def Qn:=Jp λi j=>.bl (decide (i<=j))
def N2:=Jp λi j=>.bl (decide (j<i))
def Qg:=Jp λi j=>.bl (decide (j<=i))
theorem oI{K:Tu}{g:Int->Int->Bool}:cX K (C9 λi j=>.bl (g i j)) (Jp λi j=>.bl (g i j)):=λa b d x y O H Q hO hg ha hb q=>by
 cases a with
 |int i=>
  cases b with
  |int j=>cases hg;exact⟨i,j,fE.mp ha,fE.mp hb,q _ H (bj.refl H) (mI.mpr rfl)⟩
  |_=>cases hg
 |_=>cases hg
theorem ue{K:Tu}{g:Int->Int->Int}:cX K (C9 λi j=>.int (g i j)) (Jp λi j=>.int (g i j)):=λa b d x y O H Q hO hg ha hb q=>by
 cases a with
 |int i=>
  cases b with
  |int j=>cases hg;exact⟨i,j,fE.mp ha,fE.mp hb,q _ H (bj.refl H) (fE.mpr rfl)⟩
  |_=>cases hg
 |_=>cases hg
def Lw(c:Int->Int->Bool)(p:Int->Int->Int)(a b:D):Option D:=match a,b with
 |.int i,.int j=>if c i j then some (.int (p i j))else none
 |_,_=>none
theorem li{K:Tu}{C:Int->Int->Prop}{c:Int->Int->Bool}{g:Int->Int->Int}(hc:∀i j,c i j=true->C i j):cX K (rI C λi j=>.int (g i j)) (Lw c g):=λa b d x y O H Q hO hg ha hb q=>by
 cases a with
 |int i=>
  cases b with
  |int j=>
   obtain⟨h1,h2⟩:=bI hg;subst h2;exact⟨i,j,fE.mp ha,fE.mp hb,hc i j h1,q _ H (bj.refl H) (fE.mpr rfl)⟩
  |_=>cases hg
 |_=>cases hg
def vz:=Jp λi j=>.int (i-j)
def o3:=Lw (λi j=>decide ((-(2^64)<i/\i<2^64)\/(-(2^64)<j/\j<2^64))) (·*·)
def JF(_ j:Int):Prop:=0<j/\j<10^200
theorem bn:j7 X (Ve .FloorDiv) (rI JF λi j=>.int (i/j)):=Mu λi j _ _ _ _ _ hc q=>by
 have h1:(0:Int)<j:=hc.1;have h2:j<10^200:=hc.2;refine PyProof.Rows.floordiv_int ‹0› (by rw[QX i ‹0›];exact q) (.inl (PyProof.noPylong_of_log2 ?_));have h3:j.natAbs<10^200:=by omega
 rw[Nat.log2_lt ‹0›];exact Rv h3 (by decide +kernel)
def dN:=Lw (λ_ j=>decide (0<j/\j<10^200)) (·/·)
def cS:=Lw (λ_ j=>decide (0<j)) (·%·)
def sC:=Lw (λi j=>decide (0<=j/\j<=1000000/\i.natAbs<2^64)) λi j=>i^j.toNat
theorem nG{K:Tu}:cX K (C9 λi j=>.int (i-j)) vz:=ue
theorem kG{K:Tu}:cX K (rI Lg λi j=>.int (i*j)) o3:=li λi j h=>by have q:=of_decide_eq_true h;exact q
theorem bV{K:Tu}:cX K (rI JF λi j=>.int (i/j)) dN:=li λi j h=>by have q:=of_decide_eq_true h;exact q
theorem bz{K:Tu}:cX K (rI (λ_ j=>0<j) λi j=>.int (i%j)) cS:=li λ_ _ h=>of_decide_eq_true h
theorem qD{K:Tu}:cX K (rI MN λi j=>.int (i^j.toNat)) sC:=li λi j h=>by have q:=of_decide_eq_true h;exact q
def MD(K:Tu):R2:=λx y H Q=>∃l b xs zs,x=.ref l/\y=.ref b/\pH K H l xs/\pH K H b zs/\xs.length+zs.length<=UQ/\∀p,H p=none->Q (.ref p) (upd H p (.lst (xs++zs)))
theorem HJ:j7 X (Ve .Add) (MD X.K):=by
 intro pins s σ H x y v u Q I rx ry h;obtain⟨l,b,xs,zs,rfl,rfl,hH,hB,hz,q⟩:=h;cases rx;cases ry;obtain⟨its,r,t1,_⟩:=I.list hH;obtain⟨its2,r2,t2,_⟩:=I.list hB;obtain⟨⟨c1,d1,dt1,sl1⟩,n1,ho,hc,hd,hdt⟩:=t1;obtain⟨⟨c2,d2,dt2,sl2⟩,n2,ho2,hc2,hd2,hdt2⟩:=t2;simp only at hc hd hdt hc2 hd2 hdt2;subst hc hd hdt hc2 hd2 hdt2;have z1:=r.length;have z2:=r2.length;refine Vz ⟨_,ho,rfl⟩ ⟨_,ho2,rfl⟩ noFill_list_add seq_list_add F.slot_list_add F.entry_list_add (F.args_list_add_2 _ _) (PyProof.Rows.list_addW l b its.toArray its2.toArray n1 n2 none none sl1 sl2 (by rw[QY,QY];omega)) ⟨ho,ho2,?_⟩;have ea:its.toArray++its2.toArray=(its++its2).toArray:=by simp
 rw[ea];exact⟨.ref _,_,I.lnew (t':=s.toks) (r.append r2) (by rw[Rh];omega),rfl,q _ I.fresh⟩
def Kw(K:Tu):R2:=λx y H Q=>∃a b xs ys,x=.ref a/\y=.ref b/\qN K H a xs/\qN K H b ys/\xs.length+ys.length<=UQ/\
 (xs=[]->Q (.ref b) H)/\(xs≠[]->ys=[]->Q (.ref a) H)/\(xs≠[]->ys≠[]->∀p,H p=none->Q (.ref p) (upd H p (.tup (xs++ys))))
theorem Ew:j7 X (Ve .Add) (Kw X.K):=by
 intro pins s σ H x y v u Q I rx ry h;obtain⟨a,b,xs,ys,ex,ey,ha,hb,hz,q0,q1,q2⟩:=h;by_cases hx:xs=[]
 ·subst ex ey;cases rx;cases ry;obtain⟨its,r1,p1,_⟩:=I.tuple ha;obtain⟨its2,r2,p2,_⟩:=I.tuple hb;obtain⟨⟨cls,dd,data,sl⟩,ho,hc,n,hd⟩:=id p1;obtain⟨⟨cls2,dd2,data2,sl2⟩,ho2,hc2,n2,hd2⟩:=id p2;simp only at hc hd hc2 hd2;subst hc hd hc2 hd2;have e:its=[]:=r1.nil_iff.mpr hx;exact Vz ⟨_,ho,rfl⟩ ⟨_,ho2,rfl⟩ VA VB F.slot_tuple_add F.entry_tuple_add (F.args_tuple_add_2 _ _)
   (PyProof.Rows.tuple_addW0 a b its.toArray its2.toArray n n2 dd dd2 sl sl2 (by rw[e];rfl)) ⟨ho,ho2,⟨.ref b,H,I,rfl,q0 hx⟩⟩
 ·exact HH pins s σ H x y v u Q I rx ry ⟨a,b,xs,ys,ex,ey,ha,hb,hx,hz,q1 hx,q2 hx⟩
def ce(a b:D):Option D:=match a,b with
 |.int i,.int j=>some (.int (i+j))
 |.str x,.str y=>if small (x.length+y.length)then some (.str (x++y))else none
 |.lst xs,.lst ys=>if small (xs.length+ys.length)then some (.lst (xs++ys))else none
 |.tup xs,.tup ys=>if small (xs.length+ys.length)then some (.tup (xs++ys))else none
 |_,_=>none
theorem bh:j7 X (Ve .Add) (rD X.K ce):=by
 intro pins s σ H x y u v Q I rx ry ⟨O,a,b,d,hO,ha,hb,hg,q⟩;cases a with
 |int i=>
  cases b with
  |int j=>
   cases hg;exact K6 pins s σ H x y u v Q I rx ry ⟨i,j,fE.mp ha,fE.mp hb,q _ H (bj.refl H) (fE.mpr rfl)⟩
  |_=>cases hg
 |str i=>
  cases b with
  |str j=>
   obtain⟨h1,h2⟩:=bI hg;subst h2;exact Bq pins s σ H x y u v Q I rx ry ⟨i,j,fO.mp ha,fO.mp hb,eM h1,q _ H (bj.refl H) (fO.mpr rfl)⟩
  |_=>cases hg
 |lst xs=>
  cases b with
  |lst ys=>
   obtain⟨h1,h2⟩:=bI hg;subst h2;rw[cT]at ha hb;obtain⟨p,vs,ex,g1,g2⟩:=ha;obtain⟨p',vs',ey,g1',g2'⟩:=hb;refine HJ pins s σ H x y u v Q I rx ry ⟨p,p',vs,vs',ex,ey,(aB H O).seq g1,(aB H O).seq g1',?_,λr hr=>?_⟩
   ·rw[<-g2.length,<-g2'.length];exact eM h1
   ·exact q _ _ (bL hr _) (dH hO hr (g2.append g2'))
  |_=>cases hg
 |tup xs=>
  cases b with
  |tup ys=>
   obtain⟨h1,h2⟩:=bI hg;subst h2;have da:=ha;have db:=hb;rw[cN]at ha hb;obtain⟨p,vs,ex,g1,g2⟩:=ha;obtain⟨p',vs',ey,g1',g2'⟩:=hb;have l1:=g2.length;have l2:=g2'.length;refine Ew pins s σ H x y u v Q I rx ry ⟨p,p',vs,vs',ex,ey,bW (aB H O) g1,bW (aB H O) g1',?_,λz=>?_,λz z'=>?_,λz z' r hr=>?_⟩
   ·rw[<-l1,<-l2];exact eM h1
   ·have e:xs=[]:=List.length_eq_zero_iff.mp (by rw[l1,z];rfl);rw[<-ey];refine q _ H (bj.refl H) ?_;rw[e,RP];exact db
   ·have e:ys=[]:=List.length_eq_zero_iff.mp (by rw[l2,z'];rfl);rw[<-ex];refine q _ H (bj.refl H) ?_;rw[e,Q5];exact da
   ·exact q _ _ (bL hr _) (e7 hO hr (g2.append g2'))
  |_=>cases hg
 |_=>cases hg
def aH(a b:D):Option D:=match a,b with
 |.tup xs,.int i=>pI xs i
 |.lst xs,.int i=>pI xs i
 |.str x,.int i=>if small x.length then(pI x.cps.toList i).bind λc=>some (.str ⟨#[c]⟩)else none
 |_,_=>none
theorem B9{K:Tu}{H:Hp}{ds:List D}{vs:List V}{i:Int}{d:D}(h:bb K H ds vs)(e:pI ds i=some d):∃v,pI vs i=some v/\cJ K H d v:=by
 unfold pI at e ⊢;obtain⟨j,e1,e2⟩:=bind_some e;rw[<-h.length,e1];exact h.get e2
theorem Pk:MK X (rD X.K aH):=by
 intro value slice pins s σ H x y u v Q I rx ry ⟨O,a,b,d,hO,ha,hb,hg,q⟩ hsub;cases a with
 |tup xs=>
  cases b with
  |int i=>
   rw[cN]at ha;obtain⟨p,vs,ex,g1,g2⟩:=ha;obtain⟨w,e1,e2⟩:=B9 g2 hg;refine JW value slice pins s σ H x y u v Q I rx ry ?_ hsub;exact⟨p,vs,i,w,ex,fE.mp hb,bW (aB H O) g1,e1,q w H (bj.refl H) e2⟩
  |_=>cases hg
 |lst xs=>
  cases b with
  |int i=>
   rw[cT]at ha;obtain⟨p,vs,ex,g1,g2⟩:=ha;obtain⟨w,e1,e2⟩:=B9 g2 hg;refine Je value slice pins s σ H x y u v Q I rx ry ?_ hsub;exact⟨p,vs,i,w,ex,fE.mp hb,(aB H O).seq g1,e1,q w H (bj.refl H) e2⟩
  |_=>cases hg
 |str z=>
  cases b with
  |int i=>
   have hg':(if small z.length then(pI z.cps.toList i).bind λc=>some (D.str ⟨#[c]⟩)else none)=some d:=hg;cases hs:small z.length with
   |false=>rw[hs]at hg';cases hg'
   |true=>
    rw[hs]at hg';obtain⟨c,e1,e2⟩:=bind_some hg';cases e2;refine KQ value slice pins s σ H x y u v Q I rx ry ?_ hsub;exact⟨z,i,c,fO.mp ha,fE.mp hb,eM hs,e1,q _ H (bj.refl H) (fO.mpr rfl)⟩
  |_=>cases hg
 |_=>cases hg
theorem Qd{a b:U0}{fa fb:FX}{pos:Pos}(ha:FE X a fa)(hb:FE X b fb)(hs:xW b):FE X (.Subscript a b pos) (f2 aH fa fb):=
 PE.weak (LN Pk ha hb hs) (xM au)
def cutD{α:Type}(xs:List α)(lo hi:Option Int):List α:=(xs.drop (HT.sIx xs.length 0 lo)).take (HT.sIx xs.length xs.length hi-HT.sIx xs.length 0 lo)
theorem vv{M:Model}{A:UW}{E:UK->UX->Prop}{s:UX}{t:UN}{items:Array UK}{Q:Bool->UX->Prop}(ht:Uu s.heap t items)(h:Q true s):UZ M A (Builtin.Tuple.tupleIsExact (.ref t)) Q E s:=by
 unfold Builtin.Tuple.tupleIsExact;refine U8 (VH ht.typeIs ?_);exact U7 h
theorem jd{prog:UM}{w:UL}{A:UW}{E:UK->UX->Prop}{s:UX}{t sl:UN}{items:Array UK}{vl vu:UK}{lo hi:Option Int}{Q:UK->UX->Prop}(ht:Uu s.heap t items)(hs:s.heap.IsSliceOf sl vl vu .none)(pl:VC vl lo)(pu:VC vu hi)
  (hw:HT.sIx items.size 0 lo=0/\HT.sIx items.size items.size hi=items.size) (h:Q (.ref t) s):UZ (model prog w) A (getItem (.ref t) (.ref sl)) Q E s:=by
 obtain⟨os,hos,hcs,hds⟩:=id hs;have hTs:s.TypeIs (.ref sl) "slice":=⟨os,hos,hcs⟩
 unfold getItem
 try with_reducible refine VE ?_
 first|refine U8 (U7 ?_)|skip
 refine U8 (wpAny_sequenceKey ht.typeIs (by decide) ?_);refine U8 (VF (name:=Str.ofString "__getitem__") ht.typeIs Us
  (VG Us ht.typeIs PyProof.Rows.entry_tuple_getitem ?_ (PyProof.Rows.args_tuple_getitem _ _)))
 show UZ _ _ (Builtin.Tuple.tupleItemsOf (.ref t) >>= _) _ _ s;refine U8 (PyProof.Rows.tupleItemsOf_ ht ?_);refine U8 (VH hTs ?_);rw[if_pos (by decide)];refine U8 (HT.qx hs pl pu ?_);have hyes:(((HT.sIx items.size 0 lo:Nat):Int)==0&&(1:Int)==1&&(HT.sIx items.size items.size hi-HT.sIx items.size 0 lo)==items.size)=true:=by
  rw[hw.1,hw.2];simp
 show UZ _ _ (if(((HT.sIx items.size 0 lo:Nat):Int)==0&&(1:Int)==1&&(HT.sIx items.size items.size hi-HT.sIx items.size 0 lo)==items.size)=true then _ else _) _ _ s;rw[if_pos hyes];refine U8 (vv ht ?_);rw[if_pos rfl]
 first
  |exact U8 (VO (U7 ⟨_,rfl,U7 h⟩))
  |exact U8 (VO (U8 (U7 (U7 ⟨_,rfl,U7 h⟩))))
def ux(a:D)(lo hi:Option Int):Option D:=match a with
 |.lst xs=>some (.lst (cutD xs lo hi))
 |.tup xs=>some (.tup (cutD xs lo hi))
 |.str x=>if small x.length then some (.str ⟨(cutD x.cps.toList lo hi).toArray⟩)else none
 |_=>none
theorem Jv(v:Option Int)(d n:Nat)(hd:d<=n):(match v with|none=>(d:Int)|some i=>if(1:Int)>0 then max 0 (min (if i<0 then i+(n:Int)else i) (n:Int))else max (-1) (min (if i<0 then i+(n:Int)else i) ((n:Int)-1)))=((HT.sIx n d v:Nat):Int):=by
 cases v with
 |none=>rfl
 |some i=>
  show(if(1:Int)>0 then max 0 (min (if i<0 then i+(n:Int)else i) (n:Int))else max (-1) (min (if i<0 then i+(n:Int)else i) ((n:Int)-1)))=(((if i<0 then(i+(n:Int)).toNat else min i.toNat n):Nat):Int)
  rw[if_pos (by decide)];by_cases h:i<0
  ·rw[if_pos h,if_pos h];omega
  ·rw[if_neg h,if_neg h];omega
theorem EH(lo hi:Option Int)(n:Nat):Builtin.Str.strSliceIndices lo hi 1 n=(List.range (HT.sIx n n hi-HT.sIx n 0 lo)).map λk=>HT.sIx n 0 lo+k:=by
 have e1:=Jv lo 0 n (Q4 _);have e2:=Jv hi n n (QU _);have e:Builtin.Str.strSliceIndices lo hi 1 n=sliceRange ((HT.sIx n 0 lo:Nat):Int) ((HT.sIx n n hi:Nat):Int) 1:=by
  rw[<-e1,<-e2];cases lo<;>cases hi<;>rfl
 rw[e];unfold sliceRange;dsimp only;rw[if_pos (by decide:(1:Int)>0)];have e3:(if((HT.sIx n 0 lo:Nat):Int)<((HT.sIx n n hi:Nat):Int)then(((HT.sIx n n hi:Nat):Int)-((HT.sIx n 0 lo:Nat):Int)+1-1)/1 else 0:Int).toNat=HT.sIx n n hi-HT.sIx n 0 lo:=by
  rw[Int.ediv_one];split<;>omega
 rw[e3];refine RQ λk _=>?_;omega
theorem Et{α:Type}(l:List α)(a:Nat):∀n:Nat,((List.range n).map λk=>a+k).filterMap (λi=>l[i]?)=(l.drop a).take n
 |0=>by simp
 |n+1=>by
  rw[List.range_succ,RT,List.filterMap_append,Et l a n,RU,List.getElem?_drop];cases e:l[a+n]?<;>simp[e]
theorem CN(x:Str)(lo hi:Option Int):Txt.slice x lo hi=⟨(cutD x.cps.toList lo hi).toArray⟩:=by
 have hl:x.cps.toList.length=x.length:=by simp[Str.length]
 have pick:(Builtin.Str.strSliceIndices lo hi 1 x.length).filterMap (x.cps[·]?)=cutD x.cps.toList lo hi:=by
  rw[EH];have q:=Et x.cps.toList (HT.sIx x.length 0 lo) (HT.sIx x.length x.length hi-HT.sIx x.length 0 lo);unfold cutD;rw[hl,<-q];congr 1;funext i;simp
 unfold Txt.slice;split
 ·rename_i h;have h':(Builtin.Str.strSliceIndices lo hi 1 x.length).length=x.length:=by simpa using h
  rw[EH,Q2,RV]at h';have h1:=HT.Kc x.length x.length (QU _) hi;have z1:HT.sIx x.length 0 lo=0\/x.length=0:=by omega
  have e:cutD x.cps.toList lo hi=x.cps.toList:=by
   unfold cutD;rw[hl,h'];rcases z1 with z1|z1
   ·rw[z1,RF,<-hl,RW]
   ·have:x.cps.toList=[]:=List.length_eq_zero_iff.mp (by rw[hl];exact z1)
    rw[this];simp
  rw[e]
 ·rw[pick]
def OA(K:Tu):V->Option Int->Option Int->Hp->VK->Prop:=λx lo hi H Q=>∃O a d,dU H O/\cJ K (hid H O) a x/\ux a lo hi=some d/\∀v H',bj H H'->cJ K (hid H' O) d v->Q v H'
theorem bb.cut{K:Tu}{H:Hp}{ds:List D}{vs:List V}(h:bb K H ds vs)(lo hi:Option Int):bb K H (cutD ds lo hi) (yp vs lo hi):=by
 unfold cutD yp;rw[h.length];exact(h.drop _).take _
theorem Oj:Nq X (OA X.K):=by
 intro pins s σ H x v vl vu lo hi sl Q I rx hs pl pu ⟨O,a,d,hO,ha,hg,q⟩;cases a with
 |lst xs=>
  cases hg;rw[cT]at ha;obtain⟨p,vs,ex,g1,g2⟩:=ha;exact Hh pins s σ H x v vl vu lo hi sl Q I rx hs pl pu ⟨p,vs,ex,(aB H O).seq g1,λr hr=>q _ _ (bL hr _) (dH hO hr (g2.cut lo hi))⟩
 |tup xs=>
  cases hg;have da:=ha;rw[cN]at ha;obtain⟨p,vs,ex,g1,g2⟩:=ha;by_cases hw:HT.sIx vs.length 0 lo=0/\HT.sIx vs.length vs.length hi=vs.length
  ·subst ex;cases rx;obtain⟨its,r,ht,hz⟩:=I.tuple (bW (aB H O) g1);have hlen:its.toArray.size=vs.length:=(by rw[QY];exact r.length.symm);refine⟨"tuple",_,PyProof.Rows.slot_tuple_getitem.lookup,ht.typeIs,jd ht hs pl pu (by rw[hlen];exact hw) ⟨.ref p,H,I,rfl,q _ H (bj.refl H) ?_⟩⟩;have e:cutD xs lo hi=xs:=by
    unfold cutD;rw[g2.length,hw.1,hw.2,RX,RF,<-g2.length,RW]
   rw[e];exact da
  ·exact J7 pins s σ H x v vl vu lo hi sl Q I rx hs pl pu ⟨p,vs,ex,bW (aB H O) g1,hw,λr hr=>q _ _ (bL hr _) (e7 hO hr (g2.cut lo hi))⟩
 |str z=>
  obtain⟨h1,h2⟩:=bI hg;subst h2;rw[fO]at ha;subst ha;obtain⟨t,rfl⟩:=rx;have fin:∀t' tk,EP X pins σ Q (.str (Txt.slice z lo hi) t') {s with toks:=tk}:=λt' tk=>by
   rw[CN];exact⟨.str _,H,I.tok _,⟨_,rfl⟩,q _ H (bj.refl H) (fO.mpr rfl)⟩
  obtain⟨os,hos,hcs,hds⟩:=id hs;have hz:=eM h1;refine⟨"str",_,F.slot_str_getitem.lookup,typeIs_str _ _ _,?_⟩;cases pl with
  |none=>
   cases pu with
   |none=>exact VP (l:=none) (u:=none) (st:=none) ⟨os,hos,hcs,hds⟩ rfl (VQ ⟨QL (Txt.slice_le z _ _) hz,λt' k=>fin t' k⟩)
   |int j tj=>exact VP (l:=none) (u:=some (j,tj)) (st:=none) ⟨os,hos,hcs,hds⟩ rfl (VQ ⟨QL (Txt.slice_le z _ _) hz,λt' k=>fin t' k⟩)
  |int i ti=>
   cases pu with
   |none=>exact VP (l:=some (i,ti)) (u:=none) (st:=none) ⟨os,hos,hcs,hds⟩ rfl (VQ ⟨QL (Txt.slice_le z _ _) hz,λt' k=>fin t' k⟩)
   |int j tj=>exact VP (l:=some (i,ti)) (u:=some (j,tj)) (st:=none) ⟨os,hos,hcs,hds⟩ rfl (VQ ⟨QL (Txt.slice_le z _ _) hz,λt' k=>fin t' k⟩)
 |_=>cases hg
def cK:aq->R (Option Int):=λ_=>.ok none
def Bi:D->Option (Option Int)
 |.int i=>some (some i)
 |_=>none
def fI(f:FX):aq->R (Option Int):=λρ=>(f ρ).bind λd=>rO (Bi d)
def QH(X:Cx)(F:aq->R (Option Int)):TO:=λσ H Q=>∃O ρ,eI X.K O H ρ σ/\ji X σ O H (F ρ) λo=>∀H',bj H H'->Q o H'
def FO(X:Cx)(e:Option U0)(F:aq->R (Option Int)):Prop:=PO X e (QH X F)
theorem NB:FO X none cK:=λpins s σ H Q I ⟨O,ρ,E,q⟩=>II pins s σ H Q I (q H (bj.refl H))
theorem Nw{e:U0}{f:FX}(h:FE X e f):FO X (some e) (fI f):=λpins s σ H Q I ⟨O,ρ,E,hF⟩=>
 IC h pins s σ H Q I ⟨O,ρ,E,(ji.bind hF).imp λd hF v H1 s1 d1=>by
  obtain⟨o,e,q⟩:=ji.rO hF;cases d with
  |int i=>
   cases e;exact⟨i,fE.mp d1,q H1 s1⟩
  |_=>cases e⟩
def dJ(f:FX)(l h:aq->R (Option Int)):FX:=λρ=>(f ρ).bind λa=>(l ρ).bind λlo=>(h ρ).bind λhi=>rO (ux a lo hi)
theorem Ml{e:U0}{f:FX}{l h:aq->R (Option Int)}{lo hi:Option U0}{p2 pos:Pos}(he:FE X e f)(hl:FO X lo l)(hh:FO X hi h):FE X (.Subscript e (.Slice lo hi none p2) pos) (dJ f l h):=
 PE.weak (FC Oj he hl hh) λσ H Q ⟨O,ρ,E,hF⟩=>⟨O,ρ,E,(ji.bind hF).imp λa hF x H1 s1 d1=>⟨O,ρ,E.same s1,((ji.bind hF).mono s1).imp λlo' hF H2 s2=>⟨O,ρ,E.same (s1.trans s2),((ji.bind hF).mono (s1.trans s2)).imp λhi' hF H3 s3=>by
  obtain⟨d,e,q⟩:=ji.rO hF;exact⟨O,a,d,E.all.same ((s1.trans s2).trans s3),d1.mono (bN (s2.trans s3)),e,λv H4 s4 d4=>q v H4 (((s1.trans s2).trans s3).trans s4) d4⟩⟩⟩⟩
end
end TG
namespace TG
open PySem PySem.Spec L2
variable[aW]
def yd(K:Tu)(g:List D->Option D):List V->Hp->VK->Prop:=λxs H Q=>∃O ds d,dU H O/\bb K (hid H O) ds xs/\g ds=some d/\∀v H',bj H H'->cJ K (hid H' O) d v->Q v H'
theorem tY{K:Tu}{g:List D->Option D}:BU K (yd K g) g:=λds d xs O H Q hO hg hd q=>⟨O,ds,d,hO,hd,hg,q⟩
section
variable{X:Cx}{x:Str}{p pos:Pos}{e:U0}{es:List U0}{id T:String}{g:List D->Option D}{f:aq->R (List D)}
theorem MI(hc:dY X (.builtin id) (yd X.K g))(hg:Gl X x)(hm:X.mg x=none)(hv:UV x=some (.builtin id))(ha:FA X (e::es) f)(hn:x≠"__name__":=by decide)(hdb:(x==("__debug__":Str))=false:=by decide)
  (hns:(e::es).all noStar=true:=by rfl):FE X (.Call (.Name x p) (e::es) [] pos) (fL g f):=
 PE.weak (yR hc hg hm hv ha hn hdb (dh (Rl _ _ ▸ hns).1) (gz (Rl _ _ ▸ hns).2)) (Ff tY)
theorem Ls(hc:dY X (.type T) (yd X.K g))(hg:Gl X x)(hm:X.mg x=none)(hv:UV x=some (.type T))(ha:FA X (e::es) f)(hn:x≠"__name__":=by decide)(hdb:(x==("__debug__":Str))=false:=by decide)
  (hns:(e::es).all noStar=true:=by rfl):FE X (.Call (.Name x p) (e::es) [] pos) (fL g f):=
 PE.weak (DJ hc hg hm hv ha hn hdb (dh (Rl _ _ ▸ hns).1) (gz (Rl _ _ ▸ hns).2)) (Ff tY)
def je:List D->Option D
 |[.lst xs]=>some (.int xs.length)
 |[.tup xs]=>some (.int xs.length)
 |[.str x]=>if small x.length then some (.int x.length)else none
 |_=>none
theorem cE:dY X (.builtin "len") (yd X.K je):=by
 intro pins s σ H xs us Q I r ⟨O,ds,d,hO,hd,hg,q⟩;unfold je at hg;split at hg
 ·rename_i ys;cases hg;obtain⟨v,ev,h1⟩:=hd.one;rw[cT]at h1;obtain⟨p,vs,ep,g1,g2⟩:=h1;exact pX pins s σ H xs us Q I r ⟨p,vs,by rw[ev,ep],.inl ((aB H O).seq g1),q _ H (bj.refl H) (fE.mpr (by rw[g2.length]))⟩
 ·rename_i ys;cases hg;obtain⟨v,ev,h1⟩:=hd.one;rw[cN]at h1;obtain⟨p,vs,ep,g1,g2⟩:=h1;exact pX pins s σ H xs us Q I r ⟨p,vs,by rw[ev,ep],.inr (bW (aB H O) g1),q _ H (bj.refl H) (fE.mpr (by rw[g2.length]))⟩
 ·rename_i z;obtain⟨h1,h2⟩:=bI hg;subst h2;obtain⟨v,ev,h1'⟩:=hd.one;exact xo pins s σ H xs us Q I r ⟨z,by rw[ev,fO.mp h1'],eM h1,q _ H (bj.refl H) (fE.mpr rfl)⟩
 ·cases hg
def cP:List D->Option D
 |[.lst xs]=>some (.tup xs)
 |[.tup xs]=>some (.tup xs)
 |_=>none
theorem cm:dY X (.type "tuple") (yd X.K cP):=by
 intro pins s σ H xs us Q I r ⟨O,ds,d,hO,hd,hg,q⟩;unfold cP at hg;split at hg
 ·rename_i ys;cases hg;obtain⟨v,ev,h1⟩:=hd.one;rw[cT]at h1;obtain⟨p,vs,ep,g1,g2⟩:=h1;exact oS pins s σ H xs us Q I r ⟨p,vs,by rw[ev,ep],.inl ⟨(aB H O).seq g1,λl hl=>q _ _ (bL hl _) (e7 hO hl g2)⟩⟩
 ·rename_i ys;cases hg;obtain⟨v,ev,h1⟩:=hd.one;have h0:=h1;rw[cN]at h1;obtain⟨p,vs,ep,g1,g2⟩:=h1;rw[ep]at h0;exact oS pins s σ H xs us Q I r ⟨p,vs,by rw[ev,ep],.inr ⟨bW (aB H O) g1,q _ H (bj.refl H) h0⟩⟩
 ·cases hg
def Cv:List D->Option D
 |[.lst xs]=>some (.lst xs)
 |[.tup xs]=>some (.lst xs)
 |_=>none
theorem Bk:dY X (.type "list") (yd X.K Cv):=by
 intro pins s σ H xs us Q I r ⟨O,ds,d,hO,hd,hg,q⟩;unfold Cv at hg;split at hg
 ·rename_i ys;cases hg;obtain⟨v,ev,h1⟩:=hd.one;rw[cT]at h1;obtain⟨p,vs,ep,g1,g2⟩:=h1;exact p9 pins s σ H xs us Q I r ⟨p,vs,by rw[ev,ep],.inl ((aB H O).seq g1),λl hl=>q _ _ (bL hl _) (dH hO hl g2)⟩
 ·rename_i ys;cases hg;obtain⟨v,ev,h1⟩:=hd.one;rw[cN]at h1;obtain⟨p,vs,ep,g1,g2⟩:=h1;exact p9 pins s σ H xs us Q I r ⟨p,vs,by rw[ev,ep],.inr (bW (aB H O) g1),λl hl=>q _ _ (bL hl _) (dH hO hl g2)⟩
 ·cases hg
def rR:List D->Option D
 |[.int i,.int j]=>some (.int (if j>i then j else i))
 |_=>none
def yX:List D->Option D
 |[.int i,.int j]=>some (.int (if j<i then j else i))
 |_=>none
def BX:List D->Option D
 |[.int i]=>some (.int i)
 |[.bl k]=>some (.int (if k then 1 else 0))
 |_=>none
theorem pB(hc:X.calm=true):dY X (.builtin "max") (yd X.K rR):=by
 intro pins s σ H xs us Q I r ⟨O,ds,d,hO,hd,hg,q⟩;unfold rR at hg;split at hg
 ·rename_i i j;cases hg;obtain⟨v,w,ev,h1,h2⟩:=hd.two;exact Dk hc pins s σ H xs us Q I r ⟨i,j,by rw[ev,fE.mp h1,fE.mp h2],q _ H (bj.refl H) (fE.mpr rfl)⟩
 ·cases hg
theorem Ax(hc:X.calm=true):dY X (.builtin "min") (yd X.K yX):=by
 intro pins s σ H xs us Q I r ⟨O,ds,d,hO,hd,hg,q⟩;unfold yX at hg;split at hg
 ·rename_i i j;cases hg;obtain⟨v,w,ev,h1,h2⟩:=hd.two;exact DT hc pins s σ H xs us Q I r ⟨i,j,by rw[ev,fE.mp h1,fE.mp h2],q _ H (bj.refl H) (fE.mpr rfl)⟩
 ·cases hg
theorem AU:dY X (.type "int") (yd X.K BX):=by
 intro pins s σ H xs us Q I r ⟨O,ds,d,hO,hd,hg,q⟩;unfold BX at hg;split at hg
 ·rename_i i;cases hg;obtain⟨v,ev,h1⟩:=hd.one;exact vI pins s σ H xs us Q I r (.inl ⟨i,by rw[ev,fE.mp h1],q _ H (bj.refl H) (fE.mpr rfl)⟩)
 ·rename_i k;cases hg;obtain⟨v,ev,h1⟩:=hd.one;exact vI pins s σ H xs us Q I r (.inr ⟨k,by rw[ev,mI.mp h1],q _ H (bj.refl H) (fE.mpr rfl)⟩)
 ·cases hg
def K8:D->String
 |.non=>"NoneType"
 |.bl _=>"bool"
 |.int _=>"int"
 |.str _=>"str"
 |.tup _=>"tuple"
 |.lst _=>"list"
 |.dct _ _=>"dict"
 |_=>""
def IV(T:String)(d:D):Bool:=match d with
 |.bl _=>T=="bool"||T=="int"
 |.non=>T=="NoneType"
 |.int _=>T=="int"
 |.str _=>T=="str"
 |.tup _=>T=="tuple"
 |.lst _=>T=="list"
 |.dct _ _=>T=="dict"
 |_=>false
def zF(K:Tu)(T:String):Prop:=∀d:D,top d=true->TZ K (.type (K8 d)) (.type T)=some (IV T d)
def Pm(K:Tu)(T:String):List V->Hp->VK->Prop:=λxs H Q=>∃O x d,xs=[x,.ty T]/\top d=true/\cJ K (hid H O) d x/\Q (.bl (IV T d)) H
theorem Fv(ok:zF X.K T):dY X (.builtin "isinstance") (Pm X.K T):=by
 intro pins s σ H xs us Q I r ⟨O,x,d,ex,td,hd,q⟩;subst ex;obtain⟨u,w',rfl,rx,rt⟩:=vals2 r;cases rt;have e:=ok d td;have fin:∀tk,EP X pins σ Q (.bool (IV T d)) {s with toks:=tk}:=λtk=>⟨.bl _,H,I.tok _,rfl,q⟩
 cases fU I td (hd.mono (aB H O)) rx with
 |non=>exact T2 PySem.W.kitx_none I.kIn True.intro e (λz=>nomatch z) fin
 |bl b=>exact T2 PySem.W.kitx_bool I.kIn True.intro e (λz=>nomatch z) fin
 |int i t=>exact T2 PySem.W.kitx_int I.kIn True.intro e (λz=>nomatch z) fin
 |str y t=>exact T2 PySem.W.kitx_str I.kIn True.intro e (λz=>nomatch z) fin
 |tup h rv t=>
  obtain⟨o,h1,h2,_⟩:=t;exact T2 PySem.W.kitx_tuple I.kIn ⟨o,h1,h2⟩ e (λz=>nomatch z) fin
 |lst h rv t=>
  obtain⟨o,h1,h2,_⟩:=t;exact T2 PySem.W.kitx_list I.kIn ⟨o,h1,h2⟩ e (λz=>nomatch z) fin
theorem GO:UV "isinstance"=some (.builtin "isinstance"):=by first|rfl|decide +kernel
def iO(T:String)(d:D):Option D:=if top d then some (.bl (IV T d))else none
def pN(T:String)(f:FX):FX:=f1 (iO T) f
theorem PB{f:FX}{xT:Str}{p2:Pos}(ok:zF X.K T)(hg:Gl X "isinstance")(hm:X.mg "isinstance"=none)(hgT:Gl X xT)(hmT:X.mg xT=none)(hvT:UV xT=some (.type T))(he:FE X e f)
  (hn2:xT≠"__name__":=by decide) (hd2:(xT==("__debug__":Str))=false:=by decide)
  (hns:noStar e=true:=by rfl):
  FE X (.Call (.Name "isinstance" p) [e,.Name xT p2] [] pos) (pN T f):=
 PE.weak (yR (Fv ok) hg hm GO (j6 he (j6 (Iy (v:=.ty T) hgT hmT hvT rfl hn2 hd2) pF (dh rfl)) (dh hns)) (by decide) (by decide) (dh hns) (gz rfl)) λσ H Q ⟨O,ρ,E,hF⟩=>⟨O,ρ,E,(ji.bind hF).imp λa hF v H1 s1 d1=>by
  obtain⟨d,e,q⟩:=ji.rO hF;obtain⟨h1,h2⟩:=bI e;subst h2;exact⟨O,v,a,rfl,h1,d1,q _ H1 s1 (mI.mpr rfl)⟩⟩
end
section
variable{X:Cx}{a:U0}{f:FX}{pos:Pos}
def isNon:D->Bool
 |.non=>true
 |_=>false
def OH(d:D):Option D:=some (.bl (isNon d))
def MH(d:D):Option D:=some (.bl (!isNon d))
def OM(f:FX):FX:=f1 OH f
def Ng(f:FX):FX:=f1 MH f
theorem Nh(h:FE X a f)(he:∀whole,isTrue a X.env whole=(do let v<-whole;standAt a.pos;holding [v] (truthy v)):=by intro _;rfl):FT X a (fT f):=PT.weak (GQ h he) λσ H Q ⟨O,ρ,E,hF⟩=>⟨O,ρ,E,(ji.bind hF).imp λd hF x H1 s1 d1=>by
 obtain⟨r,hF,q⟩:=ji.rO hF;refine⟨r,?_,q H1 s1⟩;cases d with
 |non=>cases hF;rw[mj.mp d1];rfl
 |bl b=>cases hF;rw[mI.mp d1];rfl
 |int i=>cases hF;rw[fE.mp d1];rfl
 |str y=>
  obtain⟨hz,e⟩:=bI hF;subst e;rw[fO.mp d1];refine⟨eM hz,?_⟩;show(y.length !=0)=((y.length:Int) !=0)
  cases y.length<;>rfl
 |tup xs=>
  cases hF;obtain⟨p,vs,e,g1,g2⟩:=cN.mp d1;rw[e];refine .inr (.inl ⟨vs,bW (aB H1 O) g1,?_⟩);have l:=g2.length;cases xs<;>cases vs<;>first|rfl|(simp at l)
 |lst xs=>
  cases hF;obtain⟨p,vs,e,g1,g2⟩:=cT.mp d1;rw[e];refine .inl ⟨vs,(aB H1 O).seq g1,?_⟩;have l:=g2.length;cases xs<;>cases vs<;>first|rfl|(simp at l)
 |_=>cases hF⟩
end
def Walk(K:Tu)(Hd:Hp)(J:It)(ds:List D):Prop:=
 ∀(Hn:Hp)(O':List UN)(i:Nat),dU Hn O'->bj Hd (hid Hn O')->(∀d,ds[i]?=some d->J.go i Hn/\∀x H2,J.yld i Hn x H2->bj Hn H2/\cJ K (hid H2 O') d x)/\(i=ds.length->J.stop i Hn)
def Pq(X:Cx)(G:aq->R (List D)):TI:=λσ H RR=>∃O ρ,eI X.K O H ρ σ/\ji X σ O H (G ρ) λds=>∀J H1,bj H H1->Walk X.K (hid H1 O) J ds->RR J H1
def FI(X:Cx)(tg iter:U0)(G:aq->R (List D)):Prop:=PI X tg iter (Pq X G)
def tJ:D->Option (List D)
 |.lst xs=>some xs
 |.tup xs=>some xs
 |_=>none
def bT(f:FX):aq->R (List D):=λρ=>(f ρ).bind λd=>rO (tJ d)
section
variable{X:Cx}{tg:U0}
theorem Dw{K:Tu}{Hd:Hp}{a:UN}{ds:List D}{vs:List V}(h:pH K Hd a vs)(g:bb K Hd ds vs):Walk K Hd (Pu K a) ds:=λHn O' i hO s=>
  have s':bj Hd Hn:=s.trans (aB Hn O')
  ⟨fun d e=>by
    obtain⟨v,ev,dv⟩:=g.get e;refine⟨⟨vs,v,s'.seq h,ev⟩,λx H2 ⟨e2,y⟩=>?_⟩;have q:=y vs (s'.seq h);rw[ev]at q;cases q;subst e2;exact⟨bj.refl _,dv.mono s⟩,
   λhl=>⟨vs,s'.seq h,by rw[<-g.length];exact Q3 hl.symm⟩⟩
theorem GA{K:Tu}{Hd:Hp}{a:UN}{ds:List D}{vs:List V}(h:Hd a=some (.tup vs))(g:bb K Hd ds vs):Walk K Hd (PF K a) ds:=λHn O' i hO s=>
  have s':bj Hd Hn:=s.trans (aB Hn O')
  ⟨fun d e=>by
    obtain⟨v,ev,dv⟩:=g.get e;refine⟨⟨vs,v,bW s' h,ev⟩,λx H2 ⟨e2,y⟩=>?_⟩;have q:=y vs (bW s' h);rw[ev]at q;cases q;subst e2;exact⟨bj.refl _,dv.mono s⟩,
   λhl=>⟨vs,bW s' h,by rw[<-g.length];exact Q3 hl.symm⟩⟩
theorem Ou{e:U0}{f:FX}(h:FE X e f):FI X tg e (bT f):=by
 intro pins s σ H R I ⟨O,ρ,E,hG⟩;have hG':=ji.bind hG;cases hf:f ρ with
 |error z=>exact Ct h pins s σ H R I ⟨O,ρ,E,by rw[hf]at hG' ⊢;cases z with|none=>exact hG'.elim|some x=>exact hG'⟩
 |ok d=>
  rw[hf]at hG';obtain⟨ds,e1,q⟩:=ji.rO (α:=List D) (o:=tJ d) hG';cases d with
  |lst xs=>
   cases e1;refine Ct h pins s σ H R I ⟨O,ρ,E,?_⟩;rw[hf];refine λv H1 s1 d1=>?_;obtain⟨p,vs,ev,g1,g2⟩:=cT.mp d1;exact⟨p,ev,⟨vs,(aB H1 O).seq g1⟩,q _ H1 s1 (Dw g1 g2)⟩
  |tup xs=>
   cases e1;refine JZ h pins s σ H R I ⟨O,ρ,E,?_⟩;rw[hf];refine λv H1 s1 d1=>?_;obtain⟨p,vs,ev,g1,g2⟩:=cN.mp d1;exact⟨p,ev,⟨vs,bW (aB H1 O) g1⟩,q _ H1 s1 (GA g1 g2)⟩
  |_=>cases e1
def fQ(lo:Int)(n:Nat):List D:=(List.range n).map λ(k:Nat)=>D.int (lo+(k:Int))
theorem uY(lo:Int)(n:Nat):(fQ lo n).length=n:=by unfold fQ;rw[Q2,RV]
theorem tD{K:Tu}{Hd:Hp}(lo:Int)(n:Nat):Walk K Hd (Mj lo n) (fQ lo n):=λHn O' i hO s=>
  ⟨fun d e=>by
    unfold fQ at e;rw[Rc]at e;cases hi:(List.range n)[i]? with
    |none=>rw[hi]at e;cases e
    |some k=>
      rw[hi]at e;cases e;have hlt:i<n:=by
        have:=(List.getElem?_eq_some_iff.mp hi).1
        rwa [RV]at this
      have ek:k=i:=by
        rw[RY hlt]at hi;exact(Option.some.inj hi).symm
      subst ek;exact⟨hlt,λx H2 ⟨e1,e2⟩=>by subst e1;exact⟨bj.refl _,fE.mpr e2⟩⟩,
   λhl=>by rw[uY]at hl;exact Q3 hl.symm⟩
def okR(j:Int):Bool:=decide (-(2^62)<=j/\j<2^62)
def n0:List D->Option (List D)
 |[.int j]=>if okR j then some (fQ 0 j.toNat)else none
 |_=>none
def sO:List D->Option (List D)
 |[.int i,.int j]=>if okR i&&okR j then some (fQ i (j-i).toNat)else none
 |_=>none
def jf(f:aq->R (List D)):aq->R (List D):=λρ=>(f ρ).bind λds=>rO (n0 ds)
def sJ(f:aq->R (List D)):aq->R (List D):=λρ=>(f ρ).bind λds=>rO (sO ds)
theorem Lz{a:U0}{f:aq->R (List D)}{p pos:Pos}(hg:Gl X "range")(hm:X.mg "range"=none)(ha:FA X [a] f)(hs:U1 [a] X.env=[(false,eval a X.env)]:=by rfl):FI X tg (.Call (.Name "range" p) [a] [] pos) (jf f):=by
 intro pins s σ H R I ⟨O,ρ,E,hG⟩;refine Ed hg hm ha hs pins s σ H R I ⟨O,ρ,E,(ji.bind hG).imp λes hG' vs H1 s1 d1=>?_⟩;clear hG;obtain⟨ds,hG,q⟩:=ji.rO hG';clear hG';unfold n0 at hG;split at hG
 ·rename_i j;obtain⟨h1,h2⟩:=bI hG;subst h2;obtain⟨j1,j2⟩:=of_decide_eq_true h1;obtain⟨v,ev,dv⟩:=d1.one;exact⟨j,by rw[ev,fE.mp dv],j1,j2,q _ H1 s1 (tD 0 _)⟩
 ·cases hG
theorem Ly{a b:U0}{f:aq->R (List D)}{p pos:Pos}(hg:Gl X "range")(hm:X.mg "range"=none)(ha:FA X [a,b] f)(hs:U1 [a,b] X.env=[(false,eval a X.env),(false,eval b X.env)]:=by rfl)(hs2:U1 [b] X.env=[(false,eval b X.env)]:=by rfl):FI X tg (.Call (.Name "range" p) [a,b] [] pos) (sJ f):=by
 intro pins s σ H R I ⟨O,ρ,E,hG⟩;refine DF hg hm ha hs hs2 pins s σ H R I ⟨O,ρ,E,(ji.bind hG).imp λes hG' vs H1 s1 d1=>?_⟩;clear hG;obtain⟨ds,hG,q⟩:=ji.rO hG';clear hG';unfold sO at hG;split at hG
 ·rename_i i j;obtain⟨h1,h2⟩:=bI hG;subst h2;rw[Rl]at h1;obtain⟨i1,i2⟩:=of_decide_eq_true h1.1;obtain⟨j1,j2⟩:=of_decide_eq_true h1.2;obtain⟨v,w,ev,dv,dw⟩:=d1.two;exact⟨i,j,by rw[ev,fE.mp dv,fE.mp dw],⟨i1,i2,j1,j2⟩,q _ H1 s1 (tD i _)⟩
 ·cases hG
end
abbrev GF:=D->aq->Option aq
def NT(K:Tu)(g:GF):TG:=λv σ H Q=>∃O ρ d ρ',eI K O H ρ σ/\cJ K (hid H O) d v/\g d ρ=some ρ'/\∀σ',eI K O H ρ' σ'->(∀(i:Nat) x,ρ'[i]?=some (some x)->(∀d,x≠.val d)->σ'[i]?=σ[i]?/\ρ[i]?=some (some x))->Q σ' H
def FG(X:Cx)(tg:U0)(g:GF):Prop:=PG X tg (NT X.K g)
def setV(i:Nat)(d:D)(ρ:aq):aq:=ρ.set i (some (.val d))
theorem bg{α:Type}{l:List α}{i j:Nat}{a b:α}(h:(l.set i a)[j]?=some b):(j=i/\b=a)\/(j≠i/\l[j]?=some b):=by
 by_cases e:j=i
 ·subst e;left;have hj:j<(l.set j a).length:=(List.getElem?_eq_some_iff.mp h).1;rw[List.length_set]at hj;rw[QR hj]at h;exact⟨rfl,(Option.some.inj h).symm⟩
 ·right;rw[QS (Ne.symm e)]at h;exact⟨e,h⟩
theorem eI.setV{K:Tu}{O:List UN}{H:Hp}{ρ:aq}{σ:St}(E:eI K O H ρ σ){i:Nat}{d:D}{v:V}(hi:i<σ.length)(hd:cJ K (hid H O) d v):eI K O H (setV i d ρ) (σ.set i (some v)):=
  ⟨fun j d' e=>by
    rcases bg e with⟨hj,eq⟩|⟨ne,eq⟩
    ·cases eq;rw[hj];exact⟨v,QR hi,hd⟩
    · obtain⟨w,e1,e2⟩:=E.val j d' eq
      exact⟨w,by rw[QS (Ne.symm ne)];exact e1,e2⟩,
   λj xs e=>by
    rcases bg e with⟨_,eq⟩|⟨ne,eq⟩
    ·cases eq
    · obtain⟨a,e1,e2⟩:=E.own j xs eq
      exact⟨a,by rw[QS (Ne.symm ne)];exact e1,e2⟩,
   λj k xs ys a e1 e2 e3 e4=>by
    rcases bg e1 with⟨_,q1⟩|⟨ne1,q1⟩
    ·cases q1
    · rcases bg e2 with⟨_,q2⟩|⟨ne2,q2⟩
      ·cases q2
      · rw[QS (Ne.symm ne1)]at e3
        rw[QS (Ne.symm ne2)]at e4;exact E.one j k xs ys a q1 q2 e3 e4,E.all⟩
section
variable{X:Cx}{pos:Pos}
def gN(i:Nat):GF:=λd ρ=>some (setV i d ρ)
theorem NP{i:Nat}{x:Str}(hN:X.N.Nodup)(hi:X.N[i]?=some x)(hx:Loc X.env.scope x)(hf:X.fn x=true\/X.env.scope.names.lookup x=some .local:=by first|exact .inl rfl|exact .inr rfl|assumption):FG X (.Name x pos) (gN i):=by
 intro pins s σ H v u Q I r ⟨O,ρ,d,ρ',E,hd,hg,q⟩;cases hg;have hiσ:i<σ.length:=by rw[I.len];exact(List.getElem?_eq_some_iff.mp hi).1
 refine Ja hN hi hx hf pins s σ H v u Q I r (q _ (E.setV hiσ hd) λj x e nv=>?_);rcases bg e with⟨_,eq⟩|⟨ne,eq⟩
 ·cases eq;exact absurd rfl (nv _)
 ·exact⟨QS (Ne.symm ne),eq⟩
abbrev Em:=List D->aq->Option aq
def OI(K:Tu)(g:Em):Ji:=λvs σ H Q=>∃O ρ ds ρ',eI K O H ρ σ/\bb K (hid H O) ds vs/\g ds ρ=some ρ'/\∀σ',eI K O H ρ' σ'->(∀(i:Nat) x,ρ'[i]?=some (some x)->(∀d,x≠.val d)->σ'[i]?=σ[i]?/\ρ[i]?=some (some x))->Q σ' H
def LO(X:Cx)(ts:List U0)(g:Em):Prop:=L3 X ts (OI X.K g)
def Eo:Em:=λds ρ=>match ds with
 |[]=>some ρ
 |_=>none
def AV(g:GF)(h:Em):Em:=λds ρ=>match ds with
 |d::r=>(g d ρ).bind λρ1=>h r ρ1
 |_=>none
theorem Np:LO X [] Eo:=by
 intro pins s σ H vs us Q I r ⟨O,ρ,ds,ρ',E,hd,hg,q⟩;cases ds with
 |nil=>
  cases hg;rw[cI]at hd;exact Ie pins s σ H vs us Q I r ⟨hd,q _ E λi x e _=>⟨rfl,e⟩⟩
 |cons _ _=>cases hg
theorem Mv{e:U0}{es:List U0}{g:GF}{h:Em}(h1:FG X e g)(h2:LO X es h)(hs:(assignEach (e::es) X.env).map (·.2)=assign e X.env::(assignEach es X.env).map (·.2):=by rfl):LO X (e::es) (AV g h):=by
 intro pins s σ H vs us Q I r ⟨O,ρ,ds,ρ',E,hd,hg,q⟩;cases ds with
 |nil=>cases hg
 |cons d ds=>
  obtain⟨ρ1,e1,e2⟩:=bind_some hg;rw[bo]at hd;obtain⟨v,vr,ev,d1,d2⟩:=hd;exact Gs h1 h2 hs pins s σ H vs us Q I r ⟨v,vr,ev,O,ρ,d,ρ1,E,d1,e1,λσ1 E1 k1=>⟨O,ρ1,ds,ρ',E1,d2,e2,λσ2 E2 k2=>q σ2 E2 λi x e nv=>by
   obtain⟨a1,a2⟩:=k2 i x e nv;obtain⟨b1,b2⟩:=k1 i x a2 nv;exact⟨a1.trans b1,b2⟩⟩⟩
def gT(n:Nat)(g:Em):GF:=λd ρ=>match d with
 |.tup xs=>if xs.length=n then g xs ρ else none
 |_=>none
theorem P0{es:List U0}{k:Nat}{g:Em}{n:Nat}(hc:X.calm=true)(h:LO X es g)(hn:(assignEach es X.env).length=n:=by rfl)(hst:(assignEach es X.env).findIdx? (·.1)=none:=by rfl):FG X (.Tuple es k pos) (gT n g):=by
 intro pins s σ H v u Q I r ⟨O,ρ,d,ρ',E,hd,hg,q⟩;cases d with
 |tup xs=>
  obtain⟨p,vs,ev,g1,g2⟩:=cN.mp hd;have hg':(if xs.length=n then g xs ρ else none)=some ρ':=hg;by_cases hl:xs.length=n
  ·rw[if_pos hl]at hg';exact Le hc h hn hst pins s σ H v u Q I r ⟨p,vs,ev,bW (aB H O) g1,by rw[<-g2.length];exact hl,O,ρ,xs,ρ',E,g2,hg',q⟩
  ·rw[if_neg hl]at hg';cases hg'
 |_=>cases hg
end
def Ad{α:Type}(r:R α):R α:=match r with
 |.ok a=>.ok a
 |.error _=>un
theorem G1{α:Type}{r:R α}{a:α}(h:Ad r=.ok a):r=.ok a:=by
 cases r with
 |ok b=>exact h
 |error z=>cases h
def inB(ix:List (Option Nat))(ρ:aq):aq:=ix.map λo=>match o with
 |some i=>match ρ[i]? with
  |some (some (.val d))=>some (.val d)
  |_=>none
 |none=>none
def Ab(ρ:aq)(g:GF)(C:aq->R Bool)(Fe:FX):List D->R (List D)
 |[]=>.ok []
 |d::ds=>(rO (g d ρ)).bind λρ1=>(Ad (C ρ1)).bind λc=>if c then(Ad (Fe ρ1)).bind λv=>(Ab ρ g C Fe ds).bind λr=>.ok (v::r)else Ab ρ g C Fe ds
theorem kT(ρ:aq)(g:GF)(C:aq->R Bool)(Fe:FX)(d:D)(ds:List D):Ab ρ g C Fe (d::ds)=(rO (g d ρ)).bind λρ1=>(Ad (C ρ1)).bind λc=>if c then(Ad (Fe ρ1)).bind λv=>(Ab ρ g C Fe ds).bind λr=>.ok (v::r)else Ab ρ g C Fe ds:=rfl
def kr(ix:List (Option Nat))(G:aq->R (List D))(g:GF)(C:aq->R Bool)(Fe:FX):FX:=λρ=>(G ρ).bind λds=>if small ds.length then Ad ((Ab (inB ix ρ) g C Fe ds).bind λr=>.ok (.lst r))else un
def NN(X:Cx)(ifs:List U0)(F:aq->R Bool):Prop:=K2 X ifs (NZ X F)
def dF:aq->R Bool:=λ_=>.ok true
theorem Nm{X:Cx}:NN X [] dF:=λpins s σ H Q I ⟨O,ρ,E,q⟩=>Ia pins s σ H Q I (q H (bj.refl H))
theorem NW{X:Cx}{c:U0}{F:aq->R Bool}(h:FT X c F):NN X [c] F:=HP h
theorem p5{ix:List (Option Nat)}{ρ:aq}{j:Nat}{x:S}(e:(inB ix ρ)[j]?=some (some x)):∃i d,ix[j]?=some (some i)/\ρ[i]?=some (some (.val d))/\x=.val d:=by
 unfold inB at e;rw[Rc]at e;cases q:ix[j]? with
 |none=>rw[q]at e;cases e
 |some o=>
  rw[q]at e;cases o with
  |none=>cases e
  |some i=>
   have e':(match ρ[i]? with|some (some (.val d))=>some (S.val d)|_=>none)=some x:=Option.some.inj e;split at e'
   ·rename_i d hd;cases e';exact⟨i,d,rfl,hd,rfl⟩
   ·cases e'
theorem HB{K:Tu}{O:List UN}{H:Hp}{ρ:aq}{σ:St}(ix:List (Option Nat))(E:eI K O H ρ σ):eI K O H (inB ix ρ) (inBlock ix σ):=by
 refine⟨λj d e=>?_,λj xs e=>?_,λj k xs ys a e=>?_,E.all⟩
 ·obtain⟨i,d',q1,q2,q3⟩:=p5 e;cases q3;obtain⟨v,e1,e2⟩:=E.val i d q2;refine⟨v,?_,e2⟩;unfold inBlock;rw[Rc,q1];show some ((σ[i]?).getD none)=some (some v);rw[e1];rfl
 ·obtain⟨_,_,_,_,q3⟩:=p5 e;cases q3
 ·obtain⟨_,_,_,_,q3⟩:=p5 e;cases q3
theorem t7{H:Hp}{O:List UN}{p:UN}{o:HO}(hp:H p=none):bj (hid H O) (hid (upd H p o) (p::O)):=λb u h=>by
 unfold hid at h ⊢;by_cases hb:b∈O
 ·rw[if_pos hb]at h;cases h
 ·rw[if_neg hb]at h;have ne:=bc h hp;rw[if_neg (by intro z;rcases List.mem_cons.mp z with z|z;exact ne z;exact hb z),aD ne];exact h
theorem eI.hideNew{K:Tu}{O:List UN}{H:Hp}{ρ:aq}{σ:St}{p:UN}{o:HO}(m:sB o)(E:eI K O H ρ σ)(hp:H p=none):eI K (p::O) (upd H p o) ρ σ:=by
 have s:bj (hid H O) (hid (upd H p o) (p::O)):=t7 hp;refine⟨λi d e=>let ⟨v,a,b⟩:=E.val i d e;⟨v,a,b.mono s⟩,λi xs e=>?_,E.one,(E.all.same (bL hp o)).cons aY m⟩;obtain⟨a,e1,e2,e3⟩:=E.own i xs e;obtain⟨u,hu⟩:=e3.some;exact⟨a,e1,QP _ e2,e3.mono (by rw[aD (bc hu hp)]) s⟩
theorem eI.rewrite{K:Tu}{O:List UN}{H:Hp}{ρ:aq}{σ:St}{p:UN}{o:HO}(m:sB o)(E:eI K O H ρ σ)(hp:p∈O)(hs:∀(i:Nat) xs,ρ[i]?=some (some (.own xs))->σ[i]?≠some (some (.ref p))):eI K O (upd H p o) ρ σ:=by
 have s:bj (hid H O) (hid (upd H p o) O):=iE hp;refine⟨λi d e=>let ⟨v,a,b⟩:=E.val i d e;⟨v,a,b.mono s⟩,λi xs e=>?_,E.one,E.all.upd hp m⟩;obtain⟨a,e1,e2,e3⟩:=E.own i xs e;have ne:a≠p:=λz=>hs i xs e (by rw[<-z];exact e1);exact⟨a,e1,e2,e3.mono (by rw[aD ne]) s⟩
theorem eI.forget{K:Tu}{O:List UN}{H:Hp}{ρ ρ':aq}{σ:St}(E:eI K O H ρ σ)(h:∀(i:Nat) x,ρ'[i]?=some (some x)->ρ[i]?=some (some x)):eI K O H ρ' σ:=
 ⟨λi d e=>E.val i d (h i _ e),λi xs e=>E.own i xs (h i _ e),λi j xs ys a e1 e2=>E.one i j xs ys a (h i _ e1) (h j _ e2),E.all⟩
def Fills(ρ:aq)(g:GF):Prop:=∀d ρ1,g d ρ=some ρ1->∀(i:Nat) x,ρ[i]?=some (some x)->ρ1[i]?=some (some x)
theorem wq(ix:List (Option Nat))(ρ:aq):∀(i:Nat) xs,(inB ix ρ)[i]?≠some (some (.own xs)):=by
 intro j xs e;obtain⟨_,_,_,_,q3⟩:=p5 e;cases q3
theorem Mz{α:Type}{o:Option α}{a:α}(h:rO o=.ok a):o=some a:=by
 cases o with
 |none=>cases h
 |some b=>cases h;rfl
end TG
namespace TG
open PySem PySem.Spec L2
variable[aW]
section
variable{X:Cx}{elt tg iter:U0}{ifs:List U0}{scope:UY}{pos:Pos}{N:List Str}{ix:List (Option Nat)}{G:aq->R (List D)}{g:GF}{C:aq->R Bool}{Fe:FX}
structure vq(ix:List (Option Nat))(g:GF):Prop where
 fill:∀ρ,Fills (inB ix ρ) g
 own:∀ρ d ρ1,g d (inB ix ρ)=some ρ1->∀(i:Nat) xs,ρ1[i]?≠some (some (.own xs))
theorem zf{ρ:aq}{i:Nat}(h:ix[i]?=some none):∀x,(inB ix ρ)[i]?≠some (some x):=λx e=>by
 obtain⟨_,_,q,_⟩:=p5 e;rw[h]at q;cases q
theorem eO{i:Nat}(h:ix[i]?=some none):vq ix (gN i):=
  ⟨fun ρ d ρ1 e j x q=>by
    cases e;by_cases z:j=i
    ·subst z;exact absurd q (zf h x)
    ·unfold setV;rw[QS (Ne.symm z)];exact q,
   λρ d ρ1 e j xs q=>by
    cases e;rcases bg q with⟨_,z⟩|⟨_,z⟩
    ·cases z
    ·exact wq ix ρ j xs z⟩
def HS(ix:List (Option Nat))(is:List Nat):Bool:=is.all λi=>match ix[i]? with
 |some none=>true
 |_=>false
def kP:List Nat->Em
 |[]=>Eo
 |i::is=>AV (gN i) (kP is)
theorem BO:∀(is:List Nat)(ds:List D)(ρ ρ1:aq),kP is ds ρ=some ρ1->∀(k:Nat)(x:S),ρ1[k]?=some (some x)->(k∈is/\∃d,x=.val d)\/ρ[k]?=some (some x)
 |[],ds,ρ,ρ1,h,k,x,e=>by
  cases ds with
  |nil=>cases h;exact .inr e
  |cons _ _=>cases h
 |i::is,ds,ρ,ρ1,h,k,x,e=>by
  cases ds with
  |nil=>cases h
  |cons d ds=>
   rcases BO is ds (setV i d ρ) ρ1 h k x e with⟨a,b⟩|q
   ·exact .inl ⟨QP _ a,b⟩
   ·rcases bg q with⟨z,w⟩|⟨_,w⟩
    ·exact .inl ⟨by rw[z];exact QO,d,Option.some.inj w⟩
    ·exact .inr w
theorem yz:∀(is:List Nat)(ds:List D)(ρ ρ1:aq),kP is ds ρ=some ρ1->∀(k:Nat)(x:S),k∉is->ρ[k]?=some (some x)->ρ1[k]?=some (some x)
 |[],ds,ρ,ρ1,h,k,x,_,e=>by
  cases ds with
  |nil=>cases h;exact e
  |cons _ _=>cases h
 |i::is,ds,ρ,ρ1,h,k,x,n,e=>by
  cases ds with
  |nil=>cases h
  |cons d ds=>
   refine yz is ds (setV i d ρ) ρ1 h k x (λz=>n (QP _ z)) ?_;unfold setV;rw[QS (λz=>n (by rw[z];exact QO))];exact e
theorem iu{is:List Nat}{n:Nat}(h:HS ix is=true):vq ix (gT n (kP is)):=by
 have hn:∀i∈is,ix[i]?=some none:=λi hi=>by
  have:=List.all_eq_true.mp h i hi
  cases e:ix[i]? with
  |none=>rw[e]at this;cases this
  |some o=>cases o with
   |none=>rfl
   |some _=>rw[e]at this;cases this
 have shape:∀ρ d ρ1,gT n (kP is) d ρ=some ρ1->∃ds,kP is ds ρ=some ρ1:=λρ d ρ1 e=>by
  cases d with
  |tup xs=>
   have e':(if xs.length=n then kP is xs ρ else none)=some ρ1:=e;by_cases hl:xs.length=n
   ·rw[if_pos hl]at e';exact⟨xs,e'⟩
   ·rw[if_neg hl]at e';cases e'
  |_=>cases e
 refine⟨λρ d ρ1 e k x q=>?_,λρ d ρ1 e k xs q=>?_⟩
 ·obtain⟨ds,e⟩:=shape _ d ρ1 e;exact yz is ds _ ρ1 e k x (λz=>zf (hn k z) x q) q
 ·obtain⟨ds,e⟩:=shape _ d ρ1 e;rcases BO is ds _ ρ1 e k _ q with⟨_,d,z⟩|z
  ·cases z
  ·exact wq ix ρ k xs z
structure lZ(X:Cx)(scope:UY)(N:List Str)(ix:List (Option Nat)):Prop where
 cell:∀y∈scope.names,y.2≠.cell
 kind:scope.kind=.function
 names:∀y∈scope.names,y.2=.local->scope.names.lookup y.1=some .local
 free:∀y∈scope.names,y.2=.free->X.env.scope.names.lookup y.1=some .cell\/X.env.scope.names.lookup y.1=some .free
 ix:x6 X.N N scope.names ix=true
def B7(XS:List (Str×Vx))(XN:List Str)(scope:UY)(N:List Str)(ix:List (Option Nat)):Bool:=
 scope.names.all (λy=>decide (y.2≠.cell))&&decide (scope.kind=.function)&&scope.names.all (λy=>decide (y.2≠.local)||decide (scope.names.lookup y.1=some .local)) &&
  scope.names.all (λy=>decide (y.2≠.free)||(decide (XS.lookup y.1=some .cell)||decide (XS.lookup y.1=some .free)))&&x6 XN N scope.names ix
theorem lZ.of(h:B7 X.env.scope.names X.N scope N ix=true):lZ X scope N ix:=by
 unfold B7 at h;simp only[Rl]at h;obtain⟨⟨⟨⟨h1,h2⟩,h3⟩,h4⟩,h5⟩:=h;refine⟨λy hy=>of_decide_eq_true (List.all_eq_true.mp h1 y hy),of_decide_eq_true h2,λy hy e=>?_,λy hy e=>?_,h5⟩
 ·rcases RN _ _ ▸ List.all_eq_true.mp h3 y hy with q|q
  ·exact absurd e (of_decide_eq_true q)
  ·exact of_decide_eq_true q
 ·rcases RN _ _ ▸ List.all_eq_true.mp h4 y hy with q|q
  ·exact absurd e (of_decide_eq_true q)
  ·rcases RN _ _ ▸ q with q|q
   ·exact .inl (of_decide_eq_true q)
   ·exact .inr (of_decide_eq_true q)
def Mi(X:Cx)(scope:UY)(N:List Str)(tg elt:U0)(ifs:List U0)(g:GF)(C:aq->R Bool)(Fe:FX):Prop:=
 ∀cl C' fp s H E,FG (cQ X scope N cl C' fp s H E) tg g/\NN (cQ X scope N cl C' fp s H E) ifs C/\FE (cQ X scope N cl C' fp s H E) elt Fe
def KW(K:Tu)(F:aq->R Bool):TT:=λσ H Q=>∃O ρ b,eI K O H ρ σ/\F ρ=.ok b/\∀H',bj H H'->Q b H'
def Oi(K:Tu)(F:FX):TE:=λσ H Q=>∃O ρ d,eI K O H ρ σ/\F ρ=.ok d/\∀v H',bj H H'->cJ K (hid H' O) d v->Q v H'
theorem Mi.k(hb:Mi X scope N tg elt ifs g C Fe):∀cl C' fp s H E,PG (cQ X scope N cl C' fp s H E) tg (NT X.K g)/\K2 (cQ X scope N cl C' fp s H E) ifs (KW X.K C)/\PE (cQ X scope N cl C' fp s H E) elt (Oi X.K Fe):=λcl C' fp s H E=>by
 obtain⟨h1,h2,h3⟩:=hb cl C' fp s H E;refine⟨h1,λpins s σ H Q I ⟨O,ρ,b,e1,e2,q⟩=>h2 pins s σ H Q I ⟨O,ρ,e1,by rw[e2];exact q⟩,λpins s σ H Q I ⟨O,ρ,d,e1,e2,q⟩=>h3 pins s σ H Q I ⟨O,ρ,e1,by rw[e2];exact q⟩⟩
def OD(X:Cx)(F:FX):TE:=λσ H Q=>∃O ρ,eI X.K O H ρ σ/\ji X σ O H (F ρ) λd=>∀D H' total acc,d=.lst total->bj H H'->H D=none->H' D=some (.lst acc)->bb X.K (hid H' (D::O)) total acc->Q (.ref D) H'
theorem Pl{F:FX}:∀σ H Q,tF X F σ H Q->OD X F σ H Q:=λσ H Q ⟨O,ρ,E,hF⟩=>⟨O,ρ,E,hF.imp λd q D H' total acc e sm hD hD' dn=>by
 subst e;have DO:D∉O:=E.all.not hD;exact q _ H' sm (cT.mpr ⟨D,acc,rfl,pH.of (by rw[ja DO];exact hD'),dn.mono (iQ λa ha=>QP _ ha)⟩)⟩
theorem JB(tk:vq ix g):∀σ H Q,OD X (kr ix G g C Fe) σ H Q->NI (Pq X G) (NT X.K g) (KW X.K C) (Oi X.K Fe) ix σ H Q:=λσ H Q ⟨O,ρ,E,hF⟩=>by
 refine⟨O,ρ,E,(ji.bind hF).imp λds hF=>?_⟩;have hz:small ds.length=true:=by
  cases e:small ds.length with
  |true=>rfl
  |false=>rw[e]at hF;exact hF.elim
 rw[hz,if_pos rfl]at hF;cases hL:Ab (inB ix ρ) g C Fe ds with
 |error z=>rw[hL]at hF;exact hF.elim
 |ok total=>
 rw[hL]at hF;have q:∀D H' total' acc,TG.D.lst total=.lst total'->bj H H'->H D=none->H' D=some (.lst acc)->bb X.K (hid H' (D::O)) total' acc->Q (.ref D) H':=hF;have e2:=hL;have hfill:=tk.fill;have hown:=tk.own;refine λJ H1 s1 wk D hD=>?_;have E1:eI X.K (D::O) (upd H1 D (.lst [])) (inB ix ρ) (inBlock ix σ):=((HB ix E).same s1).hideNew trivial hD;have DO:D∉O:=(E.all.same s1).not hD;refine⟨λi m σ' H'=>m=ds.length-i/\i<=ds.length/\bj H1 H'/\eI X.K (D::O) H' (inB ix ρ) σ'/\∃acc dn rest,H' D=some (.lst acc)/\acc.length<=i/\bb X.K (hid H' (D::O)) dn acc/\Ab (inB ix ρ) g C Fe (ds.drop i)=.ok rest/\dn++rest=total,
  ⟨ds.length,by rw[RX],Q4 _,bL hD _,E1,[],[],total,aY,QU _,cI.mpr rfl,by rw[RF];exact e2,rfl⟩,?_⟩
 rintro i m σ' H' ⟨rfl,hi,sm,E',acc,dn,rest,hacc,hlen,hdn,hrest,htot⟩;have sH:bj (hid H1 O) (hid H' (D::O)):=λb o h=>by
  have h2:=sm b o (aB H1 O b o h);unfold hid at h ⊢;by_cases hb:b∈O
  ·rw[if_pos hb]at h;cases h
  ·rw[if_neg hb]at h;have ne:b≠D:=bc h hD;rw[if_neg (by intro z;rcases List.mem_cons.mp z with z|z;exact ne z;exact hb z)];exact h2
 by_cases hlt:i<ds.length
 ·right;obtain⟨go,yl⟩:=(wk H' (D::O) i E'.all sH).1 ds[i] (by simp[hlt]);refine⟨go,λx H2 y=>?_⟩;obtain⟨s2,dx'⟩:=yl x H2 y;have E':=E'.same s2;have sm:=sm.trans s2;have hacc:=s2 _ _ hacc;have hdn:=hdn.mono (bN s2);rw[RZ hlt,kT]at hrest;obtain⟨ρ1,g1,hrest⟩:=sE hrest;have g1:=Mz g1;obtain⟨c,c1,hrest⟩:=sE hrest;have c1:=G1 c1;refine⟨D::O,inB ix ρ,ds[i],ρ1,E',dx',g1,λσ3 E3 _=>?_⟩;refine⟨D::O,ρ1,c,E3,c1,λH4 s4=>?_⟩;have E4:=E3.same s4;have back:∀{H5:Hp},eI X.K (D::O) H5 ρ1 σ3->eI X.K (D::O) H5 (inB ix ρ) σ3:=λz=>z.forget λj x e=>hfill ρ _ _ g1 j x e;cases c with
  |true=>
   refine C2 ?_;rw[if_pos rfl]at hrest;obtain⟨v,v1,hrest⟩:=sE hrest;have v1:=G1 v1;obtain⟨r,r1,hrest⟩:=sE hrest;cases hrest;refine⟨D::O,ρ1,v,E4,v1,λw H5 s5 dw=>?_⟩;have s45:=s4.trans s5;have ha5:H5 D=some (.lst acc):=s45 _ _ hacc;have hzl:ds.length<UQ:=R0 (of_decide_eq_true hz) (by decide);refine⟨acc,ha5,by omega,ds.length-(i+1),by omega,rfl,hlt,?_,?_,acc++[w],dn++[v],r,aY,by rw[Rh,Rn];omega,?_,r1,by rw[R1];exact htot⟩
   ·intro b o h;rw[aD (bc h hD)];exact s45 _ _ (sm _ _ h)
   ·exact back ((E3.same s45).rewrite trivial QO λj xs e=>absurd e (hown ρ _ _ g1 j xs))
   ·have s6:bj (hid H5 (D::O)) (hid (upd H5 D (.lst (acc++[w]))) (D::O)):=iE QO;exact(hdn.mono ((bN s45).trans s6)).snoc (dw.mono s6)
  |false=>
   refine DP ?_;rw[if_neg QZ]at hrest;exact⟨ds.length-(i+1),by omega,rfl,hlt,sm.trans s4,back E4,acc,dn,rest,s4 _ _ hacc,by omega,hdn.mono (bN s4),hrest,htot⟩
 ·left;have ei:i=ds.length:=by omega
  subst ei;refine⟨(wk H' (D::O) ds.length E'.all sH).2 rfl,?_⟩;rw[R3]at hrest;cases hrest;rw[Q5]at htot;subst htot;exact q D H' _ acc rfl (s1.trans sm) (s1.free hD) hacc hdn
theorem Jk(tk:vq ix g):∀σ H Q,tF X (kr ix G g C Fe) σ H Q->NI (Pq X G) (NT X.K g) (KW X.K C) (Oi X.K Fe) ix σ H Q:=λσ H Q h=>JB tk σ H Q (Pl σ H Q h)
theorem Qk(hc:X.calm=true)(ok:lZ X scope N ix)(tk:vq ix g)(hi:FI X tg iter G)(hb:Mi X scope N tg elt ifs g C Fe)
  (hs:∀x,Vc iter X.env x=pure x:=by intro _;rfl):FE X (.ListComp elt [⟨tg,iter,ifs,0⟩] scope pos) (kr ix G g C Fe):=
 PE.weak (JC hc ok.cell ok.kind ok.names ok.free ok.ix hi hb.k hs) (Jk tk)
end
structure Ks where
 nx:aq->R D
 bk:aq->R D:=λ_=>un
 ct:aq->R D:=λ_=>un
 ex:Ex->aq->R D:=λx _=>.error (some x)
abbrev cn:=Ks->aq->R D
def tq{α:Type}(r:R α)(k:Ks)(ρ:aq)(f:α->R D):R D:=match r with
 |.ok a=>f a
 |.error (some x)=>k.ex x ρ
 |.error none=>un
structure Base(Hb:Hp)(Ob:List UN)(H:Hp)(O:List UN):Prop where
 same:bj Hb H
 sub:∀a∈Ob,a∈O
 new:∀a∈O,a∈Ob\/Hb a=none
def nM(K:Tu)(H:Hp)(O:List UN):List UN->List D->Prop
 |[],[]=>True
 |b::bs,x::xs=>dD K H O b x/\nM K H O bs xs
 |_,_=>False
def Aa(K:Tu)(H:Hp)(O:List UN)(a:UN)(bs:List UN)(d:D):Prop:=
 ∃xs,nM K H O bs xs/\((d=.lst xs/\H a=some (.lst (bs.map .ref)))\/(∃kvs:List (List Key×V),d=.dct (kvs.map λp=>.tup (p.1.map bx)) xs/\H a=some (.dT kvs)/\kvs.map (·.2)=bs.map .ref)\/(d=.dct [] xs/\bs=[]/\H a=some (.dK [])))
def BK(K:Tu)(Hb:Hp)(Ob O:List UN)(H:Hp)(ρ:aq)(σ:St)(i:Nat)(d:D):Prop:=
 ∃a bs,σ[i]?=some (some (.ref a))/\Aa K H O a bs d/\(a::bs).Nodup/\(∀b∈a::bs,b∈O/\Hb b=none/\b∉Ob/\∀(j:Nat) d',ρ[j]?=some (some (.own d'))->σ[j]?≠some (some (.ref b)))/\∀(j:Nat) d',ρ[j]?=some (some (.nest d'))->j=i
theorem nM.mono{K:Tu}{H H':Hp}{O O':List UN}(s:bj (hid H O) (hid H' O')):∀{bs:List UN}{xs:List D},nM K H O bs xs->(∀b∈bs,(∃o,H b=some o)->H' b=H b)->nM K H' O' bs xs
 |[],[],_,_=>trivial
 |b::bs,x::xs,h,e=>⟨h.1.mono (e b QO h.1.some).symm s,nM.mono s h.2 λb' hb=>e b' (QP _ hb)⟩
 |[],_::_,h,_=>h.elim
 |_::_,[],h,_=>h.elim
theorem nM.some{K:Tu}{H:Hp}{O:List UN}:∀{bs:List UN}{xs:List D},nM K H O bs xs->∀b∈bs,∃o,H b=some o
 |[],_,_,_,hb=>nomatch hb
 |b::bs,x::xs,h,b',hb=>by
  rcases List.mem_cons.mp hb with z|z
  ·rw[z];exact h.1.some
  ·exact nM.some h.2 b' z
 |_::_,[],h,_,_=>h.elim
theorem Aa.some{K:Tu}{H:Hp}{O:List UN}{a:UN}{bs:List UN}{d:D}(h:Aa K H O a bs d):∀b∈a::bs,∃o,H b=some o:=λb hb=>by
 obtain⟨xs,h1,h2⟩:=h;rcases List.mem_cons.mp hb with z|z
 ·rw[z];rcases h2 with⟨_,q⟩|⟨_,_,q,_⟩|⟨_,_,q⟩<;>exact⟨_,q⟩
 ·exact h1.some b z
theorem Aa.mono{K:Tu}{H H':Hp}{O O':List UN}{a:UN}{bs:List UN}{d:D}(h:Aa K H O a bs d)(s:bj (hid H O) (hid H' O'))(e:∀b∈a::bs,(∃o,H b=Option.some o)->H' b=H b):Aa K H' O' a bs d:=by
 have ea:=e a QO (h.some a QO);obtain⟨xs,h1,h2⟩:=h;refine⟨xs,h1.mono s λb hb=>e b (QP _ hb),?_⟩;rw[ea];exact h2
theorem BK.to{K:Tu}{Hb Hb':Hp}{Ob O O':List UN}{H H':Hp}{ρ ρ':aq}{σ σ':St}{i:Nat}{d:D}(h:BK K Hb Ob O H ρ σ i d)(hσ:σ'[i]?=σ[i]?)(s:bj (hid H O) (hid H' O'))
  (k:∀b,b∈O->Hb b=none->b∉Ob->(∀(j:Nat) d',ρ[j]?=some (some (.own d'))->σ[j]?≠some (some (.ref b)))->(∃o,H b=some o)->H' b=H b/\b∈O'/\Hb' b=none/\∀(j:Nat) d',ρ'[j]?=some (some (.own d'))->σ'[j]?≠some (some (.ref b)))
  (n:∀(j:Nat) d',ρ'[j]?=some (some (.nest d'))->∃d2,ρ[j]?=some (some (.nest d2))):BK K Hb' Ob O' H' ρ' σ' i d:=by
 obtain⟨a,bs,h1,h2,h3,h4,h5⟩:=h;refine⟨a,bs,hσ.trans h1,h2.mono s λb hb ho=>?_,h3,λb hb=>?_,λj d' q=>?_⟩
 ·obtain⟨q1,q2,q3,q4⟩:=h4 b hb;exact(k b q1 q2 q3 q4 ho).1
 ·obtain⟨q1,q2,q3,q4⟩:=h4 b hb;obtain⟨_,w2,w3,w4⟩:=k b q1 q2 q3 q4 (h2.some b hb);exact⟨w2,w3,q3,w4⟩
 ·obtain⟨d2,q⟩:=n j d' q;exact h5 j d2 q
structure eY(K:Tu)(Hb:Hp)(Ob O:List UN)(H:Hp)(ρ:aq)(σ:St):Prop where
 env:eI K O H ρ σ
 base:Base Hb Ob H O
 mine:∀(i:Nat) xs a,ρ[i]?=some (some (.own xs))->σ[i]?=some (some (.ref a))->Hb a=none/\a∉Ob
 nst:∀(i:Nat) d,ρ[i]?=some (some (.nest d))->BK K Hb Ob O H ρ σ i d
theorem Base.same'{Hb:Hp}{Ob:List UN}{H H':Hp}{O:List UN}(b:Base Hb Ob H O)(s:bj H H'):Base Hb Ob H' O:=⟨b.same.trans s,b.sub,b.new⟩
theorem eY.same{K:Tu}{Hb:Hp}{Ob O:List UN}{H H':Hp}{ρ:aq}{σ:St}(h:eY K Hb Ob O H ρ σ)(s:bj H H'):eY K Hb Ob O H' ρ σ:=⟨h.env.same s,h.base.same' s,h.mine,λi d q=>(h.nst i d q).to rfl (bN s) (λb q1 q2 q3 q4 ⟨o,ho⟩=>⟨by rw[ho,s _ _ ho],q1,q2,q4⟩) λj d' z=>⟨d',z⟩⟩
theorem eY.after{K:Tu}{Hb:Hp}{Ob O:List UN}{H:Hp}{ρ ρ':aq}{σ σ':St}(S:eY K Hb Ob O H ρ σ)(E':eI K O H ρ' σ')(own:∀(i:Nat) x,ρ'[i]?=some (some x)->(∀d,x≠.val d)->σ'[i]?=σ[i]?/\ρ[i]?=some (some x)):eY K Hb Ob O H ρ' σ':=
 ⟨E',S.base,fun i xs a q1 q2=>by
  obtain⟨w1,w2⟩:=own i _ q1 (λ_ z=>nomatch z);rw[w1]at q2;exact S.mine i xs a w2 q2,λi d q=>by
  obtain⟨w1,w2⟩:=own i _ q (λ_ z=>nomatch z);refine(S.nst i d w2).to w1 (λ_ _ z=>z) (λb q1 q2 q3 q4 _=>⟨rfl,q1,q2,λl d' w=>?_⟩) λl d' w=>⟨d',(own l _ w (λ_ z=>nomatch z)).2⟩
  obtain⟨z1,z2⟩:=own l _ w (λ_ z=>nomatch z);rw[z1];exact q4 l d' z2⟩
structure Ny(X:Cx)(Hb:Hp)(Ob:List UN)(E:Ends)(k:Ks)(r:R D):Prop where
 ne:r≠un
 nx:∀O ρ σ H,eY X.K Hb Ob O H ρ σ->k.nx ρ=r->E.nx σ H
 bk:∀O ρ σ H,eY X.K Hb Ob O H ρ σ->k.bk ρ=r->E.bk σ H
 ct:∀O ρ σ H,eY X.K Hb Ob O H ρ σ->k.ct ρ=r->E.ct σ H
 rt:∀d O v H,r=.ok d->Base Hb Ob H O->cJ X.K (hid H O) d v->E.rt v H
 ex:∀O ρ σ H x,eY X.K Hb Ob O H ρ σ->k.ex x ρ=r->Lv X σ O H x
def P8(X:Cx)(Hb:Hp)(Ob:List UN)(F:cn):TS:=λE σ H=>∃O ρ k r,eY X.K Hb Ob O H ρ σ/\F k ρ=r/\Ny X Hb Ob E k r
def FS(X:Cx)(st:U2)(F:cn):Prop:=∀Hb Ob,PS X st (P8 X Hb Ob F)
def Ac(X:Cx)(st:List U2)(F:cn):Prop:=∀Hb Ob,y8 X st (P8 X Hb Ob F)
theorem ji.on{X:Cx}{Hb:Hp}{Ob O:List UN}{H:Hp}{ρ:aq}{σ:St}{E:Ends}{k:Ks}{r:R D}{α:Type}{fr:R α}{G:α->R D}{Q:α->Prop}(h:tq fr k ρ G=r)(hk:Ny X Hb Ob E k r)(S:eY X.K Hb Ob O H ρ σ)(q:∀a,G a=r->Q a):ji X σ O H fr Q:=by
 match fr,h with
 |.ok a,h=>exact q a h
 |.error (some x),h=>exact hk.ex O ρ σ H x S h
 |.error none,h=>exact absurd h.symm hk.ne
section
variable{X:Cx}{st:U2}{rest body:List U2}{pos:Pos}
def cM:cn:=λk ρ=>k.nx ρ
def aU(F1 F2:cn):cn:=λk ρ=>F1 {k with nx:=F2 k} ρ
theorem Nu:Ac X [] cM:=λHb Ob=>y8.weak Hw λE σ H ⟨O,ρ,k,r,S,hF,hk⟩=>hk.nx O ρ σ H S hF
theorem LW{F1 F2:cn}(h1:FS X st F1)(h2:Ac X rest F2):Ac X (st::rest) (aU F1 F2):=λHb Ob=>y8.weak (zI (h1 Hb Ob) (h2 Hb Ob)) λE σ H ⟨O,ρ,k,r,S,hF,hk⟩=>
 ⟨O,ρ,{k with nx:=F2 k},r,S,hF,hk.ne,λO' ρ' σ' H' S' e=>⟨O',ρ',k,r,S',e,hk⟩,hk.bk,hk.ct,hk.rt,hk.ex⟩
theorem N0{F1:cn}(h1:FS X st F1):Ac X [st] F1:=λHb Ob=>BD (h1 Hb Ob)
def bM(f:FX):cn:=λk ρ=>tq (f ρ) k ρ .ok
theorem Pn{e:U0}{f:FX}(h:FE X e f):FS X (.Return (some e) pos) (bM f):=λHb Ob=>PS.weak (Ln h) λE σ H ⟨O,ρ,k,r,S,hF,hk⟩=>
 ⟨O,ρ,S.env,ji.on hF hk S λd e v H' s' d'=>hk.rt d O v H' e.symm (S.base.same' s') d'⟩
def LI:cn:=λ_ _=>.ok .non
def mO(c:aq->R Bool)(A B:cn):cn:=λk ρ=>tq (c ρ) k ρ λb=>if b then A k ρ else B k ρ
theorem Qm{c:U0}{a b:List U2}{tc:aq->R Bool}{A B:cn}(hc:FT X c tc)(ha:Ac X a A)(hb:Ac X b B):FS X (.If c a b pos) (mO tc A B):=λHb Ob=>PS.weak (Nf hc (ha Hb Ob) (hb Hb Ob)) λE σ H ⟨O,ρ,k,r,S,hF,hk⟩=>
 ⟨O,ρ,S.env,ji.on hF hk S fun z e H1 s1=>by
  cases z with
  |true=>exact C2 ⟨O,ρ,k,r,S.same s1,e,hk⟩
  |false=>exact DP ⟨O,ρ,k,r,S.same s1,e,hk⟩⟩
def cy(i:Nat)(f:FX):cn:=λk ρ=>tq (f ρ) k ρ λd=>k.nx (setV i d ρ)
theorem eY.setV{K:Tu}{Hb:Hp}{Ob O:List UN}{H:Hp}{ρ:aq}{σ:St}(E:eY K Hb Ob O H ρ σ){i:Nat}{d:D}{v:V}(hi:i<σ.length)(hd:cJ K (hid H O) d v):eY K Hb Ob O H (setV i d ρ) (σ.set i (some v)):=
  ⟨E.env.setV hi hd,E.base,fun j xs a e1 e2=>by
    rcases bg e1 with⟨_,q⟩|⟨ne,q⟩
    ·cases q
    · rw[QS (Ne.symm ne)]at e2
      exact E.mine j xs a q e2,
   λj dn e=>by
    rcases bg e with⟨_,q⟩|⟨ne,q⟩
    ·cases q
    · refine(E.nst j dn q).to (QS (Ne.symm ne)) (λ_ _ z=>z) (λb q1 q2 q3 q4 _=>⟨rfl,q1,q2,λl d' w=>?_⟩) λl d' w=>?_
      · rcases bg w with⟨_,z⟩|⟨nl,z⟩
        ·cases z
        ·rw[QS (Ne.symm nl)];exact q4 l d' z
      · rcases bg w with⟨_,z⟩|⟨_,z⟩
        ·cases z
        ·exact⟨d',z⟩⟩
theorem we{f:FX}{i:Nat}(hi:i<X.N.length)(h:PS X st (Gb (tF X f) (wW i))):FS X st (cy i f):=λHb Ob pins s σ H E I ⟨O,ρ,k,r,S,hF,hk⟩=>
 h pins s σ H E I ⟨O,ρ,S.env,ji.on hF hk S λd e v H1 s1 d1=>hk.nx O _ _ H1 ((S.same s1).setV (by rw[I.len];exact hi) d1) e⟩
theorem P6{i:Nat}{x:Str}{e:U0}{f:FX}{pos':Pos}(hN:X.N.Nodup)(hi:X.N[i]?=some x)(hx:Loc X.env.scope x)(he:FE X e f)(hs:swapsWith e (some (.Name x pos')) pos.line X.env=pure false:=by rfl)(hf:X.fn x=true\/X.env.scope.names.lookup x=some .local:=by first|exact .inl rfl|exact .inr rfl|assumption):
  FS X (.Assign [.Name x pos'] e pos) (cy i f):=we (List.getElem?_eq_some_iff.mp hi).1 (Bd hN hi hx he hs hf)
theorem Qf{elt tg iter:U0}{ifs:List U0}{scope:UY}{N:List Str}{ix:List (Option Nat)}{G:aq->R (List D)}{g:GF}{C:aq->R Bool}{Fe:FX}{i:Nat}{y:Str}{lpos py spos:Pos}(hN:X.N.Nodup)(hi':X.N[i]?=some y)(hx:Loc X.env.scope y)
  (hc:X.calm=true) (ok:lZ X scope N ix) (tk:vq ix g) (hi:FI X tg iter G) (hb:Mi X scope N tg elt ifs g C Fe)
  (hsw:swapsWith (.ListComp elt [⟨tg,iter,ifs,0⟩] scope lpos) (some (.Name y py)) spos.line X.env=pure true:=by rfl)
  (hs:∀x,Vc iter X.env x=pure x:=by intro _;rfl)
  (hf:X.fn y=true\/X.env.scope.names.lookup y=some .local:=by first|exact .inl rfl|exact .inr rfl|assumption):
  FS X (.Assign [.Name y py] (.ListComp elt [⟨tg,iter,ifs,0⟩] scope lpos) spos) (cy i (kr ix G g C Fe)):=
 we (List.getElem?_eq_some_iff.mp hi').1 (PS.weak (MV hN hi' hx hc ok.cell ok.kind ok.names ok.free ok.ix hi hb.k hsw hs hf) λE σ H q=>Jk tk σ H _ q)
def EC(f:FX)(g:GF):cn:=λk ρ=>tq (f ρ) k ρ λd=>(rO (g d ρ)).bind k.nx
theorem PR{tg e:U0}{f:FX}{g:GF}(he:FE X e f)(hg:FG X tg g)(hs:swapsWithSole [tg] e pos.line X.env=pure false:=by rfl)(hw:swappedStores [tg] e X.env=pure none:=by rfl)
  (h1:(assignEach [tg] X.env).map (·.2)=[assign tg X.env]:=by rfl):FS X (.Assign [tg] e pos) (EC f g):=λHb Ob=>PS.weak (KN he hg hs hw h1) λE σ H ⟨O,ρ,k,r,S,hF,hk⟩=>
 ⟨O,ρ,S.env,ji.on hF hk S fun d e v H1 s1 d1=>by
  cases hg:g d ρ with
  |none=>rw[hg]at e;exact absurd e.symm hk.ne
  |some ρ1=>
   rw[hg]at e;refine⟨O,ρ,d,ρ1,(S.same s1).env,d1,hg,λσ' E' own=>hk.nx O ρ1 σ' H1 ((S.same s1).after E' own) e⟩⟩
def pU:cn:=λ_ _=>un
theorem ND:FS X st pU:=λHb Ob pins s σ H E I ⟨O,ρ,k,r,S,hF,hk⟩=>absurd hF.symm hk.ne
def kill(is:List Nat)(ρ:aq):aq:=is.foldl (λρ i=>ρ.set i none) ρ
theorem kH:∀(is:List Nat)(ρ:aq)(i:Nat)(x:S),(kill is ρ)[i]?=some (some x)->ρ[i]?=some (some x)
 |[],ρ,i,x,e=>e
 |j::is,ρ,i,x,e=>by
  rcases bg (kH is (ρ.set j none) i x e)with⟨_,q⟩|⟨_,q⟩
  ·cases q
  ·exact q
theorem eY.kill{K:Tu}{Hb:Hp}{Ob O:List UN}{H:Hp}{ρ:aq}{σ:St}(E:eY K Hb Ob O H ρ σ)(is:List Nat):eY K Hb Ob O H (kill is ρ) σ:=
 ⟨E.env.forget (kH is ρ),E.base,λi xs a e1 e2=>E.mine i xs a (kH is ρ i _ e1) e2,λi d q=>(E.nst i d (kH is ρ i _ q)).to rfl (λ_ _ z=>z) (λb q1 q2 q3 q4 _=>⟨rfl,q1,q2,λl d' w=>q4 l d' (kH is ρ l _ w)⟩) λl d' w=>⟨d',kH is ρ l _ w⟩⟩
def dM(is:List Nat)(F:cn):cn:=λk ρ=>F k (kill is ρ)
theorem LK{st:List U2}{F:cn}(is:List Nat)(h:Ac X st F):Ac X st (dM is F):=λHb Ob=>y8.weak (h Hb Ob) λE σ H ⟨O,ρ,k,r,S,hF,hk⟩=>⟨O,TG.kill is ρ,k,r,S.kill is,hF,hk⟩
end
def ie(g:GF)(B:cn)(k:Ks):List D->aq->R D
 |[],ρ=>k.nx ρ
 |d::ds,ρ=>(rO (g d ρ)).bind λρ1=>B ⟨ie g B k ds,k.nx,ie g B k ds,k.ex⟩ ρ1
def jU(G:aq->R (List D))(g:GF)(B:cn):cn:=λk ρ=>tq (G ρ) k ρ λds=>ie g B k ds ρ
def lb(H:Hp)(O Ob:List UN):Hp:=λb=>if b∈O/\b∉Ob then none else H b
theorem xD{H:Hp}{O Ob:List UN}{b:UN}(h1:b∈O)(h2:b∉Ob):lb H O Ob b=none:=by unfold lb;rw[if_pos ⟨h1,h2⟩]
theorem IR{H:Hp}{O Ob:List UN}{b:UN}{o:HO}(h:lb H O Ob b=some o):H b=some o/\¬(b∈O/\b∉Ob):=by
 unfold lb at h;split at h
 ·cases h
 ·rename_i n;exact⟨h,n⟩
theorem GV{H:Hp}{O Ob:List UN}{b:UN}{o:HO}(h:H b=some o)(n:¬(b∈O/\b∉Ob)):lb H O Ob b=some o:=by unfold lb;rw[if_neg n];exact h
theorem Base.loop{Hb:Hp}{Ob:List UN}{H:Hp}{O:List UN}(b:Base Hb Ob H O):Base (lb H O Ob) Ob H O:=
 ⟨fun c o h=>(IR h).1,b.sub,fun a ha=>by
  by_cases h:a∈Ob
  ·exact .inl h
  ·exact .inr (xD ha h)⟩
theorem Base.back{Hb:Hp}{Ob:List UN}{H H':Hp}{O O':List UN}(b:Base Hb Ob H O)(b':Base (lb H O Ob) Ob H' O'):Base Hb Ob H' O':=by
 have up:bj Hb (lb H O Ob):=λc o h=>GV (b.same c o h) λ⟨z1,z2⟩=>by
  rcases b.new c z1 with z|z
  ·exact z2 z
  ·rw[z]at h;cases h
 exact⟨up.trans b'.same,b'.sub,λa ha=>(b'.new a ha).imp id up.free⟩
theorem eY.loop{K:Tu}{Hb:Hp}{Ob O:List UN}{H:Hp}{ρ:aq}{σ:St}(E:eY K Hb Ob O H ρ σ):eY K (lb H O Ob) Ob O H ρ σ:=
 ⟨E.env,E.base.loop,fun i xs a e1 e2=>by
  obtain⟨_,n⟩:=E.mine i xs a e1 e2;obtain⟨a',e3,e4,_⟩:=E.env.own i xs e1;rw[e2]at e3;cases e3;exact⟨xD e4 n,n⟩,λi d q=>(E.nst i d q).to rfl (λ_ _ z=>z) (λb q1 q2 q3 q4 _=>⟨rfl,q1,xD q1 q3,q4⟩) λl d' w=>⟨d',w⟩⟩
theorem eY.back{K:Tu}{Hb:Hp}{Ob O O':List UN}{H H':Hp}{ρ':aq}{σ':St}(b:Base Hb Ob H O)(E:eY K (lb H O Ob) Ob O' H' ρ' σ'):eY K Hb Ob O' H' ρ' σ':=
 have up:bj Hb (lb H O Ob):=λc o h=>GV (b.same c o h) λ⟨z1,z2⟩=>by
  rcases b.new c z1 with z|z
  ·exact z2 z
  ·rw[z]at h;cases h
 ⟨E.env,b.back E.base,fun i xs a e1 e2=>by
  obtain⟨z,n⟩:=E.mine i xs a e1 e2;exact⟨up.free z,n⟩,λi d q=>(E.nst i d q).to rfl (λ_ _ z=>z) (λb q1 q2 q3 q4 _=>⟨rfl,q1,up.free q2,q4⟩) λl d' w=>⟨d',w⟩⟩
theorem FJ{Hb:Hp}{Ob O O':List UN}{H H':Hp}(b:Base Hb Ob H O)(b':Base (lb H O Ob) Ob H' O'):bj (hid H O) (hid H' O'):=λc o h=>by
 unfold hid at h ⊢;by_cases hc:c∈O
 ·rw[if_pos hc]at h;cases h
 ·rw[if_neg hc]at h;have h1:lb H O Ob c=some o:=GV h λz=>hc z.1;rw[if_neg]
  ·exact b'.same _ _ h1
  ·intro z;rcases b'.new c z with z|z
   ·exact hc (b.sub c z)
   ·rw[h1]at z;cases z
theorem Ny.loop{X:Cx}{Hb:Hp}{Ob O:List UN}{H:Hp}{E E':Ends}{k k':Ks}{r:R D}(hk:Ny X Hb Ob E k r)(b:Base Hb Ob H O)(hn:∀O' ρ' σ' H',eY X.K (lb H O Ob) Ob O' H' ρ' σ'->k'.nx ρ'=r->E'.nx σ' H')(hc:∀O' ρ' σ' H',eY X.K (lb H O Ob) Ob O' H' ρ' σ'->k'.ct ρ'=r->E'.ct σ' H')
    (eb:k'.bk=k.nx) (ee:k'.ex=k.ex) (Eb:E'.bk=E.nx) (Er:E'.rt=E.rt):Ny X (lb H O Ob) Ob E' k' r:=
  ⟨hk.ne,hn,fun O' ρ' σ' H' S e=>by rw [Eb]; exact hk.nx O' ρ' σ' H' (S.back b) (by rw [<- eb]; exact e),hc,fun d O' v H' e b' dv=>by rw [Er]; exact hk.rt d O' v H' e (b.back b') dv,
   λO' ρ' σ' H' x S e=>hk.ex O' ρ' σ' H' x (S.back b) (by rw[<-ee];exact e)⟩
section
variable{X:Cx}{st:U2}{rest body:List U2}{pos:Pos}
theorem OS{tg iter:U0}{G:aq->R (List D)}{g:GF}{B:cn}(hp:Vb (model X.prog X.w) X.A X.env X.xe)(hc:X.calm=true)(hi:FI X tg iter G)(hg:FG X tg g)(hb:Ac X body B)
  (hs:∀x,Vc iter X.env x=pure x:=by intro _;rfl):FS X (.For tg iter body [] pos) (jU G g B):=λHb Ob pins s σ H E I ⟨O,ρ,k,r,S,hF,hk⟩=>by
 have hall:y8 X body (λE σ H=>∃Hb',P8 X Hb' Ob B E σ H):=λpins s σ H E I ⟨Hb',q⟩=>hb Hb' Ob pins s σ H E I q;refine KU hp hc hi hg hall hs pins s σ H E I ⟨O,ρ,S.env,ji.on hF hk S λds hF J H1 s1 wk=>?_⟩;have E1:=S.same s1;refine⟨λi m σ H=>m=ds.length-i/\i<=ds.length/\∃O' ρ',eY X.K (lb H1 O Ob) Ob O' H ρ' σ/\ie g B k (ds.drop i) ρ'=r,
  ⟨ds.length,by rw[RX],Q4 _,O,ρ,E1.loop,by rw[RF];exact hF⟩,?_⟩
 rintro i m σ' H' ⟨rfl,hi',O',ρ',E',hr⟩;have sD:=FJ E1.base E'.base;by_cases hlt:i<ds.length
 ·right;obtain⟨go,yl⟩:=(wk H' O' i E'.env.all sD).1 ds[i] (by simp[hlt]);refine⟨go,λσ2 H2=>ds.length-(i+1)=ds.length-(i+1)/\i+1<=ds.length/\∃O' ρ',eY X.K (lb H1 O Ob) Ob O' H2 ρ' σ2/\ie g B k (ds.drop (i+1)) ρ'=r,λσ2 H2 z=>⟨ds.length-(i+1),by omega,z⟩,λx H2 y=>?_⟩;obtain⟨s2,dx⟩:=yl x H2 y;have E':=E'.same s2;rw[RZ hlt]at hr;cases hg':g ds[i] ρ' with
  |none=>
   have hr':(rO (g ds[i] ρ')).bind (λρ1=>B ⟨ie g B k (ds.drop (i+1)),k.nx,ie g B k (ds.drop (i+1)),k.ex⟩ ρ1)=r:=hr;rw[hg']at hr';exact absurd hr'.symm hk.ne
  |some ρ1=>
   have hr':(rO (g ds[i] ρ')).bind (λρ1=>B ⟨ie g B k (ds.drop (i+1)),k.nx,ie g B k (ds.drop (i+1)),k.ex⟩ ρ1)=r:=hr;rw[hg']at hr';refine⟨O',ρ',ds[i],ρ1,E'.env,dx,hg',λσ3 E3 own=>?_⟩;have E3':eY X.K (lb H1 O Ob) Ob O' H2 ρ1 σ3:=E'.after E3 own;exact⟨lb H1 O Ob,O',ρ1,⟨ie g B k (ds.drop (i+1)),k.nx,ie g B k (ds.drop (i+1)),k.ex⟩,r,E3',hr',hk.loop E1.base (λO4 ρ4 σ4 H4 E4 z=>⟨rfl,hlt,O4,ρ4,E4,z⟩) (λO4 ρ4 σ4 H4 E4 z=>⟨rfl,hlt,O4,ρ4,E4,z⟩) rfl rfl rfl rfl⟩
 ·left;have ei:i=ds.length:=by omega
  subst ei;refine⟨(wk H' O' ds.length E'.env.all sD).2 rfl,?_⟩;rw[R3]at hr;exact hk.nx O' ρ' σ' H' (E'.back E1.base) hr
end
end TG
namespace TG
open PySem PySem.Spec L2
variable[aW]
theorem eY.setO{K:Tu}{Hb:Hp}{Ob O:List UN}{H:Hp}{ρ:aq}{σ:St}(E:eY K Hb Ob O H ρ σ){i:Nat}{d d':D}{a:UN}{o:HO}(hi:ρ[i]?=some (some (.own d)))(ha:σ[i]?=some (some (.ref a)))(m:sB o)(new:dD K (upd H a o) O a d'):
  eY K Hb Ob O (upd H a o) (ρ.set i (some (.own d'))) σ:=by
 obtain⟨a',ha',haO,hat⟩:=E.env.own i d hi;rw[ha]at ha';cases ha';obtain⟨m1,m2⟩:=E.mine i d a hi ha;have s:bj (hid H O) (hid (upd H a o) O):=iE haO;have own:∀(j:Nat) ys,(ρ.set i (some (.own d')))[j]?=some (some (.own ys))->∃ys',ρ[j]?=some (some (.own ys')):=λj ys q=>by
  rcases bg q with⟨hj,_⟩|⟨_,q⟩
  ·rw[hj];exact⟨d,hi⟩
  ·exact⟨ys,q⟩
 refine⟨⟨λj d1 e=>?_,λj ys e=>?_,λj l ys zs b q1 q2 q3 q4=>?_,E.env.all.upd haO m⟩,⟨λb u h=>?_,E.base.sub,E.base.new⟩,λj ys b q1 q2=>?_,λj dn q=>?_⟩
 ·rcases bg e with⟨_,q⟩|⟨ne,q⟩
  ·cases q
  ·obtain⟨w,q1,q2⟩:=E.env.val j d1 q;exact⟨w,q1,q2.mono s⟩
 ·rcases bg e with⟨hj,q⟩|⟨ne,q⟩
  ·cases q;rw[hj];exact⟨a,ha,haO,new⟩
  ·obtain⟨b,q1,q2,q3⟩:=E.env.own j ys q;have nb:b≠a:=λz=>ne (E.env.one j i ys d a q hi (by rw[<-z];exact q1) ha);exact⟨b,q1,q2,q3.mono (by rw[aD nb]) s⟩
 ·obtain⟨_,q1'⟩:=own j ys q1;obtain⟨_,q2'⟩:=own l zs q2;exact E.env.one j l _ _ b q1' q2' q3 q4
 ·have nb:b≠a:=λz=>by rw[z,m1]at h;cases h
  rw[aD nb];exact E.base.same b u h
 ·obtain⟨ys',q⟩:=own j ys q1;exact E.mine j ys' b q q2
 ·have q:ρ[j]?=some (some (.nest dn)):=by
   rcases bg q with⟨_,z⟩|⟨_,z⟩
   ·cases z
   ·exact z
  refine(E.nst j dn q).to rfl s (λb q1 q2 q3 q4 _=>⟨aD λz=>q4 i d hi (by rw[z];exact ha),q1,q2,λl d1 w=>?_⟩) λl d1 w=>?_
  ·obtain⟨_,w'⟩:=own l d1 w;exact q4 l _ w'
  ·rcases bg w with⟨_,z⟩|⟨_,z⟩
   ·cases z
   ·exact⟨d1,z⟩
theorem eY.setNew{K:Tu}{Hb:Hp}{Ob O:List UN}{H H':Hp}{ρ:aq}{σ:St}(E:eY K Hb Ob O H ρ σ){i:Nat}{d:D}{p:UN}(hi:i<σ.length)(sm:bj H H')(hp:H p=none)(m:∃o,H' p=some o/\sB o)(new:dD K H' (p::O) p d):
  eY K Hb Ob (p::O) H' (ρ.set i (some (.own d))) (σ.set i (some (.ref p))):=by
 have hpO:p∉O:=E.env.all.not hp;have s:bj (hid H O) (hid H' (p::O)):=λb o h=>by
  unfold hid at h ⊢;by_cases hb:b∈O
  ·rw[if_pos hb]at h;cases h
  ·rw[if_neg hb]at h;have ne:=bc h hp;rw[if_neg (by intro z;rcases List.mem_cons.mp z with z|z;exact ne z;exact hb z)];exact sm _ _ h
 have other:∀(j:Nat) xs,ρ[j]?=some (some (.own xs))->σ[j]?≠some (some (.ref p)):=λj xs e z=>by
  obtain⟨a,e1,e2,e3⟩:=E.env.own j xs e;rw[z]at e1;cases e1;obtain⟨o,e3⟩:=e3.some;rw[hp]at e3;cases e3
 refine⟨⟨λj d' e=>?_,λj xs e=>?_,λj k xs ys a e1 e2 e3 e4=>?_,⟨(E.env.all.same sm).1,λa ha=>?_⟩⟩,⟨E.base.same.trans sm,λa ha=>QP _ (E.base.sub a ha),λa ha=>?_⟩,λj xs a e1 e2=>?_,λj dn e=>?_⟩
 ·rcases bg e with⟨_,q⟩|⟨ne,q⟩
  ·cases q
  ·obtain⟨v,q1,q2⟩:=E.env.val j d' q;exact⟨v,by rw[QS (Ne.symm ne)];exact q1,q2.mono s⟩
 ·rcases bg e with⟨hj,q⟩|⟨ne,q⟩
  ·cases q;rw[hj];exact⟨p,QR hi,QO,new⟩
  ·obtain⟨a,q1,q2,q3⟩:=E.env.own j xs q;obtain⟨o,ho⟩:=q3.some;exact⟨a,by rw[QS (Ne.symm ne)];exact q1,QP _ q2,q3.mono (sY sm ho) s⟩
 ·rcases bg e1 with⟨hj,q1⟩|⟨nj,q1⟩
  ·rcases bg e2 with⟨hk,q2⟩|⟨nk,q2⟩
   ·exact hj.trans hk.symm
   ·rw[hj,QR hi]at e3;cases e3;rw[QS (Ne.symm nk)]at e4;exact absurd e4 (other k ys q2)
  ·rcases bg e2 with⟨hk,q2⟩|⟨nk,q2⟩
   ·rw[hk,QR hi]at e4;cases e4;rw[QS (Ne.symm nj)]at e3;exact absurd e3 (other j xs q1)
   ·rw[QS (Ne.symm nj)]at e3;rw[QS (Ne.symm nk)]at e4;exact E.env.one j k xs ys a q1 q2 e3 e4
 ·rcases List.mem_cons.mp ha with rfl|ha
  ·exact m
  ·exact(E.env.all.same sm).2 a ha
 ·rcases List.mem_cons.mp ha with rfl|ha
  ·exact .inr (E.base.same.free hp)
  ·exact E.base.new a ha
 ·rcases bg e1 with⟨hj,q1⟩|⟨nj,q1⟩
  ·rw[hj,QR hi]at e2;cases e2;exact⟨E.base.same.free hp,λz=>hpO (E.base.sub p z)⟩
  ·rw[QS (Ne.symm nj)]at e2;exact E.mine j xs a q1 e2
 ·rcases bg e with⟨_,q⟩|⟨ne,q⟩
  ·cases q
  ·refine(E.nst j dn q).to (QS (Ne.symm ne)) s (λb q1 q2 q3 q4 ⟨o,ho⟩=>⟨by rw[ho,sm _ _ ho],QP _ q1,q2,λl d1 w=>?_⟩) λl d1 w=>?_
   ·rcases bg w with⟨hl,z⟩|⟨nl,z⟩
    ·rw[hl,QR hi];intro z;cases z;rw[hp]at ho;cases ho
    ·rw[QS (Ne.symm nl)];exact q4 l d1 z
   ·rcases bg w with⟨_,z⟩|⟨_,z⟩
    ·cases z
    ·exact⟨d1,z⟩
def Py(X:Cx)(F:FX):TE:=λσ H Q=>∃O ρ,eI X.K O H ρ σ/\ji X σ O H (F ρ) λd=>∀p H',bj H H'->H p=none->(∃o,H' p=some o/\sB o)->dD X.K H' (p::O) p d->Q (.ref p) H'
def FN(X:Cx)(e:U0)(F:FX):Prop:=PE X e (Py X F)
section
variable{X:Cx}{pos:Pos}
theorem zr{K:Tu}{H:Hp}{O:List UN}{p:UN}{ds:List D}{vs:List V}(hp:H p=none)(d:bb K (hid H O) ds vs):dD K (upd H p (.lst vs)) (p::O) p (.lst ds):=⟨_,vs,aY,rfl,d.mono (t7 hp)⟩
theorem O1{es:List U0}{g:aq->R (List D)}(h:FA X es g):FN X (.List es pos) (jM g):=
 PE.weak (Bb h) λσ H Q ⟨O,ρ,E,hF⟩=>⟨O,ρ,E,(ji.bind hF).imp λxs hF vs H1 s1 d1=>by
  obtain⟨d,e,q⟩:=ji.rO hF;obtain⟨hz,e⟩:=bI e;subst e;refine⟨by rw[<-d1.length];exact eM hz,λp hp=>?_⟩;exact q p _ (s1.trans (bL hp _)) (s1.free hp) ⟨_,aY,trivial⟩ (zr hp d1)⟩
def zh:FX:=λ_=>.ok (.dct [] [])
theorem EW:FN X (.Dict [] [] pos) zh:=PE.weak EB λσ H Q ⟨O,ρ,E,q⟩ p hp=>q p _ (bL hp _) hp ⟨_,aY,trivial⟩ ⟨_,[],aY,cI.mpr rfl,.inr ⟨[],rfl,rfl,rfl⟩⟩
def qi(i:Nat)(f:FX):cn:=λk ρ=>tq (f ρ) k ρ λd=>k.nx (ρ.set i (some (.own d)))
theorem Eg{st:U2}{f:FX}{i:Nat}(hi:i<X.N.length)(h:PS X st (Gb (Py X f) (wW i))):FS X st (qi i f):=λHb Ob pins s σ H E I ⟨O,ρ,k,r,S,hF,hk⟩=>
 h pins s σ H E I ⟨O,ρ,S.env,ji.on hF hk S λd e p H1 s1 hp m o=>hk.nx _ _ _ H1 (S.setNew (by rw[I.len];exact hi) s1 hp m o) e⟩
theorem PN{i:Nat}{x:Str}{e:U0}{f:FX}{pos':Pos}(hN:X.N.Nodup)(hi:X.N[i]?=some x)(hx:Loc X.env.scope x)(he:FN X e f)(hs:swapsWith e (some (.Name x pos')) pos.line X.env=pure false:=by rfl)(hf:X.fn x=true\/X.env.scope.names.lookup x=some .local:=by first|exact .inl rfl|exact .inr rfl|assumption):
  FS X (.Assign [.Name x pos'] e pos) (qi i f):=Eg (List.getElem?_eq_some_iff.mp hi).1 (Bd hN hi hx he hs hf)
end
theorem MP{X:Cx}{F:FX}:∀σ H Q,Py X F σ H Q->OD X F σ H Q:=λσ H Q ⟨O,ρ,E,hF⟩=>⟨O,ρ,E,hF.imp λd q D H' total acc e sm hD hD' dn=>by
 subst e;exact q D H' sm hD ⟨_,hD',trivial⟩ ⟨_,acc,hD',rfl,dn⟩⟩
theorem Qo{X:Cx}{elt tg iter:U0}{ifs:List U0}{scope:UY}{pos:Pos}{N:List Str}{ix:List (Option Nat)}{G:aq->R (List D)}{g:GF}{C:aq->R Bool}{Fe:FX}(hc:X.calm=true)(ok:lZ X scope N ix)(tk:vq ix g)(hi:FI X tg iter G)(hb:Mi X scope N tg elt ifs g C Fe)
  (hs:∀x,Vc iter X.env x=pure x:=by intro _;rfl):FN X (.ListComp elt [⟨tg,iter,ifs,0⟩] scope pos) (kr ix G g C Fe):=
 PE.weak (JC hc ok.cell ok.kind ok.names ok.free ok.ix hi hb.k hs) λσ H Q q=>JB tk σ H _ (MP σ H _ q)
def C6(i:Nat)(u:List D->List D->Option (List D))(f:aq->R (List D)):cn:=λk ρ=>match ρ[i]? with
 |some (some (.own (.lst xs)))=>tq (f ρ) k ρ λds=>(rO (u xs ds)).bind λys=>k.nx (ρ.set i (some (.own (.lst ys))))
 |_=>un
def Gk(K:Tu)(r:V->List V->Hp->VK->Prop)(u:List D->List D->Option (List D)):Prop:=
 ∀(H:Hp)(O:List UN)(a:UN)(xs ys as:List D)(ws vs:List V)(Q:VK),dU H O->a∈O->H a=some (.lst ws)->bb K (hid H O) xs ws->bb K (hid H O) as vs->u xs as=some ys->(∀ws' v,bb K (hid H O) ys ws'->Q v (upd H a (.lst ws')))->r (.ref a) vs H Q
theorem se{K:Tu}{H:Hp}{O:List UN}{a:UN}{ys:List D}{ws:List V}(ha:a∈O)(h:bb K (hid H O) ys ws):dD K (upd H a (.lst ws)) O a (.lst ys):=⟨_,ws,aY,rfl,h.mono (iE ha)⟩
theorem Qi{X:Cx}{i:Nat}{x m:Str}{id:String}{r:V->List V->Hp->VK->Prop}{u:List D->List D->Option (List D)}{e:U0}{es:List U0}{f:aq->R (List D)}{npos apos cpos pos:Pos}(slot:Slot "list" m id)(hty:typeOf (.builtin id)=pure (.type "method_descriptor"))(hm:MZ X id r)(ok:Gk X.K r u)(hx:PE X (.Name x npos) (qy i))(he:FA X (e::es) f)
  (hbase:Vl (.Name x npos) m X.env (eval (.Name x npos) X.env)=eval (.Name x npos) X.env:=by rfl)
  (hfew:((backTo cpos (U1 (e::es) X.env)).all (fun x=>!x.1) && (backToKw cpos (Vn [] X.env)).all (fun x=>x.1.isSome)
   && decide ((e::es:List U0).length+([]:List Vv).length+(if([]:List Vv).isEmpty then 0 else 1)<30))=true:=by rfl)
  (hline:(apos.endLine==cpos.line)=true:=by rfl) (hs:U1 (e::es) X.env=(false,eval e X.env)::U1 es X.env:=by rfl) (hplain:(backTo cpos (U1 es X.env)).any (·.1)=false:=by rfl)
  (hsw:swapsWith (.Call (.Attribute (.Name x npos) m apos) (e::es) [] cpos) none pos.line X.env=pure false:=by rfl):
  FS X (.Expr (.Call (.Attribute (.Name x npos) m apos) (e::es) [] cpos) pos) (C6 i u f):=λHb Ob pins s σ H E I ⟨O,ρ,k,rr,S,hF,hk⟩=>by
 unfold C6 at hF;split at hF
 ·rename_i xs hxs;obtain⟨a,ha,haO,hat⟩:=S.env.own i _ hxs;obtain⟨o,vs0,ho,eo,dn⟩:=hat;subst eo;refine xF (BC F.plainAttrs_list slot hty hm hx he hbase hfew hline hs hplain) hsw pins s σ H E I ⟨.ref a,ha,.inl ⟨rfl,vs0,pH.of ho⟩,O,ρ,S.env,ji.on hF hk S λds hr vs H1 s1 d1=>?_⟩;have S1:=S.same s1;cases hu1:u xs ds with
  |none=>rw[hu1]at hr;exact absurd hr.symm hk.ne
  |some ys=>
   rw[hu1]at hr;exact ok H1 O a xs ys ds vs0 vs _ S1.env.all haO (s1 _ _ ho) (dn.mono (bN s1)) d1 hu1 λws' v new=>hk.nx O _ σ _ (S1.setO hxs ha trivial (se haO new)) hr
 ·exact absurd hF.symm hk.ne
def ig(xs:List D)(ds:List D):Option (List D):=match ds with
 |[y]=>if small (xs.length+1)then some (xs++[y])else none
 |_=>none
theorem ga{K:Tu}:Gk K x8 ig:=λH O a xs ys as ws vs Q hO haO ha dx da hu q=>by
 unfold ig at hu;split at hu
 ·rename_i y;obtain⟨h1,h2⟩:=bI hu;subst h2;obtain⟨v,rfl,dv⟩:=da.one
  have:=eM h1
  rw[dx.length]at this;exact⟨a,ws,v,rfl,rfl,ha,by omega,q _ _ (dx.snoc dv)⟩
 ·cases hu
def frz(i:Nat)(ρ:aq):aq:=match ρ[i]? with
 |some (some (.own d))=>setV i d ρ
 |_=>ρ
theorem eI.frz{K:Tu}{O:List UN}{H:Hp}{ρ:aq}{σ:St}(E:eI K O H ρ σ)(i:Nat):∃O',eI K O' H (frz i ρ) σ/\(∀b∈O',b∈O)/\∀b∈O,b∉O'->∃d,ρ[i]?=some (some (.own d))/\σ[i]?=some (some (.ref b)):=by
 unfold TG.frz;split
 ·rename_i d hd;obtain⟨a,ha,haO,hat⟩:=E.own i d hd;have sub:∀b∈O.filter (λb=>decide (b≠a)),b∈O:=λb hb=>(List.mem_filter.mp hb).1;have s:bj (hid H O) (hid H (O.filter λb=>decide (b≠a))):=iQ sub;have na:a∉O.filter λb=>decide (b≠a):=λz=>absurd rfl (of_decide_eq_true (List.mem_filter.mp z).2);refine⟨O.filter λb=>decide (b≠a),⟨λj d' e=>?_,λj ys e=>?_,λj l ys zs b q1 q2 q3 q4=>?_,⟨E.all.1,λb hb=>E.all.2 b (sub b hb)⟩⟩,sub,λb hb nb=>?_⟩
  ·rcases bg e with⟨hj,q⟩|⟨ne,q⟩
   ·cases q;rw[hj];exact⟨.ref a,ha,hat.den s na⟩
   ·obtain⟨w,q1,q2⟩:=E.val j d' q;exact⟨w,q1,q2.mono s⟩
  ·rcases bg e with⟨_,q⟩|⟨ne,q⟩
   ·cases q
   ·obtain⟨b,q1,q2,q3⟩:=E.own j ys q;have nb:b≠a:=λz=>ne (E.one j i ys d a q hd (by rw[<-z];exact q1) ha);exact⟨b,q1,List.mem_filter.mpr ⟨q2,decide_eq_true nb⟩,q3.mono rfl s⟩
  ·rcases bg q1 with⟨_,q⟩|⟨_,q⟩
   ·cases q
   ·rcases bg q2 with⟨_,q'⟩|⟨_,q'⟩
    ·cases q'
    ·exact E.one j l ys zs b q q' q3 q4
  ·by_cases z:b=a
   ·exact⟨d,hd,by rw[z];exact ha⟩
   ·exact absurd (List.mem_filter.mpr ⟨hb,decide_eq_true z⟩) nb
 ·exact⟨O,E,λ_ z=>z,λb hb nb=>absurd hb nb⟩
theorem eY.frz{K:Tu}{Hb:Hp}{Ob O:List UN}{H:Hp}{ρ:aq}{σ:St}(E:eY K Hb Ob O H ρ σ)(i:Nat):∃O',eY K Hb Ob O' H (frz i ρ) σ:=by
 obtain⟨O',E',sub,gone⟩:=E.env.frz i;refine⟨O',E',⟨E.base.same,λa ha=>?_,λa ha=>E.base.new a (sub a ha)⟩,λj xs a q1 q2=>?_,λj dn q1=>?_⟩
 ·by_cases z:a∈O'
  ·exact z
  ·obtain⟨d,e1,e2⟩:=gone a (E.base.sub a ha) z;exact absurd ha (E.mine i d a e1 e2).2
 ·have q:ρ[j]?=some (some (.own xs)):=by
   unfold TG.frz at q1;split at q1
   ·rcases bg q1 with⟨_,q⟩|⟨_,q⟩
    ·cases q
    ·exact q
   ·exact q1
  exact E.mine j xs a q q2
 ·have bk:∀(l:Nat) x,(TG.frz i ρ)[l]?=some (some x)->(∀d,x≠.val d)->ρ[l]?=some (some x):=λl x e nv=>by
   unfold TG.frz at e;split at e
   ·rcases bg e with⟨_,q⟩|⟨_,q⟩
    ·cases q;exact absurd rfl (nv _)
    ·exact q
   ·exact e
  refine(E.nst j dn (bk j _ q1 (λ_ z=>nomatch z))).to rfl (iQ sub) (λb w1 w2 w3 w4 _=>⟨rfl,?_,w2,λl d1 w=>w4 l d1 (bk l _ w (λ_ z=>nomatch z))⟩) λl d1 w=>⟨d1,bk l _ w (λ_ z=>nomatch z)⟩
  by_cases z:b∈O'
  ·exact z
  ·obtain⟨d,e1,e2⟩:=gone b w1 z;exact absurd e2 (w4 i d e1)
def kE(i:Nat)(F:cn):cn:=λk ρ=>F k (frz i ρ)
theorem NM{X:Cx}{st:List U2}{F:cn}(i:Nat)(h:Ac X st F):Ac X st (kE i F):=λHb Ob=>y8.weak (h Hb Ob) λE σ H ⟨O,ρ,k,r,S,hF,hk⟩=>by
 obtain⟨O',S'⟩:=S.frz i;exact⟨O',TG.frz i ρ,k,r,S',hF,hk⟩
mutual
def lf:D->Bool
 |.tup xs=>Jh xs
 |.lst _=>false
 |.dct _ _=>false
 |.obj _ _ vs=>Jh vs
 |.exc _ _ _=>false
 |_=>true
def Jh:List D->Bool
 |[]=>true
 |x::xs=>lf x&&Jh xs
end
mutual
theorem EY{K:Tu}{H:Hp}{O O':List UN}(hO:dU H O):∀{d:D}{v:V},lf d=true->cJ K (hid H O') d v->cJ K (hid H O) d v
 |.non,_,_,h=>by unfold cJ at h ⊢;exact h
 |.bl _,_,_,h=>by unfold cJ at h ⊢;exact h
 |.int _,_,_,h=>by unfold cJ at h ⊢;exact h
 |.str _,_,_,h=>by unfold cJ at h ⊢;exact h
 |.lst _,_,l,_=>by unfold lf at l;cases l
 |.dct _ _,_,l,_=>by unfold lf at l;cases l
 |.exc _ _ _,_,l,_=>by unfold lf at l;cases l
 |.obj c fs xs,_,l,h=>by
  unfold lf at l;rw[Hj]at h ⊢;obtain⟨a,ws,e,h1,hl,C,dx,hc,ha⟩:=h;refine⟨a,ws,e,xB hO l h1,hl,C,dx,hc,?_⟩;have q':=aB H O' a _ ha;rw[ja λz=>by obtain⟨u,e1,e2⟩:=hO.2 a z;rw[q']at e1;cases e1;exact e2.elim];exact q'
 |.tup xs,_,l,h=>by
  unfold lf at l;rw[cN]at h ⊢;obtain⟨a,vs,e,h1,h2⟩:=h;refine⟨a,vs,e,?_,xB hO l h2⟩;have key:∀{o:HO},hid H O' a=some o->¬sB o->hid H O a=some o:=λ{o} q n=>by
   have q':=aB H O' a o q;rw[ja λz=>by obtain⟨u,e1,e2⟩:=hO.2 a z;rw[q']at e1;cases e1;exact n e2];exact q'
  exact key h1 λz=>z.elim
theorem xB{K:Tu}{H:Hp}{O O':List UN}(hO:dU H O):∀{ds:List D}{vs:List V},Jh ds=true->bb K (hid H O') ds vs->bb K (hid H O) ds vs
 |[],_,_,h=>by rw[cI]at h ⊢;exact h
 |x::xs,_,l,h=>by
  unfold Jh at l;rw[Rl]at l;rw[bo]at h ⊢;obtain⟨v,r,e,h1,h2⟩:=h;exact⟨v,r,e,EY hO l.1 h1,xB hO l.2 h2⟩
end
def frzs(is:List Nat)(ρ:aq):aq:=is.foldl (λρ i=>frz i ρ) ρ
theorem eI.frzs{K:Tu}{H:Hp}{σ:St}:∀(is:List Nat){O:List UN}{ρ:aq},eI K O H ρ σ->∃O',eI K O' H (frzs is ρ) σ
 |[],O,_,E=>⟨O,E⟩
 |i::is,_,_,E=>by
  obtain⟨O',E',_⟩:=E.frz i;exact eI.frzs is E'
def tP(is:List Nat)(f:FX):FX:=λρ=>(Ad (f (frzs is ρ))).bind λd=>if lf d then .ok d else un
def nE(is:List Nat)(f:aq->R Bool):aq->R Bool:=λρ=>Ad (f (frzs is ρ))
theorem Nv{X:Cx}{e:U0}{f:FX}(is:List Nat)(h:FE X e f):FE X e (tP is f):=PE.weak h λσ H Q ⟨O,ρ,E,hF⟩=>by
 obtain⟨O',E'⟩:=E.frzs is;refine⟨O',TG.frzs is ρ,E',?_⟩;unfold tP at hF;cases hf:f (TG.frzs is ρ)with
 |error z=>rw[hf]at hF;exact hF.elim
 |ok d=>
  rw[hf]at hF;have hF':ji X σ O H (if lf d then .ok d else un) _:=hF;cases hl:lf d with
  |false=>rw[hl]at hF';exact hF'.elim
  |true=>
   rw[hl]at hF';exact λv H' s' dv=>hF' v H' s' (EY (E.all.same s') hl dv)
theorem Nt{X:Cx}{e:U0}{f:aq->R Bool}(is:List Nat)(h:FT X e f):FT X e (nE is f):=PT.weak h λσ H Q ⟨O,ρ,E,hF⟩=>by
 obtain⟨O',E'⟩:=E.frzs is;refine⟨O',TG.frzs is ρ,E',?_⟩;unfold nE at hF;cases hf:f (TG.frzs is ρ)with
 |error z=>rw[hf]at hF;exact hF.elim
 |ok d=>rw[hf]at hF;exact hF
end TG
namespace TG
open PySem PySem.Spec L2
variable[aW]
def El(K:Tu)(n:Nat)(g:List D->R D):Sp:=λvs H Q E=>∃O ds,vs.length=n/\dU H O/\bb K (hid H O) ds vs/\match g ds with
 |.ok d=>∀v H',bj H H'->cJ K (hid H' O) d v->Q v H'
 |.error (some x)=>Pp K H O x E
 |.error none=>False
section
variable{X:Cx}{k:Nat}{f C:UN}{fd:Vq}{ps:List Str}{sp:Sp}{x m:Str}{p pos apos:Pos}{e o:U0}{es:List U0}{ta:TE}{t:TA}
theorem B3{pins:List (UN×Obj)}{σ:St}{H:Hp}{s:UX}{Q:VK}{E:XK}{us:List UK}{vs:List V}(F:jT X.prog X.w X.K X.mg X.base (oW X.prog X.w) k f fd ps sp)(hr:fY k X.A)(hb:Binds X.K fd ps [])(hx:nN (oW X.prog X.w) X σ E)
  (I:Inv X pins σ H s) (r:Vals vs us) (h:sp vs H Q E):UZ (model X.prog X.w) X.A (call (.ref f) us) (EP X pins σ Q) X.xe s:=by
 have hl:(us++[]).length=ps.length:=by rw[Q5,<-r.length];exact F.len _ _ _ _ h
 have hb':=hb s us I.kIn hl;rw[Q5]at hb';refine Vs (Vt (F.run X.A X.stack s H ⟨us,[]⟩ us vs Q E hr I.env0 hb' r h) λr s' hq=>?_);cases r with
 |error e=>exact hx pins H s e s' I hq
 |ok fl=>
  cases fl with
  |ret u=>exact I.after hq
  |next=>exact False.elim hq
  |brk=>exact False.elim hq
  |cont=>exact False.elim hq
def EA(X:Cx)(sp:Sp)(t:TA):TE:=λσ H Q=>t σ H λvs H1=>∃E,nN (oW X.prog X.w) X σ E/\sp vs H1 Q E
theorem Gn(F:jT X.prog X.w X.K X.mg X.base (oW X.prog X.w) k f fd ps sp)(hr:fY k X.A)(hg:Gl X x)(hm:X.mg x=some (.ref f))(hk:TN X.K (.ref f)=true)(hb:Binds X.K fd ps [])
  (ha:PA X (e::es) t) (hdb:(x==("__debug__":Str))=false:=by decide) (he:U1 (e::es) X.env=(false,eval e X.env)::U1 es X.env:=by rfl) (hpl:(backTo pos (U1 es X.env)).any (·.1)=false:=by rfl):
  PE X (.Call (.Name x p) (e::es) [] pos) (EA X sp t):=by
 intro pins s σ H Q I h;refine Vu (xn I hg hm ?_ hdb);refine TQ (h₀:=X.base) I.ok.mod.kin hk (dL (ha pos pins s σ H _ I h) λus s1 ⟨vs,H1,I1,r,E,hx,q⟩=>⟨I1.kIn,?_⟩) he hpl;exact B3 F hr hb hx I1 r q
theorem Dj{n:Nat}{g:List D->R D}{f:aq->R (List D)}(hn:∀ds,g ds≠un->ds.length=n):∀σ H Q,tF X (fR g f) σ H Q->EA X (El X.K n g) (NY X f) σ H Q:=λσ H Q ⟨O,ρ,E,hF⟩=>
 ⟨O,ρ,E,(ji.bind hF).imp fun ds hF vs H1 s1 d1=>by
  cases hg:g ds with
  |ok d=>
   rw[hg]at hF;refine⟨E0,BE,O,ds,by rw[<-d1.length];exact hn ds (by rw[hg];intro z;cases z),E.all.same s1,d1,?_⟩;rw[hg];exact λv H2 s2 d2=>hF v H2 (s1.trans s2) d2
  |error z=>
   rw[hg]at hF;cases z with
   |none=>exact hF.elim
   |some x=>
    refine⟨CB X O H1 x,B4 (Lv.mono hF s1),O,ds,by rw[<-d1.length];exact hn ds (by rw[hg];intro z;cases z),E.all.same s1,d1,?_⟩;rw[hg];exact zS⟩
end
def Callee(P:UM)(w:UL)(K:Tu)(mg:Str->Option UK)(base:UP)(k:Nat)(x:Str)(ps:List Str)(g:List D->R D):Prop:=
 ∃f fd,jT P w K mg base (oW P w) k f fd ps (El K ps.length g)/\Binds K fd ps []/\TN K (.ref f)=true/\mg x=some (.ref f)
def Ar(n:Nat)(g:List D->R D):Prop:=∀ds,g ds≠un->ds.length=n
theorem Lx{X:Cx}{k k':Nat}{ps:List Str}{g:List D->R D}{h:aq->R (List D)}{x:Str}{p pos:Pos}{e:U0}{es:List U0}
  (C:Callee X.prog X.w X.K X.mg X.base k x ps g) (hn:Ar ps.length g) (hr:fY k' X.A) (hk:k<=k') (ha:FA X (e::es) h) (hg:Gl X x:=by rfl)
  (hdb:(x==("__debug__":Str))=false:=by decide) (hns:(e::es).all noStar=true:=by rfl):
  FE X (.Call (.Name x p) (e::es) [] pos) (fR g h):=by
 obtain⟨f,fd,F,b,kp,m⟩:=C;exact PE.weak (Gn F (hr.mono hk) hg m kp b ha hdb (dh (Rl _ _ ▸ hns).1) (gz (Rl _ _ ▸ hns).2)) (Dj hn)
def K0:Ks:={nx:=λ_=>.ok .non}
def env0(n:Nat)(ds:List D):aq:=ds.map (λd=>some (.val d))++List.replicate (n-ds.length) none
def aK(B:cn)(np n:Nat):List D->R D:=λds=>if ds.length=np then B K0 (env0 n ds)else un
theorem aQ{B:cn}{np n:Nat}:Ar np (aK B np n):=λds h=>by
 unfold aK at h;split at h
 ·assumption
 ·exact absurd rfl h
theorem jO{n:Nat}{ds:List D}(i:Nat)(x:S)(e:(env0 n ds)[i]?=some (some x)):∃d,ds[i]?=some d/\x=.val d:=by
 unfold env0 at e;by_cases hi:i<ds.length
 ·rw[Rb (by rw[Q2];exact hi),Rc,RK hi]at e;have e':some (S.val ds[i])=some x:=Option.some.inj e;exact⟨ds[i],by rw[RK hi],(Option.some.inj e').symm⟩
 ·rw[Q9 (by rw[Q2];omega),Q2,Ra]at e;split at e
  ·cases e
  ·cases e
theorem ur{K:Tu}{O:List UN}{H:Hp}{N:List Str}{ds:List D}{vs:List V}(hO:dU H O)(h:bb K (hid H O) ds vs):eI K O H (env0 N.length ds) (L2.start N vs):=by
 refine⟨λi d e=>?_,λi xs e=>?_,λi j xs ys a e=>?_,hO⟩
 ·obtain⟨d',e1,e2⟩:=jO i _ e;cases e2;obtain⟨v,e3,e4⟩:=h.get e1;refine⟨v,?_,e4⟩;unfold L2.start;have hi:i<vs.length:=(List.getElem?_eq_some_iff.mp e3).1;rw[Rb (by rw[Q2];exact hi),Rc,e3];rfl
 ·obtain⟨d',_,e2⟩:=jO i _ e;cases e2
 ·obtain⟨d',_,e2⟩:=jO i _ e;cases e2
section
variable{P:UM}{w:UL}{K:Tu}{mg:Str->Option UK}{base:UP}
structure BodyOk(P:UM)(w:UL)(K:Tu)(mg:Str->Option UK)(base:UP)(k:Nat)(N:List Str)(qual:Str)(st:U2)(f:UN)(B:cn):Prop where
 h:∀(cdv:UK)(A:UW)(outer:List Env)(s:UX)(H:Hp)(E:XK),fY k (A.deeper (Ut qual (ax st) s.heap.objs.size f cdv))->Vb (model P w) (A.deeper (Ut qual (ax st) s.heap.objs.size f cdv)) (Ut qual (ax st) s.heap.objs.size f cdv) (kB (oW P w) P w K mg base N qual (ax st) f cdv A outer s H E).xe->
  Ac (kB (oW P w) P w K mg base N qual (ax st) f cdv A outer s H E) (fw st) B
theorem O5{x qual:Str}{st:U2}{f:UN}{fd:Vq}{N ps:List Str}{k:Nat}{sp:Sp}{CX:Ae}(F:uT K x qual st f fd)(S:aM N ps (ax st))(len:∀vs H Q E,sp vs H Q E->vs.length=ps.length)
  (hbody:∀ (cdv:UK) (A:UW) (outer:List Env) (s:UX) (H:Hp) (vs:List V) (Q:VK) (E:XK),fY k (A.deeper (Ut qual (ax st) s.heap.objs.size f cdv))->sp vs H Q E ->
   ∃t,y8 (kB CX P w K mg base N qual (ax st) f cdv A outer s H E) (fw st) t/\t {nx:=λ_ H'=>Q .non H',rt:=Q} (L2.start N vs) H):jT P w K mg base CX (k+1) f fd ps sp:=by
 obtain⟨oc,od,kV,doc,pm,an,cdv,ct,osl,rfl,lk,hcd⟩:=F.ex;exact GU lk hcd S len λA outer s H vs Q E hr hsp=>hbody cdv A outer s H vs Q E hr hsp
theorem jT.any{CX:Ae}{k:Nat}{f:UN}{fd:Vq}{ps:List Str}{sp:Sp}(F:jT P w K mg base Nx k f fd ps sp):jT P w K mg base CX k f fd ps sp:=
 ⟨F.len,fun A outer s H args us vs Q E hr he hb hv hs=>Vt (F.run A outer s H args us vs Q E hr he hb hv hs) fun r s' h=>by
  cases r with
  |error e=>exact False.elim h
  |ok fl=>cases fl<;>exact h⟩
theorem xu{x qual:Str}{st:U2}{f:UN}{fd:Vq}{N ps:List Str}{k:Nat}{B:cn}(F:uT K x qual st f fd)(SC:aM N ps (ax st))(hb:BodyOk P w K mg base k N qual st f B):
  jT P w K mg base (oW P w) (k+1) f fd ps (El K ps.length (aK B ps.length N.length)):=by
 refine O5 F SC (λvs H Q E h=>?_) λcdv A outer s H vs Q E hr h=>?_
 ·obtain⟨O,ds,h1,_⟩:=h;exact h1
 ·obtain⟨O,ds,h1,h2,h3,h4⟩:=h;have hl:ds.length=ps.length:=h3.length.trans h1;have e4:aK B ps.length N.length ds=B K0 (env0 N.length ds):=by unfold aK;rw[if_pos hl]
  rw[e4]at h4;refine⟨_,hb.h cdv A outer s H E hr PassesOwn.leaving H O,O,env0 N.length ds,K0,_,⟨ur h2 h3,⟨bj.refl H,λ_ z=>z,λa z=>.inl z⟩,λi xs a e=>?_,λi d e=>by obtain⟨d',_,e2⟩:=jO i _ e;cases e2⟩,rfl,?_⟩
  ·obtain⟨d',_,e2⟩:=jO i _ e;cases e2
  ·generalize B K0 (env0 N.length ds)=r at h4;refine⟨λz=>by rw[z]at h4;exact h4,λO' ρ' σ' H' S e=>?_,λO' ρ' σ' H' S e=>?_,λO' ρ' σ' H' S e=>?_,λd O' v H' e b dv=>?_,λO' ρ' σ' H' x S e=>?_⟩
   ·have e:(.ok .non:R D)=r:=e;subst e;exact h4 .non H' S.base.same (mj.mpr rfl)
   ·have e:(un:R D)=r:=e;subst e;exact h4.elim
   ·have e:(un:R D)=r:=e;subst e;exact h4.elim
   ·subst e;exact h4 v H' b.same (dv.mono (iQ b.sub))
   ·have e:(.error (some x):R D)=r:=e;subst e;exact Gp h4 S.base.same S.base.sub
theorem bu{x qual:Str}{st:U2}{f:UN}{fd:Vq}{N ps:List Str}{k:Nat}{B:cn}(F:uT K x qual st f fd)(b:Binds K fd ps [])(m:mg x=some (.ref f))(SC:aM N ps (ax st))(hb:BodyOk P w K mg base k N qual st f B):
  Callee P w K mg base (k+1) x ps (aK B ps.length N.length):=⟨f,fd,xu F SC hb,b,F.kp,m⟩
theorem dZ{x qual:Str}{st:U2}{f:UN}{fd:Vq}{ps:List Str}(k:Nat)(F:uT K x qual st f fd)(b:Binds K fd ps [])(m:mg x=some (.ref f)):Callee P w K mg base k x ps (λ_=>un):=by
 have no:∀vs H Q E,¬El K ps.length (λ_=>un) vs H Q E:=λvs H Q E ⟨O,ds,_,_,_,e⟩=>e;exact⟨f,fd,⟨λvs H Q E h=>absurd h (no vs H Q E),λA outer s H args us vs Q E _ _ _ _ h=>absurd h (no vs H Q E)⟩,b,F.kp,m⟩
end
theorem sV{K:Tu}{T:String}(h1:TZ K (.type "NoneType") (.type T)=some (T=="NoneType"))(h2:TZ K (.type "bool") (.type T)=some (T=="bool"||T=="int"))(h3:TZ K (.type "int") (.type T)=some (T=="int"))(h4:TZ K (.type "str") (.type T)=some (T=="str"))
  (h5:TZ K (.type "tuple") (.type T)=some (T=="tuple")) (h6:TZ K (.type "list") (.type T)=some (T=="list")):zF K T:=λd hd=>by
 cases d with
 |dct _ _=>cases hd
 |obj _ _ _=>cases hd
 |exc _ _ _=>cases hd
 |non=>exact h1
 |bl _=>exact h2
 |int _=>exact h3
 |str _=>exact h4
 |tup _=>exact h5
 |lst _=>exact h6
theorem ud{K:Tu}:zF K "int":=sV rfl rfl rfl rfl rfl rfl
theorem kK{K:Tu}:zF K "bool":=sV rfl rfl rfl rfl rfl rfl
theorem yu{K:Tu}:zF K "str":=sV rfl rfl rfl rfl rfl rfl
theorem AI{K:Tu}:zF K "tuple":=sV rfl rfl rfl rfl rfl rfl
end TG
namespace TG
open PySem PySem.Spec L2
variable[aW]
section
variable{X:Cx}{a b c:U0}{fa fb fc:FX}{pos:Pos}
theorem Kb{r:V->Hp->VK->Prop}{g:D->Option D}(s:IK X.K r g):∀σ H Q,tF X (f1 g fa) σ H Q->Ql r (tF X fa) σ H Q:=λσ H Q ⟨O,ρ,E,hF⟩=>⟨O,ρ,E,(ji.bind hF).imp λa hF x H1 s1 d1=>by
 obtain⟨d,e,q⟩:=ji.rO hF;exact s a d x O H1 Q (E.all.same s1) e d1 λv H2 s2 d2=>q v H2 (s1.trans s2) d2⟩
def uR(g g':D->D->Option D)(fa fb fc:FX):FX:=λρ=>(fa ρ).bind λx=>(fb ρ).bind λy=>(rO (g x y)).bind λz=>Av z ((fc ρ).bind λw=>rO (g' y w))
theorem DV{r r':R2}{g g':D->D->Option D}(s:cX X.K r g)(s':cX X.K r' g'):∀σ H Q,tF X (uR g g' fa fb fc) σ H Q->FQ r r' (tF X fa) (tF X fb) (tF X fc) σ H Q:=λσ H Q ⟨O,ρ,E,hF⟩=>
 ⟨O,ρ,E,(ji.bind hF).imp fun x hF v1 H1 s1 d1=>⟨O,ρ,E.same s1,((ji.bind hF).mono s1).imp fun y hF v2 H2 s2 d2=>by
  obtain⟨z,e3,hF⟩:=ji.rO (ji.bind hF);refine s x y z v1 v2 O H2 _ (E.all.same (s1.trans s2)) e3 (d1.mono (bN s2)) d2 λv3 H3 s3 d3=>?_;cases z with
  |bl k=>
   refine⟨k,mI.mp d3,?_⟩;cases k with
   |false=>exact DP (hF _ H3 ((s1.trans s2).trans s3) (mI.mpr rfl))
   |true=>
    refine C2 ⟨O,ρ,E.same ((s1.trans s2).trans s3),((ji.bind (show ji X σ O H ((fc ρ).bind λw=>rO (g' y w)) _ from hF)).mono ((s1.trans s2).trans s3)).imp λw hF v4 H4 s4 d4=>?_⟩;obtain⟨d,e5,q⟩:=ji.rO hF;exact s' y w d v2 v4 O H4 Q (E.all.same (((s1.trans s2).trans s3).trans s4)) e5 (d2.mono (bN (s3.trans s4))) d4 λv5 H5 s5 d5=>q v5 H5 ((((s1.trans s2).trans s3).trans s4).trans s5) d5
  |_=>exact hF.elim⟩⟩
theorem ME{op op':Vg}{r r':R2}{g g':D->D->Option D}(ho:j7 X (Vf op) r)(s:cX X.K r g)(ho':j7 X (Vf op') r')(s':cX X.K r' g')(ha:FE X a fa)(hb:FE X b fb)(hc:FE X c fc)
  (hm:lastMarks [op,op'] [b,c]=false:=by with_unfolding_all rfl):FT X (.Compare a [op,op'] [b,c] pos) (fB (uR g g' fa fb fc)):=PT.weak (Gz ho ho' ha hb hc hm) (yA (DV s s'))
def K7:D->Option D
 |.int i=>some (.int (-i))
 |_=>none
def mK(f:FX):FX:=f1 K7 f
theorem Oe(ha:FE X a fa):FE X (.UnaryOp .USub a pos) (mK fa):=PE.weak (MM JY ha) (Kb λx d v O H Q _ e dv q=>by
 cases x with
 |int i=>cases e;exact⟨i,fE.mp dv,q _ H (bj.refl H) (fE.mpr rfl)⟩
 |_=>cases e)
theorem NC{x:Str}{i:Int}(hg:Gl X x)(hm:∃t,X.mg x=some (.int i t))(hd:(x==("__debug__":Str))=false:=by decide):FE X (.Name x pos) (fC (.int i)):=by
 obtain⟨t,m⟩:=hm;exact pP (Hs (v:=.int i) hg m ⟨t,rfl⟩ hd) λ_ _=>fE.mpr rfl
def Gq:D->Option D
 |.str x=>if small x.length then some (.str (Txt.upper x))else none
 |_=>none
def KS(f:FX):FX:=f1 Gq f
def J4:D->Option D
 |.lst xs=>some (.lst xs.reverse)
 |.tup xs=>some (.tup xs.reverse)
 |_=>none
def PZ(f:FX):FX:=f1 J4 f
theorem uf{K:Tu}{H:Hp}:∀{bs:List Bool}{vs:List V}{us:List UK},bb K H (bs.map .bl) vs->Vals vs us->us=bs.map Value.bool
 |[],vs,us,h,r=>by
  rw[Rp,cI]at h;subst h;cases r;rfl
 |b::bs,vs,us,h,r=>by
  rw[Q1,bo]at h;obtain⟨v,r',e,h1,h2⟩:=h;subst e;cases r with
  |cons q1 q2=>
   rw[mI]at h1;subst h1;cases q1;rw[Q1,uf h2 q2]
end
end TG
namespace ZI
open PySem PySem.Spec PyProof.Rows
section
variable{prog:UM}{w:UL}{A:UW}{E:UK->UX->Prop}{s:UX}
theorem Bf{it t:UN}{i:Nat}{its:Array UK}{x:UK}{Q:UK->UX->Prop}(hit:s.heap.IsTupleIter it t i)(ht:s.heap.IsTuple t its)(hx:its[i]?=some x)
  (hQ:∀g,g.IsTupleIter it t (i+1)->Ue it s.heap g->Q x {s with heap:=g}):UZ (model prog w) A (Builtin.SmallTypes.nextOf (.ref it)) Q E s:=by
 obtain⟨ob,h1,h2,h3⟩:=id hit;obtain⟨ol,g1,_,n,g2⟩:=ht;unfold Builtin.SmallTypes.nextOf;refine U8 (VF (name:=Str.ofString "__next__") hit.typeIs F.slot_tuple_iterator_next (VG F.slot_tuple_iterator_next hit.typeIs F.entry_tuple_iterator_next ?_ (F.args_tuple_iterator_next_1 _)));show UZ _ _ (field (.ref it) 0 >>= _) _ _ s;refine U8 (VD h1 h3 (x:=.ref t) rfl ?_);show UZ _ _ (if(Value.ref t==Value.none)=true then _ else _) _ _ s;rw[if_neg (show¬((Value.ref t==Value.none)=true)from λz=>QZ z)];show UZ _ _ (field (.ref it) 1 >>= _) _ _ s;refine U8 (VD h1 h3 (x:=.int i 0) rfl ?_);show UZ _ _ (seqItems? (.ref t) >>= _) _ _ s;refine U8 (VR g1 g2 ?_);simp only[Ri,hx];refine U8 (VS h1 h3 (by simp) (U7 ⟨x,rfl,U7 (hQ _ ⟨_,Uk _ h1 (Obj.isFreed_of_fields (Obj.data_mapFields h3 _)),(Obj.cls_mapFields ..).trans h2,by rw[Obj.data_mapFields h3];simp[rawInt]⟩ (Heap.SameBut.update ..))⟩))
theorem Dt{it t:UN}{i:Nat}{its:Array UK}{Q:UK->UX->Prop}(hh:A.handled=none)(hit:s.heap.IsTupleIter it t i)(ht:s.heap.IsTuple t its)(hx:its[i]?=none)
  (hE:∀g e,Ul it s.heap g->(∃o,g.get? e=some o/\o.cls=.type "StopIteration")->E (.ref e) {s with heap:=g}):UZ (model prog w) A (Builtin.SmallTypes.nextOf (.ref it)) Q E s:=by
 obtain⟨ob,h1,h2,h3⟩:=id hit;obtain⟨ol,g1,_,n,g2⟩:=ht;unfold Builtin.SmallTypes.nextOf;refine U8 (VF (name:=Str.ofString "__next__") hit.typeIs F.slot_tuple_iterator_next (VG F.slot_tuple_iterator_next hit.typeIs F.entry_tuple_iterator_next ?_ (F.args_tuple_iterator_next_1 _)));show UZ _ _ (field (.ref it) 0 >>= _) _ _ s;refine U8 (VD h1 h3 (x:=.ref t) rfl ?_);show UZ _ _ (if(Value.ref t==Value.none)=true then _ else _) _ _ s;rw[if_neg (show¬((Value.ref t==Value.none)=true)from λz=>QZ z)];show UZ _ _ (field (.ref it) 1 >>= _) _ _ s;refine U8 (VD h1 h3 (x:=.int i 0) rfl ?_);show UZ _ _ (seqItems? (.ref t) >>= _) _ _ s;refine U8 (VR g1 g2 ?_);simp only[Ri,hx];refine U8 (VO (U8 (VS h1 h3 (by simp) ?_)));show UZ _ _ (newExc (.type "StopIteration") [] >>= _) _ _ _;refine U8 ?_;simp only[newExc,newTuple];refine U8 (VI ?_ (by size_fits));refine U8 (m:=firstArgMember _ _) (VU (a:=Value.none) (by first|rfl|(simp only[firstArgMember];rfl)) ?_);refine VI ?_ (by size_fits);simp only[raiseNew];refine U8 (VV ?_)
 first|rw[show A.in1.handled=none from hh]|rw[hh]
 refine U8 (U7 (wpAny_throw ?_));exact hE _ _ (((Heap.SameBut.update ..).extBut.push _).push _) ⟨_,Uh _ rfl,rfl⟩
end
theorem KO{prog:UM}{w:UL}{A:UW}(hh:A.handled=none)(it t:UN)(hne:t≠it)(its:Array UK):Draws prog w A it [it,t] its.size (λi v=>its[i]?=some v) (λi h=>h.IsTupleIter it t i/\h.IsTuple t its)where
 live:=λi h ⟨⟨o,e,_⟩,_⟩=>⟨o,e⟩
 frame:=λi h h' ⟨x,y⟩ k=>⟨x.at λo e=>k it (by simp) o e,let ⟨o,e,r⟩:=y;⟨o,k t (by simp) o e,r⟩⟩
 item:=λi s Q E hi ⟨x,y⟩ hQ=>Bf x y (Array.getElem?_eq_getElem hi) λg hg hs=>hQ _ g s.toks (Array.getElem?_eq_getElem hi) ⟨hg,let ⟨o,e,r⟩:=y;⟨o,(hs.2 t hne).trans e,r⟩⟩ hs
 done:=λs Q E ⟨x,y⟩ hE=>Dt hh x y (by simp) hE
structure Apart(z TI TO i1 i2:UN)(fp1 fp2:List UN):Prop where
 a1:TI≠z
 a2:TO≠z
 a3:TI≠TO
 b1:z∉fp1
 b2:TO∉fp1
 b3:i2∉fp1
 c1:z∉fp2
 c2:TO∉fp2
 c3:i1∉fp2
 d1:TI≠i1
 d2:TI≠i2
 e1:i1∈fp1
 e2:i2∈fp2
section
variable{prog:UM}{w:UL}{A:UW}{E:UK->UX->Prop}{s:UX}{z TI TO i1 i2:UN}{fp1 fp2:List UN}{n1 n2 i:Nat}{P1 P2:Nat->UK->Prop}{S1 S2:Nat->UP->Prop}{a b:UK}
theorem next_item{Q:UK->UX->Prop}(Ap:Apart z TI TO i1 i2 fp1 fp2)(D1:Draws prog w A i1 fp1 n1 P1 S1)(D2:Draws prog w A i2 fp2 n2 P2 S2)(hz:VW s.heap z TI TO .none)(hTI:VX s.heap TI (.ref i1) (.ref i2))(hTO:VX s.heap TO a b)(st1:S1 i s.heap)(st2:S2 i s.heap)(l1:i<n1)(l2:i<n2)
  (hQ:∀ x y g tk,P1 i x->P2 i y->VW g z TI TO (rawInt s.heap.objs.size)->VX g TO x y->S1 (i+1) g->S2 (i+1) g->VX g s.heap.objs.size x y->g.objs.size=s.heap.objs.size+1 ->
   (∀c o,c≠z->c≠TO->c≠i1->c≠i2->s.heap.get? c=some o->g.get? c=some o)->Q (.ref s.heap.objs.size) {s with heap:=g,toks:=tk}):
  UZ (model prog w) A (Builtin.«zip.__next__» ⟨[.ref z],[]⟩) (λfin s'=>∃v,fin=.done (.ret v)/\Q v s') E s:=by
 have n1z:i1≠z:=λe=>Ap.b1 (e ▸ Ap.e1);have n2z:i2≠z:=λe=>Ap.c1 (e ▸ Ap.e2);have n1T:i1≠TO:=λe=>Ap.b2 (e ▸ Ap.e1);have n2T:i2≠TO:=λe=>Ap.c2 (e ▸ Ap.e2);show UZ _ _ (field (.ref z) 2 >>= _) _ _ _;refine U8 (VD hz rfl (x:=.bool false) rfl ?_);show UZ _ _ (field (.ref z) 3 >>= _) _ _ _;refine U8 (VD hz rfl (x:=.ref TI) rfl ?_);refine U8 (VR hTI rfl ?_);show UZ _ _ (Builtin.SmallTypes.ownedTupleIsFree (.ref z) >>= _) _ _ _;refine U8 ?_;unfold Builtin.SmallTypes.ownedTupleIsFree;refine U8 (VD hz rfl (x:=.none) rfl (U7 ?_));simp only[if_true];refine U8 (VO ?_);refine U8 (VD hz rfl (x:=.ref TO) rfl ?_);refine U8 (VY hz (by simp) λg1 hz1 k1=>?_);have hz1:VW g1 z TI TO .ellipsis:=hz1;refine U8 ?_;simp only[List.zipIdx_cons,List.zipIdx_nil,Ry,List.forIn_nil];refine U8 (U8 (VZ ?_));show UZ _ _ (Builtin.SmallTypes.nextOf (.ref i1) >>= _) _ _ _;have q1:S1 i g1:=D1.frame _ _ _ st1 λb hb o e=>k1.extBut _ _ (λz'=>Ap.b1 (z' ▸ hb)) e;refine U8 (D1.item i {s with heap:=g1} _ _ l1 q1 λx g2 tk2 p1 q2 k2=>U7 ?_);have t2:VX g2 TO a b:=k2.extBut _ _ n1T.symm (k1.extBut _ _ Ap.a2 hTO);refine U8 (VR t2 rfl ?_);refine U8 (V0 t2 λg3 t3 k3=>?_);have t3:VX g3 TO x b:=t3;refine U8 (V2 (U7 ?_));refine U8 (U8 (VZ ?_));show UZ _ _ (Builtin.SmallTypes.nextOf (.ref i2) >>= _) _ _ _;have q3:S2 i g3:=D2.frame _ _ _ st2 λb hb o e=>k3.extBut _ _ (λz'=>Ap.c2 (z' ▸ hb)) (k2.extBut _ _ (λz'=>Ap.c3 (z' ▸ hb)) (k1.extBut _ _ (λz'=>Ap.c1 (z' ▸ hb)) e));refine U8 (D2.item i {s with heap:=g3,toks:=tk2} _ _ l2 q3 λy g4 tk4 p2 q4 k4=>U7 ?_);have t4:VX g4 TO x b:=k4.extBut _ _ n2T.symm t3;refine U8 (VR t4 rfl ?_);refine U8 (V0 t4 λg5 t5 k5=>?_);have t5:VX g5 TO x y:=t5;refine U8 (V2 (U7 (U7 ?_)));refine U8 (VR t5 rfl ?_);refine U8 (V3 ?_);have hsz:g5.objs.size=s.heap.objs.size:=by rw[k5.1,k4.1,k3.1,k2.1,k1.1]
 have hz5:VW g5 z TI TO .ellipsis:=k5.extBut _ _ Ap.a2.symm (k4.extBut _ _ n2z.symm (k3.extBut _ _ Ap.a2.symm (k2.extBut _ _ n1z.symm hz1)));have k15:∀c o,c≠z->c≠TO->c≠i1->c≠i2->s.heap.get? c=some o->g5.get? c=some o:=λc o c1 c2 c3 c4 e=>k5.extBut _ _ c2 (k4.extBut _ _ c4 (k3.extBut _ _ c2 (k2.extBut _ _ c3 (k1.extBut _ _ c1 e))));have r1:S1 (i+1) g5:=D1.frame _ _ _ q2 λb hb o e=>k5.extBut _ _ (λz'=>Ap.b2 (z' ▸ hb)) (k4.extBut _ _ (λz'=>Ap.b3 (z' ▸ hb)) (k3.extBut _ _ (λz'=>Ap.b2 (z' ▸ hb)) e));have r2:S2 (i+1) g5:=D2.frame _ _ _ q4 λb hb o e=>k5.extBut _ _ (λz'=>Ap.c2 (z' ▸ hb)) e;have lz:z<g5.objs.size:=Uc hz5;show UZ _ _ (Builtin.SmallTypes.ownedTupleHandOut (.ref z) (.ref g5.objs.size) >>= _) _ _ _;refine U8 ?_;unfold Builtin.SmallTypes.ownedTupleHandOut;have hz6:VW (g5.push {cls:=.type "tuple",data:=.seq #[x,y]}) z TI TO .ellipsis:=Ug _ hz5;refine U8 (VY hz6 (by simp) λg7 hz7 k7=>?_);have hz7:VW g7 z TI TO (rawInt g5.objs.size):=hz7;refine VY hz7 (by simp) λg8 hz8 k8=>?_;have hz8:VW g8 z TI TO (rawInt g5.objs.size):=hz8;have up:∀c o,c≠z->g5.get? c=some o->g8.get? c=some o:=λc o c1 e=>k8.extBut _ _ c1 (k7.extBut _ _ c1 (Ug _ e));have t8:VX g8 g5.objs.size x y:=k8.extBut _ _ (QT lz) (k7.extBut _ _ (QT lz) (Uh _ rfl));have s8:g8.objs.size=g5.objs.size+1:=by rw[k8.1,k7.1,Ui]
 rw[hsz]at hz8 t8 s8;refine U7 ⟨_,rfl,?_⟩;show Q (.ref g5.objs.size) _;rw[hsz];exact hQ x y g8 tk4 p1 p2 hz8 (up _ _ Ap.a2 t5) (D1.frame _ _ _ r1 λb hb o e=>up b o (λz'=>Ap.b1 (z' ▸ hb)) e) (D2.frame _ _ _ r2 λb hb o e=>up b o (λz'=>Ap.c1 (z' ▸ hb)) e) t8 s8 λc o c1 c2 c3 c4 e=>up c o c1 (k15 c o c1 c2 c3 c4 e)
theorem next_end{Q:Fin->UX->Prop}(Ap:Apart z TI TO i1 i2 fp1 fp2)(D1:Draws prog w A i1 fp1 n1 P1 S1)(D2:Draws prog w A i2 fp2 n2 P2 S2)(hz:VW s.heap z TI TO .none)(hTI:VX s.heap TI (.ref i1) (.ref i2))(hTO:VX s.heap TO a b)(st1:S1 i s.heap)(st2:S2 i s.heap)(hend:i=n1\/(i<n1/\i=n2))
  (hE:∀g e tk,(∀c o,c≠z->c≠TO->c≠i1->c≠i2->s.heap.get? c=some o->g.get? c=some o)->(∃o,g.get? e=some o/\o.cls=.type "StopIteration")->E (.ref e) {s with heap:=g,toks:=tk}):
  UZ (model prog w) A (Builtin.«zip.__next__» ⟨[.ref z],[]⟩) Q E s:=by
 have n1z:i1≠z:=λe=>Ap.b1 (e ▸ Ap.e1);have n2z:i2≠z:=λe=>Ap.c1 (e ▸ Ap.e2);have n1T:i1≠TO:=λe=>Ap.b2 (e ▸ Ap.e1);show UZ _ _ (field (.ref z) 2 >>= _) _ _ _;refine U8 (VD hz rfl (x:=.bool false) rfl ?_);show UZ _ _ (field (.ref z) 3 >>= _) _ _ _;refine U8 (VD hz rfl (x:=.ref TI) rfl ?_);refine U8 (VR hTI rfl ?_);show UZ _ _ (Builtin.SmallTypes.ownedTupleIsFree (.ref z) >>= _) _ _ _;refine U8 ?_;unfold Builtin.SmallTypes.ownedTupleIsFree;refine U8 (VD hz rfl (x:=.none) rfl (U7 ?_));simp only[if_true];refine U8 (VO ?_);refine U8 (VD hz rfl (x:=.ref TO) rfl ?_);refine U8 (VY hz (by simp) λg1 hz1 k1=>?_);have hz1:VW g1 z TI TO .ellipsis:=hz1;refine U8 ?_;simp only[List.zipIdx_cons,List.zipIdx_nil,Ry,List.forIn_nil];refine U8 (U8 (VZ ?_));show UZ _ _ (Builtin.SmallTypes.nextOf (.ref i1) >>= _) _ _ _;have q1:S1 i g1:=D1.frame _ _ _ st1 λb hb o e=>k1.extBut _ _ (λz'=>Ap.b1 (z' ▸ hb)) e;rcases hend with hend|⟨l1,hend⟩
 ·subst hend;refine U8 (D1.done {s with heap:=g1} _ _ q1 λg2 e k2 he=>?_);obtain⟨oe,hoe,hce⟩:=he;have hz2:VW g2 z TI TO .ellipsis:=k2 _ _ n1z.symm hz1;have hez:e≠z:=λx=>by rw[x,hz2]at hoe;cases hoe;simp at hce
  exact VY hz2 (by simp) λg3 _ k3=>hE g3 e s.toks (λc o c1 _ c3 _ x=>k3.extBut _ _ c1 (k2 _ _ c3 (k1.extBut _ _ c1 x))) ⟨oe,k3.extBut _ _ hez hoe,hce⟩
 ·refine U8 (D1.item i {s with heap:=g1} _ _ l1 q1 λx g2 tk2 p1 q2 k2=>U7 ?_);have t2:VX g2 TO a b:=k2.extBut _ _ n1T.symm (k1.extBut _ _ Ap.a2 hTO);refine U8 (VR t2 rfl ?_);refine U8 (V0 t2 λg3 t3 k3=>?_);refine U8 (V2 (U7 ?_));refine U8 (U8 (VZ ?_));show UZ _ _ (Builtin.SmallTypes.nextOf (.ref i2) >>= _) _ _ _;have q3:S2 i g3:=D2.frame _ _ _ st2 λb hb o e=>k3.extBut _ _ (λz'=>Ap.c2 (z' ▸ hb)) (k2.extBut _ _ (λz'=>Ap.c3 (z' ▸ hb)) (k1.extBut _ _ (λz'=>Ap.c1 (z' ▸ hb)) e));subst hend;refine U8 (D2.done {s with heap:=g3,toks:=tk2} _ _ q3 λg4 e k4 he=>?_);obtain⟨oe,hoe,hce⟩:=he;have hz4:VW g4 z TI TO .ellipsis:=k4 _ _ n2z.symm (k3.extBut _ _ Ap.a2.symm (k2.extBut _ _ n1z.symm hz1));have hez:e≠z:=λx=>by rw[x,hz4]at hoe;cases hoe;simp at hce
  exact VY hz4 (by simp) λg5 _ k5=>hE g5 e tk2 (λc o c1 c2 c3 c4 x=>k5.extBut _ _ c1 (k4 _ _ c4 (k3.extBut _ _ c2 (k2.extBut _ _ c3 (k1.extBut _ _ c1 x))))) ⟨oe,k5.extBut _ _ hez hoe,hce⟩
end
def SQ(b:Bool)(h:UP)(l:UN)(xs:Array UK):Prop:=if b then h.IsList l xs else h.IsTuple l xs
def SI(b:Bool)(h:UP)(i l:UN)(k:Nat):Prop:=if b then h.IsListIter i l k else h.IsTupleIter i l k
def NV(b:Bool):String:=if b then"list_iterator"else"tuple_iterator"
theorem SQ.keep{b:Bool}{h h':UP}{l:UN}{xs:Array UK}(x:SQ b h l xs)(k:∀o,h.get? l=some o->h'.get? l=some o):SQ b h' l xs:=by
 cases b with
 |true=>exact Heap.IsList.at x k
 |false=>obtain⟨o,e,r⟩:=(show h.IsTuple l xs from x);exact(show h'.IsTuple l xs from⟨o,k o e,r⟩)
theorem SI.keep{b:Bool}{h h':UP}{i l:UN}{n:Nat}(x:SI b h i l n)(k:∀o,h.get? i=some o->h'.get? i=some o):SI b h' i l n:=by
 cases b with
 |true=>exact Heap.IsListIter.at x k
 |false=>exact Heap.IsTupleIter.at x k
theorem SQ.lt{b:Bool}{h:UP}{l:UN}{xs:Array UK}(x:SQ b h l xs):l<h.objs.size:=by
 cases b with
 |true=>obtain⟨o,e,_⟩:=(show h.IsList l xs from x);exact Uc e
 |false=>obtain⟨o,e,_⟩:=(show h.IsTuple l xs from x);exact Uc e
theorem SI.get{b:Bool}{h:UP}{i l:UN}{n:Nat}(x:SI b h i l n):∃o,h.get? i=some o/\∀v,o.data≠.cell v:=by
 cases b with
 |true=>obtain⟨o,e,_,d⟩:=(show h.IsListIter i l n from x);exact⟨o,e,λv z=>by rw[d]at z;cases z⟩
 |false=>obtain⟨o,e,_,d⟩:=(show h.IsTupleIter i l n from x);exact⟨o,e,λv z=>by rw[d]at z;cases z⟩
theorem SI.new{b:Bool}{h:UP}{l:UN}:SI b (h.push {cls:=.type (NV b),data:=.fields #[.ref l,.int 0 0]}) h.objs.size l 0:=by
 cases b with
 |true=>exact⟨_,Uh _ rfl,rfl,rfl⟩
 |false=>exact⟨_,Uh _ rfl,rfl,rfl⟩
theorem tB{b:Bool}{prog:UM}{w:UL}{A:UW}{E:UK->UX->Prop}{s:UX}{l:UN}{xs:Array UK}{Q:UK->UX->Prop}(h:SQ b s.heap l xs)
  (hQ:Q (.ref s.heap.objs.size) {s with heap:=s.heap.push {cls:=.type (NV b),data:=.fields #[.ref l,.int 0 0]}}):UZ (model prog w) A (pyIter (.ref l)) Q E s:=by
 cases b with
 |true=>exact Va h hQ
 |false=>exact wpAny_pyIter_tuple h hQ
theorem nR{prog:UM}{w:UL}{A:UW}(b:Bool)(hh:A.handled=none)(it l:UN)(hne:l≠it)(its:Array UK):Draws prog w A it [it,l] its.size (λi v=>its[i]?=some v) (λi h=>SI b h it l i/\SQ b h l its):=by
 cases b with
 |true=>exact Draws.list hh it l hne its
 |false=>exact KO hh it l hne its
abbrev En(b1:Bool)(h:UP)(l1:UN):UP:=h.push {cls:=.type (NV b1),data:=.fields #[.ref l1,.int 0 0]}
abbrev LY(b1 b2:Bool)(h:UP)(l1 l2:UN):UP:=(En b1 h l1).push {cls:=.type (NV b2),data:=.fields #[.ref l2,.int 0 0]}
abbrev NQ(b1 b2:Bool)(h:UP)(l1 l2:UN):UP:=(LY b1 b2 h l1 l2).push {cls:=.type "tuple",data:=.seq #[.ref h.objs.size,.ref (En b1 h l1).objs.size]}
abbrev Nk(b1 b2:Bool)(h:UP)(l1 l2:UN):UP:=(NQ b1 b2 h l1 l2).push {cls:=.type "tuple",data:=.seq #[.none,.none]}
abbrev Jz(b1 b2:Bool)(h:UP)(l1 l2:UN):UP:=(Nk b1 b2 h l1 l2).push {cls:=.type "zip",data:=.fields #[.none,.bool false,.bool false,.ref (LY b1 b2 h l1 l2).objs.size,.ref (NQ b1 b2 h l1 l2).objs.size]}
theorem E5(b1 b2:Bool)(l1 l2:UN)(xs ys:Array UK):Meets (Builtin.«zip.__new__» ⟨[.type "zip",.ref l1,.ref l2],[]⟩) (λ_ R s=>SQ b1 s.heap l1 xs/\SQ b2 s.heap l2 ys/\R (.ok (.ret (.ref (Nk b1 b2 s.heap l1 l2).objs.size))) {s with heap:=Jz b1 b2 s.heap l1 l2}):=
 .of_wp λprog w A R s h=>by
  obtain⟨hp,g,d,tk,os⟩:=s;obtain⟨q1,q2,h⟩:=h;have hsub:=sub_zip;have e1:SQ b1 (Shared.heap ⟨hp,g,d,tk,os⟩) l1 xs:=q1;have e2:SQ b2 (Shared.heap ⟨En b1 hp l1,g,d,tk,os⟩) l2 ys:=q2.keep λo e=>Ug _ e
  wp_walk using tB e1,tB e2
  exact⟨_,rfl,h⟩
theorem Eu{prog:UM}{w:UL}{A:UW}{E:UK->UX->Prop}{s:UX}{b1 b2:Bool}{l1 l2:UN}{xs ys:Array UK}{Q:UK->UX->Prop}(h1:SQ b1 s.heap l1 xs)(h2:SQ b2 s.heap l2 ys)
  (h:∀ g,VW g (s.heap.objs.size+4) (s.heap.objs.size+2) (s.heap.objs.size+3) .none->VX g (s.heap.objs.size+2) (.ref s.heap.objs.size) (.ref (s.heap.objs.size+1))->VX g (s.heap.objs.size+3) .none .none->SI b1 g s.heap.objs.size l1 0->SI b2 g (s.heap.objs.size+1) l2 0 ->
   (∀c o,s.heap.get? c=some o->g.get? c=some o)->Q (.ref (s.heap.objs.size+4)) {s with heap:=g}):UZ (model prog w) A (call (.type "zip") [.ref l1,.ref l2]) Q E s:=by
 refine callType_new F.called_zip (by decide) (F.typeCall_zip_2 _ _) (F.newCall_zip_2 _ _) (λobj=>F.args_object_init_3 obj _ _) F.entry_zip_new (E5 b1 b2 l1 l2 xs ys) ⟨h1,h2,?_⟩;have z1:(En b1 s.heap l1).objs.size=s.heap.objs.size+1:=Ui ..
 have z2:(LY b1 b2 s.heap l1 l2).objs.size=s.heap.objs.size+2:=by rw[Ui,z1]
 have z3:(NQ b1 b2 s.heap l1 l2).objs.size=s.heap.objs.size+3:=by rw[Ui,z2]
 have z4:(Nk b1 b2 s.heap l1 l2).objs.size=s.heap.objs.size+4:=by rw[Ui,z3]
 have u1:∀c o,(En b1 s.heap l1).get? c=some o->(Jz b1 b2 s.heap l1 l2).get? c=some o:=λc o e=>Ug _ (Ug _ (Ug _ (Ug _ e)));have u2:∀c o,(LY b1 b2 s.heap l1 l2).get? c=some o->(Jz b1 b2 s.heap l1 l2).get? c=some o:=λc o e=>Ug _ (Ug _ (Ug _ e));have g5:(Jz b1 b2 s.heap l1 l2).get? (Nk b1 b2 s.heap l1 l2).objs.size=some _:=Uh _ rfl;have g4:(Jz b1 b2 s.heap l1 l2).get? (NQ b1 b2 s.heap l1 l2).objs.size=some _:=Ug _ (Uh _ rfl);have g3:(Jz b1 b2 s.heap l1 l2).get? (LY b1 b2 s.heap l1 l2).objs.size=some _:=Ug _ (Ug _ (Uh _ rfl));have g2:SI b2 (Jz b1 b2 s.heap l1 l2) (En b1 s.heap l1).objs.size l2 0:=SI.keep (SI.new (h:=En b1 s.heap l1)) λo e=>u2 _ o e;have g1:SI b1 (Jz b1 b2 s.heap l1 l2) s.heap.objs.size l1 0:=SI.keep SI.new λo e=>u1 _ o e;show _/\_;rw[z2,z3,z4]at g5;rw[z1,z2]at g3;rw[z3]at g4;rw[z1]at g2;rw[z4];exact⟨⟨_,g5,rfl⟩,h _ g5 g3 g4 g1 g2 λc o e=>u1 c o (Ug _ e)⟩
theorem Dq(b : Bool)(l : UN)(xs : Array UK): Meets (Builtin.«enumerate.__new__» ⟨[.type "enumerate", .ref l], []⟩) (fun _ R s => SQ b s.heap l xs /\
      R (.ok (.ret (.ref (En b s.heap l).objs.size))) {s with heap:=(En b s.heap l).push {cls:=.type "enumerate",data:=.fields #[.none,.bool false,.ref s.heap.objs.size,rawInt 0,.none,.none]}}):=
  .of_wp λprog w A R s h=>by
    obtain⟨hp,g,d,tk,os⟩:=s;obtain⟨q1,h⟩:=h;have hsub:=sub_enumerate;have e1:SQ b (Shared.heap ⟨hp,g,d,tk,os⟩) l xs:=q1
    wp_walk using tB e1
    refine wpAny_stack_any λst=>U7 ?_;split
    · rename_i c _ _ _ _ _
      cases(c==Value.type "enumerate")<;>(wp_walk using tB e1;exact⟨_,rfl,h⟩)
    · wp_walk using tB e1
      exact⟨_,rfl,h⟩
end ZI
namespace TG
open PySem PySem.Spec L2 ZI
variable[aW]
section
variable{X:Cx}{pins:List (UN×Obj)}{σ:St}{H:Hp}{s:UX}{h':UP}
theorem Inv.turnedL{ch:List UN}{p:UN}{o:HO}{t':Nat}(I:Inv X pins σ H s)(hf:∀b∈ch,vt X pins H b)(k:∀b u,b∉ch->s.heap.get? b=some u->h'.get? b=some u)(hp:s.heap.objs.size<=p)(new:cH X.prog X.w (upd H p o) h' p o):
  Inv X pins σ (upd H p o) {s with heap:=h',toks:=t'}:=by
 have hn:=I.hok.fresh hp;have nch:∀b u,H b=some u->b∉ch:=λb u e z=>by rw[(hf b z).1]at e;cases e
 refine I.step (g':=s.gens) (d':=s.drawn) (ch:=ch) (λb hb=>?_) (λb o _ _ hc e _=>k b o hc e) (λb o _ _ hc e _=>⟨o.slots,k b o hc e⟩) (λb u _ q n=>by rw[aD (QK (QI (Uc q) hp))];exact n)
  (λb o hc e=>⟨o,k b o hc e⟩) (λb xs q=>by rw[aD (bc q hn)];exact q) (λb u xs q=>by rw[aD (bc q hn)];exact q) (λb ps q=>⟨#[],by rw[aD (bc q hn),q];simp⟩) (λm hm=>?_) (λb u e=>?_) I.bare
 ·obtain⟨_,f1,_,f3,f4,f5⟩:=hf b hb;exact⟨f3,f1,f4,f5⟩
 ·obtain⟨o,es,ep,ho,r⟩:=hm;exact⟨o,es,ep,k _ o (λz=>(hf _ z).2.1 rfl) ho,r⟩
 ·by_cases hb:b=p
  ·subst hb;rw[aY]at e;cases e;exact new
  ·rw[aD hb]at e;refine(I.hok b u e).stay (λc v hc q=>k c v ?_ q) (λc q=>by rw[aD (bc q hn)];exact q) λc xs q=>by rw[aD (bc q hn)];exact q
   rcases hc with z|z
   ·rw[z];exact nch b u e
   ·exact nch c _ z
theorem Inv.turned0{ch:List UN}{t':Nat}(I:Inv X pins σ H s)(hf:∀b∈ch,vt X pins H b)(k:∀b u,b∉ch->s.heap.get? b=some u->h'.get? b=some u):Inv X pins σ H {s with heap:=h',toks:=t'}:=by
 have nch:∀b u,H b=some u->b∉ch:=λb u e z=>by rw[(hf b z).1]at e;cases e
 refine I.step (g':=s.gens) (d':=s.drawn) (ch:=ch) (λb hb=>?_) (λb o _ _ hc e _=>k b o hc e) (λb o _ _ hc e _=>⟨o.slots,k b o hc e⟩) (λ_ _ _ _ n=>n)
  (λb o hc e=>⟨o,k b o hc e⟩) (λ_ _ e=>e) (λ_ _ _ e=>e) (λb ps e=>⟨#[],by rw[e];simp⟩) (λm hm=>?_) (λb u e=>?_) I.bare
 ·obtain⟨_,f1,_,f3,f4,f5⟩:=hf b hb;exact⟨f3,f1,f4,f5⟩
 ·obtain⟨o,es,ep,ho,r⟩:=hm;exact⟨o,es,ep,k _ o (λz=>(hf _ z).2.1 rfl) ho,r⟩
 ·refine(I.hok b u e).stay (λc v hc q=>k c v ?_ q) (λ_ q=>q) λ_ _ q=>q;rcases hc with z|z
  ·rw[z];exact nch b u e
  ·exact nch c _ z
end
def SX(K:Tu)(b:Bool)(H:Hp)(a:UN)(xs:List V):Prop:=if b then pH K H a xs else qN K H a xs
theorem SX.same{K:Tu}{b:Bool}{H H':Hp}{a:UN}{xs:List V}(e:bj H H')(h:SX K b H a xs):SX K b H' a xs:=by
 cases b with
 |true=>exact e.seq (show pH K H a xs from h)
 |false=>exact C7 e (show qN K H a xs from h)
section
variable{X:Cx}{pins:List (UN×Obj)}{σ:St}{H:Hp}{s:UX}
theorem Inv.sx(I:Inv X pins σ H s){b:Bool}{a:UN}{xs:List V}(h:SX X.K b H a xs):∃its:List UK,Vals xs its/\SQ b s.heap a its.toArray/\xs.length<=UQ:=by
 cases b with
 |true=>obtain⟨its,r,p,z⟩:=I.list (show pH X.K H a xs from h);exact⟨its,r,p.isList,z⟩
 |false=>obtain⟨its,r,p,z⟩:=I.tuple (show qN X.K H a xs from h);exact⟨its,r,p,z⟩
theorem Inv.sx_inj(I:Inv X pins σ H s){b:Bool}{a:UN}{xs ys:List V}(h:SX X.K b H a xs)(h':SX X.K b H a ys):xs=ys:=by
 cases b with
 |true=>exact I.list_inj h h'
 |false=>exact I.tuple_inj h h'
end
def Qp(K:Tu)(b1 b2:Bool)(a1 a2:UN):It:=
  ⟨fun i H=>∃ xs ys,SX K b1 H a1 xs/\SX K b2 H a2 ys/\i < xs.length/\i < ys.length,
   λi H v H'=>∃p x y,v=.ref p/\H p=none/\H'=upd H p (.tup [x,y])/\(∀xs,SX K b1 H a1 xs->xs[i]?=some x)/\∀ys,SX K b2 H a2 ys->ys[i]?=some y,
   λi H=>∃xs ys,SX K b1 H a1 xs/\SX K b2 H a2 ys/\(i=xs.length\/(i<xs.length/\i=ys.length))⟩
theorem Fh{P:UM}{w:UL}{K:Tu}{es:List U0}{k:Nat}{pos:Pos}{b1 b2:Bool}{a1 a2 z TI TO i1 i2:UN}(Ap:Apart z TI TO i1 i2 [i1,a1] [i2,a2])(n1:a1≠i1)(n2:a2≠i2)(n3:z≠i1)(n4:z≠i2):Turn P w K (.Tuple es k pos) (Qp K b1 b2 a1 a2) [z,TI,TO,i1,i2] z
  (λi h=>VW h z TI TO .none/\VX h TI (.ref i1) (.ref i2)/\(∃a b,VX h TO a b)/\SI b1 h i1 a1 i/\SI b2 h i2 a2 i)where
 mem:=by simp
 obj:=λi h ⟨hz,hI,⟨a,b,hO⟩,s1,s2⟩ c hc=>by
  simp only[R4,R5,or_false]at hc;rcases hc with rfl|rfl|rfl|rfl|rfl
  ·exact⟨_,hz,λv q=>by cases q⟩
  ·exact⟨_,hI,λv q=>by cases q⟩
  ·exact⟨_,hO,λv q=>by cases q⟩
  ·exact s1.get
  ·exact s2.get
 keep:=λi h h' ⟨hz,hI,⟨a,b,hO⟩,s1,s2⟩ kp=>⟨kp z (by simp) _ hz,kp TI (by simp) _ hI,⟨a,b,kp TO (by simp) _ hO⟩,s1.keep λo e=>kp i1 (by simp) o e,s2.keep λo e=>kp i2 (by simp) o e⟩
 item:=by
  intro X hP hw hK hc i pins s σ H E I hf ⟨hz,hI,⟨a,b,hO⟩,s1,s2⟩ hg;subst hP hw hK;obtain⟨xs,ys,g1,g2,l1,l2⟩:=hg;obtain⟨its1,r1,q1,z1⟩:=Inv.sx I g1;obtain⟨its2,r2,q2,z2⟩:=Inv.sx I g2;have hh:X.A.in1.handled=none:=I.ok.hd hc;have hT:s.TypeIs (.ref z) "zip":=⟨_,hz,rfl⟩
  unfold pyNext;refine U8 (V4 (VF (name:=Str.ofString "__next__") hT F.slot_zip_next (VG F.slot_zip_next hT F.entry_zip_next
   (next_item Ap (nR (A:=X.A.in1) b1 hh i1 a1 n1 its1.toArray) (nR (A:=X.A.in1) b2 hh i2 a2 n2 its2.toArray) hz hI hO ⟨s1,q1⟩ ⟨s2,q2⟩ (by rw[QY,<-r1.length];exact l1) (by rw[QY,<-r2.length];exact l2) λu v g tk p1 p2 hz' hO' t1 t2 hp sz kp=>?_) (F.args_zip_next_1 _))))
  have e1:its1[i]?=some u:=by simpa using p1
  have e2:its2[i]?=some v:=by simpa using p2
  have hx:∃x,xs[i]?=some x/\RelV x u:=by
   obtain⟨u',hu,ru⟩:=r1.get (i:=i) (x:=xs[i]) (by simp[l1]);rw[e1]at hu;cases hu;exact⟨xs[i],by simp[l1],ru⟩
  have hy:∃y,ys[i]?=some y/\RelV y v:=by
   obtain⟨u',hu,ru⟩:=r2.get (i:=i) (x:=ys[i]) (by simp[l2]);rw[e2]at hu;cases hu;exact⟨ys[i],by simp[l2],ru⟩
  obtain⟨x,ex,rx⟩:=hx;obtain⟨y,ey,ry⟩:=hy;refine U7 ⟨_,rfl,?_⟩;refine wpAny_letOwnedTupleGo_zip hz' λg' hz2 sb=>?_;have hpz:s.heap.objs.size≠z:=QT (Uc hz);have hp':VX g' s.heap.objs.size u v:=sb.extBut _ _ hpz hp;have I':Inv X pins σ (upd H s.heap.objs.size (.tup [x,y])) {s with heap:=g',toks:=tk}:=Inv.turnedL (ch:=[z,TI,TO,i1,i2]) I hf (λc o hc e=>by
   simp only[R4,R5,or_false,not_or]at hc;exact sb.extBut _ _ hc.1 (kp c o hc.1 hc.2.2.1 hc.2.2.2.1 hc.2.2.2.2 e)) (QU _) ⟨by show 2<=UQ;decide,[u,v],.cons rx (.cons ry .nil),_,hp',rfl,_,rfl⟩
  have fr:H s.heap.objs.size=none:=I.fresh;have ne:∀c∈[z,TI,TO,i1,i2],c≠s.heap.objs.size:=λc hc e=>by
   simp only[R4,R5,or_false]at hc;rcases hc with rfl|rfl|rfl|rfl|rfl
   ·exact hpz e.symm
   ·exact absurd (Uc hI) (by rw[e];exact QJ _)
   ·exact absurd (Uc hO) (by rw[e];exact QJ _)
   ·obtain⟨o,q,_⟩:=s1.get;exact absurd (Uc q) (by rw[e];exact QJ _)
   ·obtain⟨o,q,_⟩:=s2.get;exact absurd (Uc q) (by rw[e];exact QJ _)
  refine⟨.ref s.heap.objs.size,_,I',rfl,⟨_,x,y,rfl,fr,rfl,λxs' h=>by rw[Inv.sx_inj I h g1];exact ex,λys' h=>by rw[Inv.sx_inj I h g2];exact ey⟩,⟨hz2,?_,⟨u,v,sb.extBut _ _ Ap.a2 hO'⟩,?_,?_⟩,λc hc=>by rw[aD (ne c hc)];exact(hf c hc).1⟩
  ·exact sb.extBut _ _ Ap.a1 (kp TI _ Ap.a1 Ap.a3 Ap.d1 Ap.d2 hI)
  ·exact t1.1.keep λo e=>sb.extBut _ _ n3.symm e
  ·exact t2.1.keep λo e=>sb.extBut _ _ n4.symm e
 done:=by
  intro X hP hw hK hc i pins s σ H E I hf ⟨hz,hI,⟨a,b,hO⟩,s1,s2⟩ hg;subst hP hw hK;obtain⟨xs,ys,g1,g2,hl⟩:=hg;obtain⟨its1,r1,q1,z1⟩:=Inv.sx I g1;obtain⟨its2,r2,q2,z2⟩:=Inv.sx I g2;have hh:X.A.in1.handled=none:=I.ok.hd hc;have hT:s.TypeIs (.ref z) "zip":=⟨_,hz,rfl⟩
  unfold pyNext;refine U8 (V4 (VF (name:=Str.ofString "__next__") hT F.slot_zip_next (VG F.slot_zip_next hT F.entry_zip_next
   (next_end (i:=i) Ap (nR (A:=X.A.in1) b1 hh i1 a1 n1 its1.toArray) (nR (A:=X.A.in1) b2 hh i2 a2 n2 its2.toArray) hz hI hO ⟨s1,q1⟩ ⟨s2,q2⟩ (by rw[QY,QY,<-r1.length,<-r2.length];exact hl) λg e tk kp he=>?_) (F.args_zip_next_1 _))))
  obtain⟨o,ho,hce⟩:=he;refine U8 (V5 (T:="StopIteration") (b:=true) ⟨o,ho,hce⟩ V6 ?_);refine U7 ⟨rfl,Inv.turned0 (ch:=[z,TI,TO,i1,i2]) I hf λc o hc e=>?_⟩;simp only[R4,R5,or_false,not_or]at hc;exact kp c o hc.1 hc.2.2.1 hc.2.2.2.1 hc.2.2.2.2 e
 self:=λ_ _ _ _ _ ⟨hz,_⟩ h=>wpAny_pyIter_zip hz h
def Ha:D->Option (Bool×List D)
 |.lst xs=>some (true,xs)
 |.tup xs=>some (false,xs)
 |_=>none
theorem uy{K:Tu}{H:Hp}{d:D}{b:Bool}{xs:List D}{v:V}(e:Ha d=some (b,xs))(h:cJ K H d v):∃a vs,v=.ref a/\SX K b H a vs/\bb K H xs vs:=by
 cases d with
 |lst ys=>cases e;exact cT.mp h
 |tup ys=>cases e;obtain⟨a,vs,e1,e2,e3⟩:=cN.mp h;exact⟨a,vs,e1,qN.of e2,e3⟩
 |_=>cases e
def mM:List D->List D->List D
 |x::xs,y::ys=>.tup [x,y]::mM xs ys
 |_,_=>[]
theorem sf:∀xs ys:List D,(mM xs ys).length=min xs.length ys.length
 |[],_=>by simp[mM]
 |_::_,[]=>by simp[mM]
 |x::xs,y::ys=>by
  rw[mM,Q0,sf xs ys,Q0,Q0];omega
theorem zR:∀{xs ys:List D}{i:Nat}{d:D},(mM xs ys)[i]?=some d->∃x y,xs[i]?=some x/\ys[i]?=some y/\d=.tup [x,y]
 |[],_,i,d,h=>by simp[mM]at h
 |_::_,[],i,d,h=>by simp[mM]at h
 |x::xs,y::ys,0,d,h=>by
  rw[mM,R6]at h;cases h;exact⟨x,y,rfl,rfl,rfl⟩
 |x::xs,y::ys,i+1,d,h=>by
  rw[mM,R7]at h;obtain⟨a,b,h1,h2,h3⟩:=zR h;exact⟨a,b,by rw[R7];exact h1,by rw[R7];exact h2,h3⟩
theorem Fb{K:Tu}{Hd:Hp}{b1 b2:Bool}{a1 a2:UN}{ds es:List D}{vs ws:List V}(h1:SX K b1 Hd a1 vs)(g1:bb K Hd ds vs)(h2:SX K b2 Hd a2 ws)(g2:bb K Hd es ws):Walk K Hd (Qp K b1 b2 a1 a2) (mM ds es):=λHn O' i hO sm=>
  have s':bj Hd Hn:=sm.trans (aB Hn O')
  ⟨fun d e=>by
    obtain⟨x,y,e1,e2,rfl⟩:=zR e;have l1:i<ds.length:=(List.getElem?_eq_some_iff.mp e1).1;have l2:i<es.length:=(List.getElem?_eq_some_iff.mp e2).1;obtain⟨v,ev,dv⟩:=g1.get e1;obtain⟨w,ew,dw⟩:=g2.get e2;refine⟨⟨vs,ws,h1.same s',h2.same s',by rw[<-g1.length];exact l1,by rw[<-g2.length];exact l2⟩,λu H2 ⟨p,x',y',eu,hp,eH,q1,q2⟩=>?_⟩;have z1:=q1 vs (h1.same s');rw[ev]at z1;cases z1;have z2:=q2 ws (h2.same s');rw[ew]at z2;cases z2;subst eH eu;exact⟨bL hp _,e7 hO hp (bo.mpr ⟨v,_,rfl,dv.mono sm,bo.mpr ⟨w,_,rfl,dw.mono sm,cI.mpr rfl⟩⟩)⟩,
   λhl=>by
    rw[sf]at hl;refine⟨vs,ws,h1.same s',h2.same s',?_⟩;rw[<-g1.length,<-g2.length]
    omega⟩
def AJ:List D->Option (List D)
 |[a,b]=>(Ha a).bind λx=>(Ha b).bind λy=>some (mM x.2 y.2)
 |_=>none
def Dd(f:aq->R (List D)):aq->R (List D):=λρ=>(f ρ).bind λds=>rO (AJ ds)
section
variable{X:Cx}
theorem Lb{a b c:UN}(h1:a≠b)(h2:a≠c):a∉[b,c]:=λh=>by
 rcases List.mem_cons.mp h with z|z
 ·exact h1 z
 ·exact h2 (List.mem_singleton.mp z)
theorem DY{n a1 a2:UN}(h1:a1<n)(h2:a2<n):Apart (n+4) (n+2) (n+3) n (n+1) [n,a1] [n+1,a2]:=by
 have lt:∀{a b:Nat},a<b->(b:UN)≠(a:UN):=λh=>QT h;have lt':∀{a b:Nat},a<b->(a:UN)≠(b:UN):=λh=>QK h;have g:∀k:Nat,a1<n+k:=λk=>QI h1 (R8 _ _);have g':∀k:Nat,a2<n+k:=λk=>QI h2 (R8 _ _);have p:∀{j k:Nat},j<k->n+j<n+k:=λh=>R9 h n;have p0:∀{k:Nat},0<k->n<n+k:=λh=>Sa h;exact⟨lt' (p (by decide)),lt' (p (by decide)),lt' (p (by decide)),Lb (lt (p0 (by decide))) (lt (g 4)),Lb (lt (p0 (by decide))) (lt (g 3)),Lb (lt (p0 (by decide))) (lt (g 1)),
  Lb (lt (p (by decide))) (lt (g' 4)),Lb (lt (p (by decide))) (lt (g' 3)),Lb (lt' (p0 (by decide))) (lt h2),lt (p0 (by decide)),lt (p (by decide)),QO,QO⟩
theorem KD{pins:List (UN×Obj)}{s:UX}{σ:St}{H:Hp}{O:List UN}{es:List U0}{k:Nat}{tpos:Pos}{ds r:List D}{vs:List V}{us:List UK}{RR:It->Hp->Prop}(I:Inv X pins σ H s)(hc:AJ ds=some r)(d1:bb X.K (hid H O) ds vs)(rv:Vals vs us)(q:∀J,Walk X.K (hid H O) J r->RR J H):
  UZ (model X.prog X.w) X.A (call (.type "zip") us) (λv s1=>UZ (model X.prog X.w) X.A (pyIter v) (PIE X pins σ (.Tuple es k tpos) RR) X.xe s1) X.xe s:=by
 unfold AJ at hc;split at hc
 ·rename_i a b;obtain⟨⟨b1,xs⟩,e1,hc⟩:=bind_some hc;obtain⟨⟨b2,ys⟩,e2,hc⟩:=bind_some hc;cases hc;obtain⟨va,vb,rfl,da,db⟩:=d1.two;obtain⟨u1,u2,rfl,r1,r2⟩:=vals2 rv;obtain⟨a1,ws1,rfl,x1,y1⟩:=uy e1 da;obtain⟨a2,ws2,rfl,x2,y2⟩:=uy e2 db;cases r1;cases r2;obtain⟨its1,rr1,q1,_⟩:=Inv.sx I (x1.same (aB H O));obtain⟨its2,rr2,q2,_⟩:=Inv.sx I (x2.same (aB H O));refine Eu q1 q2 λg hz hI hO s1 s2 kp=>wpAny_pyIter_zip hz ?_;have Ap:=DY q1.lt q2.lt;refine⟨_,_,_,_,H,rfl,I.kept (t':=s.toks) kp,Fh (b1:=b1) (b2:=b2) Ap (QK q1.lt) (QK (QI q2.lt (R8 _ 1))) (QT (Sa (by decide))) (QT (R9 (by decide) _)),⟨hz,hI,⟨_,_,hO⟩,s1,s2⟩,λb hb=>?_,q _ (Fb x1 y1 x2 y2)⟩;have le:s.heap.objs.size<=b:=by
   simp only[R4,R5,or_false]at hb;rcases hb with rfl|rfl|rfl|rfl|rfl
   ·exact R8 _ _
   ·exact R8 _ _
   ·exact R8 _ _
   ·exact QU _
   ·exact R8 _ _
  exact I.fpOk le (I.hok.fresh le)
 ·cases hc
theorem Pw{a b:U0}{es:List U0}{k:Nat}{tpos:Pos}{f:aq->R (List D)}{p pos:Pos}(hg:Gl X "zip")(hm:X.mg "zip"=none)(ha:FA X [a,b] f)(hs:U1 [a,b] X.env=(false,eval a X.env)::U1 [b] X.env:=by rfl)(hpl:(backTo pos (U1 [b] X.env)).any (·.1)=false:=by rfl):FI X (.Tuple es k tpos) (.Call (.Name "zip" p) [a,b] [] pos) (Dd f):=by
 intro pins s σ H RR I ⟨O,ρ,E,hG⟩;have hA:=ha pos pins s σ H (λvs H1=>∃ds r,AJ ds=some r/\bb X.K (hid H1 O) ds vs/\∀J,Walk X.K (hid H1 O) J r->RR J H1) I ⟨O,ρ,E,(ji.bind hG).imp λds hG vs H1 s1 d1=>by
  obtain⟨r,e,q⟩:=ji.rO hG;exact⟨ds,r,e,d1,λJ wk=>q J H1 s1 wk⟩⟩
 refine Uv (ky I hg hm PyProof.Rows.boot_zip (Ur (dL hA λus s1 ⟨vs,H1,I1,r1,ds,r,er,d1,q⟩=>?_) hs hpl));exact KD I1 er d1 r1 q
end
def Qc(K:Tu)(b:Bool)(a:UN):It:=
  ⟨fun i H=>∃ xs,SX K b H a xs/\i < xs.length,
   λi H v H'=>∃p x,v=.ref p/\H p=none/\H'=upd H p (.tup [.int i,x])/\∀xs,SX K b H a xs->xs[i]?=some x,
   λi H=>∃xs,SX K b H a xs/\i=xs.length⟩
theorem DG{P:UM}{w:UL}{K:Tu}{es:List U0}{k:Nat}{pos:Pos}{b:Bool}{a e it:UN}(n1:a≠it)(n2:e≠it)(n3:e≠a):Turn P w K (.Tuple es k pos) (Qc K b a) [e,it] e (λi h=>(∃old,IsEnum h e it i old)/\SI b h it a i)where
 mem:=by simp
 obj:=λi h ⟨⟨old,he⟩,s1⟩ c hc=>by
  simp only[R4,R5,or_false]at hc;rcases hc with rfl|rfl
  ·exact⟨_,he,λv q=>by cases q⟩
  ·exact s1.get
 keep:=λi h h' ⟨⟨old,he⟩,s1⟩ kp=>⟨⟨old,kp e (by simp) _ he⟩,s1.keep λo q=>kp it (by simp) o q⟩
 item:=by
  intro X hP hw hK hc i pins s σ H E I hf ⟨⟨old,he⟩,s1⟩ hg;subst hP hw hK;obtain⟨xs,g1,l1⟩:=hg;obtain⟨its,r1,q1,z1⟩:=Inv.sx I g1;have hh:X.A.in1.handled=none:=I.ok.hd hc;refine wpAny_pyNext_enum_itemD (nR (A:=X.A.in1) b hh it a n1 its.toArray) he ⟨s1,q1⟩ (by rw[QY,<-r1.length];exact l1) n2 (Lb n2 n3) λu g tk p1 ho t1 hp sz kp=>?_;have e1:its[i]?=some u:=by simpa using p1
  obtain⟨u',hu,ru⟩:=r1.get (i:=i) (x:=xs[i]) (by simp[l1]);rw[e1]at hu;cases hu;refine⟨_,rfl,wpAny_letOwnedTupleGo_enum ho λg' he' sb=>?_⟩;have hpe:s.heap.objs.size≠e:=QT (Uc he);have hp':=sb.extBut _ _ hpe hp;have I':Inv X pins σ (upd H s.heap.objs.size (.tup [.int i,xs[i]])) {s with heap:=g',toks:=tk+1}:=Inv.turnedL (ch:=[e,it]) I hf (λc o hc q=>by
   simp only[R4,R5,or_false,not_or]at hc;exact sb.extBut _ _ hc.1 (kp c o hc.1 hc.2 q)) (QU _) ⟨by show 2<=UQ;decide,[.int i tk,u],.cons ⟨_,rfl⟩ (.cons ru .nil),_,hp',rfl,_,rfl⟩
  have ne:∀c∈[e,it],c≠s.heap.objs.size:=λc hc q=>by
   simp only[R4,R5,or_false]at hc;rcases hc with rfl|rfl
   ·exact hpe q.symm
   ·obtain⟨o,q',_⟩:=s1.get;exact absurd (Uc q') (by rw[q];exact QJ _)
  refine⟨.ref s.heap.objs.size,_,I',rfl,⟨_,xs[i],rfl,I.fresh,rfl,λxs' h=>by rw[Inv.sx_inj I h g1];simp[l1]⟩,⟨⟨u,?_⟩,t1.1.keep λo q=>sb.extBut _ _ n2.symm q⟩,λc hc=>by rw[aD (ne c hc)];exact(hf c hc).1⟩;have ei:((i+1:Nat):Int)=(i:Int)+1:=by omega
  rw[ei];exact he'
 done:=by
  intro X hP hw hK hc i pins s σ H E I hf ⟨⟨old,he⟩,s1⟩ hg;subst hP hw hK;obtain⟨xs,g1,l1⟩:=hg;obtain⟨its,r1,q1,z1⟩:=Inv.sx I g1;have hh:X.A.in1.handled=none:=I.ok.hd hc;have el:i=its.toArray.size:=by rw[QY,<-r1.length];exact l1
  refine wpAny_pyNext_enum_endD (nR (A:=X.A.in1) b hh it a n1 its.toArray) he ⟨by rw[<-el];exact s1,q1⟩ λg kp=>⟨rfl,Inv.turned0 (ch:=[e,it]) I hf λc o hc q=>?_⟩
  simp only[R4,R5,or_false,not_or]at hc;exact kp c o hc.2 q
 self:=λ_ _ _ _ _ ⟨⟨old,he⟩,_⟩ h=>wpAny_pyIter_enum he h
def gL(i:Nat):List D->List D
 |[]=>[]
 |x::xs=>.tup [.int i,x]::gL (i+1) xs
theorem lQ:∀(i:Nat)(xs:List D),(gL i xs).length=xs.length
 |_,[]=>rfl
 |i,x::xs=>by rw[gL,Q0,lQ (i+1) xs,Q0]
theorem wa:∀{xs:List D}{k i:Nat}{d:D},(gL k xs)[i]?=some d->∃x,xs[i]?=some x/\d=.tup [.int ((k+i:Nat):Int),x]
 |[],k,i,d,h=>by simp[gL]at h
 |x::xs,k,0,d,h=>by
  rw[gL,R6]at h;cases h;exact⟨x,rfl,rfl⟩
 |x::xs,k,i+1,d,h=>by
  rw[gL,R7]at h;obtain⟨y,h1,h2⟩:=wa h;refine⟨y,by rw[R7];exact h1,?_⟩;rw[h2];congr 4;omega
theorem DE{K:Tu}{Hd:Hp}{b:Bool}{a:UN}{ds:List D}{vs:List V}(h1:SX K b Hd a vs)(g1:bb K Hd ds vs):Walk K Hd (Qc K b a) (gL 0 ds):=λHn O' i hO sm=>
  have s':bj Hd Hn:=sm.trans (aB Hn O')
  ⟨fun d e=>by
    obtain⟨x,e1,rfl⟩:=wa e;have l1:i<ds.length:=(List.getElem?_eq_some_iff.mp e1).1;obtain⟨v,ev,dv⟩:=g1.get e1;refine⟨⟨vs,h1.same s',by rw[<-g1.length];exact l1⟩,λu H2 ⟨p,x',eu,hp,eH,q1⟩=>?_⟩;have z1:=q1 vs (h1.same s');rw[ev]at z1;cases z1;subst eH eu;rw[Sb];exact⟨bL hp _,e7 hO hp (bo.mpr ⟨.int i,_,rfl,fE.mpr rfl,bo.mpr ⟨v,_,rfl,dv.mono sm,cI.mpr rfl⟩⟩)⟩,
   λhl=>by
    rw[lQ]at hl;exact⟨vs,h1.same s',by rw[<-g1.length];exact hl⟩⟩
def wm:List D->Option (List D)
 |[a]=>(Ha a).bind λx=>some (gL 0 x.2)
 |_=>none
def fS(f:aq->R (List D)):aq->R (List D):=λρ=>(f ρ).bind λds=>rO (wm ds)
section
variable{X:Cx}
theorem CJ{prog:UM}{w:UL}{A:UW}{E:UK->UX->Prop}{s:UX}{b:Bool}{l:UN}{xs:Array UK}{Q:UK->UX->Prop}(h1:SQ b s.heap l xs)
  (h:∀g,IsEnum g (s.heap.objs.size+1) s.heap.objs.size 0 .none->SI b g s.heap.objs.size l 0->(∀c o,s.heap.get? c=some o->g.get? c=some o)->Q (.ref (s.heap.objs.size+1)) {s with heap:=g}):UZ (model prog w) A (call (.type "enumerate") [.ref l]) Q E s:=by
 refine callType_new F.called_enumerate (by decide) (F.typeCall_enumerate_1 _) (F.newCall_enumerate_1 _) (λobj=>F.args_object_init_2 obj _) F.entry_enumerate_new (Dq b l xs) ⟨h1,?_⟩;have z1:(En b s.heap l).objs.size=s.heap.objs.size+1:=Ui ..
 have g2:=Uh (En b s.heap l) (o:={cls:=.type "enumerate",data:=.fields #[.none,.bool false,.ref s.heap.objs.size,rawInt 0,.none,.none]}) rfl;have g1:SI b ((En b s.heap l).push {cls:=.type "enumerate",data:=.fields #[.none,.bool false,.ref s.heap.objs.size,rawInt 0,.none,.none]}) s.heap.objs.size l 0:=SI.keep SI.new λo e=>Ug _ e;show _/\_;rw[z1]at g2 ⊢;exact⟨⟨_,g2,rfl⟩,h _ g2 g1 λc o e=>Ug _ (Ug _ e)⟩
theorem HE{pins:List (UN×Obj)}{s:UX}{σ:St}{H:Hp}{O:List UN}{es:List U0}{k:Nat}{tpos:Pos}{ds r:List D}{vs:List V}{us:List UK}{RR:It->Hp->Prop}(I:Inv X pins σ H s)(hc:wm ds=some r)(d1:bb X.K (hid H O) ds vs)(rv:Vals vs us)(q:∀J,Walk X.K (hid H O) J r->RR J H):
  UZ (model X.prog X.w) X.A (call (.type "enumerate") us) (λv s1=>UZ (model X.prog X.w) X.A (pyIter v) (PIE X pins σ (.Tuple es k tpos) RR) X.xe s1) X.xe s:=by
 unfold wm at hc;split at hc
 ·rename_i a;obtain⟨⟨b1,xs⟩,e1,hc⟩:=bind_some hc;cases hc;obtain⟨va,rfl,da⟩:=d1.one;obtain⟨u1,rfl,r1⟩:=vals1 rv;obtain⟨a1,ws1,rfl,x1,y1⟩:=uy e1 da;cases r1;obtain⟨its1,rr1,q1,_⟩:=Inv.sx I (x1.same (aB H O));refine CJ q1 λg he s1 kp=>wpAny_pyIter_enum he ?_;refine⟨_,_,_,_,H,rfl,I.kept (t':=s.toks) kp,DG (b:=b1) (QK q1.lt) (QT (Sa (by decide))) (QT (QI q1.lt (R8 _ 1))),⟨⟨_,he⟩,s1⟩,λb hb=>?_,q _ (DE x1 y1)⟩;have le:s.heap.objs.size<=b:=by
   simp only[R4,R5,or_false]at hb;rcases hb with rfl|rfl
   ·exact R8 _ _
   ·exact QU _
  exact I.fpOk le (I.hok.fresh le)
 ·cases hc
theorem IM{a:U0}{es:List U0}{k:Nat}{tpos:Pos}{f:aq->R (List D)}{p pos:Pos}(hg:Gl X "enumerate")(hm:X.mg "enumerate"=none)(ha:FA X [a] f)(hs:U1 [a] X.env=(false,eval a X.env)::U1 [] X.env:=by rfl)(hpl:(backTo pos (U1 [] X.env)).any (·.1)=false:=by rfl):FI X (.Tuple es k tpos) (.Call (.Name "enumerate" p) [a] [] pos) (fS f):=by
 intro pins s σ H RR I ⟨O,ρ,E,hG⟩;have hA:=ha pos pins s σ H (λvs H1=>∃ds r,wm ds=some r/\bb X.K (hid H1 O) ds vs/\∀J,Walk X.K (hid H1 O) J r->RR J H1) I ⟨O,ρ,E,(ji.bind hG).imp λds hG vs H1 s1 d1=>by
  obtain⟨r,e,q⟩:=ji.rO hG;exact⟨ds,r,e,d1,λJ wk=>q J H1 s1 wk⟩⟩
 refine Uv (ky I hg hm PyProof.Rows.boot_enumerate (Ur (dL hA λus s1 ⟨vs,H1,I1,r1,ds,r,er,d1,q⟩=>?_) hs hpl));exact HE I1 er d1 r1 q
end
end TG
namespace TG
open PySem PySem.Spec L2
variable[aW]
theorem ow{K:Tu}{c:Str}{C C':UN}(h:clsAt K c C)(h':clsAt K c C'):C=C':=by
 unfold clsAt at h h';rw[h]at h';cases h';rfl
theorem uw{K:Tu}{H:Hp}{f:Str}:∀{fs:List Str}{ds:List D}{vs:List V}{d:D},bb K H ds vs->(fs.zip ds).lookup f=some d->∃v,(fs.zip vs).lookup f=some v/\cJ K H d v
 |[],_,_,_,_,e=>by simp at e
 |_::_,[],_,_,_,e=>by simp at e
 |g::fs,x::ds,vs,d,h,e=>by
  rw[bo]at h;obtain⟨v,r,rfl,h1,h2⟩:=h;rw[Sd,Rx]at e ⊢;cases hg:f==g with
  |true=>rw[hg]at e;cases e;exact⟨v,rfl,h1⟩
  |false=>rw[hg]at e;exact uw h2 e
theorem vE{f:Str}:∀{fs:List Str}{vs:List V},fs.contains f=false->(fs.zip vs).lookup f=none
 |[],_,_=>by simp
 |_::_,[],_=>by simp
 |g::fs,x::vs,h=>by
  rw[Se,Sf]at h;rw[Sd,Rx,h.1];exact vE h.2
def mC(f:Str)(cs:List Str)(d:D):Option D:=match d with
 |.obj c fs vs=>if cs.contains c then(fs.zip vs).lookup f else none
 |_=>none
def nK(K:Tu)(f:Str)(cs:List Str):Prop:=∀c∈cs,∀C,clsAt K c C->yH K C/\kz K C f
section
variable{X:Cx}{a o e:U0}{es:List U0}{fa fo:FX}{fas:aq->R (List D)}{f m x:Str}{cs:List Str}{pos apos p:Pos}{k k':Nat}{ps:List Str}
theorem Oh(ok:nK X.K f cs)(h:FE X a fa)(hb:Vl a f X.env (eval a X.env)=eval a X.env:=by rfl):FE X (.Attribute a f pos) (f1 (mC f cs) fa):=
 PE.weak (J8 h hb) λσ H Q ⟨O,ρ,E,hF⟩=>⟨O,ρ,E,(ji.bind hF).imp λd hF v H1 s1 d1=>by
  obtain⟨r,e,q⟩:=ji.rO hF;cases d with
  |obj c fs vs=>
   have e':(if cs.contains c then(fs.zip vs).lookup f else none)=some r:=e;cases hc:cs.contains c with
   |false=>rw[hc]at e';cases e'
   |true=>
    rw[hc]at e';obtain⟨a,ws,ev,g1,g2,C,dx,g3,g4⟩:=Hj.mp d1;obtain⟨w,l1,l2⟩:=uw g1 e';obtain⟨cl,na⟩:=ok c (List.contains_iff_mem.mp hc) C g3;exact⟨a,C,dx,_,w,ev,aB H1 O _ _ g4,cl,na,l1,q w H1 s1 l2⟩
  |_=>cases e⟩
def MethAt(P:UM)(w:UL)(K:Tu)(mg:Str->Option UK)(base:UP)(k:Nat)(c m:Str)(ps:List Str)(g:List D->R D):Prop:=
 ∃C f fd,clsAt K c C/\yH K C/\Meth K C m f/\jT P w K mg base (oW P w) k f fd ps (El K ps.length g)/\Binds K fd ps []
def dS(m:Str)(tbl:List (Str×(List D->R D)))(fo:FX)(fas:aq->R (List D)):FX:=λρ=>(fo ρ).bind λo=>match o with
 |.obj c fs vs=>match tbl.lookup c with
  |some g=>if fs.contains m then un else(fas ρ).bind λas=>g (o::as)
  |none=>un
 |_=>un
def gO(P:UM)(w:UL)(K:Tu)(mg:Str->Option UK)(base:UP)(k:Nat)(m:Str)(ps:List Str)(tbl:List (Str×(List D->R D))):Prop:=
 ∀c g,tbl.lookup c=some g->MethAt P w K mg base k c m ps g/\Ar ps.length g
theorem oF{P:UM}{w:UL}{K:Tu}{mg:Str->Option UK}{base:UP}:gO P w K mg base k m ps []:=λ_ _ h=>nomatch h
theorem cU{P:UM}{w:UL}{K:Tu}{mg:Str->Option UK}{base:UP}{c:Str}{g:List D->R D}{tbl:List (Str×(List D->R D))}(h:MethAt P w K mg base k c m ps g)(hn:Ar ps.length g)(t:gO P w K mg base k m ps tbl):gO P w K mg base k m ps ((c,g)::tbl):=λc' g' e=>by
 rw[Rx]at e;cases hc:c'==c with
 |true=>
  rw[hc]at e;cases e
  have:c'=c:=by simpa using hc
  subst this;exact⟨h,hn⟩
 |false=>rw[hc]at e;exact t c' g' e
theorem MethAt.mono{P:UM}{w:UL}{K:Tu}{mg:Str->Option UK}{base:UP}{c:Str}{g:List D->R D}(h:MethAt P w K mg base k c m ps g)(hk:k<=k'):MethAt P w K mg base k' c m ps g:=by
 obtain⟨C,f,fd,h1,h2,h3,h4,h5⟩:=h;exact⟨C,f,fd,h1,h2,h3,h4.mono hk,h5⟩
theorem FR{tbl:List (Str×(List D->R D))}{args:List U0}{pl:Sem Bool}(tb:gO X.prog X.w X.K X.mg X.base k m ps tbl)(hr:fY k X.A)(ho:FE X o fo)
  (hc:∀ (pins:List (UN×Obj)) (s1:UX) (σ:St) (H1:Hp) (O:List UN) (ρ:aq) (a f:UN) (od:D) (Q:VK) (g:List D->R D) (fd:Vq) (w0:V),TN X.K (.ref f)=true->jT X.prog X.w X.K X.mg X.base (oW X.prog X.w) k f fd ps (El X.K ps.length g)->Binds X.K fd ps []->Ar ps.length g->Inv X pins σ H1 s1->eI X.K O H1 ρ σ->cJ X.K (hid H1 O) od (.ref a) ->
   (ji X σ O H1 ((fas ρ).bind λas=>g (od::as)) λd=>∀v H',bj H1 H'->cJ X.K (hid H' O) d v->Q v H')->
   UZ (model X.prog X.w) X.A (Vm pos (.ref f) [.ref a] (backTo pos (U1 args X.env)) (backToKw pos (Vn [] X.env))) (EP X pins σ Q) X.xe s1)
  (ht:eval (.Call (.Attribute o m apos) args [] pos) X.env=(do
   let ov<-eval o X.env
   standAt apos.atName
   let (f,first)<-holding [ov] (getMethod ov m pl)
   Vm pos f first (backTo pos (U1 args X.env)) (backToKw pos (Vn [] X.env)))):
  FE X (.Call (.Attribute o m apos) args [] pos) (dS m tbl fo fas):=by
 intro pins s σ H Q I ⟨O,ρ,E,hF⟩;refine zq ho I ?_ ht;refine⟨O,ρ,E,(ji.bind hF).imp λd hF v H1 s1 d1=>?_⟩;cases d with
 |obj c fs vs=>
  have hF':ji X σ O H (match tbl.lookup c with|some g=>if fs.contains m then un else(fas ρ).bind λas=>g (.obj c fs vs::as)|none=>un) _:=hF;cases hg:tbl.lookup c with
  |none=>rw[hg]at hF';exact hF'.elim
  |some g=>
   rw[hg]at hF';have hF2:ji X σ O H (if fs.contains m then un else(fas ρ).bind λas=>g (.obj c fs vs::as)) _:=hF';cases hm:fs.contains m with
   |true=>rw[hm]at hF2;exact hF2.elim
   |false=>
    rw[hm]at hF2;have hF3:ji X σ O H ((fas ρ).bind λas=>g (.obj c fs vs::as)) _:=hF2;have d0:=d1;obtain⟨a,ws,ev,g1,g2,C,dx,g3,g4⟩:=Hj.mp d1;obtain⟨⟨C',f,fd,m1,m2,m3,m4,m5⟩,ar⟩:=tb c g hg;have eC:=ow g3 m1;subst eC;subst ev;refine⟨a,C,dx,_,f,rfl,aB H1 O _ _ g4,m2,m3,vE hm,λs2 I2=>?_⟩;exact hc pins s2 σ H1 O ρ a f _ Q g fd (.ref a) m3.kp m4 m5 ar I2 (E.same s1) d0 ((hF3.mono s1).imp λd q v H2 s2 d2=>q v H2 (s1.trans s2) d2)
 |_=>exact hF.elim
theorem A4{σ:St}{O:List UN}{H:Hp}{g:List D->R D}{ds:List D}{vs:List V}{Q:VK}{n:Nat}(ar:Ar n g)(hO:dU H O)(d1:bb X.K (hid H O) ds vs)(h:ji X σ O H (g ds) λd=>∀v H',bj H H'->cJ X.K (hid H' O) d v->Q v H'):∃E,nN (oW X.prog X.w) X σ E/\El X.K n g vs H Q E:=by
 cases hg:g ds with
 |ok d=>
  rw[hg]at h;refine⟨E0,BE,O,ds,by rw[<-d1.length];exact ar ds (by rw[hg];intro z;cases z),hO,d1,?_⟩;rw[hg];exact h
 |error z=>
  rw[hg]at h;cases z with
  |none=>exact h.elim
  |some x=>
   refine⟨CB X O H x,B4 h,O,ds,by rw[<-d1.length];exact ar ds (by rw[hg];intro z;cases z),hO,d1,?_⟩;rw[hg];exact zS
theorem NR{tbl:List (Str×(List D->R D))}{pl:Sem Bool}(tb:gO X.prog X.w X.K X.mg X.base k m ps tbl)(hr:fY k' X.A)(hk:k<=k')(ho:FE X o fo)(ha:FA X (e::es) fas)
  (hns:(e::es).all noStar=true:=by rfl)
  (ht:eval (.Call (.Attribute o m apos) (e::es) [] pos) X.env=(do
   let ov<-eval o X.env
   standAt apos.atName
   let (f,first)<-holding [ov] (getMethod ov m pl)
   Vm pos f first (backTo pos (U1 (e::es) X.env)) (backToKw pos (Vn [] X.env))):=by rfl):
  FE X (.Call (.Attribute o m apos) (e::es) [] pos) (dS m tbl fo fas):=
 FR tb (hr.mono hk) ho (λpins s1 σ H1 O ρ a f od Q g fd _ kp F b ar I1 E1 dO hP=>by
  refine TQ (first:=[.ref a]) (h₀:=X.base) I1.ok.mod.kin kp (dL (ha pos pins s1 σ H1 _ I1 ⟨O,ρ,E1,(ji.bind hP).imp λas hP vs H2 s2 d2=>A4 (vs:=.ref a::vs) ar (E1.all.same s2) (bo.mpr ⟨_,_,rfl,dO.mono (bN s2),d2⟩) ((hP.mono s2).imp λd q v H3 s3 d3=>q v H3 (s2.trans s3) d3)⟩) λus s2 ⟨vs,H2,I2,r,Ex,hx,q2⟩=>⟨I2.kIn,?_⟩) (dh (Rl _ _ ▸ hns).1) (gz (Rl _ _ ▸ hns).2);exact B3 (us:=.ref a::us) (vs:=.ref a::vs) F (hr.mono hk) b hx I2 (.cons rfl r) q2) ht
theorem cF{P:UM}{w:UL}{K:Tu}{mg:Str->Option UK}{base:UP}{c y qual:Str}{C f:UN}{fd:Vq}{st:U2}{N:List Str}{B:cn}(h1:clsAt K c C)(h2:yH K C)(h3:Meth K C m f)(F:uT K y qual st f fd)(b:Binds K fd ps [])(SC:aM N ps (ax st))(hb:BodyOk P w K mg base k N qual st f B):
  MethAt P w K mg base (k+1) c m ps (aK B ps.length N.length):=⟨C,f,fd,h1,h2,h3,xu F SC hb,b⟩
def Qt(C:UN)(fs:List Str):Sp:=λvs H Q _=>∃x dx as,vs=.ref x::as/\as.length=fs.length/\H x=some (.ins C dx [])/\Q .non (upd H x (.ins C dx (fs.zip as)))
def o6(P:UM)(w:UL)(K:Tu)(mg:Str->Option UK)(base:UP)(k:Nat)(c:Str)(ps fs:List Str):Prop:=
 ∃C f fd,clsAt K c C/\Mk K C f/\jT P w K mg base (oW P w) k f fd ps (Qt C fs)/\Binds K fd ps []/\mg c=some (.ref C)
def fNew(c:Str)(fs:List Str)(fas:aq->R (List D)):FX:=λρ=>(fas ρ).bind λas=>if as.length=fs.length then .ok (.obj c fs as)else un
theorem zG{K:Tu}{H1:Hp}{O:List UN}{c:Str}{fs:List Str}{as:List D}{vs:List V}{C x dx:UN}(hc:clsAt K c C)(hl:as.length=fs.length)(d1:bb K (hid H1 O) as vs)(hO:dU H1 O)(hx:H1 x=none)(hd:H1 dx=none)(ne:dx≠x):
  bj H1 (upd (upd (upd H1 dx (.own x)) x (.ins C dx [])) x (.ins C dx (fs.zip vs)))/\cJ K (hid (upd (upd (upd H1 dx (.own x)) x (.ins C dx [])) x (.ins C dx (fs.zip vs))) O) (.obj c fs as) (.ref x):=by
 have sm:bj H1 (upd (upd (upd H1 dx (.own x)) x (.ins C dx [])) x (.ins C dx (fs.zip vs))):=λb o h=>by
  have n1:=bc h hx;have n2:=bc h hd;rw[aD n1,aD n1,aD n2];exact h
 exact⟨sm,Hj.mpr ⟨x,vs,rfl,d1.mono (bN sm),by rw[<-d1.length,hl],C,dx,hc,by rw[ja (hO.not hx),aY]⟩⟩
theorem M6{X:Cx}:Bv (oW X.prog X.w) X E0:=λ_ _ _ _ _ _ _ h=>by
 obtain⟨_,_,_,_,_,_,_,_,_,_,_,_,_,z⟩:=h;exact z.elim
theorem O8{c:Str}{fs:List Str}(IA:o6 X.prog X.w X.K X.mg X.base k c ps fs)(hr:fY k' X.A)(hk:k+1<=k')(hg:Gl X c)(ha:FA X (e::es) fas)(hdb:(c==("__debug__":Str))=false:=by decide)
  (hns:(e::es).all noStar=true:=by rfl):FE X (.Call (.Name c p) (e::es) [] pos) (fNew c fs fas):=by
 obtain⟨C,f,fd,h1,h2,h3,h4,h5⟩:=IA;refine PE.weak (Ip (dvs:=[]) (E:=E0) h2 h3 (hr.mono hk) hg h5 h4 .nil M6 ha hdb (dh (Rl _ _ ▸ hns).1) (gz (Rl _ _ ▸ hns).2)) λσ H Q ⟨O,ρ,E,hF⟩=>⟨O,ρ,E,(ji.bind hF).imp λas hF vs H1 s1 d1 x dx hx hd ne=>?_⟩
 by_cases hl:as.length=fs.length
 ·rw[if_pos hl]at hF;rw[Q5];refine⟨x,dx,vs,rfl,by rw[<-d1.length,hl],by rw[aY],rfl,?_⟩;obtain⟨sm,dn⟩:=zG h1 hl d1 (E.all.same s1) hx hd ne;exact hF _ _ (s1.trans sm) dn
 ·rw[if_neg hl]at hF;exact hF.elim
theorem tL(f:Str)(v:V):∀{fs:List (Str×V)},(fs.map (·.1)).contains f=false->mN f v fs=fs++[(f,v)]
 |[],_=>rfl
 |(g,w)::fs,h=>by
  rw[Q1,Se,Sf]at h;have ne:¬g=f:=λz=>by
   have:=h.1
   rw[z]at this;simp at this
  have:=tL f v (fs:=fs) h.2
  unfold mN;simp only[ne,if_false,this,RB]
def Ci(X:Cx)(cs:List Str)(body:List U2)(fs:List Str)(i:Nat):Prop:=
 ∃t,y8 X body t/\∀(D:Ends)(σ:St)(H:Hp)(x dx C:UN)(done:List (Str×V))(as:List V),σ[0]?=some (some (.ref x))->(∀j v,as[j]?=some v->σ[i+j]?=some (some v))->as.length=fs.length->yH X.K C->(∀f∈fs,kz X.K C f)->done.length+fs.length<1000->(done.map (·.1)++fs).Nodup->H x=some (.ins C dx done)->
  D.nx σ (upd H x (.ins C dx (done++fs.zip as)))->t D σ H
theorem wz{st:U2}{f:Str}{i:Nat}{o v:U0}{p1 p2:Pos}(hst:st=.Assign [.Attribute o f p1] v p2)(ho:PE X o (qy 0))(hv:PE X v (qy i))(hs:swapsWith v (some (.Attribute o f p1)) p2.line X.env=pure false):Ci X cs [st] [f] i:=by
 subst hst;refine⟨_,BD (E7 ho hv hs),λD σ H x dx C done as h0 ha hl cl na hz nd hx q=>?_⟩;obtain⟨a,rfl⟩:∃a,as=[a]:=by
  match as,hl with
  |[a],_=>exact⟨a,rfl⟩
 refine⟨a,ha 0 a rfl,.ref x,h0,x,C,dx,done,rfl,hx,cl,na f (List.mem_singleton.mpr rfl),by simp at hz;omega,?_⟩;rw[tL f a (by
  have:=nd
  rw[Sg]at this;have h3:=this.2.2;cases hc:(done.map (·.1)).contains f with
  |false=>rfl
  |true=>exact absurd rfl (h3 f (List.contains_iff_mem.mp hc) f (List.mem_singleton.mpr rfl)))]
 exact q
theorem Bt{st:U2}{rest:List U2}{f:Str}{fs:List Str}{i:Nat}{o v:U0}{p1 p2:Pos}(hst:st=.Assign [.Attribute o f p1] v p2)(ho:PE X o (qy 0))(hv:PE X v (qy i))(hs:swapsWith v (some (.Attribute o f p1)) p2.line X.env=pure false)(hr:Ci X cs rest fs (i+1)):Ci X cs (st::rest) (f::fs) i:=by
 subst hst;obtain⟨t,ht,hq⟩:=hr;refine⟨_,zI (E7 ho hv hs) ht,λD σ H x dx C done as h0 ha hl cl na hz nd hx q=>?_⟩;obtain⟨a,as,rfl⟩:∃a r,as=a::r:=by
  match as,hl with
  |a::r,_=>exact⟨a,r,rfl⟩
 have hno:(done.map (·.1)).contains f=false:=by
  have:=nd
  rw[Sg]at this;have h3:=this.2.2;cases hc:(done.map (·.1)).contains f with
  |false=>rfl
  |true=>exact absurd rfl (h3 f (List.contains_iff_mem.mp hc) f QO)
 refine⟨a,ha 0 a rfl,.ref x,h0,x,C,dx,done,rfl,hx,cl,na f QO,by simp at hz;omega,?_⟩;rw[tL f a hno];refine hq D σ _ x dx C (done++[(f,a)]) as h0 (λj v e=>?_) (by simpa using hl) cl (λg hg=>na g (QP _ hg)) (by simp at hz ⊢;omega) (by simpa [R1]using nd) (by rw[aY]) ?_
 ·have:=ha (j+1) v (by simpa using e)
  rw[show i+1+j=i+(j+1)by omega];exact this
 ·rw[IU,R1];exact q
theorem vN{P:UM}{w:UL}{K:Tu}{mg:Str->Option UK}{base:UP}{c qual:Str}{C f:UN}{fd:Vq}{st:U2}{fs:List Str}(h1:clsAt K c C)(hM:Mk K C f)(cl:yH K C)(na:∀g∈fs,kz K C g)(F:uT K "__init__" qual st f fd)(b:Binds K fd ps [])(hmg:mg c=some (.ref C))(SC:aM ps ps (ax st))(hps:ps.length=fs.length+1)(hnd:fs.Nodup)(hlen:fs.length<1000)
  (hb:∀(cdv:UK)(A:UW)(outer:List Env)(s:UX)(H:Hp)(E:XK),Ci (kB Nx P w K mg base ps qual (ax st) f cdv A outer s H E).nox [] (fw st) fs 1):o6 P w K mg base (k+1) c ps fs:=by
 refine⟨C,f,fd,h1,hM,?_,b,hmg⟩;refine jT.any (F.ok SC (λvs H Q E h=>?_) λcdv A outer s H vs Q E hr h=>?_)
 ·obtain⟨x,dx,as,rfl,hl,_⟩:=h;rw[Q0,hl,hps]
 ·obtain⟨t,ht,hq⟩:=hb cdv A outer s H E;obtain⟨x,dx,as,rfl,hl,hx,q⟩:=h;have hst:L2.start ps (.ref x::as)=(.ref x::as).map some:=by
   unfold L2.start;rw[Q0,hl,hps,Si,Sj,Q5]
  refine⟨t,ht,hq _ _ H x dx C [] as (by rw[hst];rfl) (λj v e=>?_) hl cl na (by simpa using hlen) (by simpa using hnd) hx q⟩;rw[hst,Nat.add_comm,Q1,R7,Rc,e];rfl
end
end TG
namespace TG
open PySem PySem.Spec L2
variable[aW]
section
variable{X:Cx}
def JK:List D->Option (List Str)
 |[]=>some []
 |.str x::r=>(JK r).bind λys=>some (x::ys)
 |_=>none
def QF:D->Option Str
 |.str z=>some z
 |_=>none
def Qj(z:Str)(as:List D):Option D:=match as with
 |[.lst xs]=>(JK xs).bind λys=>if small ((ys.map (λy=>y.length)).sum+ys.length*z.length)then some (.str (Txt.join z ys))else none
 |_=>none
def Qb(a b:D):Option D:=match a,b with
 |.bl c,.bl d=>some (.bl (c==d))
 |_,_=>none
def lN(a b:D):Option D:=match a,b with
 |.bl c,.bl d=>some (.bl (!(c==d)))
 |_,_=>none
theorem vV:j7 X (Vf .IsNot) (rD X.K lN):=by
 intro pins s σ H x y u v Q I rx ry ⟨O,a,b,d,hO,ha,hb,hg,q⟩;cases a with
 |bl i=>
  cases b with
  |bl j=>
   cases hg;rw[mI.mp ha]at rx;rw[mI.mp hb]at ry;cases rx;cases ry;exact PyProof.Rows.isnot_bool ⟨.bl _,H,I,rfl,q _ H (bj.refl H) (mI.mpr rfl)⟩
  |_=>cases hg
 |_=>cases hg
end
section
variable{X:Cx}{C:UN}{pins:List (UN×Obj)}{σ:St}{H:Hp}{s:UX}{Q:VK}
def anyB:List D->Option Bool
 |[]=>some false
 |.bl b::r=>(anyB r).bind λc=>some (b||c)
 |_=>none
def CQ:List D->Option D
 |[.lst xs]=>(anyB xs).bind λb=>some (.bl b)
 |_=>none
theorem yL:∀{xs:List D}{b:Bool},anyB xs=some b->∃bs:List Bool,xs=bs.map .bl/\b=bs.any id
 |[],b,h=>by cases h;exact⟨[],rfl,rfl⟩
 |d::r,b,h=>by
  cases d with
  |bl x=>
   obtain⟨c,e1,e2⟩:=bind_some (show((anyB r).bind λc=>some (x||c))=some b from h);cases e2;obtain⟨bs,e3,e4⟩:=yL e1;exact⟨x::bs,by rw[Q1,e3],by rw[Rr,e4];rfl⟩
  |_=>cases h
theorem range_any(bs:List Bool):((List.range bs.length).any λi=>(bs[i]?).getD false)=bs.any id:=by
 induction bs with
 |nil=>rfl
 |cons b bs ih=>
  rw[Q0,RJ,Rr,Sl,Rr,<-ih];rfl
theorem Dv(hc:X.calm=true):dY X (.builtin "any") (yd X.K CQ):=by
 intro pins s σ H xs us Q I r ⟨O,ds,d,hO,hd,hg,q⟩;unfold CQ at hg;split at hg
 ·rename_i ys;obtain⟨bv,e1,e2⟩:=bind_some hg;cases e2;obtain⟨bs,eb,ev⟩:=yL e1;subst eb ev;obtain⟨v,evv,h1⟩:=hd.one;subst evv;obtain⟨p,vs,ep,g1,g2⟩:=cT.mp h1;subst ep;obtain⟨u,eu,ru⟩:=vals1 r;subst eu;cases ru;obtain⟨its,rv,pl,hz⟩:=I.list ((aB H O).seq g1);have ei:=uf g2 rv;have hl:=pl.isList;have hlt:p<s.heap.objs.size:=by obtain⟨_,e,_⟩:=hl;exact Uc e
  refine call_any_walk (Va hl ?_);refine⟨s.heap.objs.size,[s.heap.objs.size,p],[s.heap.objs.size],its.toArray.size,_,_,λi=>(bs[i]?).getD false,rfl,Walks.list (A:=X.A.in1) (I.ok.hd hc) _ p (QK hlt) its.toArray,
   ⟨⟨_,Uh _ rfl,rfl,rfl⟩,hl.push _⟩,λi v s' Q' E' hP hQ=>?_,λh' tk hk=>?_⟩
  ·have e:bs[i]?.map Value.bool=some v:=by
    rw[<-Rc,<-ei]
    simpa using hP
   cases eb:bs[i]? with
   |none=>rw[eb]at e;cases e
   |some b=>
    rw[eb]at e;cases e;simp only[eb,Option.getD_some]at hQ;exact U5 hQ
  ·have e:((List.range its.toArray.size).any λi=>(bs[i]?).getD false)=bs.any id:=by
    have:its.toArray.size=bs.length:=(by rw[QY,ei,Q2]);rw[this];exact range_any bs
   rw[e];have k:∀b x,s.heap.get? b=some x->h'.get? b=some x:=λb x e=>hk b x (λhm=>by rw[List.mem_singleton.mp hm]at e;exact QJ _ (Uc e)) (Ug _ e);exact⟨.bl _,H,I.kept k,rfl,q _ H (bj.refl H) (mI.mpr rfl)⟩
 ·cases hg
end
end TG
namespace TG
open PySem PySem.Spec PyProof.Rows L2
variable[aW]
def eR:List D->List D->Option Bool
 |[],[]=>some false
 |[],_::_=>some true
 |_::_,[]=>some false
 |a::as,b::bs=>match a,b with
  |.int i,.int j=>if i=j then eR as bs else some (decide (i<j))
  |.str x,.str y=>if x=y then eR as bs else some (decide (x.cps.toList<y.cps.toList))
  |_,_=>none
inductive gP:List UK->List D->Prop where
 |nil:gP [] []
 |int (i:Int) (t:Tok) {vs:List UK} {ds:List D} (h:gP vs ds):gP (.int i t::vs) (.int i::ds)
 |str (x:Str) (t:Tok) {vs:List UK} {ds:List D} (h:gP vs ds):gP (.str x t::vs) (.str x::ds)
theorem gP.length:∀{vs:List UK}{ds:List D},gP vs ds->vs.length=ds.length
 |_,_,.nil=>rfl
 |_,_,.int _ _ h=>by rw[Q0,Q0,h.length]
 |_,_,.str _ _ h=>by rw[Q0,Q0,h.length]
theorem Jt(A:UW)(s:UX)(a:Int)(t:Tok)(c:Int)(u:Tok):∃e,SeqAt.EqAt A s (.int a t) (.int c u) e/\(e=true↔a=c):=
 ⟨(a==c),SeqAt.EqAt.int_int a t c u,by simp⟩
theorem Jx(A:UW)(s:UX)(a:Str)(t:Tok)(c:Str)(u:Tok):∃e,SeqAt.EqAt A s (.str a t) (.str c u) e/\(e=true↔a=c):=
 ⟨(a==c),SeqAt.EqAt.str_str a t c u,by simp⟩
theorem MF(A:UW)(s:UX)(a:Str)(t:Tok)(c:Str)(u:Tok)(prog:UM)(w:UL)(E:UK->UX->Prop)(Q:UK->UX->Prop)(h:Q (.bool (decide (a.cps.toList<c.cps.toList))) s):
  UZ (model prog w) A (richCompare .Lt (.str a t) (.str c u)) Q E s:=
 (PySem.P.lt_str h:UZ (model prog w) A (Vf .Lt (.str a t) (.str c u)) Q E s)
section
open PySem.SeqAt
open PySem.AutoSeq1 (wpAny_loadPart')
open PySem.MeetsSeq PySem.MeetsSeq2 PySem.MeetsSeq3
set_option maxHeartbeats 1000000 in
theorem vn(l b:UN)(items items2:Array UK)(n n2:Nat)(dd dd2:Option UN)(sl sl2:Array (Option UK))(ns ms:List D)(r:Bool)(hi:gP items.toList ns)(hj:gP items2.toList ms)(hr:eR ns ms=some r):
  Meets (Builtin.«tuple.__lt__» ⟨[.ref l,.ref b],[]⟩)
   (fun _ R s=>s.heap.get? l=some { cls:=.type "tuple",dict:=dd,data:=.seq items n,slots:=sl }/\s.heap.get? b=some { cls:=.type "tuple",dict:=dd2,data:=.seq items2 n2,slots:=sl2 } /\
    R (.ok (.ret (.bool r))) s):=
 .of_wp λprog w A R s h=>by
  obtain⟨hp,g,d,tk,os⟩:=s;obtain⟨hl,hb,h⟩:=h;have f2:=AutoSeq1.sub_tuple_tuple;have z1:items.size=ns.length:=by rw[<-hi.length];simp
  have z2:items2.size=ms.length:=by rw[<-hj.length];simp
  wp_walk using wpAny_loadPart' hl,wpAny_loadPart' hb,wpAny_forIn_list _ (λrest b s'=>b.1=none/\s'=⟨hp,g,d,tk,os⟩/\∃(vs ws:List UK)(ns' ms':List D),rest=vs.zip ws/\
   gP vs ns'/\gP ws ms'/\ns'.length+items2.size=ms'.length+items.size/\eR ns' ms'=some r/\R (.ok (.ret (.bool r))) ⟨hp,g,d,tk,os⟩) _
  case turn=>
   rintro⟨y,x⟩ rest b s' ⟨hb',rfl,vs,ws,ns',ms',hz,hvi,hwi,hlen,hL,hR⟩;cases hvi with
   |nil=>rw[List.zip_nil_left]at hz;cases hz
   |int a t hvi'=>
    cases hwi with
    |nil=>rw[Sn]at hz;cases hz
    |str c u hwi'=>cases hL
    |int c u hwi'=>
     rw[Sd]at hz;injection hz with hyx hrest;injection hyx with hy hx;subst hy hx;have hL':(if a=c then eR _ _ else some (decide (a<c)))=some r:=hL;simp only[Q0]at hlen;obtain⟨e,he,hiff⟩:=Jt A.in1 ⟨hp,g,d,tk,os⟩ a t c u;refine U8 (he prog w _ _ ?_);cases e with
     |true=>
      rw[if_pos (hiff.mp rfl)]at hL'
      wp_walk
      exact⟨rfl,rfl,_,_,_,_,hrest,hvi',hwi',by omega,hL',hR⟩
     |false=>
      rw[if_neg (λq=>absurd (hiff.mpr q) QZ)]at hL';cases hL';have hri:=HT.L1 A.in1 ⟨hp,g,d,tk,os⟩ a t c u prog w
      wp_walk using hri
      exact⟨_,rfl,by simpa using hR⟩
   |str a t hvi'=>
    cases hwi with
    |nil=>rw[Sn]at hz;cases hz
    |int c u hwi'=>cases hL
    |str c u hwi'=>
     rw[Sd]at hz;injection hz with hyx hrest;injection hyx with hy hx;subst hy hx;have hL':(if a=c then eR _ _ else some (decide (a.cps.toList<c.cps.toList)))=some r:=hL;simp only[Q0]at hlen;obtain⟨e,he,hiff⟩:=Jx A.in1 ⟨hp,g,d,tk,os⟩ a t c u;refine U8 (he prog w _ _ ?_);cases e with
     |true=>
      rw[if_pos (hiff.mp rfl)]at hL'
      wp_walk
      exact⟨rfl,rfl,_,_,_,_,hrest,hvi',hwi',by omega,hL',hR⟩
     |false=>
      rw[if_neg (λq=>absurd (hiff.mpr q) QZ)]at hL';cases hL';have hri:=MF A.in1 ⟨hp,g,d,tk,os⟩ a t c u prog w
      wp_walk using hri
      exact⟨_,rfl,by simpa using hR⟩
  case fin=>
   rintro⟨b1,b2⟩ s' ⟨hb',rfl,vs,ws,ns',ms',hz,hvi,hwi,hlen,hL,hR⟩;simp only at hb';subst hb';have hv:r=decide (items.size<items2.size):=by
    have l1:=hvi.length;have l2:=hwi.length;cases ns' with
    |nil=>
     cases ms' with
     |nil=>
      simp only[Rt]at hlen;cases hL;exact(decide_eq_false ‹0›).symm
     |cons c u=>
      simp only[Rt,Q0]at hlen;cases hL;exact(decide_eq_true ‹0›).symm
    |cons a t=>
     cases ms' with
     |nil=>
      simp only[Rt,Q0]at hlen;cases hL;exact(decide_eq_false ‹0›).symm
     |cons c u=>
      have:=congrArg List.length hz
      simp only[Rt,List.length_zip,l1,l2,Q0]at this;omega
   rw[hv]at hR
   wp_walk
   exact⟨_,rfl,by simpa [Builtin.Tuple.tupleCompareSizes]using hR⟩
  case h=>
   exact⟨rfl,rfl,items.toList,items2.toList,ns,ms,rfl,hi,hj,by omega,hr,h⟩
end
section
variable{X:Cx}
theorem wH{α:Type}{c:Bool}{o:Option α}{a:α}(h:(if c then o else none)=some a):c=true/\o=some a:=by
 cases c with
 |true=>exact⟨rfl,h⟩
 |false=>cases h
theorem A8{prog:UM}{w:UL}{A:UW}{E:UK->UX->Prop}{s:UX}{l b:UN}{items items2:Array UK}{ns ms:List D}{r:Bool}{Q:UK->UX->Prop}(hl:UR s.heap l items)(hb:UR s.heap b items2)(hi:gP items.toList ns)(hj:gP items2.toList ms)(hr:eR ns ms=some r)
  (hu:A.units<Vp) (h:Q (.bool r) s):UZ (model prog w) A (Vf .Lt (.ref l) (.ref b)) Q E s:=by
 obtain⟨⟨cls,dd,data,sl⟩,ho,hc,n,hd⟩:=id hl;obtain⟨⟨cls2,dd2,data2,sl2⟩,ho2,hc2,n2,hd2⟩:=id hb;simp only at hc hd hc2 hd2;subst hc hd hc2 hd2;exact richCompare_meets_room (op:=.Lt) ⟨_,ho,rfl⟩ ⟨_,ho2,rfl⟩ PySem.F.slot_tuple_lt PySem.F.entry_tuple_lt (PySem.F.args_tuple_lt_2 _ _) (vn l b items items2 n n2 dd dd2 sl sl2 ns ms r hi hj hr)
  ⟨ho,ho2,show Value.bool r≠Value.notImplemented/\Q (.bool r) s from⟨(λx=>nomatch x),h⟩⟩ hu
def rW:List D->Bool
 |[]=>true
 |.int _::r=>rW r
 |.str _::r=>rW r
 |_=>false
theorem lA{K:Tu}{H:Hp}:∀{ds:List D}{vs:List V}{us:List UK},rW ds=true->bb K H ds vs->Vals vs us->gP us ds
 |[],vs,us,_,h,r=>by
  rw[cI]at h;subst h;cases r;exact .nil
 |d::ds,vs,us,hf,h,r=>by
  obtain⟨v,r',e,h1,h2⟩:=bo.mp h;subst e;cases r with
  |cons q1 q2=>
   cases d with
   |int i=>
    rw[fE]at h1;subst h1;obtain⟨t,rfl⟩:=q1;exact .int i t (lA hf h2 q2)
   |str x=>
    rw[fO]at h1;subst h1;obtain⟨t,rfl⟩:=q1;exact .str x t (lA hf h2 q2)
   |_=>cases hf
def uF(a b:D):Option D:=match a,b with
 |.int i,.int j=>some (.bl (decide (i<j)))
 |.str x,.str y=>some (.bl (decide (x.cps.toList<y.cps.toList)))
 |.tup xs,.tup ys=>if rW xs&&rW ys then(eR xs ys).bind λr=>some (.bl r)else none
 |_,_=>none
theorem pj(hu:X.A.units+64<Vp):j7 X (Vf .Lt) (rD X.K uF):=by
 intro pins s σ H x y u v Q I rx ry ⟨O,a,b,d,hO,ha,hb,hg,q⟩;cases a with
 |int i=>
  cases b with
  |int j=>
   cases hg;exact LV pins s σ H x y u v Q I rx ry ⟨i,j,fE.mp ha,fE.mp hb,q _ H (bj.refl H) (mI.mpr rfl)⟩
  |_=>cases hg
 |str i=>
  cases b with
  |str j=>
   cases hg;exact DC pins s σ H x y u v Q I rx ry ⟨i,j,fO.mp ha,fO.mp hb,q _ H (bj.refl H) (mI.mpr rfl)⟩
  |_=>cases hg
 |tup xs=>
  cases b with
  |tup ys=>
   obtain⟨h1,h2⟩:=wH hg;obtain⟨r,e1,e2⟩:=bind_some h2;cases e2;rw[Rl]at h1;obtain⟨p,vs,ex,g1,g2⟩:=cN.mp ha;obtain⟨p',vs',ey,g1',g2'⟩:=cN.mp hb;subst ex ey;cases rx;cases ry;obtain⟨its,r1,t1,_⟩:=I.tuple (bW (aB H O) g1);obtain⟨its2,r2,t2,_⟩:=I.tuple (bW (aB H O) g1');exact A8 t1 t2 (lA h1.1 g2 r1) (lA h1.2 g2' r2) e1 ‹0› (E9 I (q _ H (bj.refl H) (mI.mpr rfl)) rfl)
  |_=>cases hg
 |_=>cases hg
end
end TG
namespace TG
open PySem PySem.Spec L2
variable[aW]
def mL(x:Str)(n:Int):Str:=if(n==1||x.length==0)=true then x else⟨(List.replicate n.toNat x.cps).foldl (·++·) #[]⟩
theorem foldl_size:∀(n:Nat)(c a:Array Nat),((List.replicate n c).foldl (·++·) a).size=a.size+n*c.size
 |0,_,a=>by simp
 |n+1,c,a=>by
  rw[Sq,Sr,foldl_size n c,Array.size_append,Nat.succ_mul];omega
theorem yB{x:Str}{n:Int}(h:1<=n):(mL x n).length=n.toNat*x.length:=by
 unfold mL;split
 ·rename_i q;rw[RN]at q;rcases q with q|q
  ·have:n=1:=(by simpa using q);rw[this];simp
  ·have:x.length=0:=(by simpa using q);rw[this];simp
 ·show((List.replicate n.toNat x.cps).foldl (·++·) #[]).size=n.toNat*x.cps.size;rw[foldl_size];simp
def yD(a b:D):Option D:=match a,b with
 |.int i,.int j=>o3 (.int i) (.int j)
 |.str x,.int n=>if decide (1<=n/\n<=1000/\x.length<=1000)then some (.str (mL x n))else none
 |_,_=>none
section
variable{X:Cx}
theorem xH:j7 X (Ve .Mult) (rD X.K yD):=by
 intro pins s σ H x y u v Q I rx ry ⟨O,a,b,d,hO,ha,hb,hg,q⟩;cases a with
 |int i=>
  cases b with
  |int j=>exact kF pins s σ H x y u v Q I rx ry (kG (.int i) (.int j) d x y O H Q hO hg ha hb q)
  |_=>cases hg
 |str z=>
  cases b with
  |int n=>
   obtain⟨h1,h2⟩:=bI hg;subst h2;obtain⟨n1,n2,zl⟩:=of_decide_eq_true h1;rw[fO]at ha;rw[fE]at hb;subst ha hb;obtain⟨t,rfl⟩:=rx;obtain⟨t',rfl⟩:=ry;have zn:z.length*n.toNat<=1000*1000:=Nat.mul_le_mul zl ‹0›;refine P.mul_str (by rw[decide_eq_false ‹0›,decide_eq_false ‹0›];rfl) (λ_ _=>?_) (λ_ _=>?_) ?_
   ·have:(2^63-1:Int)/n>=(2^63-1)/1000:=by
     rw[ge_iff_le,Int.le_ediv_iff_mul_le ‹0›];have h3:(2^63-1:Int)/1000*n<=(2^63-1)/1000*1000:=Int.mul_le_mul_of_nonneg_left n2 (by decide);have h4:(2^63-1:Int)/1000*1000<=2^63-1:=(by decide);omega
    have h5:(2^63-1:Int)/1000=9223372036854775:=(by decide);omega
   ·unfold Builtin.Str.tooLong;rw[decide_eq_false];rw[Vi];omega
   ·rw[if_neg ‹0›];have fin:∀tk,EP X pins σ Q (.str (mL z n) tk) {s with toks:=s.toks+1}/\EP X pins σ Q (.str (mL z n) tk) s:=λtk=>⟨⟨.str (mL z n),H,I.tok _,⟨_,rfl⟩,q _ H (bj.refl H) (fO.mpr rfl)⟩,⟨.str (mL z n),H,I,⟨_,rfl⟩,q _ H (bj.refl H) (fO.mpr rfl)⟩⟩
    by_cases e:(n==1||z.length==0)=true
    ·rw[if_pos e]
     have:mL z n=z:=(by unfold mL;rw[if_pos e]);rw[this]at fin;exact(fin t).2
    ·rw[if_neg e];have e2:mL z n=⟨(List.replicate n.toNat z.cps).foldl (·++·) #[]⟩:=(by unfold mL;rw[if_neg e]);rw[e2]at fin;refine⟨?_,(fin _).1⟩;have rl:=yB (x:=z) (n:=n) ‹0›;rw[e2]at rl;rw[rl,Vi,Nat.mul_comm];omega
  |_=>cases hg
 |_=>cases hg
end
end TG
namespace TG
open PySem PySem.Spec PyProof.Rows PySem.W L2
variable[aW]
theorem uB:∀a:List Nat,¬a<a
 |[]=>Ss _
 |x::xs=>λh=>by
  rcases List.cons_lt_cons_iff.mp h with h|⟨_,h⟩
  ·omega
  ·exact uB xs h
theorem nD:∀{a b c:List Nat},a<b->b<c->a<c
 |_,_,[],_,h=>absurd h (Ss _)
 |_,[],_::_,h,_=>absurd h (Ss _)
 |[],_::_,_::_,_,_=>Su _ _
 |x::xs,y::ys,z::zs,h,h'=>by
  rw[Sv]at h h' ⊢;rcases h with h|⟨e,h⟩<;>rcases h' with h'|⟨e',h'⟩
  ·exact .inl ‹0›
  ·exact .inl ‹0›
  ·exact .inl ‹0›
  ·exact .inr ⟨by omega,nD h h'⟩
theorem FV:∀a b:List Nat,a<b\/a=b\/b<a
 |[],[]=>.inr (.inl rfl)
 |[],_::_=>.inl (Su _ _)
 |_::_,[]=>.inr (.inr (Su _ _))
 |x::xs,y::ys=>by
  rw[Sv,Sv];rcases Nat.lt_trichotomy x y with h|h|h
  ·exact .inl (.inl h)
  ·rcases FV xs ys with q|q|q
   ·exact .inl (.inr ⟨h,q⟩)
   ·exact .inr (.inl (by rw[h,q]))
   ·exact .inr (.inr (.inr ⟨h.symm,q⟩))
  ·exact .inr (.inr (.inl h))
theorem FU{x y:Str}(h:x.cps.toList=y.cps.toList):x=y:=by
 cases x;cases y;congr 1;exact Array.toList_inj.mp h
inductive Sh:List Bool->List D->Prop where
 |nil:Sh [] []
 |int (i:Int) {bs:List Bool} {ds:List D} (h:Sh bs ds):Sh (true::bs) (.int i::ds)
 |str (x:Str) {bs:List Bool} {ds:List D} (h:Sh bs ds):Sh (false::bs) (.str x::ds)
theorem Sh.length:∀{σ:List Bool}{a:List D},Sh σ a->a.length=σ.length
 |_,_,.nil=>rfl
 |_,_,.int _ h=>by rw[Q0,Q0,h.length]
 |_,_,.str _ h=>by rw[Q0,Q0,h.length]
theorem sU:∀{σ:List Bool}{a:List D},Sh σ a->rW a=true
 |_,_,.nil=>rfl
 |_,_,.int i h=>by
  unfold rW;exact sU h
 |_,_,.str i h=>by
  unfold rW;exact sU h
theorem qc(i j:Int)(as bs:List D):eR (.int i::as) (.int j::bs)=if i=j then eR as bs else some (decide (i<j)):=by rw[eR]
theorem qo(x y:Str)(as bs:List D):eR (.str x::as) (.str y::bs)=if x=y then eR as bs else some (decide (x.cps.toList<y.cps.toList)):=by rw[eR]
theorem EE:eR [] []=some false:=by rw[eR]
theorem lR:∀{σ:List Bool}{a:List D},Sh σ a->eR a a=some false
 |_,_,.nil=>EE
 |_,_,.int i h=>by rw[qc,if_pos rfl];exact lR h
 |_,_,.str x h=>by rw[qo,if_pos rfl];exact lR h
theorem om:∀{σ:List Bool}{a b:List D},Sh σ a->Sh σ b->(eR a b=some true/\eR b a=some false/\a≠b)\/a=b\/(eR b a=some true/\eR a b=some false/\a≠b)
 |_,_,_,.nil,.nil=>.inr (.inl rfl)
 |_,_,_,.int i h,.int j h'=>by
  rw[qc,qc];by_cases e:i=j
  ·subst e;rw[if_pos rfl,if_pos rfl];rcases om h h' with⟨q1,q2,q3⟩|q|⟨q1,q2,q3⟩
   ·exact .inl ⟨q1,q2,λz=>q3 (by injection z)⟩
   ·exact .inr (.inl (by rw[q]))
   ·exact .inr (.inr ⟨q1,q2,λz=>q3 (by injection z)⟩)
  ·rw[if_neg e,if_neg (λz=>e z.symm)];rcases Int.lt_or_gt_of_ne e with q|q
   ·exact .inl ⟨by rw[decide_eq_true q],by rw[decide_eq_false ‹0›],λz=>e (by injection z with z1;injection z1)⟩
   ·exact .inr (.inr ⟨by rw[decide_eq_true q],by rw[decide_eq_false ‹0›],λz=>e (by injection z with z1;injection z1)⟩)
 |_,_,_,.str x h,.str y h'=>by
  rw[qo,qo];by_cases e:x=y
  ·subst e;rw[if_pos rfl,if_pos rfl];rcases om h h' with⟨q1,q2,q3⟩|q|⟨q1,q2,q3⟩
   ·exact .inl ⟨q1,q2,λz=>q3 (by injection z)⟩
   ·exact .inr (.inl (by rw[q]))
   ·exact .inr (.inr ⟨q1,q2,λz=>q3 (by injection z)⟩)
  ·rw[if_neg e,if_neg (λz=>e z.symm)];rcases FV x.cps.toList y.cps.toList with q|q|q
   ·exact .inl ⟨by rw[decide_eq_true q],by rw[decide_eq_false λz=>uB _ (nD q z)],λz=>e (by injection z with z1;injection z1)⟩
   ·exact absurd (FU q) e
   ·exact .inr (.inr ⟨by rw[decide_eq_true q],by rw[decide_eq_false λz=>uB _ (nD q z)],λz=>e (by injection z with z1;injection z1)⟩)
theorem oj:∀{σ:List Bool}{a b c:List D},Sh σ a->Sh σ b->Sh σ c->eR a b=some true->eR b c=some true->eR a c=some true
 |_,_,_,_,.nil,.nil,.nil,h,_=>by rw[EE]at h;cases h
 |_,_,_,_,.int i h,.int j h',.int k h'',q,q'=>by
  rw[qc]at q q' ⊢;by_cases e:i=j
  ·subst e;rw[if_pos rfl]at q;by_cases e':i=k
   ·subst e';rw[if_pos rfl]at q' ⊢;exact oj h h' h'' q q'
   ·rw[if_neg e']at q' ⊢;exact q'
  ·rw[if_neg e]at q;have q1:=of_decide_eq_true (Option.some.inj q);by_cases e':j=k
   ·subst e';rw[if_neg e,decide_eq_true q1]
   ·rw[if_neg e']at q';have q2:=of_decide_eq_true (Option.some.inj q');rw[if_neg ‹0›,decide_eq_true ‹0›]
 |_,_,_,_,.str i h,.str j h',.str k h'',q,q'=>by
  rw[qo]at q q' ⊢;by_cases e:i=j
  ·subst e;rw[if_pos rfl]at q;by_cases e':i=k
   ·subst e';rw[if_pos rfl]at q' ⊢;exact oj h h' h'' q q'
   ·rw[if_neg e']at q' ⊢;exact q'
  ·rw[if_neg e]at q;have q1:=of_decide_eq_true (Option.some.inj q);by_cases e':j=k
   ·subst e';rw[if_neg e,decide_eq_true q1]
   ·rw[if_neg e']at q';have q2:=of_decide_eq_true (Option.some.inj q');rw[if_neg (show¬i=k from λz=>by rw[z]at q1;exact uB _ (nD q1 q2)),decide_eq_true (nD q1 q2)]
theorem zj{σ:List Bool}{a b:List D}(h:Sh σ a)(h':Sh σ b)(q:eR a b=some true):eR b a=some false:=by
 rcases om h h' with⟨_,q2,_⟩|e|⟨_,q2,_⟩
 ·exact q2
 ·subst e;rw[lR h]at q;cases q
 ·rw[q2]at q;cases q
def kLt(a b:List D):Bool:=eR a b==some true
theorem Iz{a b:List D}:kLt a b=true↔eR a b=some true:=by unfold kLt;simp
section
variable{α:Type}
def DW(key:α->List D)(x:α):List α->List α
 |[]=>[x]
 |y::ys=>if kLt (key x) (key y)then x::y::ys else y::DW key x ys
def ki(key:α->List D):List α->List α
 |[]=>[]
 |x::xs=>DW key x (ki key xs)
theorem rH(key:α->List D)(x:α):∀ys:List α,(DW key x ys).Perm (x::ys)
 |[]=>.refl _
 |y::ys=>by
  unfold DW;split
  ·exact .refl _
  ·exact(List.Perm.cons y (rH key x ys)).trans (.swap x y ys)
theorem ir(key:α->List D):∀xs:List α,(ki key xs).Perm xs
 |[]=>.refl _
 |x::xs=>(rH key x _).trans (.cons x (ir key xs))
def zB(key:α->List D)(xs:List α):Prop:=xs.Pairwise λx y=>eR (key x) (key y)=some true
theorem yg{key:α->List D}{σ:List Bool}{x:α}(hx:Sh σ (key x)):∀{ys:List α},(∀y∈ys,Sh σ (key y)/\key x≠key y)->zB key ys->zB key (DW key x ys)
 |[],_,_=>Sw _ _
 |y::ys,h,p=>by
  have p':=List.pairwise_cons.mp p;obtain⟨hy,ne⟩:=h y QO;unfold DW;split
  ·rename_i q;have q:=Iz.mp q;refine List.pairwise_cons.mpr ⟨λz hz=>?_,p⟩;rcases List.mem_cons.mp hz with rfl|hz
   ·exact q
   ·exact oj hx hy (h z (QP _ hz)).1 q (p'.1 z hz)
  ·rename_i q;have q:eR (key y) (key x)=some true:=by
    rcases om hx hy with⟨z,_⟩|z|⟨z,_⟩
    ·exact absurd (Iz.mpr z) q
    ·exact absurd z ne
    ·exact z
   refine List.pairwise_cons.mpr ⟨λz hz=>?_,yg hx (λz hz=>h z (QP _ hz)) p'.2⟩;rcases List.mem_cons.mp ((rH key x ys).mem_iff.mp hz)with rfl|hz
   ·exact q
   ·exact p'.1 z hz
theorem rp{key:α->List D}{σ:List Bool}:∀{xs:List α},(∀x∈xs,Sh σ (key x))->xs.Pairwise (λx y=>key x≠key y)->zB key (ki key xs)
 |[],_,_=>List.Pairwise.nil
 |x::xs,h,p=>by
  have p':=List.pairwise_cons.mp p;refine yg (h x QO) (λy hy=>?_) (rp (λy hy=>h y (QP _ hy)) p'.2);have hy:=(ir key xs).mem_iff.mp hy;exact⟨h y (QP _ hy),p'.1 y hy⟩
theorem CA{key:α->List D}{σ:List Bool}:∀{xs ys:List α},(∀x∈xs,Sh σ (key x))->zB key xs->zB key ys->xs.Perm ys->xs=ys
 |[],ys,_,_,_,e=>(List.perm_nil.mp e.symm).symm
 |x::xs,[],_,_,_,e=>List.perm_nil.mp e
 |x::xs,y::ys,h,p,q,e=>by
  have p':=List.pairwise_cons.mp p;have q':=List.pairwise_cons.mp q;have exy:x=y:=by
   rcases List.mem_cons.mp (e.mem_iff.mp QO)with z|z
   ·exact z
   ·have w1:=q'.1 x z;rcases List.mem_cons.mp (e.symm.mem_iff.mp QO)with z'|z'
    ·exact z'.symm
    ·have w2:=p'.1 y z'
     have:=zj (h x QO) (h y (QP _ z')) w2
     rw[w1]at this;cases this
  subst exy;rw[CA (λz hz=>h z (QP _ hz)) p'.2 q'.2 (List.Perm.cons_inv e)]
theorem zD{key:α->List D}{σ:List Bool}{xs ys:List α}(h:∀x∈xs,Sh σ (key x))(p:xs.Pairwise λx y=>key x≠key y)(q:zB key ys)(e:ys.Perm xs):ki key xs=ys:=
 CA (λx hx=>h x ((ir key xs).mem_iff.mp hx)) (rp h p) q ((ir key xs).trans e.symm)
def rank(ks:List (List D))(i:Nat):Nat:=(ks.filter λk=>kLt k (ks.getD i [])).length
theorem sM{ks:List (List D)}{σ:List Bool}(h:∀k∈ks,Sh σ k){i j:Nat}(hi:i<ks.length)(hj:j<ks.length):decide (rank ks i<rank ks j)=kLt (ks.getD i []) (ks.getD j []):=by
 have gi:ks.getD i []=ks[i]:=by simp[hi]
 have gj:ks.getD j []=ks[j]:=by simp[hj]
 have mono:∀a b:List D,Sh σ a->Sh σ b->eR a b=some true->∀l:List (List D),(∀k∈l,Sh σ k)->(l.filter λk=>kLt k a).length<=(l.filter λk=>kLt k b).length/\(a∈l->(l.filter λk=>kLt k a).length<(l.filter λk=>kLt k b).length):=by
  intro a b ha hb hab l
  induction l with
  |nil=>exact λ_=>⟨QU _,λz=>nomatch z⟩
  |cons k l ih=>
   intro hl;obtain⟨i1,i2⟩:=ih λz hz=>hl z (QP _ hz);have hk:=hl k QO;by_cases q:kLt k a=true
   ·have q':kLt k b=true:=Iz.mpr (oj hk ha hb (Iz.mp q) hab);rw[Sx (p:=λk=>kLt k a) q,Sx (p:=λk=>kLt k b) q',Q0,Q0];refine⟨by omega,λz=>?_⟩;rcases List.mem_cons.mp z with rfl|z
    ·rw[Iz,lR ha]at q;cases q
    ·have:=i2 z;omega
   ·rw[Sy (p:=λk=>kLt k a) q];by_cases q':kLt k b=true
    ·rw[Sx (p:=λk=>kLt k b) q',Q0];exact⟨by omega,λ_=>by omega⟩
    ·rw[Sy (p:=λk=>kLt k b) q'];refine⟨i1,λz=>?_⟩;rcases List.mem_cons.mp z with rfl|z
     ·exact absurd (Iz.mpr hab) q'
     ·exact i2 z
 unfold rank;rw[gi,gj];have hi':=h _ (Sz hi);have hj':=h _ (Sz hj);rcases om hi' hj' with⟨z,_⟩|z|⟨z,z',_⟩
 ·rw[Iz.mpr z];exact decide_eq_true ((mono _ _ hi' hj' z ks h).2 (Sz hi))
 ·rw[z]
  have:kLt ks[j] ks[j]=false:=by unfold kLt;rw[lR hj'];rfl
  rw[this];exact decide_eq_false (QJ _)
 ·have e:kLt ks[i] ks[j]=false:=by unfold kLt;rw[z'];rfl
  rw[e];exact decide_eq_false (Nat.not_lt.mpr (mono _ _ hj' hi' z ks h).1)
end
section
variable{cmp:Nat->Nat->(Bool->UX->Prop)->UX->Prop}{r:Nat->Nat}{N:Nat}
def mU(cmp:Nat->Nat->(Bool->UX->Prop)->UX->Prop)(r:Nat->Nat)(N:Nat)(s:UX):Prop:=∀(i j:Nat)(C:Bool->UX->Prop),i<N->j<N->C (decide (r i<r j)) s->cmp i j C s
def PM(N:Nat)(p:Array Nat):Prop:=p.Perm (List.toArray (List.range N))
theorem PM.size{p:Array Nat}(h:PM N p):p.size=N:=by
 have:=h.size_eq;simpa using this
theorem PM.lt{p:Array Nat}(h:PM N p){i:Nat}(hi:i<N):p.getD i 0<N:=by
 have hs:=h.size;have e:p.getD i 0=p[i]'‹0›:=by simp[Array.getD,hs,hi]
 rw[e];have m:p[i]'‹0›∈p:=Array.getElem_mem _
 have:=(h.mem_iff (a:=p[i]'‹0›)).mp m
 simpa using this
theorem PM.rev{p:Array Nat}(h:PM N p)(i j:Nat):PM N (kas_rev p i j):=(mirror_perm p i j _).trans h
abbrev Rk(r:Nat->Nat)(p:Array Nat)(i:Nat):Nat:=r (p.getD i 0)
theorem xr{p:Array Nat}{i j:Nat}(hj:j<=p.size)(k:Nat):Rk r (kas_rev p i j) k=if i<=k/\k<j then Rk r p (i+j-1-k)else Rk r p k:=by
 have e:=getElem?_mirror_all (xs:=p) (i:=i) (j:=j) hj k;have g:∀(q:Array Nat)(k:Nat),q.getD k 0=(q[k]?).getD 0:=λq k=>by simp
 show r ((kas_rev p i j).getD k 0)=_;rw[g];show r (((mirror p i j ((j-i)/2))[k]?).getD 0)=_;rw[e];split
 ·show _=r (p.getD _ 0);rw[g]
 ·show _=r (p.getD _ 0);rw[g]
theorem E8{p:Array Nat}{src d:Nat}(hs:src<p.size)(hd:d<=src)(k:Nat):Rk r (bubble p src d) k=if k=src-d then Rk r p src else if src-d<k/\k<=src then Rk r p (k-1)else Rk r p k:=by
 have e:=getElem?_bubble (xs:=p) hs d hd k;have g:∀(q:Array Nat)(k:Nat),q.getD k 0=(q[k]?).getD 0:=λq k=>by simp
 show r ((bubble p src d).getD k 0)=_;rw[g,e];split
 ·show _=r (p.getD _ 0);rw[g]
 ·split
  ·show _=r (p.getD _ 0);rw[g]
  ·show _=r (p.getD _ 0);rw[g]
def Up(r:Nat->Nat)(p:Array Nat)(k:Nat):Prop:=∀i j,i<=j->j<k->Rk r p i<=Rk r p j
def Dn(r:Nat->Nat)(p:Array Nat)(k:Nat):Prop:=∀i j,i<=j->j<k->Rk r p j<=Rk r p i
variable{s:UX}
theorem Bg(hc:mU cmp r N s){p:Array Nat}(hp:PM N p){G:Nat->UX->Prop}:∀(f n:Nat),1<=n->n+f<=N->Up r p n->(∀m,n<=m->m<=n+f->Up r p m->(m=n+f\/Rk r p m<Rk r p (m-1))->G m s)->(kas_asc p f n).kasWp cmp G s
 |0,n,_,_,u,h=>h n (QU _) (QU _) u (.inl rfl)
 |f+1,n,h1,h2,u,h=>by
  refine hc _ _ _ (hp.lt ‹0›) (hp.lt ‹0›) ?_;by_cases q:Rk r p n<Rk r p (n-1)
  ·rw[decide_eq_true q];dsimp only;rw[if_pos rfl];exact h n (QU _) ‹0› u (.inr q)
  ·rw[decide_eq_false q];dsimp only;rw[if_neg QZ];refine Bg hc hp f (n+1) ‹0› ‹0› (λi j hij hj=>?_) λm a b=>?_
   ·by_cases hjn:j<n
    ·exact u i j hij hjn
    ·have ej:j=n:=(by omega);subst ej;by_cases ei:i=j
     ·subst ei;exact QU _
     ·have:=u i (j-1) ‹0› ‹0›
      omega
   ·intro um hm;exact h m ‹0› ‹0› um (by rcases hm with z|z;exact .inl ‹0›;exact .inr z)
theorem EI{p:Array Nat}{n q:Nat}(hn:n<=p.size)(hq:q+1<=n)(he:∀i,n-(q+1)<=i->i<n->Rk r p i=Rk r p (n-1))(k:Nat):Rk r (kas_rev p (n-(q+1)) n) k=Rk r p k:=by
 rw[xr hn];split
 ·rename_i h;rw[he _ ‹0› ‹0›,he k h.1 h.2]
 ·rfl
theorem sI(hc:mU cmp r N s){G:Array Nat×Nat×Nat->UX->Prop}:∀(f:Nat)(p:Array Nat)(n q:Nat),PM N p->1<=n->n+f<=N->Dn r p n->q+1<=n->(∀i,n-(q+1)<=i->i<n->Rk r p i=Rk r p (n-1))->
  (∀p' m q',PM N p'->n<=m->m<=n+f->Dn r p' m->q'+1<=m->(∀i,m-(q'+1)<=i->i<m->Rk r p' i=Rk r p' (m-1))->G (p',m,q') s)->(kas_desc f p n q).kasWp cmp G s
 |0,p,n,q,hp,_,_,d,hq,he,h=>h p n q hp (QU _) (QU _) d hq he
 |f+1,p,n,q,hp,h1,h2,d,hq,he,h=>by
  have hs:=hp.size;have step:∀p',(∀k,Rk r p' k=Rk r p k)->Rk r p n<=Rk r p (n-1)->Dn r p' (n+1):=λp' hk hl i j hij hj=>by
   rw[hk,hk];by_cases hjn:j<n
   ·exact d i j hij hjn
   ·have ej:j=n:=(by omega);subst ej;by_cases ei:i=j
    ·subst ei;exact QU _
    ·have:=d i (j-1) ‹0› ‹0›
     omega
  refine hc _ _ _ (hp.lt ‹0›) (hp.lt ‹0›) ?_;by_cases q1:Rk r p n<Rk r p (n-1)
  ·rw[decide_eq_true q1];dsimp only;rw[if_pos rfl];by_cases hq0:q>0
   ·rw[if_pos hq0];refine sI hc f _ (n+1) 0 (hp.rev _ _) ‹0› ‹0› (step _ (EI ‹0› hq he) ‹0›) ‹0› (λi a b=>by rw[show i=n+1-1 by omega]) λp' m q' a b c=>h p' m q' a ‹0› ‹0›
   ·rw[if_neg hq0];refine sI hc f _ (n+1) 0 hp ‹0› ‹0› (step _ (λ_=>rfl) ‹0›) ‹0› (λi a b=>by rw[show i=n+1-1 by omega]) λp' m q' a b c=>h p' m q' a ‹0› ‹0›
  ·rw[decide_eq_false q1];dsimp only;rw[if_neg QZ];refine hc _ _ _ (hp.lt ‹0›) (hp.lt ‹0›) ?_;by_cases q2:Rk r p (n-1)<Rk r p n
   ·rw[decide_eq_true q2];dsimp only;rw[if_pos rfl];exact h p n q hp (QU _) ‹0› d hq he
   ·rw[decide_eq_false q2];dsimp only;rw[if_neg QZ];refine sI hc f _ (n+1) (q+1) hp ‹0› ‹0› (step _ (λ_=>rfl) ‹0›) ‹0› (λi a b=>?_) λp' m q' a b c=>h p' m q' a ‹0› ‹0›;rw[show n+1-1=n by omega];by_cases ei:i=n
    ·subst ei;rfl
    ·have:=he i ‹0› ‹0›
     omega
theorem ym(hc:mU cmp r N s){p:Array Nat}(hp:PM N p){n:Nat}(h1:1<=n)(hn:n<=N)(d:Dn r p n){G:Nat×Array Nat->UX->Prop}(h:∀m p',PM N p'->1<=m->m<=N->Up r p' m->G (m,p') s):(kas_tail3 n N p).kasWp cmp G s:=by
 unfold kas_tail3;rw[KasT.kasWp_bind];have hs:=hp.size;refine Bg hc (hp.rev 0 n) _ _ h1 ‹0› (λi j hij hj=>?_) λm a b u _=>h m _ (hp.rev 0 n) ‹0› ‹0› u;rw[xr ‹0›,xr ‹0›,if_pos ‹0›,if_pos ‹0›];exact d _ _ ‹0› ‹0›
theorem rZ(hc:mU cmp r N s){p:Array Nat}(hp:PM N p){n:Nat}(hn:n+1<=N)(d:Dn r p (n+1)){G:Nat×Array Nat->UX->Prop}(h:∀m p',PM N p'->1<=m->m<=N->Up r p' m->G (m,p') s):(kas_descPart n N p).kasWp cmp G s:=by
 unfold kas_descPart;rw[KasT.kasWp_bind];refine sI hc _ _ _ _ hp ‹0› ‹0› d ‹0› (λi a b=>by rw[show i=n+1-1 by omega]) λp' m q' hp' a b d' hq he=>?_;have hs:=hp'.size;dsimp only;by_cases hq0:q'>0
 ·rw[if_pos hq0];refine ym hc (hp'.rev _ _) ‹0› ‹0› (λi j hij hj=>?_) h;rw[EI ‹0› hq he,EI ‹0› hq he];exact d' i j hij hj
 ·rw[if_neg hq0];exact ym hc hp' ‹0› ‹0› d' h
theorem FL(hc:mU cmp r N s)(h1:1<=N){p:Array Nat}(hp:PM N p){G:Nat×Array Nat->UX->Prop}(h:∀m p',PM N p'->1<=m->m<=N->Up r p' m->G (m,p') s):(kas_count N p).kasWp cmp G s:=by
 unfold kas_count;rw[KasT.kasWp_bind];have hs:=hp.size;refine Bg hc hp _ _ (QU _) ‹0› (λi j hij hj=>by rw[show i=j by omega];exact QU _) λn a b u hor=>?_;by_cases hn:n=N
 ·rw[if_pos (by simpa using hn)];exact h n p hp a ‹0› u
 ·rw[if_neg (by simpa using hn)];have hlt:Rk r p n<Rk r p (n-1):=by
   rcases hor with z|z
   ·omega
   ·exact z
  by_cases hg:n>1
  ·rw[if_pos hg];refine hc _ _ _ (hp.lt ‹0›) (hp.lt ‹0›) ?_;by_cases q:Rk r p 0<Rk r p (n-1)
   ·rw[decide_eq_true q];dsimp only;rw[if_pos rfl];exact h n p hp a ‹0› u
   ·rw[decide_eq_false q];dsimp only;rw[if_neg QZ];have hall:∀k,k<n->Rk r p k=Rk r p (n-1):=λk hk=>by
     have a1:=u 0 k ‹0› hk;have a2:=u k (n-1) ‹0› ‹0›;omega
    have hr:∀k,Rk r (kas_rev p 0 n) k=Rk r p k:=λk=>by
     rw[xr ‹0›];split
     ·rename_i z;rw[hall _ ‹0›,hall k z.2]
     ·rfl
    refine rZ hc (hp.rev _ _) ‹0› (λi j hij hj=>?_) h;rw[hr,hr];by_cases hjn:j<n
    ·rw[hall i ‹0›,hall j hjn];exact QU _
    ·have ej:j=n:=(by omega);subst ej;by_cases ei:i=j
     ·subst ei;exact QU _
     ·rw[hall i ‹0›];omega
  ·rw[if_neg hg];have en:n=1:=(by omega);subst en;refine rZ hc hp ‹0› (λi j hij hj=>?_) h;by_cases ei:i=j
   ·subst ei;exact QU _
   ·have e0:i=0:=(by omega);have e1:j=1:=(by omega);subst e0 e1;exact QM hlt
theorem uD(hc:mU cmp r N s){p:Array Nat}(hp:PM N p){k:Nat}(hk:k<N)(u:Up r p k){G:Nat->UX->Prop}(h:∀l,l<=k->(∀i,i<l->Rk r p i<=Rk r p k)->(∀i,l<=i->i<k->Rk r p k<Rk r p i)->G l s):
  ∀(f l t:Nat),t-l<=f->l<=t->t<=k->(∀i,i<l->Rk r p i<=Rk r p k)->(∀i,t<=i->i<k->Rk r p k<Rk r p i)->(kas_place p k f l t).kasWp cmp G s
 |0,l,t,a,b,c,d,e=>h l ‹0› d λi x y=>e i ‹0› y
 |f+1,l,t,a,b,c,d,e=>by
  unfold kas_place;by_cases hl:l>=t
  ·rw[if_pos hl];exact h l ‹0› d λi x y=>e i ‹0› y
  ·rw[if_neg hl];refine hc _ _ _ (hp.lt hk) (hp.lt ‹0›) ?_;by_cases q:Rk r p k<Rk r p ((l+t)/2)
   ·rw[decide_eq_true q];dsimp only;rw[if_pos rfl];refine uD hc hp hk u h f l ((l+t)/2) ‹0› ‹0› ‹0› d λi x y=>?_
    have:=u ((l+t)/2) i x y
    omega
   ·rw[decide_eq_false q];dsimp only;rw[if_neg QZ];refine uD hc hp hk u h f ((l+t)/2+1) t ‹0› ‹0› ‹0› (λi x=>?_) e
    have:=u i ((l+t)/2) ‹0› ‹0›
    omega
theorem Gj(hc:mU cmp r N s){G:Array Nat->UX->Prop}(h:∀p,PM N p->Up r p N->G p s):∀(f:Nat)(p:Array Nat)(k:Nat),PM N p->k+f=N->Up r p k->(kas_bin f p k).kasWp cmp G s
 |0,p,k,hp,e,u=>h p hp (by rw[<-e];exact u)
 |f+1,p,k,hp,e,u=>by
  unfold kas_bin;rw[KasT.kasWp_bind];have hs:=hp.size;refine uD hc hp ‹0› u (λl hl d e'=>?_) k 0 k ‹0› (Q4 _) (QU _) (λi x=>by omega) λi x y=>by omega
  refine Gj hc h f _ (k+1) ((bubble_perm p k _).trans hp) ‹0› λi j hij hj=>?_;rw[E8 ‹0› ‹0›,E8 ‹0› ‹0›,show k-(k-l)=l by omega];have U:=u;by_cases i1:i=l
  ·rw[if_pos i1];by_cases j1:j=l
   ·rw[if_pos j1];exact QU _
   ·rw[if_neg j1,if_pos ‹0›];exact QM (e' (j-1) ‹0› ‹0›)
  ·rw[if_neg i1];by_cases i2:l<i/\i<=k
   ·rw[if_pos i2,if_neg ‹0›,if_pos ‹0›];exact U _ _ ‹0› ‹0›
   ·rw[if_neg i2];by_cases j1:j=l
    ·rw[if_pos j1];exact d i ‹0›
    ·rw[if_neg j1];by_cases j2:l<j/\j<=k
     ·rw[if_pos j2];exact U _ _ ‹0› ‹0›
     ·rw[if_neg j2];exact U _ _ hij ‹0›
theorem BA(hc:mU cmp r N s)(h2:1<=N){G:Array Nat->UX->Prop}(h:∀p,PM N p->Up r p N->G p s):(kas_sort N).kasWp cmp G s:=by
 unfold kas_sort;rw[KasT.kasWp_bind];refine FL hc h2 (Array.Perm.refl _) λm p' hp a b u=>?_;dsimp only;by_cases hm:m<N
 ·rw[if_pos hm,show max m 1=m by omega];exact Gj hc h _ p' m hp ‹0› u
 ·rw[if_neg hm];exact h p' hp (by rw[show N=m by omega];exact u)
end
section
variable{prog:UM}{w:UL}{A:UW}{E:UK->UX->Prop}{s:UX}
theorem vj{a:UN}{vs:List UK}{n:Nat}{P:PySem.Fin->UX->Prop}{κ:V7}{r:Nat->Nat}(ho:s.heap.get? a=some (seqObj "list" vs.toArray n))(h64:vs.length<64)
  (hk:2<=vs.length->∀h':UP,(∀b o,b≠a->s.heap.get? b=some o->h'.get? b=some o)->∀(Q:V7->UX->Prop),Q κ {s with heap:=h'}->UZ (model prog w) A (keyKind' vs.toArray) Q E {s with heap:=h'})
  (hr:2<=vs.length->∀h':UP,(∀b o,b≠a->s.heap.get? b=some o->h'.get? b=some o)->mU (V8 prog w A κ vs) r vs.length {s with heap:=h'})
  (h:∀p:Array Nat,PM vs.length p->Up r p vs.length->P (.done (.ret .none)) {s with heap:=sortedHeap s.heap a vs (List.toArray (p.toList.map λi=>vs.getD i Value.none))}):
  UZ (model prog w) A (Builtin.«list.sort» ⟨[.ref a],[]⟩) P E s:=by
 rw[list_sort_plain];have ha:a<s.heap.objs.size:=Uc ho;refine U8 (listItems_at ho rfl ?_);refine U8 (V9 ho rfl ?_ (by rw[QY,Vi];omega) (Q4 _));obtain⟨e1,ho1⟩:∃e1,(s.heap.update a (Obj.mapSeq λ_=>(#[]:Array UK))).get? a=some (seqObj "list" #[] e1):=⟨_,Wa ho (λ_=>#[])⟩
 refine U8 (Wb ho1 rfl ?_);refine U8 (V3 ?_ (by show vs.length<=_;rw[Vi];omega));refine U8 (Wc ?_ (Q4 _));refine VE ?_;have ho6:(((s.heap.update a (Obj.mapSeq λ_=>(#[]:Array UK))).push (seqObj "tuple" vs.toArray 0)).push (seqObj "list" #[] 0)).get? a=some (seqObj "list" #[] e1):=by
  rw[Um _ _ _ (by rw[size_push',Uo];exact QK (RA ha)),Um _ _ _ (by rw[Uo];exact QK ha)];exact ho1
 have kept:∀b o,b≠a->s.heap.get? b=some o->(((s.heap.update a (Obj.mapSeq λ_=>(#[]:Array UK))).push (seqObj "tuple" vs.toArray 0)).push (seqObj "list" #[] 0)).get? b=some o:=λb o hb e=>
  Ug _ (Ug _ (by rw[Uq _ _ _ _ hb];exact e))
 show UZ (model prog w) A _ P E {s with heap:=((s.heap.update a (Obj.mapSeq λ_=>(#[]:Array UK))).push (seqObj "tuple" vs.toArray 0)).push (seqObj "list" #[] 0)};dsimp only;have hsz:vs.toArray.size=vs.length:=by simp
 by_cases h2:vs.toArray.size<2
 ·rw[if_pos h2,if_pos h2];refine U8 (U7 ?_);rw[StateT.run_pure];refine U8 (U7 ?_);dsimp only;refine U8 (Wb ho6 rfl ?_);have hout:(arrOf (SortSt.mk' general' (vs.toArray.zip vs.toArray) #[] 7 none)).map (·.2)=List.toArray ((List.toArray (List.range vs.length)).toList.map λi=>vs.getD i Value.none):=by
   refine kat_snds rfl ?_;show vs.toArray.zip vs.toArray=_;have e:=kas_range (vs.toArray.zip vs.toArray);rw[show(vs.toArray.zip vs.toArray).size=vs.length by simp]at e;exact e.symm
  rw[hout];refine U8 (V9 ho6 rfl ?_ (Q4 _) (by rw[QY,Q2,Vi];simp;omega));simp only[bne_self_eq_false,Rz,if_false];refine U7 (h _ (Array.Perm.refl _) λi j hij hj=>?_)
  have:i=j:=by omega
  subst this;exact QU _
 ·rw[if_neg h2,if_neg h2];have h2':2<=vs.length:=by omega
  refine U8 (hk h2' _ kept _ ?_);refine U8 (U3 (kat_run (Q:=λst' s'=>∃p:Array Nat,arrOf st'=p.map (kas_item (vs.toArray.zip vs.toArray))/\failedOf st'=none/\PM vs.length p/\Up r p vs.length/\s'={s with heap:=((s.heap.update a (Obj.mapSeq λ_=>(#[]:Array UK))).push (seqObj "tuple" vs.toArray 0)).push (seqObj "list" #[] 0)})
   (G:=λp s'=>PM vs.length p/\Up r p vs.length/\s'={s with heap:=((s.heap.update a (Obj.mapSeq λ_=>(#[]:Array UK))).push (seqObj "tuple" vs.toArray 0)).push (seqObj "list" #[] 0)})
   rfl h2' h64 (λp' st' s' a1 a2 a3 a4=>⟨p',a2,a3,a4.1,a4.2.1,a4.2.2⟩) (BA (hr h2' _ kept) ‹0› λp hp hu=>⟨hp,hu,rfl⟩)) ?_ λ_ _ e=>e)
  rintro⟨⟨⟩,st'⟩ s' ⟨p,har,hf,hp,hu,rfl⟩;dsimp only;refine U8 (Wb ho6 rfl ?_);have hout:=kat_snds rfl har;rw[hout];refine U8 (V9 ho6 rfl ?_ (Q4 _) (by rw[QY,Q2,Array.length_toList,hp.size,Vi];omega));rw[hf];simp only[bne_self_eq_false,Rz,if_false];exact U7 (h p hp hu)
theorem tH{src:UK}{vs:List UK}{Q:UK->UX->Prop}{κ:V7}{r:Nat->Nat}(h64:vs.length<64)
  (hcol:∀(Q':List UK->UX->Prop),(∀h' tk,(∀b o,s.heap.get? b=some o->h'.get? b=some o)->Q' vs {s with heap:=h',toks:=tk})->UZ (model prog w) A.in1 (collect src) Q' E s)
  (hk:2<=vs.length->∀(h':UP)(tk:Nat),(∀b o,s.heap.get? b=some o->h'.get? b=some o)->∀(Q:V7->UX->Prop),Q κ {s with heap:=h',toks:=tk}->UZ (model prog w) A.in1.in1 (keyKind' vs.toArray) Q E {s with heap:=h',toks:=tk})
  (hr:2<=vs.length->∀(h':UP)(tk:Nat),(∀b o,s.heap.get? b=some o->h'.get? b=some o)->mU (V8 prog w A.in1.in1 κ vs) r vs.length {s with heap:=h',toks:=tk})
  (h:∀(p:Array Nat)(h1 h':UP)(l:UN)(e tk:Nat),PM vs.length p->Up r p vs.length->(∀b o,s.heap.get? b=some o->h1.get? b=some o)->(∀b o,h1.get? b=some o->h'.get? b=some o)->h1.objs.size<=l->h'.get? l=some (seqObj "list" (List.toArray (p.toList.map λi=>vs.getD i Value.none)) e)->Q (.ref l) {s with heap:=h',toks:=tk}):
  UZ (model prog w) A (call (.builtin "sorted") [src]) Q E s:=by
 refine Calls.call_function_entry kind_sorted plain_sorted entry_sorted (args_sorted1 _) ?_;unfold Builtin.«sorted»;refine U8 (m:=checkCount "sorted" 1 1 _) (U7 ?_);refine U8 (hcol _ λh1 tk k1=>?_);refine U8 (Wc ?_ (by rw[Vi];omega));have hoL:(h1.push (seqObj "list" vs.toArray 0)).get? h1.objs.size=some (seqObj "list" vs.toArray 0):=Uh _ rfl;have k2:∀b o,s.heap.get? b=some o->(h1.push (seqObj "list" vs.toArray 0)).get? b=some o:=λb o e=>Ug _ (k1 b o e);have ne:∀b o,s.heap.get? b=some o->b≠h1.objs.size:=λb o e=>QK (Uc (k1 b o e));refine U8 (VE (VG slot_list_sort ⟨_,hoL,rfl⟩ entry_list_sort (vj (s:={s with heap:=h1.push (seqObj "list" vs.toArray 0),toks:=tk}) (r:=r) (κ:=κ) hoL h64
  (λh2 h' k=>hk h2 h' tk λb o e=>k b o (ne b o e) (k2 b o e)) (λh2 h' k=>hr h2 h' tk λb o e=>k b o (ne b o e) (k2 b o e)) λp hp hu=>⟨_,rfl,?_⟩) (args_list_sort _)))
 refine U7 ⟨_,rfl,?_⟩;obtain⟨e,he⟩:=sortedHeap_at (vs:=vs) (out:=List.toArray (p.toList.map λi=>vs.getD i Value.none)) hoL;exact h p h1 _ h1.objs.size e tk hp hu k1 (λb o q=>by rw[sortedHeap_old (QK (Uc q)) (by rw[size_push'];exact RA (Uc q))];exact Ug _ q) (QU _) he
end
def eS:D->List D
 |.tup ks=>ks
 |_=>[]
def oneOf(d:D):List D:=[d]
def Kg(xs:List D):Prop:=xs.length<64/\∃σ:List Bool,σ≠[]/\(∀x∈xs,∃k,x=.tup k/\Sh σ k)/\xs.Pairwise λx y=>eS x≠eS y
def ML(xs:List D):Prop:=xs.length<64/\∃b:Bool,(∀x∈xs,Sh [b] [x])/\xs.Pairwise λx y=>oneOf x≠oneOf y
open Classical in
noncomputable def rS(xs:List D):Option D:=if Kg xs then some (.lst (ki eS xs))else if ML xs then some (.lst (ki oneOf xs))else none
noncomputable def iG:List D->Option D
 |[.lst xs]=>rS xs
 |[.tup xs]=>rS xs
 |_=>none
theorem jZ{prog:UM}{w:UL}{A:UW}{s:UX}{Q:Bool->UX->Prop}{fin:Bool}(hf:fin=false):∀{σ:List Bool}{ns ms:List D}{xs ys:List UK}{i:Nat},Sh σ ns->Sh σ ms->gP xs ns->gP ys ms->Q (kLt ns ms) s->KatLex prog w A true fin Q (xs.zip ys) i s
 |_,_,_,_,_,i,.nil,.nil,.nil,.nil,h=>by
  subst hf;exact kat_nil (by simpa [kLt,eR]using h)
 |_,_,_,_,_,i,.int a h1,.int c h2,.int _ t f1,.int _ u f2,h=>by
  rw[Sd];obtain⟨e,he,hiff⟩:=Jt A s a t c u;refine kat_cons (he prog w _ _ ?_);cases e with
  |true=>
   have ac:=hiff.mp rfl;refine kat_yes (jZ hf h1 h2 f1 f2 ?_);unfold kLt at h ⊢;rw[qc,if_pos ac]at h;exact h
  |false=>
   have ac:¬a=c:=λq=>absurd (hiff.mpr q) QZ;have h':Q (decide (a<c)) s:=by
    unfold kLt at h;rw[qc,if_neg ac]at h;cases hd:decide (a<c)<;>rw[hd]at h<;>exact h
   refine kat_no ?_;cases hi:(i==0)with
   |true=>exact oneLt_int h'
   |false=>exact kat_one _ _ (PySem.P.lt_int (show T3 Q (.bool _) s from h'))
 |_,_,_,_,_,i,.str a h1,.str c h2,.str _ t f1,.str _ u f2,h=>by
  rw[Sd];obtain⟨e,he,hiff⟩:=Jx A s a t c u;refine kat_cons (he prog w _ _ ?_);cases e with
  |true=>
   have ac:=hiff.mp rfl;refine kat_yes (jZ hf h1 h2 f1 f2 ?_);unfold kLt at h ⊢;rw[qo,if_pos ac]at h;exact h
  |false=>
   have ac:¬a=c:=λq=>absurd (hiff.mpr q) QZ;have h':Q (decide (a.cps.toList<c.cps.toList)) s:=by
    unfold kLt at h;rw[qo,if_neg ac]at h;cases hd:decide (a.cps.toList<c.cps.toList)<;>rw[hd]at h<;>exact h
   refine kat_no ?_;cases hi:(i==0)with
   |true=>exact oneLt_str h'
   |false=>exact kat_one _ _ (PySem.P.lt_str (show T3 Q (.bool _) s from h'))
theorem pE{h:UP}{PT:UK->Prop}:∀{its:List UK},(∀v∈its,∃a o xs n f,v=.ref a/\h.get? a=some o/\o.cls=.type "tuple"/\o.data=.seq xs n/\xs[0]?=some f/\PT f)->∃fs,KatTups h its fs/\fs.length=its.length/\∀f∈fs,PT f
 |[],_=>⟨[],.nil,rfl,λ_ h=>nomatch h⟩
 |v::its,hh=>by
  obtain⟨a,o,xs,n,f,rfl,h1,h2,h3,h4,h5⟩:=hh v QO;obtain⟨fs,k1,k2,k3⟩:=pE (its:=its) λu hu=>hh u (QP _ hu);refine⟨f::fs,.cons h1 h2 h3 h4 k1,by rw[Q0,Q0,k2],λg hg=>?_⟩;rcases List.mem_cons.mp hg with rfl|z
  ·exact h5
  ·exact k3 g z
theorem gP.first{σ:List Bool}{b:Bool}{xs:List UK}{ns:List D}(f:gP xs ns)(h:Sh (b::σ) ns):∃v,xs[0]?=some v/\typeOf v=pure (.type (if b then"int"else"str")):=by
 cases f with
 |nil=>cases h
 |int i t f=>cases h;exact⟨_,rfl,rfl⟩
 |str i t f=>cases h;exact⟨_,rfl,rfl⟩
theorem rK{key:D->List D}{σ:List Bool}{ds:List D}(h:∀x∈ds,Sh σ (key x))(pw:ds.Pairwise λx y=>key x≠key y){p:Array Nat}(hp:PM ds.length p)(hu:Up (rank (ds.map key)) p ds.length):p.toList.map (λi=>ds.getD i .non)=ki key ds:=by
 have hr:p.toList.Perm (List.range ds.length):=by
  have:=Array.perm_iff_toList_perm.mp hp
  simpa using this
 have hmap:(List.range ds.length).map (λi=>ds.getD i .non)=ds:=by
  apply List.ext_getElem
  ·simp
  ·intro i h1 h2;simp at h1;simp[h1]
 have hperm:(p.toList.map λi=>ds.getD i .non).Perm ds:=by
  have:=hr.map (λi=>ds.getD i .non)
  rwa [hmap]at this
 have hn:p.toList.Nodup:=hr.nodup_iff.mpr List.nodup_range;refine(zD h pw ?_ hperm).symm;have hl:p.toList.length=ds.length:=by rw[hr.length_eq,RV]
 have kd:∀i,i<ds.length->(ds.map key).getD i []=key (ds.getD i .non):=λi hi=>by simp[hi]
 have hsh:∀k∈ds.map key,Sh σ k:=λk hk=>by
  obtain⟨x,hx,rfl⟩:=List.mem_map.mp hk;exact h x hx
 unfold zB;rw[SA,List.pairwise_iff_getElem];intro i j hi hj hij;have hi':p.toList[i]<ds.length:=by simpa using hr.mem_iff.mp (Sz hi)
 have hj':p.toList[j]<ds.length:=by simpa using hr.mem_iff.mp (Sz hj)
 have ne:p.toList[i]≠p.toList[j]:=List.pairwise_iff_getElem.mp hn i j hi hj hij;have up:=hu i j ‹0› ‹0›;have gi:p.getD i 0=p.toList[i]:=by
  have:i<p.size:=by rw[<-Array.length_toList];exact hi
  simp[Array.getD,this]
 have gj:p.getD j 0=p.toList[j]:=by
  have:j<p.size:=by rw[<-Array.length_toList];exact hj
  simp[Array.getD,this]
 unfold Rk at up;rw[gi,gj]at up;have rl:=sM hsh (i:=p.toList[j]) (j:=p.toList[i]) (by rw[Q2];exact hj') (by rw[Q2];exact hi');rw[kd _ hj',kd _ hi',decide_eq_false ‹0›]at rl;have ei:ds.getD p.toList[i] .non=ds[p.toList[i]]:=by rw[SD,RK hi'];rfl
 have ej:ds.getD p.toList[j] .non=ds[p.toList[j]]:=by rw[SD,RK hj'];rfl
 have s1:=h _ (show ds.getD p.toList[i] .non∈ds by rw[ei];exact Sz hi');have s2:=h _ (show ds.getD p.toList[j] .non∈ds by rw[ej];exact Sz hj');rcases om s1 s2 with⟨z,_⟩|z|⟨z,_⟩
 ·exact z
 ·exfalso;have pw':=List.pairwise_iff_getElem.mp pw;rw[ei,ej]at z;rcases Nat.lt_or_gt_of_ne ne with q|q
  ·exact pw' _ _ hi' hj' q z
  ·exact pw' _ _ hj' hi' q z.symm
 ·rw[Iz.mpr z]at rl;cases rl
theorem rd{vs:List V}{us:List UK}(r:Vals vs us):∀l:List Nat,(∀i∈l,i<vs.length)->Vals (l.map λi=>vs.getD i .non) (l.map λi=>us.getD i Value.none)
 |[],_=>.nil
 |i::l,h=>by
  have hi:=h i QO;obtain⟨u,e,q⟩:=r.get (i:=i) (x:=vs[i]) (by simp[hi]);refine .cons ?_ (rd r l λj hj=>h j (QP _ hj));have e1:vs.getD i .non=vs[i]:=by simp[hi]
  have e2:us.getD i Value.none=u:=by simp[SD,e]
  show L2.RelV (vs.getD i .non) (us.getD i Value.none);rw[e1,e2];exact q
theorem qJ{K:Tu}{H:Hp}{ds:List D}{vs:List V}(g:bb K H ds vs):∀l:List Nat,(∀i∈l,i<ds.length)->bb K H (l.map λi=>ds.getD i .non) (l.map λi=>vs.getD i .non)
 |[],_=>cI.mpr rfl
 |i::l,h=>by
  have hi:=h i QO;obtain⟨v,e,q⟩:=g.get (i:=i) (d:=ds[i]) (by simp[hi]);refine bo.mpr ⟨_,_,rfl,?_,qJ g l λj hj=>h j (QP _ hj)⟩;have e1:ds.getD i .non=ds[i]:=by simp[hi]
  have e2:vs.getD i .non=v:=by simp[SD,e]
  show cJ K H (ds.getD i .non) (vs.getD i .non);rw[e1,e2];exact q
section
variable{X:Cx}{pins:List (UN×Obj)}{s:UX}{σ:L2.St}{H:Hp}{O:List UN}
theorem vU{u:UK}{ds:List D}{vs:List V}{its:List UK}{d:D}{Q:VK}(I:Inv X pins σ H s)(hO:dU H O)(dn:bb X.K (hid H O) ds vs)(rv:Vals vs its)(hs:rS ds=some d)
  (hcol:∀(Q':List UK->UX->Prop),(∀h' tk,(∀b o,s.heap.get? b=some o->h'.get? b=some o)->Q' its {s with heap:=h',toks:=tk})->UZ (model X.prog X.w) X.A.in1 (collect u) Q' X.xe s)
  (q:∀v H',bj H H'->cJ X.K (hid H' O) d v->Q v H'):UZ (model X.prog X.w) X.A (call (.builtin "sorted") [u]) (EP X pins σ Q) X.xe s:=by
 have l1:=dn.length;have l2:=rv.length;have fin:∀(key:D->List D)(σ':List Bool),(∀x∈ds,Sh σ' (key x))->ds.Pairwise (λx y=>key x≠key y)->ds.length<64->d=.lst (ki key ds)->∀(p:Array Nat)(h1 h':UP)(l:UN)(e tk:Nat),PM its.length p->Up (rank (ds.map key)) p its.length->(∀b o,s.heap.get? b=some o->h1.get? b=some o)->(∀b o,h1.get? b=some o->h'.get? b=some o)->h1.objs.size<=l->
   h'.get? l=some (seqObj "list" (List.toArray (p.toList.map λi=>its.getD i Value.none)) e)->EP X pins σ Q (.ref l) {s with heap:=h',toks:=tk}:=by
  intro key σ' hsh pw h64 ed p h1 h' l e tk hp hu k1 k2 hl he;have el:its.length=ds.length:=by omega
  rw[el]at hp hu;have ps:=rK hsh pw hp hu;have hr:p.toList.Perm (List.range ds.length):=by
   have:=Array.perm_iff_toList_perm.mp hp
   simpa using this
  have hlt:∀i∈p.toList,i<ds.length:=λi hi=>by simpa using hr.mem_iff.mp hi
  have I1:Inv X pins σ H {s with heap:=h1,toks:=tk}:=I.kept k1;have hn:H l=none:=I1.hok.fresh hl;have rv':=rd rv p.toList λi hi=>by have:=hlt i hi;omega
  have dn':=qJ dn p.toList hlt;have hlen:p.toList.length=ds.length:=by rw[hr.length_eq,RV]
  refine⟨.ref l,_,Inv.laid (s:={s with heap:=h1,toks:=tk}) (t':=tk) I1 k2 hl (show cH X.prog X.w _ h' _ (.lst (p.toList.map λi=>vs.getD i .non))from⟨by rw[Q2,hlen,Vi];omega,_,e,rv',he⟩),rfl,?_⟩;refine q _ _ (bL hn _) ?_;rw[ed,<-ps];exact dH hO hn dn'
 unfold rS at hs;split at hs
 ·rename_i h;cases hs;obtain⟨h64,σ',hσ,hsh,pw⟩:=h;obtain⟨b,σ1,rfl⟩:∃b σ1,σ'=b::σ1:=by
   cases σ' with
   |nil=>exact absurd rfl hσ
   |cons b σ1=>exact⟨b,σ1,rfl⟩
  have hsh':∀x∈ds,Sh (b::σ1) (eS x):=λx hx=>by
   obtain⟨k,rfl,hk⟩:=hsh x hx;exact hk
  have at':∀i (hi:i<ds.length),∃a o xs n,its[i]?=some (.ref a)/\s.heap.get? a=some o/\o.cls=.type "tuple"/\o.data=.seq xs n/\gP xs.toList (eS ds[i]):=λi hi=>by
   obtain⟨v,e1,dv⟩:=dn.get (i:=i) (d:=ds[i]) (by simp[hi]);obtain⟨w,e2,rw'⟩:=rv.get e1;obtain⟨k,ek,hk⟩:=hsh _ (Sz hi);rw[ek]at dv ⊢;obtain⟨a,ws,rfl,ha,dk⟩:=cN.mp dv;cases rw';obtain⟨it2,r2,⟨o,ho,hc,n,hd⟩,_⟩:=I.tuple (bW (aB H O) ha);exact⟨a,o,_,n,e2,ho,hc,hd,by simpa [eS]using lA (sU hk) dk r2⟩
  refine tH (κ:=tuples' true) (r:=rank (ds.map eS)) ‹0› hcol (λh2 h' tk kp Q' hQ=>?_) (λh2 h' tk kp i j C hi hj hC=>?_) (fin eS _ hsh' pw h64 rfl)
  ·obtain⟨fs,t1,t2,t3⟩:=pE (h:=h') (PT:=λf=>typeOf f=pure (.type (if b then"int"else"str"))) (its:=its) λv hv=>by
    obtain⟨i,hi,rfl⟩:=RO hv;obtain⟨a,o,xs,n,e1,ho,hc,hd,ff⟩:=at' i ‹0›;obtain⟨f,ef,tf⟩:=ff.first (hsh' _ (Sz _));refine⟨a,o,xs,n,f,?_,kp _ _ ho,hc,hd,by simpa using ef,tf⟩
    have:=RK hi
    rw[e1]at this;exact(Option.some.inj this).symm
   refine kat_kind (T:=.type (if b then"int"else"str")) t1 ‹0› (λf hf=>Looks.of_pure (t3 f hf)) (by cases b<;>rfl) ?_
   have:(Value.type (if b then"int"else"str") !=Value.type "tuple")=true:=(by cases b<;>rfl);rw[this];exact hQ
  ·obtain⟨a,o,xs,n,e1,ho,hc,hd,ff⟩:=at' i ‹0›;obtain⟨a2,o2,xs2,n2,e2,ho2,hc2,hd2,ff2⟩:=at' j ‹0›;unfold V8;have g1:its.getD i Value.none=.ref a:=(by simp[SD,e1]);have g2:its.getD j Value.none=.ref a2:=(by simp[SD,e2]);rw[g1,g2];have hi':i<ds.length:=(by omega);have hj':j<ds.length:=(by omega);have sh1:=hsh' _ (Sz hi');have sh2:=hsh' _ (Sz hj');have rl:=sM (ks:=ds.map eS) (σ:=b::σ1) (λk hk=>by obtain⟨x,hx,rfl⟩:=List.mem_map.mp hk;exact hsh' x hx) (i:=i) (j:=j) (by rw[Q2];exact hi') (by rw[Q2];exact hj');have k1:(ds.map eS).getD i []=eS ds[i]:=(by simp[hi']);have k2:(ds.map eS).getD j []=eS ds[j]:=(by simp[hj']);rw[k1,k2]at rl;rw[rl]at hC;refine kat_lt (kp _ _ ho) hd (kp _ _ ho2) hd2 (jZ ?_ sh1 sh2 ff ff2 hC);have z1:xs.size=(eS ds[i]).length:=(by have:=ff.length;simpa using this);have z2:xs2.size=(eS ds[j]).length:=(by have:=ff2.length;simpa using this);have z3:(eS ds[i]).length=(eS ds[j]).length:=(by rw[Sh.length sh1,Sh.length sh2]);exact decide_eq_false ‹0›
 ·split at hs
  ·rename_i _ h;cases hs;obtain⟨h64,b,hsh,pw⟩:=h;have at':∀i (hi:i<ds.length),(∃(n:Int)(t:Tok),b=true/\its[i]?=some (.int n t)/\ds[i]=.int n)\/∃(x:Str)(t:Tok),b=false/\its[i]?=some (.str x t)/\ds[i]=.str x:=λi hi=>by
    obtain⟨v,e1,dv⟩:=dn.get (i:=i) (d:=ds[i]) (by simp[hi]);obtain⟨w,e2,rw'⟩:=rv.get e1;have hk:=hsh _ (Sz hi);generalize ds[i]=di at dv hk;cases hk with
    |int n _=>
     rw[fE]at dv;subst dv;obtain⟨t,rfl⟩:=rw';exact .inl ⟨n,t,rfl,e2,rfl⟩
    |str x _=>
     rw[fO]at dv;subst dv;obtain⟨t,rfl⟩:=rw';exact .inr ⟨x,t,rfl,e2,rfl⟩
   refine tH (κ:=oneType') (r:=rank (ds.map oneOf)) ‹0› hcol (λh2 h' tk kp Q' hQ=>?_) (λh2 h' tk kp i j C hi hj hC=>?_) (fin oneOf [b] hsh pw h64 rfl)
   ·refine kas_kind (T:=.type (if b then"int"else"str")) h2 (λv hv=>?_) (by cases b<;>rfl) (by cases b<;>rfl) hQ;obtain⟨i,hi,rfl⟩:=RO hv;have hg:=RK hi;rcases at' i ‹0›with⟨n,t,rfl,e,_⟩|⟨x,t,rfl,e,_⟩
    ·rw[hg]at e;rw[Option.some.inj e];exact Looks.of_pure rfl
    ·rw[hg]at e;rw[Option.some.inj e];exact Looks.of_pure rfl
   ·have hi':i<ds.length:=(by omega);have hj':j<ds.length:=(by omega);unfold V8;have rl:=sM (ks:=ds.map oneOf) (σ:=[b]) (λk hk=>by obtain⟨x,hx,rfl⟩:=List.mem_map.mp hk;exact hsh x hx) (i:=i) (j:=j) (by rw[Q2];exact hi') (by rw[Q2];exact hj');have k1:(ds.map oneOf).getD i []=[ds[i]]:=(by simp[hi',oneOf]);have k2:(ds.map oneOf).getD j []=[ds[j]]:=(by simp[hj',oneOf]);rw[k1,k2]at rl;rw[rl]at hC;rcases at' i hi' with⟨n,t,hb,e1,q1⟩|⟨x,t,hb,e1,q1⟩
    ·rcases at' j hj' with⟨n2,t2,hb2,e2,q2⟩|⟨x2,t2,hb2,e2,q2⟩
     ·have g1:its.getD i Value.none=.int n t:=(by simp[SD,e1]);have g2:its.getD j Value.none=.int n2 t2:=(by simp[SD,e2]);rw[g1,g2,keyLt'_oneType];refine oneLt_int ?_;rw[q1,q2]at hC;unfold kLt at hC;rw[qc]at hC;by_cases z:n=n2
      ·rw[if_pos z]at hC;rw[decide_eq_false ‹0›];exact hC
      ·rw[if_neg z]at hC;cases hd:decide (n<n2)<;>rw[hd]at hC<;>exact hC
     ·rw[hb]at hb2;cases hb2
    ·rcases at' j hj' with⟨n2,t2,hb2,e2,q2⟩|⟨x2,t2,hb2,e2,q2⟩
     ·rw[hb]at hb2;cases hb2
     ·have g1:its.getD i Value.none=.str x t:=(by simp[SD,e1]);have g2:its.getD j Value.none=.str x2 t2:=(by simp[SD,e2]);rw[g1,g2,keyLt'_oneType];refine oneLt_str ?_;rw[q1,q2]at hC;unfold kLt at hC;rw[qo]at hC;by_cases z:x=x2
      ·rw[if_pos z]at hC;rw[decide_eq_false (by rw[z];exact uB _)];exact hC
      ·rw[if_neg z]at hC;cases hd:decide (x.cps.toList<x2.cps.toList)<;>rw[hd]at hC<;>exact hC
  ·cases hs
theorem p4:dY X (.builtin "sorted") (yd X.K iG):=by
 intro pins s σ H xs us Q I r ⟨O,ds,d,hO,hd,hg,q⟩;unfold iG at hg;split at hg
 ·obtain⟨v,rfl,h1⟩:=hd.one;obtain⟨p,ws,rfl,g1,g2⟩:=cT.mp h1;obtain⟨u,rfl,ru⟩:=vals1 r;cases ru;obtain⟨its,rv,pl,hz⟩:=I.list ((aB H O).seq g1);have hlen:=rv.length;obtain⟨o,ho,hc,n,hd'⟩:=pl.isList;exact vU I hO g2 rv hg (λQ' hQ=>Wd p (.inl rfl) ho hc hd' (λh' k=>by simpa using hQ h' s.toks k) (by simp only[QY]<;>omega)) q
 ·obtain⟨v,rfl,h1⟩:=hd.one;obtain⟨p,ws,rfl,g1,g2⟩:=cN.mp h1;obtain⟨u,rfl,ru⟩:=vals1 r;cases ru;obtain⟨its,rv,⟨o,ho,hc,n,hd'⟩,hz⟩:=I.tuple (bW (aB H O) g1);have hlen:=rv.length;exact vU I hO g2 rv hg (λQ' hQ=>Wd p (.inr rfl) ho hc hd' (λh' k=>by simpa using hQ h' s.toks k) (by simp only[QY]<;>omega)) q
 ·cases hg
end
end TG
namespace TG
open PySem PySem.Spec L2
variable[aW]
section
variable{X:Cx}{tg:U0}
end
end TG
namespace TG
open PySem PySem.Spec L2
variable[aW]
end TG
namespace TG
open PySem PySem.Spec L2
variable[aW]
end TG
namespace TG
open PySem PySem.Spec L2
variable[aW]
def keyOf:D->Option Key
 |.int i=>some (.inl i)
 |.str x=>some (.inr x)
 |_=>none
def keysOf:List D->Option (List Key)
 |[]=>some []
 |d::r=>(keyOf d).bind λk=>(keysOf r).map (k::·)
def jS:D->Option (List Key)
 |.tup ds=>keysOf ds
 |_=>none
theorem tV{d:D}{k:Key}(h:keyOf d=some k):d=bx k:=by
 cases d with
 |int i=>cases h;rfl
 |str x=>cases h;rfl
 |_=>cases h
theorem oB:∀{ds:List D}{ks:List Key},keysOf ds=some ks->ds=ks.map bx
 |[],_,h=>by cases h;rfl
 |d::r,ks,h=>by
  unfold keysOf at h;cases e1:keyOf d with
  |none=>rw[e1]at h;cases h
  |some k=>
   rw[e1]at h;cases e2:keysOf r with
   |none=>rw[e2]at h;cases h
   |some ks'=>rw[e2]at h;cases h;rw[tV e1,oB e2];rfl
theorem nZ{d:D}{k:List Key}(h:jS d=some k):d=.tup (k.map bx):=by
 cases d with
 |tup ds=>rw[oB (show keysOf ds=some k from h)]
 |_=>cases h
theorem cO:∀ks:List Key,keysOf (ks.map bx)=some ks
 |[]=>rfl
 |k::r=>by
  show(keyOf (bx k)).bind _=_;have e:keyOf (bx k)=some k:=by cases k<;>rfl
  rw[e];show(keysOf (r.map bx)).map (k::·)=_;rw[cO r];rfl
theorem uQ{K:Tu}{H:Hp}{k:Key}{v:V}(h:cJ K H (bx k) v):v=kV k:=by
 cases k with
 |inl i=>exact fE.mp h
 |inr x=>exact fO.mp h
theorem jC{K:Tu}{H:Hp}:∀{ks:List Key}{vs:List V},bb K H (ks.map bx) vs->vs=ks.map kV
 |[],vs,h=>by rw[Rp,cI]at h;exact h
 |k::r,vs,h=>by
  rw[Q1,bo]at h;obtain⟨v,r',e1,h1,h2⟩:=h;rw[e1,uQ h1,jC h2];rfl
section
variable{P:UM}{w:UL}{H H':Hp}{h:UP}{a:UN}
theorem ER(x:cH P w H h a (.dK [])):cH P w H' h a (.dT []):=by
 obtain⟨z,hd,vs,rel,o,es,ep,h1,h2,h3,h4,h5,h6⟩:=x;have e:vs=[]:=by have:=rel.length;simpa using this.symm
 subst e;refine⟨Q4 _,hd,[],.nil,o,es,ep,h1,h2,h3,?_,by simp⟩
 have:=h5.length
 simpa using this
theorem yE(x:cH P w H h a (.dT [])):cH P w H' h a (.dK []):=by
 obtain⟨z,hd,xs,rel,o,es,ep,h1,h2,h3,h4,h5⟩:=x;have e:xs=[]:=by have:=rel.length;simpa using this.symm
 subst e;have e2:es=#[]:=by simpa using h4
 subst e2;exact⟨Q4 _,hd,[],.nil,o,#[],ep,h1,h2,h3,λe he=>by simp at he,.nil,by simp⟩
end
section
variable{X:Cx}{pins:List (UN×Obj)}{σ:St}{H:Hp}{s:UX}{a:UN}
theorem Fp(I:Inv X pins σ H s)(h1:H a=some (.dK [])):Inv X pins σ (upd H a (.dT [])) s:=by
 have hx:=I.hok a _ h1;have hq:∃q,s.heap.get? a=some q:=by obtain⟨_,_,_,_,o,_,_,e,_⟩:=id hx;exact⟨o,e⟩
 exact oy (ob:=.dT []) (h':=s.heap) (t':=s.toks) I (by rw[h1];exact trivial) ⟨rfl,λ_ _=>rfl⟩ hq (ER hx)
theorem Mh(I:Inv X pins σ H s)(h1:H a=some (.dT [])):Inv X pins σ (upd H a (.dK [])) s:=by
 have hx:=I.hok a _ h1;have hq:∃q,s.heap.get? a=some q:=by obtain⟨_,_,_,_,o,_,_,e,_⟩:=id hx;exact⟨o,e⟩
 exact oy (ob:=.dK []) (h':=s.heap) (t':=s.toks) I (by rw[h1];exact trivial) ⟨rfl,λ_ _=>rfl⟩ hq (yE hx)
end
theorem GX{H:Hp}{a:UN}{o1 o2:HO}(h:H a=some o1):upd (upd H a o2) a o1=H:=by
 funext b;by_cases e:b=a
 ·subst e;rw[aY,h]
 ·rw[aD e,aD e]
def kI:List D->List D->Option (List (List Key×D))
 |[],[]=>some []
 |k::ks,d::ds=>(jS k).bind λk=>(kI ks ds).map ((k,d)::·)
 |_,_=>none
abbrev encK(al:List (List Key×D)):List D:=al.map λp=>.tup (p.1.map bx)
abbrev dG(al:List (List Key×D)):D:=.dct (encK al) (al.map (·.2))
theorem jh:∀{ks ds:List D}{al:List (List Key×D)},kI ks ds=some al->ks=encK al/\ds=al.map (·.2)
 |[],[],_,h=>by cases h;exact⟨rfl,rfl⟩
 |k::ks,d::ds,al,h=>by
  unfold kI at h;cases e1:jS k with
  |none=>rw[e1]at h;cases h
  |some k'=>
   rw[e1]at h;cases e2:kI ks ds with
   |none=>rw[e2]at h;cases h
   |some al'=>
    rw[e2]at h;cases h;obtain⟨h1,h2⟩:=jh e2;rw[nZ e1,h1,h2];exact⟨rfl,rfl⟩
 |[],_::_,_,h=>by cases h
 |_::_,[],_,h=>by cases h
theorem kW:∀al:List (List Key×D),kI (encK al) (al.map (·.2))=some al
 |[]=>rfl
 |p::r=>by
  show(jS (.tup (p.1.map bx))).bind _=_;have e:jS (.tup (p.1.map bx))=some p.1:=cO p.1;rw[e];show(kI (encK r) (r.map (·.2))).map ((p.1,p.2)::·)=_;rw[kW r];rfl
theorem mX:∀{al:List (List Key×D)}{ks:List (List Key)},encK al=ks.map (λk=>.tup (k.map bx))->al.map (·.1)=ks
 |[],[],_=>rfl
 |p::r,k::ks,h=>by
  have h:D.tup (p.1.map bx)::encK r=D.tup (k.map bx)::ks.map (λk=>.tup (k.map bx)):=h;injection h with h1 h2;injection h1 with h1;have e:some p.1=some k:=by rw[<-cO p.1,h1,cO k]
  rw[Q1,Option.some.inj e,mX h2]
 |[],_::_,h=>by cases h
 |_::_,[],h=>by cases h
theorem O9{K:Tu}{H:Hp}{O:List UN}{a:UN}{al:List (List Key×D)}(h:dD K H O a (dG al)):
  (∃kvs:List (List Key×V),H a=some (.dT kvs)/\kvs.map (·.1)=al.map (·.1)/\bb K (hid H O) (al.map (·.2)) (kvs.map (·.2)))\/(H a=some (.dK [])/\al=[]):=by
 obtain⟨o,vs,h1,h2,h3⟩:=h;rcases h3 with⟨kvs,e,e1,e2⟩|⟨kvs,e,e1,e2⟩
 ·subst e;cases kvs with
  |nil=>
   refine .inr ⟨h1,?_⟩
   simpa using e1
  |cons p r=>
   cases al with
   |nil=>cases e1
   |cons q r'=>
    have e1:D.tup (q.1.map bx)::encK r'=bx p.1::r.map (λp=>bx p.1):=e1;injection e1 with e1 _;rcases p with⟨k,v⟩
    cases k<;>cases e1
 ·subst e;refine .inl ⟨kvs,h1,?_,by rw[<-e2];exact h2⟩;exact(mX (ks:=kvs.map (·.1)) (by rw[SE];exact e1)).symm
theorem Fo{kvs:List (List Key×V)}{ks:List (List Key)}(e:kvs.map (·.1)=ks)(k:List Key):(jF kvs k).isSome=ks.any λq=>decide (q=k):=by
 subst e
 induction kvs with
 |nil=>rfl
 |cons p r ih=>
  rw[Q1,Rr,<-ih];by_cases e:p.1=k
  ·rw[lB e];simp[e]
  ·rw[jL e];simp[e]
def wO(ks ds:List D)(k:D):Option D:=(kI ks ds).bind λal=>(jS k).bind λk=>some (.bl (al.any λp=>decide (p.1=k)))
def QA(i:Nat)(f:FX):FX:=λρ=>(f ρ).bind λk=>match ρ[i]? with
 |some (some (.own (.dct ks ds)))=>rO (wO ks ds k)
 |_=>un
theorem AQ{ks ds:List D}{k d:D}(h:wO ks ds k=some d):∃al q,ks=encK al/\ds=al.map (·.2)/\k=.tup (q.map bx)/\d=.bl (al.any λp=>decide (p.1=q)):=by
 unfold wO at h;cases e1:kI ks ds with
 |none=>rw[e1]at h;cases h
 |some al=>
  rw[e1]at h;cases e2:jS k with
  |none=>rw[e2]at h;cases h
  |some q=>
   rw[e2]at h;cases h;obtain⟨h1,h2⟩:=jh e1;exact⟨al,q,h1,h2,nZ e2,rfl⟩
def i6(al:List (List Key×D))(k:List Key)(v:D):List (List Key×D):=if(al.any λp=>decide (p.1=k))=true then al.map (λp=>if p.1=k then(p.1,v)else p)else al++[(k,v)]
def wY(ks ds:List D)(k v:D):Option (List (List Key×D)):=(kI ks ds).bind λal=>(jS k).bind λk=>if small al.length then some (i6 al k v)else none
def vK(i:Nat)(fk fv:FX):cn:=λk ρ=>match ρ[i]? with
 |some (some (.own (.dct ks ds)))=>tq ((fv ρ).bind λv=>(fk ρ).bind λq=>rO (wY ks ds q v)) k ρ λal=>k.nx (ρ.set i (some (.own (dG al))))
 |_=>un
theorem AO{ks ds:List D}{k v:D}{al':List (List Key×D)}(h:wY ks ds k v=some al'):∃al q,ks=encK al/\ds=al.map (·.2)/\k=.tup (q.map bx)/\small al.length=true/\al'=i6 al q v:=by
 unfold wY at h;cases e1:kI ks ds with
 |none=>rw[e1]at h;cases h
 |some al=>
  rw[e1]at h;cases e2:jS k with
  |none=>rw[e2]at h;cases h
  |some q=>
   rw[e2]at h;obtain⟨h3,h4⟩:=bI (show(if small al.length then some (i6 al q v)else none)=some al' from h);obtain⟨h1,h2⟩:=jh e1;exact⟨al,q,h1,h2,nZ e2,h3,h4.symm⟩
theorem yU{kvs:List (List Key×V)}{al:List (List Key×D)}(e:kvs.map (·.1)=al.map (·.1))(k:List Key)(w:V)(d:D):(putK kvs k w).map (·.1)=(i6 al k d).map (·.1):=by
 have e2:(kvs.any λp=>decide (p.1=k))=(al.any λp=>decide (p.1=k)):=by
  have:=congrArg (λl=>l.any λq=>decide (q=k)) e
  simpa [Sl,Function.comp_def]using this
 unfold putK i6;rw[e2];split
 ·have e3:∀(l:List (List Key×V)),(l.map λkv=>if kv.1=k then(kv.1,w)else kv).map (·.1)=l.map (·.1):=λl=>by
   rw[SE];refine RQ λp _=>?_;show(if p.1=k then(p.1,w)else p).1=p.1;split<;>rfl
  have e4:∀(l:List (List Key×D)),(l.map λkv=>if kv.1=k then(kv.1,d)else kv).map (·.1)=l.map (·.1):=λl=>by
   rw[SE];refine RQ λp _=>?_;show(if p.1=k then(p.1,d)else p).1=p.1;split<;>rfl
  rw[e3,e4,e]
 ·rw[RT,RT,e];rfl
theorem yf{K:Tu}{H:Hp}{k:List Key}{w:V}{d:D}(hw:cJ K H d w):∀{kvs:List (List Key×V)}{al:List (List Key×D)},kvs.map (·.1)=al.map (·.1)->bb K H (al.map (·.2)) (kvs.map (·.2))->
  bb K H ((al.map λp=>if p.1=k then(p.1,d)else p).map (·.2)) ((kvs.map λp=>if p.1=k then(p.1,w)else p).map (·.2))
 |[],[],_,h=>h
 |p::r,q::r',e,h=>by
  rw[Q1,Q1]at e;injection e with e1 e2;rw[Q1,Q1,bo]at h;obtain⟨v,ws,h0,h1,h2⟩:=h;injection h0 with h0 h0';subst h0 h0';have ih:=yf (k:=k) hw e2 h2;rw[Q1,Q1,Q1,Q1,bo];refine⟨_,_,rfl,?_,ih⟩;rw[e1];split
  ·exact hw
  ·exact h1
 |[],_::_,e,_=>by cases e
 |_::_,[],e,_=>by cases e
theorem Cb{K:Tu}{H:Hp}{k:List Key}{w:V}{d:D}(hw:cJ K H d w){kvs:List (List Key×V)}{al:List (List Key×D)}(e:kvs.map (·.1)=al.map (·.1))(h:bb K H (al.map (·.2)) (kvs.map (·.2))):
  bb K H ((i6 al k d).map (·.2)) ((putK kvs k w).map (·.2)):=by
 have e2:(kvs.any λp=>decide (p.1=k))=(al.any λp=>decide (p.1=k)):=by
  have:=congrArg (λl=>l.any λq=>decide (q=k)) e
  simpa [Sl,Function.comp_def]using this
 unfold putK i6;rw[e2];split
 ·exact yf hw e h
 ·rw[RT,RT];exact h.append (bo.mpr ⟨w,[],rfl,hw,cI.mpr rfl⟩)
theorem uS{kvs:List (List Key×V)}{al:List (List Key×D)}(e:kvs.map (·.1)=al.map (·.1)):encK al=kvs.map λp=>D.tup (p.1.map bx):=by
 have:=congrArg (List.map λk:List Key=>D.tup (k.map bx)) e
 rw[SE,SE]at this;exact this.symm
theorem tN{H:Hp}{a:UN}{o1 o2:HO}:upd (upd H a o1) a o2=upd H a o2:=by
 funext b;by_cases e:b=a
 ·subst e;rw[aY,aY]
 ·rw[aD e,aD e,aD e]
def JU(td ty tv:TE):TS:=λD σ H=>tv σ H λv H1=>td σ H1 λx H2=>ty σ H2 λy H3=>∃a k b kvs,x=.ref a/\y=.ref b/\H3 b=some (.tup (k.map kV))/\(H3 a=some (.dT kvs)\/(H3 a=some (.dK [])/\kvs=[]))/\kvs.length<UQ/\D.nx σ (upd H3 a (.dT (putK kvs k v)))
section
variable{X:Cx}{o idx value:U0}{pos pos':Pos}{td ty tv:TE}
theorem EZ(hu:X.A.units+1<Vp)(ho:PE X o td)(hi:PE X idx ty)(hv:PE X value tv)(hs:swapsWith value (some (.Subscript o idx pos')) pos.line X.env=pure false):PS X (.Assign [.Subscript o idx pos'] value pos) (JU td ty tv):=by
 intro pins s σ H D I h;refine wpAny_Assign_Subscript (dL (hv pins s σ H _ I h) λr s1 ⟨v,H1,I1,rv,q1⟩=>dL (ho pins s1 σ H1 _ I1 q1) λu s2 ⟨x,H2,I2,rx,q2⟩=>dL (hi pins s2 σ H2 _ I2 q2) λiv s3 ⟨y,H3,I3,ry,a,k,b,kvs,ex,ey,hb,ha,hl,q3⟩=>?_) hs;subst ex ey;obtain rfl:u=Value.ref a:=rx;rcases ha with ha|⟨ha,rfl⟩
 ·exact nW hu I3 (KA.t ha hb hl) ry rv λs4 I4=>⟨σ,_,I4,q3⟩
 ·have ne:b≠a:=λz=>by rw[z,ha]at hb;cases hb
  refine nW hu (Fp I3 ha) (KA.t aY (by rw[aD ne];exact hb) hl) ry rv λs4 I4=>⟨σ,_,I4,?_⟩
  rw[tN];exact q3
end
theorem Ni{X:Cx}{i:Nat}{x:Str}{idx value:U0}{fk fv:FX}{npos tpos pos:Pos}(hu:X.A.units+64<Vp)(hx:PE X (.Name x npos) (qy i))(hi:FE X idx fk)(hv:FE X value fv)
  (hs:swapsWith value (some (.Subscript (.Name x npos) idx tpos)) pos.line X.env=pure false:=by rfl):
  FS X (.Assign [.Subscript (.Name x npos) idx tpos] value pos) (vK i fk fv):=λHb Ob pins s σ H E I ⟨O,ρ,k,rr,S,hF,hk⟩=>by
 unfold vK at hF;split at hF
 ·rename_i ks ds hxs;obtain⟨a,ha,haO,hat⟩:=S.env.own i _ hxs;have hP:=ji.on hF hk S (Q:=λal=>k.nx (ρ.set i (some (.own (dG al))))=rr) λp e=>e;refine EZ ‹0› hx hi hv hs pins s σ H E I ⟨O,ρ,S.env,(ji.bind hP).imp λy hP v H1 s1 d1=>?_⟩;have S1:=S.same s1;refine⟨.ref a,ha,O,ρ,S1.env,((ji.bind hP).mono s1).imp λj hP w H2 s2 d2=>?_⟩;have S2:=S1.same s2;obtain⟨al',hg,e⟩:=ji.rO hP;obtain⟨al,q,f1,f2,f3,f4,f5⟩:=AO hg;subst f1 f2 f3 f5;have s12:=s1.trans s2;obtain⟨b,ws,eb,g1,g2⟩:=cN.mp d2;rw[jC g2]at g1;have hat2:dD X.K H2 O a (dG al):=hat.mono (let ⟨_,z⟩:=hat.some;sY s12 z) (bN s12);have dv:cJ X.K (hid H2 O) y v:=d1.mono (bN s2);have fin:∀kvs:List (List Key×V),kvs.map (·.1)=al.map (·.1)->bb X.K (hid H2 O) (al.map (·.2)) (kvs.map (·.2))->dD X.K (upd H2 a (.dT (putK kvs q v))) O a (dG (i6 al q y)):=λkvs k2 k3=>
   ⟨_,_,aY,(Cb dv k2 k3).mono (iE haO),.inr ⟨putK kvs q v,rfl,uS (yU k2 q v y),rfl⟩⟩
  rcases O9 hat2 with⟨kvs,k1,k2,k3⟩|⟨k1,rfl⟩
  ·have hl:kvs.length=al.length:=(by have:=congrArg List.length k2;simpa using this);exact⟨a,q,b,kvs,rfl,eb,(aB H2 O) _ _ g1,.inl k1,by rw[hl];exact R0 (of_decide_eq_true f4) (by decide),hk.nx O _ σ _ (S2.setO hxs ha trivial (fin kvs k2 k3)) e⟩
  ·exact⟨a,q,b,[],rfl,eb,(aB H2 O) _ _ g1,.inr ⟨k1,rfl⟩,by decide,hk.nx O _ σ _ (S2.setO hxs ha trivial (fin [] rfl (cI.mpr rfl))) e⟩
 ·exact absurd hF.symm hk.ne
end TG
namespace TG
open PySem PySem.Spec L2
variable[aW]
end TG
namespace TG
open PySem PySem.Spec PySem.W PySem.Calls PyProof.Rows Builtin Builtin.ObjectAttr Builtin.Getset_descriptor
variable[aW]
end TG
namespace TG
open PySem PySem.Spec L2
variable[aW]
open PyProof.Rows (AllBare OwnCls)
end TG
namespace TG
open PySem PySem.Spec L2
variable[aW]
end TG
namespace TG
open PySem PySem.Spec L2
variable[aW]
def vF(val:Nat->Int):Nat->Int
 |0=>0
 |1=>val 0
 |n+2=>if val (n+1)>vF val (n+1)then val (n+1)else vF val (n+1)
def nO:List D->Option (List Int)
 |[]=>some []
 |.int i::r=>(nO r).map (i::·)
 |_=>none
theorem wI:∀{xs:List D}{ns:List Int},nO xs=some ns->xs=ns.map .int
 |[],_,h=>by cases h;rfl
 |d::r,ns,h=>by
  cases d with
  |int i=>
   cases e:nO r with
   |none=>rw[show nO (.int i::r)=(nO r).map (i::·)from rfl,e]at h;cases h
   |some ms=>rw[show nO (.int i::r)=(nO r).map (i::·)from rfl,e]at h;cases h;rw[wI e];rfl
  |_=>cases h
theorem y6:∀ns:List Int,nO (ns.map .int)=some ns
 |[]=>rfl
 |n::ns=>by show(nO (ns.map .int)).map (n::·)=_;rw[y6 ns];rfl
def rQ(i:Int)(d:D):Option D:=match d with
 |.lst xs=>(nO xs).map λns=>.int (if ns.length=0 then i else vF (λk=>ns.getD k 0) ns.length)
 |_=>none
section
variable{prog:UM}{w:UL}{A:UW}{R:Vj->UX->Prop}{I:UN}{fp wr:List UN}{n:Nat}{P:Nat->UK->Prop}{St:Nat->UP->Prop}
theorem DM(W:Walks prog w A.in1 I fp wr n P St)(val:Nat->Int)(hv:∀i v,P i v->∃t,v=.int (val i) t)(dv:UK)(Z:UN)(hZ:Z∉fp):
  ∀(k j:Nat)(s:UX)(cs:Array UK)(c:Nat),n-j=k->j<=n->St j s.heap->(cs=#[]/\j=0\/0<j/\∃t,cs=#[.int (vF val j) t,.int (vF val j) t])->
   s.heap.get? Z=some {cls:=.type "list",dict:=none,data:=.seq cs c,slots:=#[]}->
   (∀v h' tk,(n=0/\v=dv\/0<n/\∃t,v=.int (vF val n) t)->(∀b o,b∉wr->b≠Z->s.heap.get? b=some o->h'.get? b=some o)->R (.ok (.ret v)) {s with heap:=h',toks:=tk})->
   Vk (model prog w) A (.builtin "max.loop" ⟨[.ref I,.none,.ref Z],[(Str.ofString "default",dv)]⟩) R s:=by
 have zw:Z∉wr:=λh=>hZ (W.sub _ h);have nm:(toString "max"++toString ".loop":String)="max.loop":=by
  decide
 intro k
 induction k with
 |zero=>
  intro j s cs c hk hj hst hcs hl hR;have en:j=n:=by omega
  subst en;refine We F.entry_max_loop ?_;rw[Around.under_plainId F.plain_max_loop _];refine U8 (m:=seqItems? (.ref Z)) (VR hl rfl ?_);refine U8 (m:=tryCatch (pyNext (.ref I)) _)
   (Wf (W.done s _ _ hst λh' tk hk'=>?_))
  have hl':=hk' Z _ zw hl;rcases hcs with⟨rfl,rfl⟩|⟨hp,t,rfl⟩
  ·refine U8 (VO ?_);exact U7 (hR dv h' tk (.inl ⟨rfl,rfl⟩) λb o hb _ e=>hk' b o hb e)
  ·refine U8 (m:=updateSeq Z λ_=>#[]) (Wg hl' rfl
    (U8 (V2 (U7 (hR _ _ tk (.inr ⟨hp,t,rfl⟩) λb o hb hz e=>?_)))))
   exact(Uj _ _ hz.symm).trans (hk' b o hb e)
 |succ k ih=>
  intro j s cs c hk hj hst hcs hl hR;have hlt:j<n:=by omega
  refine We F.entry_max_loop ?_;rw[Around.under_plainId F.plain_max_loop _];refine U8 (m:=seqItems? (.ref Z)) (VR hl rfl ?_);refine U8 (m:=tryCatch (pyNext (.ref I)) _)
   (Wf (W.item j s _ _ hlt hst λv h' tk hP hst' hk'=>?_))
  have hl':=hk' Z _ zw hl;obtain⟨tv,rfl⟩:=hv j v hP;have next:∀(h2:UP)(cs2:Array UK)(c2:Nat),(∀b o,b≠Z->h'.get? b=some o->h2.get? b=some o)->h2.get? Z=some {cls:=.type "list",dict:=none,data:=.seq cs2 c2,slots:=#[]}->(∃t,cs2=#[.int (vF val (j+1)) t,.int (vF val (j+1)) t])->
    Vk (model prog w) A (.builtin "max.loop" ⟨[.ref I,.none,.ref Z],[(Str.ofString "default",dv)]⟩) R {s with heap:=h2,toks:=tk}:=λh2 cs2 c2 k2 l2 hc2=>by
   refine ih (j+1) _ cs2 c2 ‹0› hlt (W.frame _ _ _ hst' λb hb o e=>k2 b o (λz=>hZ (z ▸ hb)) e) (.inr ⟨by omega,hc2⟩) l2 λv' h'' tk'' hv' hk''=>?_;exact hR v' h'' tk'' hv' λb o hb hz e=>hk'' b o hb hz (k2 b o hz (hk' b o hb e))
  rcases hcs with⟨rfl,rfl⟩|⟨hp,t,rfl⟩
  ·refine U8 (U7 ?_);refine U8 (m:=updateSeq Z λ_=>#[.int (val 0) tv,.int (val 0) tv]) (Wg hl' rfl ?_);rw[nm];exact U7 ⟨Wh F.plain_max_loop _,next _ _ _ (λb o hz e=>(Uj _ _ hz.symm).trans e) (Uk _ hl' rfl) ⟨tv,rfl⟩⟩
  ·obtain⟨m,rfl⟩:∃m,j=m+1:=⟨j-1,by omega⟩
   refine U8 (U7 ?_);refine U8 (m:=tryCatch _ _) (Wf (VE
    (U8 (CmpOf.ints_gt (P:=λi v=>∃t,v=.int (if i=0 then val (m+1)else vF val (m+1)) t) (λi=>if i=0 then val (m+1)else vF val (m+1)) (λi v h=>h) 0 1 _ _ _ _ _ ⟨tv,rfl⟩ ⟨t,rfl⟩ ?_))))
   refine U8 (VE (U5 ?_));refine U8 (V2
    (U7 ?_))
   split
   ·rename_i hz;have hb:val (m+1)>vF val (m+1):=of_decide_eq_true (show decide (val (m+1)>vF val (m+1))=true from hz);refine U8 (m:=updateSeq Z λ_=>#[.int (val (m+1)) tv,.int (val (m+1)) tv])
     (Wg hl' rfl (U8 (V2 ?_)))
    rw[nm];exact U7 ⟨Wh F.plain_max_loop _,next _ _ _ (λb o hz e=>(Uj _ _ hz.symm).trans e) (Uk _ hl' rfl) ⟨tv,by rw[vF,if_pos hb]⟩⟩
   ·rename_i hz;have hb:¬val (m+1)>vF val (m+1):=λz=>hz (show decide (val (m+1)>vF val (m+1))=true from decide_eq_true z);refine U8 (V2 ?_);rw[nm];exact U7 ⟨Wh F.plain_max_loop _,next _ _ _ (λb o _ e=>e) hl' ⟨t,by rw[vF,if_neg hb]⟩⟩
theorem Do(a v:UK):argsOk "max" ⟨[a],[(Str.ofString "default",v)]⟩:=by
 unfold argsOk
 kernel_rfl
theorem Dc:UV "max"=some (.builtin "max"):=by first|rfl|decide +kernel
theorem Dy{E:UK->UX->Prop}{s:UX}{l:UN}{its:List UK}{ns:List Int}{dv:UK}{Q:UK->UX->Prop}(hh:A.handled=none)(hl:s.heap.IsList l its.toArray)(hi:∀(i:Nat)(v:UK),its[i]?=some v->∃t,v=.int (ns.getD i 0) t)(hn:its.length=ns.length)
  (hQ:∀v h' tk,(ns.length=0/\v=dv\/0<ns.length/\∃t,v=.int (vF (λk=>ns.getD k 0) ns.length) t)->(∀b o,s.heap.get? b=some o->h'.get? b=some o)->Q v {s with heap:=h',toks:=tk}):
  UZ (model prog w) A (call (.builtin "max") [.ref l] [(Str.ofString "default",dv)]) Q E s:=by
 have nm:(toString "max"++toString ".loop":String)="max.loop":=by
  decide
 have hlt:l<s.heap.objs.size:=by obtain⟨_,e,_⟩:=hl;exact Uc e
 refine Vs (codeAny_call_builtin F.plain_max F.entry_max ?_);have go:UZ (model prog w) A.in1 (Builtin.«max» ⟨[.ref l],[(Str.ofString "default",dv)]⟩) (λfin s'=>match fin with
   |.done f=>(match(Except.ok f:Vj)with|.ok (.ret v)=>Q v s'|.ok _=>False|.error e=>E e s')
   |.again c'=>c'.quiet=true/\Vk (model prog w) A c' (λr s'=>match r with|.ok (.ret v)=>Q v s'|.ok _=>False|.error e=>E e s') s') E s:=by
  show UZ _ A.in1 (Builtin.Builtins.bindParams "max" ["key","default"] 0 ⟨[],[(Str.ofString "default",dv)]⟩ >>= _) _ _ s;refine U8 (VU (show Builtin.Builtins.bindParams "max" ["key","default"] 0 ⟨[],[(Str.ofString "default",dv)]⟩=pure [none,some dv]from rfl) ?_);refine U8 (U7 ?_);refine U8 (Va hl ?_);refine U8 (VI ?_);rw[nm];have hne:l≠s.heap.objs.size:=QK hlt;refine U7 ⟨Wh F.plain_max_loop _,DM (Walks.list (A:=A.in1) hh s.heap.objs.size l hne its.toArray) (λk=>ns.getD k 0) (λi v h=>hi i v (by simpa using h)) dv _ (λhm=>?_) _ 0 _ #[] _ rfl (Q4 _) ⟨⟨_,Ug _ (Uh _ rfl),rfl,rfl⟩,(hl.push _).push _⟩ (.inl ⟨rfl,rfl⟩) (Uh _ rfl) λv h' tk hv hk=>?_⟩
  ·simp only[Ui,R4,SF,or_false]at hm;rcases hm with hm|hm
   ·exact Nat.succ_ne_self _ hm
   ·rw[<-hm]at hlt;exact QJ _ (Nat.lt_of_succ_lt hlt)
  ·have e:its.toArray.size=ns.length:=(by rw[QY,hn]);rw[e]at hv;refine hQ v h' tk hv λb o q=>hk b o (λz=>?_) (λz=>?_) (Ug _ (Ug _ q))
   ·have h1:=Uc q;simp only[R4,SF,or_false]at z;rw[z]at h1;exact QJ _ h1
   ·have h1:=Uc q;rw[z,Ui]at h1;exact QJ _ (Nat.lt_of_succ_lt h1)
 simp only[checkBuiltinCall,F.kind_max];cases hsig:Manifest.signature? "max"with
 |none=>exact U7 go
 |some sig=>
  have ha:Bind.checkArgs "max" sig ⟨[.ref l],[(Str.ofString "default",dv)]⟩=pure ():=by
   have:=Do (.ref l) dv
   unfold argsOk at this;rw[hsig]at this;exact this
  simp only[ha];exact U7 go
end
section
variable{X:Cx}{p pos kp:Pos}{e:U0}
theorem Cu{K:Tu}{H:Hp}:∀{ns:List Int}{ys:List V}{its:List UK},bb K H (ns.map .int) ys->Vals ys its->∀(k:Nat)(v:UK),its[k]?=some v->∃t,v=.int (ns.getD k 0) t
 |[],ys,its,h,r,k,v,e=>by
  rw[Rp,cI]at h;subst h;cases r;simp at e
 |n::ns,ys,its,h,r,k,v,e=>by
  rw[Q1,bo]at h;obtain⟨y,ys',rfl,h1,h2⟩:=h;cases r with
  |cons r1 r2=>
   cases k with
   |zero=>
    rw[fE]at h1;subst h1;obtain⟨t,rfl⟩:=r1;simp at e;exact⟨t,e.symm⟩
   |succ k=>
    simp only[R7]at e;exact Cu h2 r2 k v e
theorem N1{f:FX}{i:Int}{j:Nat}{cp:Pos}(hc:X.calm=true)(hg:Gl X "max")(hm:X.mg "max"=none)(he:FE X e f)(hns:noStar e=true:=by rfl):
  FE X (.Call (.Name "max" p) [e] [⟨some "default",.Constant (.int i) j cp,kp⟩] pos) (f1 (rQ i) f):=by
 intro pins s σ H Q I ⟨O,ρ,E,hF⟩;refine Vu (ky I hg hm Dc ?_);have st:backTo pos (U1 [e] X.env)=(false,eval e X.env)::backTo pos (U1 [] X.env):=by rw[dh hns];rfl
 refine Uw ?_ ?_ (gz (by rw[RH,hns];rfl))
 ·refine dL (j6 he pF (dh hns) pos pins s σ H (λvs H1=>∃v d a,vs=[v]/\bj H H1/\rQ i a=some d/\cJ X.K (hid H1 O) a v/\∀v H',bj H H'->cJ X.K (hid H' O) d v->Q v H') I ⟨O,ρ,E,(ji.bind hF).imp λa hF v H1 s1 d1=>?_⟩) λus s1 ⟨vs,H1,I1,rv,v,d,a,ev,s1',hd,dn,q⟩=>?_
  ·obtain⟨d,e,q⟩:=ji.rO hF;exact⟨v,d,a,rfl,s1,e,d1,q⟩
  ·subst ev;refine dL (Im (kws:=[]) Fy K9 pos pins s1 σ H1 (λzs H2=>zs=[.int i]/\H2=H1) I1 ⟨rfl,rfl⟩) λws s2 ⟨zs,H2,I2,rz,ez,eh⟩=>?_;subst ez eh;obtain⟨u,eu,ru⟩:=vals1 rv;obtain⟨wv,ew,rw'⟩:=vals1 rz;subst eu ew;unfold rQ at hd;split at hd
   ·rename_i xs;cases ei:nO xs with
    |none=>rw[ei]at hd;cases hd
    |some ns=>
     rw[ei]at hd;cases hd;have exs:=wI ei;subst exs;obtain⟨l,ys,el,g1,g2⟩:=cT.mp dn;subst el;cases ru;obtain⟨its,ri,pl,hz⟩:=I2.list ((aB H2 O).seq g1);have hlen:its.length=ns.length:=(by rw[<-ri.length,<-g2.length,Q2]);refine Dy (I2.ok.hd hc) pl.isList (ns:=ns) (λk v hk=>?_) hlen λv h' tk hv kk=>?_
     ·exact Cu g2 ri k v hk
     ·have I3:=I2.kept (t':=tk) kk;have q:∀(v:V)(H':Hp),bj H H'->cJ X.K (hid H' O) (.int (if ns.length=0 then i else vF (λk=>ns.getD k 0) ns.length)) v->Q v H':=q;rcases hv with⟨z,rfl⟩|⟨z,t,rfl⟩
      ·rw[if_pos z]at q;exact⟨.int i,H2,I3,rw',q _ H2 s1' (fE.mpr rfl)⟩
      ·rw[if_neg ‹0›]at q;exact⟨.int _,H2,I3,⟨t,rfl⟩,q _ H2 s1' (fE.mpr rfl)⟩
   ·cases hd
 ·exact st
end
end TG
namespace TG
open PySem PySem.Spec L2
variable[aW]
end TG
namespace TG
open PySem PySem.Spec L2
def qq(P:UN)(pos:Pos)(q:Str):(UN->Prop)->UP->Prop:=λS h=>h.get? P=some (T5 #[])\/∃c,S c/\h.get? P=some (T5 #[rawInt pos.line,rawInt pos.col,.ref c])/\h.CodeRec (.ref c) q
theorem qq.stay{P:UN}{pos:Pos}{q:Str}{S1 S2:UN->Prop}{h1 h2:UP}(x:qq P pos q S1 h1)(s:∀b,S1 b->S2 b)(k:∀b o,(b=P\/S1 b)->h1.get? b=some o->h2.get? b=some o):qq P pos q S2 h2:=by
 rcases x with e|⟨c,hc,e,c',o,vs,t,ec,e1,r⟩
 ·exact .inl (k _ _ (.inl rfl) e)
 ·cases ec;exact .inr ⟨c,s c hc,k _ _ (.inl rfl) e,c,o,vs,t,rfl,k _ _ (.inr hc) e1,r⟩
theorem qq.ok{Pg:UM}{w:UL}{H:Hp}{h:UP}{P:UN}{pos:Pos}{q:Str}(x:qq P pos q (λb=>H b=some (.own P)) h):cH Pg w H h P (.ext (qq P pos q)):=
 ⟨x,by rcases x with e|⟨_,_,e,_⟩<;>exact⟨_,e⟩,λ_ _ _ _ x s k=>x.stay s k⟩
abbrev w8(P:UN)(pos:Pos)(q:Str):aW:=⟨λH=>H P=some (.ext (qq P pos q)),λh e=>e _ _ h,λ{H p o o'} h hp m=>by
 rw[aD]
 ·exact h
 ·rintro rfl;rw[h]at hp;cases hp;exact m⟩
open PySem PySem.Spec PyProof.Rows PySem.W L2
variable[aW]
def uV(key:List D)(h:UP)(k:UK):Prop:=∃b o xs n,k=.ref b/\h.get? b=some o/\o.cls=.type "tuple"/\o.data=.seq xs n/\gP xs.toList key
theorem uV.keep{key:List D}{h h':UP}{k:UK}(x:uV key h k)(kp:∀b o,h.get? b=some o->h'.get? b=some o):uV key h' k:=by
 obtain⟨b,o,xs,n,e,ho,r⟩:=x;exact⟨b,o,xs,n,e,kp _ _ ho,r⟩
theorem uV.stay{key:List D}{h h':UP}{k:UK}{c:UN}{xs:Array UK}{n:Nat}(x:uV key h k)(hc:h.get? c=some (seqObj "list" xs n))(kp:∀b o,b≠c->h.get? b=some o->h'.get? b=some o):uV key h' k:=by
 obtain⟨b,o,ys,m,e,ho,hk,r⟩:=x;refine⟨b,o,ys,m,e,kp _ _ (λz=>?_) ho,hk,r⟩;subst z;rw[hc]at ho;cases ho;revert hk;show¬(Value.type "list"=Value.type "tuple");simp
section
variable{prog:UM}{w:UL}{A:UW}{E:UK->UX->Prop}{s:UX}
theorem D7{ks:List UK}{keys:List (List D)}{σ:List Bool}{b:Bool}{Q:V7->UX->Prop}(hl:ks.length=keys.length)(hsh:∀k∈keys,Sh (b::σ) k)(h1:1<=ks.length)
  (hk:∀i,i<ks.length->uV (keys.getD i []) s.heap (ks.getD i Value.none)) (h:Q (tuples' true) s):UZ (model prog w) A (keyKind' ks.toArray) Q E s:=by
 obtain⟨fs,t1,t2,t3⟩:=pE (h:=s.heap) (PT:=λf=>typeOf f=pure (.type (if b then"int"else"str"))) (its:=ks) λv hv=>by
  obtain⟨i,hi,rfl⟩:=RO hv;obtain⟨a,o,xs,n,e1,ho,hc,hd,ff⟩:=hk i hi;have hi':i<keys.length:=by omega
  have gk:keys.getD i []=keys[i]:=by simp[hi']
  rw[gk]at ff;obtain⟨f,ef,tf⟩:=ff.first (hsh _ (Sz hi'));have gv:ks.getD i Value.none=ks[i]:=by simp[hi]
  rw[gv]at e1;exact⟨a,o,xs,n,f,e1,ho,hc,hd,by simpa using ef,tf⟩
 refine kat_kind (T:=.type (if b then"int"else"str")) t1 ‹0› (λf hf=>Looks.of_pure (t3 f hf)) (by cases b<;>rfl) ?_
 have:(Value.type (if b then"int"else"str") !=Value.type "tuple")=true:=by cases b<;>rfl
 rw[this];exact h
theorem Bs{ks:List UK}{keys:List (List D)}{σ:List Bool}{b:Bool}(hl:ks.length=keys.length)(hsh:∀k∈keys,Sh (b::σ) k)
  (hk:∀i,i<ks.length->uV (keys.getD i []) s.heap (ks.getD i Value.none)):mU (V8 prog w A (tuples' true) ks) (rank keys) ks.length s:=by
 intro i j C hi hj hC;obtain⟨a,o,xs,n,e1,ho,hc,hd,ff⟩:=hk i hi;obtain⟨a2,o2,xs2,n2,e2,ho2,hc2,hd2,ff2⟩:=hk j hj;unfold V8;rw[e1,e2];have hi':i<keys.length:=by omega
 have hj':j<keys.length:=by omega
 have gi:keys.getD i []=keys[i]:=by simp[hi']
 have gj:keys.getD j []=keys[j]:=by simp[hj']
 have sh1:=hsh _ (Sz hi');have sh2:=hsh _ (Sz hj');have rl:=sM (ks:=keys) hsh hi' hj';rw[rl]at hC;rw[gi]at ff;rw[gj]at ff2;rw[gi,gj]at hC;refine kat_lt ho hd ho2 hd2 (jZ ?_ sh1 sh2 ff ff2 hC);have z1:xs.size=keys[i].length:=by have:=ff.length;simpa using this
 have z2:xs2.size=keys[j].length:=by have:=ff2.length;simpa using this
 have z3:keys[i].length=keys[j].length:=by rw[Sh.length sh1,Sh.length sh2]
 exact decide_eq_false ‹0›
theorem Gr{f:UK}{a:UN}{vs:List UK}{n:Nat}{keys:List (List D)}{σ:List Bool}{b:Bool}{P:PySem.Fin->UX->Prop}
  (ho:s.heap.get? a=some (seqObj "list" vs.toArray n)) (h64:vs.length<64) (hl:keys.length=vs.length) (hsh:∀k∈keys,Sh (b::σ) k)
  (hc:∀ (i:Nat) (v:UK) (h':UP) (tk:Nat) (Q':UK->UX->Prop),vs[i]?=some v->(∀ c o,c≠a->s.heap.get? c=some o->h'.get? c=some o) ->
   (∀k h'' tk',(∀c o,h'.get? c=some o->h''.get? c=some o)->uV (keys.getD i []) h'' k->Q' k {s with heap:=h'',toks:=tk'})->UZ (model prog w) A (call f [v]) Q' (λ_ _=>False) {s with heap:=h',toks:=tk})
  (h:∀ (p:Array Nat) (h':UP) (e tk:Nat),PM vs.length p->Up (rank keys) p vs.length->(∀ c o,c≠a->s.heap.get? c=some o->h'.get? c=some o)->h'.get? a=some (seqObj "list" (List.toArray (p.toList.map fun i=>vs.getD i Value.none)) e) ->
   P (.done (.ret .none)) {s with heap:=h',toks:=tk}):UZ (model prog w) A (ksk_tree a f false) P E s:=by
 have ha:a<s.heap.objs.size:=Uc ho;obtain⟨e1,ho1⟩:∃e1,(s.heap.update a (Obj.mapSeq λ_=>(#[]:Array UK))).get? a=some (seqObj "list" #[] e1):=⟨_,Wa ho (λ_=>#[])⟩
 unfold ksk_tree;refine U8 (listItems_at ho rfl ?_);refine U8 (V9 ho rfl ?_ (by rw[QY,Vi];omega) (Q4 _));refine U8 (Wb ho1 rfl ?_);refine U8 (V3 ?_ (by show vs.length<=_;rw[Vi];omega));refine U8 (Wc ?_ (Q4 _));refine VE ?_;have hkS:((s.heap.update a (Obj.mapSeq λ_=>(#[]:Array UK))).push (seqObj "tuple" vs.toArray 0)).objs.size=s.heap.objs.size+1:=by rw[size_push',Uo]
 show UZ (model prog w) A (ksk_rest a f false vs.toArray e1 (.ref ((s.heap.update a (Obj.mapSeq λ_=>(#[]:Array UK))).push (seqObj "tuple" vs.toArray 0)).objs.size)) P E {s with heap:=((s.heap.update a (Obj.mapSeq λ_=>(#[]:Array UK))).push (seqObj "tuple" vs.toArray 0)).push (seqObj "list" #[] 0)};rw[hkS];have hS0:(((s.heap.update a (Obj.mapSeq λ_=>(#[]:Array UK))).push (seqObj "tuple" vs.toArray 0)).push (seqObj "list" #[] 0)).get? (s.heap.objs.size+1)=some (seqObj "list" #[] 0):=by rw[<-hkS];exact Uh _ rfl
 have hA0:(((s.heap.update a (Obj.mapSeq λ_=>(#[]:Array UK))).push (seqObj "tuple" vs.toArray 0)).push (seqObj "list" #[] 0)).get? a=some (seqObj "list" #[] e1):=Ug _ (Ug _ ho1);have hK0:∀b o,b≠a->s.heap.get? b=some o->(((s.heap.update a (Obj.mapSeq λ_=>(#[]:Array UK))).push (seqObj "tuple" vs.toArray 0)).push (seqObj "list" #[] 0)).get? b=some o:=λb o hb e=>
  Ug _ (Ug _ (by rw[Uq _ _ _ _ hb];exact e))
 have hne:a≠s.heap.objs.size+1:=QK (RA ha);have hold:∀c o,s.heap.get? c=some o->c≠s.heap.objs.size+1:=λc o e=>QK (RA (Uc e));generalize (((s.heap.update a (Obj.mapSeq λ_=>(#[]:Array UK))).push (seqObj "tuple" vs.toArray 0)).push (seqObj "list" #[] 0))=h0 at hS0 hA0 hK0;generalize s.heap.objs.size+1=kS at hS0 hne hold;unfold ksk_rest;refine U8 (VO ?_)
 first
  |rw[List.forIn_toArray]
  |(rw[<-Array.forIn_toList];simp only[SG])
  |rw[<-Array.forIn_toList]
 refine U8 (ksk_fold (λi s'=>∃(ks:List UK)(e:Nat)(h':UP)(tk:Nat),s'={s with heap:=h',toks:=tk}/\ks.length=i/\i<=vs.length/\h'.get? kS=some (seqObj "list" (List.toArray ks) e)/\h'.get? a=some (seqObj "list" #[] e1)/\
  (∀c o,c≠a->s.heap.get? c=some o->h'.get? c=some o)/\∀j,j<i->uV (keys.getD j []) h' (ks.getD j Value.none)) vs 0 _ ⟨[],0,h0,s.toks,rfl,rfl,Q4 _,hS0,hA0,hK0,λj hj=>absurd hj (Nat.not_lt_zero _)⟩ ?_ ?_)
 ·rintro j x s' hx ⟨ks,e,h',tk,rfl,hlen,hle,hS,hA,hK,hT⟩;rw[Sb]at hlen hle hT;have hj:j<vs.length:=by
   rcases SH j vs.length with z|z
   ·exact z
   ·rw[SJ z]at hx;cases hx
  refine U8 (V4 (U3 (hc j x h' tk (λk s''=>∃h'' tk',s''={s with heap:=h'',toks:=tk'}/\(∀c o,h'.get? c=some o->h''.get? c=some o)/\uV (keys.getD j []) h'' k) hx hK λk h'' tk' kp tK=>⟨h'',tk',rfl,kp,tK⟩) (λk s'' hk=>?_) λ_ _ hF=>hF.elim));obtain⟨h'',tk',rfl,kp,tK⟩:=hk;have nk:=kp _ _ hS;have s1:∀c o,c≠kS->h''.get? c=some o->(h''.update kS (Obj.mapSeq (·.push k))).get? c=some o:=λc o hc' e=>by rw[Uq _ _ _ _ hc'];exact e
  have ea:(List.toArray ks).push k=List.toArray (ks++[k]):=by simp
  obtain⟨c2,hc2⟩:∃c2,(h''.update kS (Obj.mapSeq (·.push k))).get? kS=some (seqObj "list" (List.toArray (ks++[k])) c2):=⟨_,by rw[<-ea];exact Wa nk (·.push k)⟩
  try dsimp only
  refine U8 (V9 nk rfl ?_ (by rw[QY,Vi];omega) (QL (Q3 (Array.size_push ..)) (by rw[QY,Vi];omega)));refine U7 ⟨rfl,ks++[k],c2,_,tk',rfl,by rw[Rh,Rn];omega,by omega,hc2,s1 _ _ hne (kp _ _ hA),λc o h1 h2=>s1 _ _ (hold c o h2) (kp _ _ (hK c o h1 h2)),λi hi=>?_⟩;refine uV.stay (c:=kS) ?_ nk s1;by_cases z:i=j
  ·subst z
   have:(ks++[k]).getD i Value.none=k:=(by simp[SD,<-hlen]);rw[this];exact tK
  ·have hi':i<ks.length:=by omega
   have:(ks++[k]).getD i Value.none=ks.getD i Value.none:=(by simp[SD,Rb hi']);rw[this];exact(hT i ‹0›).keep kp
 ·rintro s' ⟨ks,e,h',tk,rfl,hlen,hle,hS,hA,hK,hT⟩;rw[Sb]at hlen hT
  try dsimp only
  refine U8 (listItems_at hS rfl ?_);have tail:∀(p:Array Nat)(st:SortSt),(arrOf st).map (·.2)=List.toArray (p.toList.map λi=>vs.getD i Value.none)->failedOf st=none->PM vs.length p->Up (rank keys) p vs.length->UZ (model prog w) A (ksk_tail a false e1 (.ref kS) st) P E {s with heap:=h',toks:=tk}:=by
   intro p st hout hf hp hu;obtain⟨ck,hck⟩:∃ck,(h'.update kS (Obj.mapSeq λ_=>(#[]:Array UK))).get? kS=some (seqObj "list" #[] ck):=⟨_,Wa hS λ_=>#[]⟩
   have hA2:(h'.update kS (Obj.mapSeq λ_=>(#[]:Array UK))).get? a=some (seqObj "list" #[] e1):=(by rw[Uq _ _ _ _ hne];exact hA);obtain⟨c2,hc2⟩:∃c2,((h'.update kS (Obj.mapSeq λ_=>(#[]:Array UK))).update a (Obj.mapSeq λ_=>List.toArray (p.toList.map λi=>vs.getD i Value.none))).get? a=some (seqObj "list" (List.toArray (p.toList.map λi=>vs.getD i Value.none)) c2):=⟨_,Wa hA2 λ_=>List.toArray (p.toList.map λi=>vs.getD i Value.none)⟩
   unfold ksk_tail
   try dsimp only
   rw[hout];refine U8 (V9 hS rfl ?_ (by rw[QY,Vi];omega) (Q4 _));refine U8 (V2 ?_);refine U8 (Wb hA2 rfl ?_);simp only[Rz,if_false];refine U8 (V9 hA2 rfl ?_ (Q4 _) (by rw[QY,Q2,Array.length_toList,hp.size,Vi];omega));rw[hf];simp only[bne_self_eq_false,Rz,if_false];exact U7 (h p _ c2 tk hp hu (λc o h1 h2=>by rw[Uq _ _ _ _ h1,Uq _ _ _ _ (hold c o h2)];exact hK c o h1 h2) hc2)
  unfold ksk_end
  try dsimp only
  simp only[Rz,if_false];have hl2:ks.length=vs.length:=hlen;by_cases h2:vs.toArray.size<2
  ·rw[if_pos h2,if_pos h2];refine U8 (U7 ?_);rw[StateT.run_pure];refine U8 (U7 ?_);dsimp only;refine tail (List.toArray (List.range vs.length)) _ ?_ rfl (Array.Perm.refl _) λi j hij hj=>?_
   ·refine kat_snds hl2 ?_;show(List.toArray ks).zip vs.toArray=_;have e:=kas_range ((List.toArray ks).zip vs.toArray);rw[show((List.toArray ks).zip vs.toArray).size=vs.length by simp[hl2]]at e;exact e.symm
   ·have:vs.length<2:=by simpa using h2
    have:i=j:=(by omega);subst this;exact QU _
  ·have h2':2<=vs.length:=by
    have:¬vs.length<2:=(by simpa using h2);omega
   rw[if_neg h2,if_neg h2];refine U8 (D7 (s:={s with heap:=h',toks:=tk}) ‹0› hsh ‹0› (λi hi=>hT i ‹0›) ?_);refine U8 (U3 (kat_run (Q:=λst' s'=>∃p:Array Nat,arrOf st'=p.map (kas_item ((List.toArray ks).zip vs.toArray))/\failedOf st'=none/\PM vs.length p/\Up (rank keys) p vs.length/\s'={s with heap:=h',toks:=tk})
    (G:=λp s'=>PM vs.length p/\Up (rank keys) p vs.length/\s'={s with heap:=h',toks:=tk})
    hl2 h2' h64 (λp' st' s' a1 a2 a3 a4=>⟨p',a2,a3,a4.1,a4.2.1,a4.2.2⟩) (by
     have:=Bs (prog:=prog) (w:=w) (A:=A) (s:={s with heap:=h',toks:=tk}) (ks:=ks) (keys:=keys) ‹0› hsh (λi hi=>hT i ‹0›)
     rw[hl2]at this;exact BA this ‹0› λp hp hu=>⟨hp,hu,rfl⟩)) ?_ λ_ _ e=>e)
   rintro⟨⟨⟩,st'⟩ s' ⟨p,har,hf,hp,hu,rfl⟩;dsimp only;exact tail p st' (kat_snds hl2 har) hf hp hu
theorem zt{src:UK}{f:UN}{vs:List UK}{keys:List (List D)}{σ:List Bool}{b:Bool}{Q:UK->UX->Prop}(h64:vs.length<64)(hl:keys.length=vs.length)(hsh:∀k∈keys,Sh (b::σ) k)
  (hcol:∀(Q':List UK->UX->Prop),(∀h' tk,(∀b o,s.heap.get? b=some o->h'.get? b=some o)->Q' vs {s with heap:=h',toks:=tk})->UZ (model prog w) A.in1 (collect src) Q' E s)
  (hc:∀ (i:Nat) (v:UK) (h':UP) (tk:Nat) (Q':UK->UX->Prop),vs[i]?=some v->(∀ c o,s.heap.get? c=some o->h'.get? c=some o) ->
   (∀k h'' tk',(∀c o,h'.get? c=some o->h''.get? c=some o)->uV (keys.getD i []) h'' k->Q' k {s with heap:=h'',toks:=tk'})->UZ (model prog w) A.in1.in1 (call (.ref f) [v]) Q' (λ_ _=>False) {s with heap:=h',toks:=tk})
  (h:∀(p:Array Nat)(h1 h':UP)(l:UN)(e tk:Nat),PM vs.length p->Up (rank keys) p vs.length->(∀b o,s.heap.get? b=some o->h1.get? b=some o)->(∀b o,h1.get? b=some o->h'.get? b=some o)->h1.objs.size<=l->h'.get? l=some (seqObj "list" (List.toArray (p.toList.map λi=>vs.getD i Value.none)) e)->Q (.ref l) {s with heap:=h',toks:=tk}):
  UZ (model prog w) A (call (.builtin "sorted") [src] [(Str.ofString "key",.ref f)]) Q E s:=by
 refine PyProof.Rows.call_function_entry_kw kind_sorted plain_sorted entry_sorted (ksk_s1 _ _) ?_;unfold Builtin.«sorted»;refine U8 (m:=checkCount "sorted" 1 1 _) (U7 ?_);refine U8 (hcol _ λh1 tk k1=>?_);refine U8 (Wc ?_ (by rw[Vi];omega));have hoL:(h1.push (seqObj "list" vs.toArray 0)).get? h1.objs.size=some (seqObj "list" vs.toArray 0):=Uh _ rfl;have k2:∀b o,s.heap.get? b=some o->(h1.push (seqObj "list" vs.toArray 0)).get? b=some o:=λb o e=>Ug _ (k1 b o e);have ne:∀b o,s.heap.get? b=some o->b≠h1.objs.size:=λb o e=>QK (Uc (k1 b o e));refine U8 (VE (wpAny_call_entry_kw slot_list_sort ⟨_,hoL,rfl⟩ entry_list_sort ?body (ksk_l1 _ _)))
 case body=>
  show UZ (model prog w) A.in1.in1 (Builtin.«list.sort» ⟨[.ref h1.objs.size],[(Str.ofString "key",.ref f)]⟩) _ _ _;rw[ksk_t1];refine Gr (s:={s with heap:=h1.push (seqObj "list" vs.toArray 0),toks:=tk}) hoL h64 hl hsh (λi v h' tk' Q' hv hk hq=>hc i v h' tk' Q' hv (λc o e=>hk c o (ne c o e) (k2 c o e)) hq) λp h' e tk' hp hu hk he=>⟨_,rfl,?_⟩
  refine U7 ⟨_,rfl,?_⟩;exact h p h1 h' h1.objs.size e tk' hp hu k1 (λb o q=>hk b o (QK (Uc q)) (Ug _ q)) (QU _) he
end
end TG
namespace TG
open PySem PySem.Spec PyProof.Rows PySem.W L2
variable[aW]
abbrev cutE(row many:Str)(np mp p2 pos:Pos):U0:=.Subscript (.Name row np) (.Slice none (some (.Name many mp)) none p2) pos
section
variable{prog:UM}{w:UL}{A:UW}{E:UK->UX->Prop}{s:UX}
theorem GJ{env:Env}{row many:Str}{np mp p2 pos:Pos}{r c:UN}{items:Array UK}{i:Int}{t:Tok}{m:Str->Option UK}{Q:UK->UX->Prop}
  (hk:env.scope.kind=.function) (hr:env.kindOf row=some .local) (hm:env.kindOf many=some .free) (hn:s.heap.Ns env.locals m) (hrow:m row=some (.ref r)) (hc:env.cells.lookup many=some c) (hcell:s.heap.IsCell c (some (.int i t)))
  (ht:UR s.heap r items) (hz:items.size<=UQ) (d1:(row==("__debug__":Str))=false) (d2:(many==("__debug__":Str))=false) (d3:(many==("__classdict__":Str))=false)
  (h:∀b h',(∀c o,s.heap.get? c=some o->h'.get? c=some o)->UR h' b (List.toArray (items.toList.take (HT.sIx items.size items.size (some i))))->Q (.ref b) {s with heap:=h'}):
  UZ (model prog w) A (eval (cutE row many np mp p2 pos) env) Q E s:=by
 refine VL (U4 (wpAny_loadName_local hk hr hn hrow ?_) d1);refine wpAny_Slice ?_;rw[VJ,evalPart_some];refine U7 (U4 (wpAny_loadName_free hk hm hc hcell ?_ d3) d2);refine U7 ?_;have kp:∀c o,s.heap.get? c=some o->(s.heap.push {cls:=.type "slice",data:=.fields #[.none,.int i t,.none]}).get? c=some o:=λc o q=>Ug _ q;have ht':UR (s.heap.push {cls:=.type "slice",data:=.fields #[.none,.int i t,.none]}) r items:=by
  obtain⟨o,e,q⟩:=ht;exact⟨o,kp _ _ e,q⟩
 have hs:(s.heap.push {cls:=.type "slice",data:=.fields #[.none,.int i t,.none]}).IsSliceOf s.heap.objs.size .none (.int i t) .none:=Heap.IsSliceOf.new ..
 show UZ (model prog w) A (subscriptTail (.Name row np) (.Slice none (some (.Name many mp)) none p2) (.ref r) (.ref s.heap.objs.size)) Q E {s with heap:=s.heap.push {cls:=.type "slice",data:=.fields #[.none,.int i t,.none]}};refine tail_any (ops:=[.ref s.heap.objs.size,.ref r]) ht'.typeIs slot_tuple_getitem.lookup ?_ (by with_unfolding_all rfl);by_cases hw:HT.sIx items.size 0 none=0/\HT.sIx items.size items.size (some i)=items.size
 ·refine jd (s:={s with heap:=s.heap.push {cls:=.type "slice",data:=.fields #[.none,.int i t,.none]}}) ht' hs .none (.int i t) hw ?_;refine h r _ kp ?_;rw[hw.2]
  have:items.toList.take items.size=items.toList:=SK (by simp)
  rw[this]
  simpa using ht'
 ·refine HT.B8 (s:={s with heap:=s.heap.push {cls:=.type "slice",data:=.fields #[.none,.int i t,.none]}}) ht' hs .none (.int i t) hw ?_ hz;refine h _ _ (λc o q=>Ug _ (kp c o q)) ?_;have e0:HT.sIx items.size 0 none=0:=rfl;rw[e0,RF,RX];exact⟨_,Uh _ rfl,rfl,_,rfl⟩
theorem E6{f c' cc r:UN}{row many qual:Str}{params:Vy}{scope:UY}{np mp p2 pos:Pos}{pm ctv:UK}{items:Array UK}{i:Int}{t:Tok}{Q:UK->UX->Prop}
  (hf:s.heap.get? f=some (Wi "<lambda>" qual params (cutE row many np mp p2 pos) scope [(many,cc)] pm c' ctv)) (hcd:s.heap.CodeRec (.ref c') qual) (hroom:A.depth<Vo) (hlim:s.heap.NoLimit)
  (hbind:∀v,bindArgs (kla_fn "<lambda>" qual params (cutE row many np mp p2 pos) scope [(many,cc)] pm (.ref c') ctv) ⟨[v],[]⟩=pure [(row,v)])
  (hco:scope.isCoroutine=false) (hgen:scope.isGenerator=false) (hk:scope.kind=.function) (hno:∀x∈scope.names,x.2≠.cell) (hr:scope.names.lookup row=some .local) (hm:scope.names.lookup many=some .free)
  (hcell:s.heap.IsCell cc (some (.int i t))) (ht:UR s.heap r items) (hz:items.size<=UQ) (d1:(row==("__debug__":Str))=false) (d2:(many==("__debug__":Str))=false) (d3:(many==("__classdict__":Str))=false)
  (h:∀b h' tk,(∀c o,s.heap.get? c=some o->h'.get? c=some o)->UR h' b (List.toArray (items.toList.take (HT.sIx items.size items.size (some i))))->Q (.ref b) {s with heap:=h',toks:=tk}):
  UZ (model prog w) A (call (.ref f) [.ref r]) Q E s:=by
 refine Vs (kla_callFunE hroom hf rfl hco hgen rfl hcd ?_);rw[hbind];refine U7 (wpAny_newFunctionEnv hno (λx hx=>?_) (λh₁ hns hsb=>⟨hlim.fresh _ hsb,?_⟩) hk)
 ·rw[SL]at hx;subst hx;exact hr
 ·show Vk _ _ (.expr (cutE row many np mp p2 pos) (envX qual scope s.heap.objs.size f (.ref c') [(many,cc)])) _ _;have hk₁:∀b o,s.heap.get? b=some o->h₁.get? b=some o:=λb o e=>hsb.extBut b o (QK (Uc e)) (Ug _ e);refine kla_codeExpr (GJ (m:=λx=>[(row,Value.ref r)].reverse.lookup x) (r:=r) (c:=cc) (t:=t) hk hr hm hns ?_ ?_ ?_ ?_ hz d1 d2 d3 λb h' kp tb=>h b h' _ (λc o e=>kp c o (hk₁ c o e)) tb)
  ·simp
  ·simp
  ·obtain⟨o,e,q⟩:=hcell;exact⟨o,hk₁ _ _ e,q⟩
  ·obtain⟨o,e,q⟩:=ht;exact⟨o,hk₁ _ _ e,q⟩
end
end TG
namespace TG
open PySem PySem.Spec PyProof.Rows PySem.W L2
variable[aW]
def CW(mg:Str->Option UK)(base:UP)(c P:UN):Prop:=CodeHd base c P/\∃bm ob,mg "__builtins__"=some (.ref bm)/\bm≠UU/\base.get? bm=some ob/\ob.cls=.type "module"/\ob.dict=some UU/\ob.data=.plain
section
variable{fs ex:List UN}{Pg:UM}{w:UL}{H:Hp}{h h':UP}{P c':UN}{φ:(UN->Prop)->UP->Prop}
theorem KJ(hP:H P=some (.ext φ))(k:∀b o,b≠P->h.get? b=some o->h'.get? b=some o)(hp:∃o,h'.get? P=some o)(hc:h.objs.size<=c')(hn:H c'=none):Un fs ex H (upd H c' (.own P)) h h' where
 keep:=λb u q n _ _=>k b u (λz=>by rw[z,hP]at n;cases n) q
 slot:=λb u q n _ _=>⟨u.slots,k b u (λz=>by rw[z,hP]at n;cases n) q⟩
 free:=λb u q n _=>by rw[aD (QK (QI (Uc q) hc))];exact n
 there:=λb u q _=>by
  by_cases z:b=P
  ·rw[z];exact hp
  ·exact⟨u,k b u z q⟩
 tups:=λb xs q=>by rw[aD (bc q hn)];exact q
 frzs:=λb u xs q=>by rw[aD (bc q hn)];exact q
 tbls:=λb ps q=>⟨#[],by rw[aD (bc q hn),q];simp⟩
theorem Hq(x:pT Pg w H h)(hP:H P=some (.ext φ))(k:∀b o,b≠P->h.get? b=some o->h'.get? b=some o)(hc:h.objs.size<=c')(ho:∃o,h'.get? c'=some o)(new:cH Pg w (upd H c' (.own P)) h' P (.ext φ)):pT Pg w (upd H c' (.own P)) h':=λb u e=>by
 have hn:=x.fresh hc;by_cases hb:b=c'
 ·subst hb;rw[aY]at e;cases e;exact ho
 ·rw[aD hb]at e;by_cases hb2:b=P
  ·subst hb2;rw[hP]at e;cases e;exact new
  ·refine(x b u e).stay (λc v hc' q=>k c v ?_ q) (λc q=>by rw[aD (bc q hn)];exact q) λc xs q=>by rw[aD (bc q hn)];exact q
   rcases hc' with rfl|hc'
   ·exact hb2
   ·rintro rfl;rw[hP]at hc';cases hc'
end
theorem CW.blt{mg:Str->Option UK}{base h:UP}{c P:UN}{m:Str->Option UK}(B:CW mg base c P)(kp:∀b o,base.get? b=some o->h.get? b=some o)(hP:base.get? P=none)(hg:base.Ns UT m):h.BuiltinsAt mg P:=by
 obtain⟨_,bm,ob,b1,b2,b3,b4,b5,b6⟩:=B;refine⟨bm,ob,b1,b2,λz=>?_,λz=>?_,kp _ _ b3,b4,b5,b6⟩
 ·subst z;obtain⟨o,es,ep,e,hd,_⟩:=hg;rw[e]at b3;cases b3;rw[hd]at b6;cases b6
 ·subst z;rw[hP]at b3;cases b3
section
variable{X:Cx}{pins:List (UN×Obj)}{s:UX}{σ:L2.St}{H:Hp}{E:UK->UX->Prop}
theorem EF{c P:UN}{lpos:Pos}{params:Vy}{body:U0}{scope:UY}{clos:List (Str×UN)}{Q:UK->UX->Prop}(I:Inv X pins σ H s)(B:CW X.mg X.base c P)(hcode:X.env.code=.ref c)(hP:H P=some (.ext (qq P lpos (X.env.qual++"<lambda>"))))
  (hdef:defaultsOf params X.env=([],[])) (hcl:closureFor scope X.env=pure clos)
  (h:∀f c' ctv s' H',Inv X pins σ H' s'->bj H H'->s'.heap.get? f=some (Wi "<lambda>" (X.env.qual++"<lambda>") params body scope clos ((X.mg "__name__").getD .none) c' ctv)->s'.heap.CodeRec (.ref c') (X.env.qual++"<lambda>")->Q (.ref f) s'):
  UZ (model X.prog X.w) X.A (eval (.Lambda params body scope lpos) X.env) Q E s:=by
 have hg:s.heap.Ns UT X.mg:=I.mod.glob.keeps I.bk;have hPn:X.base.get? P=none:=by
  cases q:X.base.get? P with
  |none=>rfl
  |some o=>have:=(I.bs P o q).2;rw[hP]at this;cases this
 have hgP:UT≠P:=λz=>by
  obtain⟨o,es,ep,e,_⟩:=I.mod.glob;rw[z,hPn]at e;cases e
 have hb:=B.blt I.bk hPn I.mod.glob;have C:=B.1.keeps I.bk;obtain⟨tb,_,_⟩:=I.hok P _ hP;refine kla_eval hdef ?_;rcases tb with e|⟨c',hc',e,hrec⟩
 ·refine kla_makeFunction hcl I.ok.glob hg hcode C e trivial rfl hgP hb λc' ctv h' tk hx hge hlt hrec htb=>?_;have hn:=I.hok.fresh hge;have htb':h'.get? P=some (tabObj #[rawInt lpos.line,rawInt lpos.col,.ref c']):=by simpa using htb
  have kp:∀b o,b≠P->s.heap.get? b=some o->(h'.push (Wi "<lambda>" (X.env.qual++"<lambda>") params body scope clos ((X.mg "__name__").getD .none) c' ctv)).get? b=some o:=λb o hb' q=>Ug _ (hx b o hb' q);have hrec':(h'.push (Wi "<lambda>" (X.env.qual++"<lambda>") params body scope clos ((X.mg "__name__").getD .none) c' ctv)).CodeRec (.ref c') (X.env.qual++"<lambda>"):=by
   obtain⟨c2,oc,vs,t,ec,eo,r⟩:=hrec;exact⟨c2,oc,vs,t,ec,Ug _ eo,r⟩
  have hco:∃o,(h'.push (Wi "<lambda>" (X.env.qual++"<lambda>") params body scope clos ((X.mg "__name__").getD .none) c' ctv)).get? c'=some o:=by
   obtain⟨c2,oc,vs,t,ec,eo,r⟩:=hrec;cases ec;exact⟨oc,Ug _ eo⟩
  refine h _ c' ctv _ (upd H c' (.own P)) (I.un (KJ hP kp ⟨_,Ug _ htb'⟩ hge hn) (Hq I.hok hP kp hge hco (qq.ok (.inr ⟨c',aY,Ug _ htb',hrec'⟩)))) (bL hn _) (Uh _ rfl) hrec'
 ·refine kla_makeFunctionHit (cv:=.ref c') hcl I.ok.glob hg hcode C e trivial ?_ hb λctv h' tk hk hsz=>?_
  ·show(if((lpos.line:Int)==(lpos.line:Int)&&(lpos.col:Int)==(lpos.col:Int))=true then some (Value.ref c')else _)=_;simp
  ·have kp:∀b o,s.heap.get? b=some o->(h'.push (Wi "<lambda>" (X.env.qual++"<lambda>") params body scope clos ((X.mg "__name__").getD .none) c' ctv)).get? b=some o:=λb o q=>Ug _ (hk b o q);refine h _ c' ctv _ H (I.kept kp) (bj.refl H) (Uh _ rfl) ?_;obtain⟨c2,oc,vs,t,ec,eo,r⟩:=hrec;exact⟨c2,oc,vs,t,ec,kp _ _ eo,r⟩
end
def vo(m:Nat):D->List D
 |.tup ks=>ks.take m
 |_=>[]
def Mp(m:Nat)(xs:List D):Prop:=xs.length<64/\∃σ:List Bool,σ≠[]/\(∀x∈xs,∃k,x=.tup k/\Sh σ (k.take m))/\xs.Pairwise λx y=>vo m x≠vo m y
open Classical in
noncomputable def tT(m:Nat)(xs:List D):Option D:=if Mp m xs then some (.lst (ki (vo m) xs))else none
noncomputable def rA:D->D->Option D
 |.lst xs,.int i=>if 0<=i then tT i.toNat xs else none
 |.tup xs,.int i=>if 0<=i then tT i.toNat xs else none
 |_,_=>none
theorem wu:∀{vs:List V}{us:List UK}(n:Nat),Vals vs us->Vals (vs.take n) (us.take n)
 |_,_,0,_=>by rw[RC,RC];exact .nil
 |_,_,_+1,.nil=>.nil
 |_,_,n+1,.cons r t=>by rw[RE,RE];exact .cons r (wu n t)
theorem HA{i:Int}(h:0<=i)(n:Nat):HT.sIx n n (some i)=min i.toNat n:=by
 show(if i<0 then _ else _)=_;rw[if_neg ‹0›]
theorem my:UV "sorted"=some (.builtin "sorted"):=by first|rfl|decide +kernel
section
variable{X:Cx}{pins:List (UN×Obj)}{s:UX}{σ:L2.St}{H:Hp}{O:List UN}
theorem AR{u:UK}{ds:List D}{vs:List V}{its:List UK}{d:D}{i:Int}{t:Tok}{c' cc f:UN}{row many qual:Str}{params:Vy}{scope:UY}{np mp p2 pos:Pos}{pm ctv:UK}{Q:VK}
  (I:Inv X pins σ H s) (hO:dU H O) (dn:bb X.K (hid H O) ds vs) (rv:Vals vs its) (h0:0<=i) (hs:tT i.toNat ds=some d)
  (hf:s.heap.get? f=some (Wi "<lambda>" qual params (cutE row many np mp p2 pos) scope [(many,cc)] pm c' ctv)) (hcd:s.heap.CodeRec (.ref c') qual) (hroom:X.A.depth<Vo)
  (hbind:∀v,bindArgs (kla_fn "<lambda>" qual params (cutE row many np mp p2 pos) scope [(many,cc)] pm (.ref c') ctv) ⟨[v],[]⟩=pure [(row,v)])
  (hco:scope.isCoroutine=false) (hgen:scope.isGenerator=false) (hk:scope.kind=.function) (hno:∀x∈scope.names,x.2≠.cell) (hr:scope.names.lookup row=some .local) (hm:scope.names.lookup many=some .free)
  (hcell:s.heap.IsCell cc (some (.int i t))) (d1:(row==("__debug__":Str))=false) (d2:(many==("__debug__":Str))=false) (d3:(many==("__classdict__":Str))=false)
  (hcol:∀(Q':List UK->UX->Prop),(∀h' tk,(∀b o,s.heap.get? b=some o->h'.get? b=some o)->Q' its {s with heap:=h',toks:=tk})->UZ (model X.prog X.w) X.A.in1 (collect u) Q' X.xe s)
  (q:∀v H',bj H H'->cJ X.K (hid H' O) d v->Q v H'):UZ (model X.prog X.w) X.A (call (.builtin "sorted") [u] [(Str.ofString "key",.ref f)]) (EP X pins σ Q) X.xe s:=by
 have l1:=dn.length;have l2:=rv.length;unfold tT at hs;split at hs
 ·rename_i hS;cases hs;obtain⟨h64,σ',hσ,hsh,pw⟩:=hS;obtain⟨b,σ1,rfl⟩:∃b σ1,σ'=b::σ1:=by
   cases σ' with
   |nil=>exact absurd rfl hσ
   |cons b σ1=>exact⟨b,σ1,rfl⟩
  have hsh':∀x∈ds,Sh (b::σ1) (vo i.toNat x):=λx hx=>by
   obtain⟨k,rfl,hk⟩:=hsh x hx;exact hk
  refine zt (keys:=ds.map (vo i.toNat)) (σ:=σ1) (b:=b) ‹0› (by rw[Q2];omega) (λk hk=>by obtain⟨x,hx,rfl⟩:=List.mem_map.mp hk;exact hsh' x hx) hcol (λj v h' tk Q' hv kp hq=>?_) λp h1 h' l e tk hp hu k1 k2 hl he=>?_
  ·have hj:j<its.length:=by
    rcases SH j its.length with z|z
    ·exact z
    ·rw[SJ z]at hv;cases hv
   have hj':j<ds.length:=(by omega);obtain⟨v0,e1,dv⟩:=dn.get (i:=j) (d:=ds[j]) (by simp[hj']);obtain⟨w,e2,rw'⟩:=rv.get e1;rw[hv]at e2;cases e2;obtain⟨k,ek,hk'⟩:=hsh _ (Sz hj');have ekey:(ds.map (vo i.toNat)).getD j []=k.take i.toNat:=by
    have:(ds.map (vo i.toNat)).getD j []=vo i.toNat ds[j]:=(by simp[hj']);rw[this,ek];rfl
   rw[ekey]at hq;rw[ek]at dv;obtain⟨a,ws,rfl,ha,dk⟩:=cN.mp dv;cases rw';obtain⟨it2,r2,ht,hz⟩:=I.tuple (bW (aB H O) ha);have hz':it2.toArray.size<=UQ:=(by rw[QY,<-r2.length];exact hz);refine E6 (s:={s with heap:=h',toks:=tk}) (i:=i) (t:=t) (kp _ _ hf) ?_ hroom (I.nolimit.keeps kp) hbind hco hgen hk hno hr hm ?_ (items:=it2.toArray) ?_ hz' d1 d2 d3 λb2 h'' tk' kp2 tb=>?_
   ·obtain⟨c2,oc,vs',t',ec,eo,r⟩:=hcd;exact⟨c2,oc,vs',t',ec,kp _ _ eo,r⟩
   ·obtain⟨o,e,q⟩:=hcell;exact⟨o,kp _ _ e,q⟩
   ·obtain⟨o,e,q⟩:=ht;exact⟨o,kp _ _ e,q⟩
   ·refine hq _ h'' tk' kp2 ?_;obtain⟨o,eo,hc,n,hd⟩:=tb;refine⟨b2,o,_,n,rfl,eo,hc,hd,?_⟩;have e3:(List.toArray (it2.toArray.toList.take (HT.sIx it2.toArray.size it2.toArray.size (some i)))).toList=it2.take i.toNat:=by
     rw[HA h0];simp only[QY,SG];rcases SM i.toNat it2.length with z|z
     ·rw[SN z]
     ·rw[SR z,SK (QU _),SK z]
    rw[e3];exact lA (sU hk') (dk.take i.toNat) (wu i.toNat r2)
  ·have el:its.length=ds.length:=(by omega);rw[el]at hp hu;have ps:=rK (key:=vo i.toNat) hsh' pw hp hu;have hr:p.toList.Perm (List.range ds.length):=by
    have:=Array.perm_iff_toList_perm.mp hp
    simpa using this
   have hlt:∀i∈p.toList,i<ds.length:=λi hi=>by simpa using hr.mem_iff.mp hi
   have I1:Inv X pins σ H {s with heap:=h1,toks:=tk}:=I.kept k1;have hn:H l=none:=I1.hok.fresh hl;have rv':=rd rv p.toList λi hi=>by have:=hlt i hi;omega
   have dn':=qJ dn p.toList hlt;have hlen:p.toList.length=ds.length:=(by rw[hr.length_eq,RV]);refine⟨.ref l,_,Inv.laid (s:={s with heap:=h1,toks:=tk}) (t':=tk) I1 k2 hl (show cH X.prog X.w _ h' _ (.lst (p.toList.map λi=>vs.getD i .non))from⟨by rw[Q2,hlen,Vi];omega,_,e,rv',he⟩),rfl,?_⟩;refine q _ _ (bL hn _) ?_;rw[<-ps];exact dH hO hn dn'
 ·cases hs
theorem LD{f:FX}{j:Nat}{k:Nat}{c P cc:UN}{e:U0}{p lpos kp pos np mp p2 spos:Pos}{row many:Str}{params:Vy}{scope:UY}
  (hr:fY k X.A) (hg:Gl X "sorted") (hm:X.mg "sorted"=none) (B:CW X.mg X.base c P) (hcode:X.env.code=.ref c) (hT:∀H,aW.tab H->H P=some (.ext (qq P lpos (X.env.qual++"<lambda>"))))
  (he:FE X e f) (hN:X.N[j]?=some many) (hkm:X.env.kindOf many=some .cell) (hv:J9 X.env.scope many) (hcc:X.env.cells.lookup many=some cc) (hcl:closureFor scope X.env=pure [(many,cc)]) (hdef:defaultsOf params X.env=([],[]))
  (hbind:∀cdv ctv v,bindArgs (T6 "<lambda>" (X.env.qual++"<lambda>") params (cutE row many np mp p2 spos) scope [(many,cc)] ((X.mg "__name__").getD .none) cdv ctv) ⟨[v],[]⟩=pure [(row,v)])
  (hco:scope.isCoroutine=false) (hgen:scope.isGenerator=false) (hk:scope.kind=.function) (hno:∀x∈scope.names,x.2≠.cell) (hlr:scope.names.lookup row=some .local) (hlm:scope.names.lookup many=some .free)
  (d1:(row==("__debug__":Str))=false) (d2:(many==("__debug__":Str))=false) (d3:(many==("__classdict__":Str))=false) (hns:noStar e=true:=by rfl):
  FE X (.Call (.Name "sorted" p) [e] [⟨some "key",.Lambda params (cutE row many np mp p2 spos) scope lpos,kp⟩] pos) (f2 rA f (ah j)):=by
 intro pins s σ H Q I ⟨O,ρ,E,hF⟩;refine Vu (ky I hg hm my ?_);have st:backTo pos (U1 [e] X.env)=(false,eval e X.env)::backTo pos (U1 [] X.env):=by rw[dh hns];rfl
 refine Uw ?_ ?_ (gz (by rw[RH,hns];rfl))
 ·refine dL (j6 he pF (dh hns) pos pins s σ H (λvs H1=>∃v d a m,vs=[v]/\bj H H1/\ρ[j]?=some (some (.val m))/\rA a m=some d/\cJ X.K (hid H1 O) a v/\∀v H',bj H H'->cJ X.K (hid H' O) d v->Q v H') I ⟨O,ρ,E,(ji.bind hF).imp λa hF v H1 s1 d1=>?_⟩) λus s1 ⟨vs,H1,I1,rv,v,d,a,m,ev,s1',em,hd,dn,q⟩=>?_
  ·obtain⟨m,em,hF⟩:=wJ (ji.bind hF);obtain⟨d,e,q⟩:=ji.rO hF;exact⟨v,d,a,m,rfl,s1,em,e,d1,q⟩
  ·subst ev;obtain⟨u,eu,ru⟩:=vals1 rv;subst eu;have E1:=E.same s1';show UZ _ _ (evalAll ((do let v<-eval (.Lambda params (cutE row many np mp p2 spos) scope lpos) X.env;standAt pos;pure v)::[])) _ _ s1;refine wpAny_evalAll_cons (U8 (EF I1 B hcode (hT _ E1.all.1) hdef hcl λfa c' ctv s2 H2 I2 s2' hfa hcr=>U8 (Vw (U7 (wpAny_evalAll_nil ?_)))));show UZ (model X.prog X.w) X.A (call (.builtin "sorted") [u] [(Str.ofString "key",.ref fa)]) (EP X pins σ Q) X.xe s2;have E2:=E1.same s2';obtain⟨vm,e3,dm⟩:=E2.val j m em;have core:∀(i:Int)(xs:List D),m=.int i->0<=i->tT i.toNat xs=some d->∀(ys:List V)(its:List UK),bb X.K (hid H2 O) xs ys->Vals ys its->
     (∀(Q':List UK->UX->Prop),(∀h' tk,(∀b o,s2.heap.get? b=some o->h'.get? b=some o)->Q' its {s2 with heap:=h',toks:=tk})->UZ (model X.prog X.w) X.A.in1 (collect u) Q' X.xe s2)->
     UZ (model X.prog X.w) X.A (call (.builtin "sorted") [u] [(Str.ofString "key",.ref fa)]) (EP X pins σ Q) X.xe s2:=by
    intro i xs ei h0 hs ys its dl ri hcol;subst ei;rw[fE]at dm;subst dm;obtain⟨mm,hns',hl⟩:=I2.loc;obtain⟨uv,ruv,lk⟩:=hl j many (.int i) hN e3 hv;obtain⟨t,rfl⟩:=ruv;have hcell:s2.heap.IsCell cc (some (.int i t)):=by
     rcases lk with⟨z,_⟩|⟨_,c2,ec,hc2⟩
     ·rw[hkm]at z;cases z
     ·rw[hcc]at ec;cases ec;exact hc2
    have dp:=hr.dp;exact AR I2 E2.all dl ri h0 hs hfa hcr ‹0› (λv=>hbind (.ref c') ctv v) hco hgen hk hno hlr hlm hcell d1 d2 d3 hcol λv H' sm dd=>q v H' ((s1'.trans s2').trans sm) dd
   have dn2:=dn.mono (bN (O:=O) s2');unfold rA at hd;split at hd
   ·rename_i xs i;split at hd
    ·rename_i h0;obtain⟨l,ys,el,g1,g2⟩:=cT.mp dn2;subst el;cases ru;obtain⟨its,ri,pl,hz⟩:=I2.list ((aB H2 O).seq g1);have hlen:=ri.length;obtain⟨o,ho,hc,n,hd'⟩:=pl.isList;exact core i xs rfl h0 hd ys its g2 ri λQ' hQ=>Wd l (.inl rfl) ho hc hd' (λh' k=>by simpa using hQ h' s2.toks k) (by simp only[QY]<;>omega)
    ·cases hd
   ·rename_i xs i;split at hd
    ·rename_i h0;obtain⟨l,ys,el,g1,g2⟩:=cN.mp dn2;subst el;cases ru;obtain⟨its,ri,⟨o,ho,hc,n,hd'⟩,hz⟩:=I2.tuple (bW (aB H2 O) g1);have hlen:=ri.length;exact core i xs rfl h0 hd ys its g2 ri λQ' hQ=>Wd l (.inr rfl) ho hc hd' (λh' k=>by simpa using hQ h' s2.toks k) (by simp only[QY]<;>omega)
    ·cases hd
   ·cases hd
 ·exact st
end
end TG
namespace TG
open PySem PySem.Spec PyProof.Rows PySem.W L2
section
variable[aW]{P:UM}{w:UL}{K:Tu}{mg:Str->Option UK}{base:UP}
def vP(K:Tu)(f:UN)(cdv:UK):Prop:=∃oc od fd sl,K.lookup f=some ⟨oc,od,.func fd,sl⟩/\fd.code=cdv
theorem vP.one{f:UN}{a b:UK}(h:vP K f a)(h':vP K f b):a=b:=by
 obtain⟨oc,od,fd,sl,e,r⟩:=h;obtain⟨oc',od',fd',sl',e',r'⟩:=h';rw[e]at e';cases e';rw[<-r,<-r']
structure xX(P:UM)(w:UL)(K:Tu)(mg:Str->Option UK)(base:UP)(k:Nat)(N:List Str)(qual:Str)(st:U2)(f:UN)(B:cn):Prop where
 h:∀(cdv:UK)(A:UW)(outer:List Env)(s:UX)(H:Hp)(E:XK),vP K f cdv->fY k (A.deeper (envOfC qual (ax st) s.heap.objs.size f cdv))->Vb (model P w) (A.deeper (envOfC qual (ax st) s.heap.objs.size f cdv)) (envOfC qual (ax st) s.heap.objs.size f cdv) (kB (oW P w) P w K mg base N qual (ax st) f cdv A outer s H E).xe->
  Ac (kB (oW P w) P w K mg base N qual (ax st) f cdv A outer s H E) (fw st) B
theorem Ge{x qual:Str}{st:U2}{f:UN}{fd:Vq}{N ps:List Str}{k:Nat}{B:cn}(F:uT K x qual st f fd)(SC:aM N ps (ax st))(hb:xX P w K mg base k N qual st f B):
  jT P w K mg base (oW P w) (k+1) f fd ps (El K ps.length (aK B ps.length N.length)):=by
 obtain⟨oc,od,kV,doc,pm,an,cd,ct,osl,rfl,lk,hcd⟩:=F.ex;refine GU lk hcd SC (λvs H Q E h=>?_) λA outer s H vs Q E hr h=>?_
 ·obtain⟨O,ds,h1,_⟩:=h;exact h1
 ·obtain⟨O,ds,h1,h2,h3,h4⟩:=h;have hl:ds.length=ps.length:=h3.length.trans h1;have e4:aK B ps.length N.length ds=B K0 (env0 N.length ds):=by unfold aK;rw[if_pos hl]
  rw[e4]at h4;refine⟨_,hb.h cd A outer s H E ⟨_,_,_,_,lk,rfl⟩ hr PassesOwn.leaving H O,O,env0 N.length ds,K0,_,⟨ur h2 h3,⟨bj.refl H,λ_ z=>z,λa z=>.inl z⟩,λi xs a e=>?_,λi d e=>by obtain⟨d',_,e2⟩:=jO i _ e;cases e2⟩,rfl,?_⟩
  ·obtain⟨d',_,e2⟩:=jO i _ e;cases e2
  ·generalize B K0 (env0 N.length ds)=r at h4;refine⟨λz=>by rw[z]at h4;exact h4,λO' ρ' σ' H' S e=>?_,λO' ρ' σ' H' S e=>?_,λO' ρ' σ' H' S e=>?_,λd O' v H' e b dv=>?_,λO' ρ' σ' H' x S e=>?_⟩
   ·have e:(.ok .non:R D)=r:=e;subst e;exact h4 .non H' S.base.same (mj.mpr rfl)
   ·have e:(un:R D)=r:=e;subst e;exact h4.elim
   ·have e:(un:R D)=r:=e;subst e;exact h4.elim
   ·subst e;exact h4 v H' b.same (dv.mono (iQ b.sub))
   ·have e:(.error (some x):R D)=r:=e;subst e;exact Gp h4 S.base.same S.base.sub
theorem AA{x qual:Str}{st:U2}{f:UN}{fd:Vq}{N ps:List Str}{k:Nat}{B:cn}(F:uT K x qual st f fd)(b:Binds K fd ps [])(m:mg x=some (.ref f))(SC:aM N ps (ax st))(hb:xX P w K mg base k N qual st f B):
  Callee P w K mg base (k+1) x ps (aK B ps.length N.length):=⟨f,fd,Ge F SC hb,b,F.kp,m⟩
end
def As(mg:Str->Option UK)(base:UP):Prop:=∃bm ob,mg "__builtins__"=some (.ref bm)/\bm≠UU/\base.get? bm=some ob/\ob.cls=.type "module"/\ob.dict=some UU/\ob.data=.plain
theorem HL{K:Tu}{mg:Str->Option UK}{base:UP}{c P:UN}(X:K.In base)(e:codeHdIn K c P=true)(b:As mg base):CW mg base c P:=⟨codeHd_of_K X e,b⟩
theorem IW{P:UM}{w:UL}{K:Tu}{mg mb:Str->Option UK}{CX:Ae}{k:Nat}{fa a c T:UN}{lpos:Pos}{q:Str}{fd:Vq}{x:Str}{sp:Sp}{s₁:UX}{vs:List UK}{ns:List Int}
  (KX:K.In s₁.heap) (hns:s₁.heap.Ns UT mg) (hb:s₁.heap.Ns UU mb) (hbb:∀x:Str,x≠"__name__"->mb x=UV x) (hlim:s₁.heap.NoLimit) (hg:s₁.gens=#[]) (hbm:As mg s₁.heap)
  (hT:s₁.heap.get? T=some (tabObj #[])) (hC:codeHdIn K c T=true) (hKT:K.lookup T=none)
  (ha:s₁.heap.get? a=some {cls:=.type "list",data:=.seq vs.toArray}) (hi:IntsAre vs ns) (hl:ns.length<=UQ) (hr:fY k callerA)
  (F:∀base:UP,K.In base->base.Ns UT mg->As mg base->jT P w K mg base CX k fa fd [x] sp) (hbind:∀(s:UX)(u:UK),Vr s fd ⟨[u],[]⟩ [(x,u)])
  (hsp:∀H:Hp,H T=some (.ext (qq T lpos q))->pH K H a (ns.map V.int)->sp [.ref a] H (λv H'=>v=.bl true/\bj H H') λ_ _ _=>False)
  (hCX:∀H e s',CX [] H s₁ (λ_ _ _=>False) e s'->False):
  Vk (model P w) callerA (.call (.ref fa) ⟨[.ref a],[]⟩) (λr s'=>r=.ok (.ret (.bool true))/\OldK s₁.heap s'.heap/\s'.os=s₁.os/\AllBare s'.gens) s₁:=by
 have rv:=wt hi;have lenV:=hi.length;have aT:a≠T:=λz=>by rw[z,hT]at ha;cases ha
 obtain⟨H,hH⟩:∃H:Hp,H=λb=>if b=T then some (.ext (qq T lpos q))else if b=a/\(K.lookup a).isNone=true then some (.frz {cls:=.type "list",data:=.seq vs.toArray} (.lst (ns.map V.int)))else none:=⟨_,rfl⟩
 have hHT:H T=some (.ext (qq T lpos q)):=by rw[hH];exact if_pos rfl
 have cases':∀b u,H b=some u->(b=T/\u=.ext (qq T lpos q))\/(b=a/\K.lookup a=none/\u=.frz {cls:=.type "list",data:=.seq vs.toArray} (.lst (ns.map V.int))):=λb u e=>by
  rw[hH]at e;by_cases z:b=T
  ·have e:=(if_pos z).symm.trans e;cases e;exact .inl ⟨z,rfl⟩
  ·have e:=(if_neg z).symm.trans e;by_cases z':b=a/\(K.lookup a).isNone=true
   ·have e:=(if_pos z').symm.trans e;cases e;exact .inr ⟨z'.1,by simpa using z'.2,rfl⟩
   ·have e:=(if_neg z').symm.trans e;cases e
 have free:∀b o,s₁.heap.get? b=some o->o.cls≠.none->o.cls≠.type "list"->H b=none:=λb o e h1 h2=>by
  cases z:H b with
  |none=>rfl
  |some u=>
   rcases cases' b u z with⟨e1,_⟩|⟨e1,_⟩
   ·rw[e1,hT]at e;cases e;exact absurd rfl h1
   ·rw[e1,ha]at e;cases e;exact absurd rfl h2
 have freeD:∀b o es ep,s₁.heap.get? b=some o->o.data=.dict es ep->H b=none:=λb o es ep e d=>by
  cases z:H b with
  |none=>rfl
  |some u=>
   rcases cases' b u z with⟨e1,_⟩|⟨e1,_⟩
   ·rw[e1,hT]at e;cases e;cases d
   ·rw[e1,ha]at e;cases e;have d':Data.seq vs.toArray _=Data.dict es ep:=d;cases d'
 have hS:pH K H a (ns.map V.int):=by
  cases hk:K.lookup a with
  |some o=>
   have e:=KX a o hk;rw[ha]at e;cases e;exact .inr ⟨_,vs.toArray,_,hk,rfl,rfl,rfl,by rw[QY,lenV];exact hl,by simpa using rv⟩
  |none=>
   refine .inl (.inr ⟨{cls:=.type "list",data:=.seq vs.toArray},?_⟩);rw[hH];exact(if_neg aT).trans (if_pos ⟨rfl,by rw[hk];rfl⟩)
 have hok:pT P w H s₁.heap:=λb u e=>by
  rcases cases' b u e with⟨e1,e2⟩|⟨e1,_,e2⟩
  ·subst e1 e2;exact qq.ok (.inl hT)
  ·subst e1 e2;exact⟨ha,by rw[Q2];exact hl,vs,_,rv,ha⟩
 have nsK:∀{b:UN}{m:Str->Option UK},s₁.heap.Ns b m->(xY s₁.heap H).Ns b m:=λ{b m} ⟨o,es,ep,e,d,r⟩=>⟨o,es,ep,uL e (freeD b o es ep e d),d,r⟩
 have hKb:K.In (xY s₁.heap H):=λb o e=>uL (KX b o e) (by
  cases z:H b with
  |none=>rfl
  |some u=>
   rcases cases' b u z with⟨e1,_⟩|⟨e1,e2,_⟩
   ·rw[e1,hKT]at e;cases e
   ·rw[e1,e2]at e;cases e)
 have hbm':As mg (xY s₁.heap H):=by
  obtain⟨bm,ob,b1,b2,b3,b4,b5,b6⟩:=hbm;refine⟨bm,ob,b1,b2,uL b3 (free bm ob b3 ?_ ?_),b4,b5,b6⟩
  ·rw[b4];simp
  ·rw[b4];simp
 have hM:Mod K mg (xY s₁.heap H):=⟨hKb,nsK hns,⟨mb,nsK hb,hbb⟩,let ⟨mc,h1,h2⟩:=hlim;⟨mc,nsK h1,h2⟩⟩
 have e0:D3 P w K mg (xY s₁.heap H) callerA [] s₁ H:=⟨rfl,hM,λb o e=>HD e,Q3 (De _ _),trivial,λb hb=>absurd (show b∈([]:List UN)from hb) (by simp),hok,.of_eq hg⟩
 refine Vt ((F _ hKb (nsK hns) hbm').run callerA [] s₁ H ⟨[.ref a],[]⟩ [.ref a] [.ref a] _ _ hr e0 (hbind s₁ (.ref a)) (.cons rfl .nil) (hsp H hHT hS)) λr s' h=>?_;cases r with
 |error e=>exact(hCX H e s' h).elim
 |ok fl=>
  cases fl with
  |next=>exact False.elim h
  |brk=>exact False.elim h
  |cont=>exact False.elim h
  |ret u=>
   obtain⟨v,H',os,bare,unn,hok',r',q'⟩:=h;obtain⟨ev,sm⟩:v=.bl true/\bj H H':=q';subst ev;obtain rfl:u=Value.bool true:=r';have tb:=(hok' T _ (sm _ _ hHT)).1;obtain⟨ps,hps⟩:∃ps,s'.heap.get? T=some (tabObj ps):=by
    rcases tb with e|⟨_,_,e,_⟩
    ·exact⟨_,e⟩
    ·exact⟨_,e⟩
   have keep:∀b o,b≠T->s₁.heap.get? b=some o->s'.heap.get? b=some o:=λb o hb e=>by
    cases z:H b with
    |none=>exact unn.keep b o e z (by intro z;exact absurd (show b∈([]:List UN)from z) (by simp)) (by simp)
    |some u=>
     rcases cases' b u z with⟨e1,_⟩|⟨e1,_,e2⟩
     ·exact absurd e1 hb
     ·subst e2;have z2:=sm _ _ z;obtain⟨e3,_⟩:=hok' b _ z2;rw[e1,ha]at e;cases e;exact e3
   refine⟨rfl,⟨λb o e=>?_,λb o e=>?_⟩,os,bare⟩
   ·by_cases hb:b=T
    ·subst hb;rw[hT]at e;cases e;exact .inr (.inl ⟨((codeHd_of_K KX hC).tab hT).isCodeTable,rfl,#[],ps,rfl,by rw[Array.empty_append];exact hps⟩)
    ·exact .inl (keep b o hb e)
   ·by_cases hb:b=T
    ·subst hb;exact⟨_,hps⟩
    ·exact⟨o,keep b o hb e⟩
theorem Fg{l:T7}{n k:Nat}{q:UM}{loose:List Str}{XP:(Str->Option UK)->UP->Prop}{YP:UL->UP->Prop}{d:DefRec}{K:Params->Tu}{CX:UL->Ae}{sp:UL->Sp}{x qn:Str}{T:UN}{lpos:Pos}
  (hn:l.most=some n) (hn2:n<=UQ) (hdf:d.params.defaults=[]) (hr:fY k callerA)
  (hY:∀(w:UL)(h:UP),YP w h->(K w.params).In h/\h.get? T=some (tabObj #[]))
  (F:∀ (w:UL) (mg:Str->Option UK) (fa:UN) (h:UP),(K w.params).In h->h.Ns UT mg->mg d.name=some (.ref fa) ->
   (∃c,codeHdIn (K w.params) c T=true)/\(K w.params).lookup T=none/\∃fd:Vq,(∀(s:UX)(u:UK),Vr s fd ⟨[u],[]⟩ [(x,u)])/\
    ∀base:UP,(K w.params).In base->base.Ns UT mg->As mg base->jT l.prog w (K w.params) mg base (CX w) k fa fd [x] (sp w))
  (hsp:∀(w:UL)(H:Hp)(a:UN)(ns:List Int),ns.length<=n->H T=some (.ext (qq T lpos qn))->pH (K w.params) H a (ns.map V.int)->sp w [.ref a] H (λv H'=>v=.bl true/\bj H H') λ_ _ _=>False)
  (hCX:∀(w:UL)(H:Hp)(s:UX)(e:UK)(s':UX),CX w [] H s (λ_ _ _=>False) e s'->False):
  PySem.W.WalkO q loose XP YP l.row.toRowW d [] (λf vs=>PySem.call f vs):=by
 refine Att.Jn hn hdf λw s₀ s₁ mg mb fa o pm cd doc a vs ns G Y ho hd hcd hmg hobj hints hlen hg=>?_;obtain⟨KX,hT⟩:=hY w _ Y;obtain⟨⟨c,hC⟩,hKT,fd,hb,hF⟩:=F w mg fa _ KX G.T.g hmg;exact IW KX G.T.g G.T.b G.T.builtins G.T.nolimit hg G.T.bmain hT hC hKT hobj hints (QL hlen hn2) hr hF hb (λH hO hS=>hsp w H a ns hlen hO hS) λH e s'=>hCX w H s₁ e s'
open PySem PySem.Spec PySem.Calls L2
open PySem.SeqAt (EqAt list_indexAt)
variable[aW]
section
variable{X:Cx}{p pos:Pos}{e:U0}
end
end TG
namespace TG
open PySem PySem.Spec L2
variable[aW]
end TG
namespace TG
open PySem PySem.Spec PySem.Calls L2
open PySem.SeqAt (EqAt list_countAt)
variable[aW]
def x5:=Lw (λ_ j=>decide (0<=j)) λi j=>i/2^j.toNat
theorem Br{K:Tu}:cX K (rI (λ_ j=>0<=j) λi j=>.int (i/2^j.toNat)) x5:=li λ_ _ h=>of_decide_eq_true h
def rY:=Jp λi j=>.int (Builtin.bitAnd i j)
theorem Al{K:Tu}:cX K (C9 λi j=>.int (Builtin.bitAnd i j)) rY:=ue
def rN:List D->List D->Option (List (Key×D))
 |[],[]=>some []
 |k::ks,d::ds=>(keyOf k).bind λk=>(rN ks ds).map ((k,d)::·)
 |_,_=>none
abbrev iR(al:List (Key×D)):List D:=al.map λp=>bx p.1
abbrev yP(al:List (Key×D)):D:=.dct (iR al) (al.map (·.2))
theorem mB(k:Key):keyOf (bx k)=some k:=by cases k<;>rfl
theorem uH{a b:Key}(h:bx a=bx b):a=b:=by
 have e:=congrArg keyOf h;rw[mB,mB]at e;exact Option.some.inj e
theorem yn:∀{ks ds:List D}{al:List (Key×D)},rN ks ds=some al->ks=iR al/\ds=al.map (·.2)
 |[],[],_,h=>by cases h;exact⟨rfl,rfl⟩
 |k::ks,d::ds,al,h=>by
  unfold rN at h;cases e1:keyOf k with
  |none=>rw[e1]at h;cases h
  |some k'=>
   rw[e1]at h;cases e2:rN ks ds with
   |none=>rw[e2]at h;cases h
   |some al'=>
    rw[e2]at h;cases h;obtain⟨h1,h2⟩:=yn e2;rw[tV e1,h1,h2];exact⟨rfl,rfl⟩
 |[],_::_,_,h=>by cases h
 |_::_,[],_,h=>by cases h
theorem vY:∀al:List (Key×D),rN (iR al) (al.map (·.2))=some al
 |[]=>rfl
 |p::r=>by
  show(keyOf (bx p.1)).bind _=_;rw[mB];show(rN (iR r) (r.map (·.2))).map ((p.1,p.2)::·)=_;rw[vY r];rfl
theorem vG:∀{al:List (Key×D)}{ks:List Key},iR al=ks.map bx->al.map (·.1)=ks
 |[],[],_=>rfl
 |p::r,k::ks,h=>by
  have h:bx p.1::iR r=bx k::ks.map bx:=h;injection h with h1 h2;rw[Q1,uH h1,vG h2]
 |[],_::_,h=>by cases h
 |_::_,[],h=>by cases h
theorem Pt{K:Tu}{H:Hp}{O:List UN}{a:UN}{al:List (Key×D)}(h:dD K H O a (yP al)):
  (∃kvs:List (Key×V),H a=some (.dK kvs)/\kvs.map (·.1)=al.map (·.1)/\bb K (hid H O) (al.map (·.2)) (kvs.map (·.2)))\/(H a=some (.dT [])/\al=[]):=by
 obtain⟨o,vs,h1,h2,h3⟩:=h;rcases h3 with⟨kvs,e,e1,e2⟩|⟨kvs,e,e1,e2⟩
 ·subst e;refine .inl ⟨kvs,h1,?_,by rw[<-e2];exact h2⟩;exact(vG (ks:=kvs.map (·.1)) (by rw[SE];exact e1)).symm
 ·subst e;cases kvs with
  |nil=>
   refine .inr ⟨h1,?_⟩
   simpa using e1
  |cons p r=>
   cases al with
   |nil=>cases e1
   |cons q r'=>
    have e1:bx q.1::iR r'=D.tup (p.1.map bx)::r.map (λp=>D.tup (p.1.map bx)):=e1;injection e1 with e1 _;rcases q with⟨k,v⟩
    cases k<;>cases e1
section
variable{κ:Type}[DecidableEq κ]
def si(al:List (κ×D))(k:κ)(v:D):List (κ×D):=if(al.any λp=>decide (p.1=k))=true then al.map (λp=>if p.1=k then(p.1,v)else p)else al++[(k,v)]
theorem Ee{kvs:List (κ×V)}{al:List (κ×D)}(e:kvs.map (·.1)=al.map (·.1))(k:κ)(w:V)(d:D):(putK kvs k w).map (·.1)=(si al k d).map (·.1):=by
 have e2:(kvs.any λp=>decide (p.1=k))=(al.any λp=>decide (p.1=k)):=by
  have:=congrArg (λl=>l.any λq=>decide (q=k)) e
  simpa [Sl,Function.comp_def]using this
 unfold putK si;rw[e2];split
 ·have e3:∀(l:List (κ×V)),(l.map λkv=>if kv.1=k then(kv.1,w)else kv).map (·.1)=l.map (·.1):=λl=>by
   rw[SE];refine RQ λp _=>?_;show(if p.1=k then(p.1,w)else p).1=p.1;split<;>rfl
  have e4:∀(l:List (κ×D)),(l.map λkv=>if kv.1=k then(kv.1,d)else kv).map (·.1)=l.map (·.1):=λl=>by
   rw[SE];refine RQ λp _=>?_;show(if p.1=k then(p.1,d)else p).1=p.1;split<;>rfl
  rw[e3,e4,e]
 ·rw[RT,RT,e];rfl
theorem wf{K:Tu}{H:Hp}{k:κ}{w:V}{d:D}(hw:cJ K H d w):∀{kvs:List (κ×V)}{al:List (κ×D)},kvs.map (·.1)=al.map (·.1)->bb K H (al.map (·.2)) (kvs.map (·.2))->
  bb K H ((al.map λp=>if p.1=k then(p.1,d)else p).map (·.2)) ((kvs.map λp=>if p.1=k then(p.1,w)else p).map (·.2))
 |[],[],_,h=>h
 |p::r,q::r',e,h=>by
  rw[Q1,Q1]at e;injection e with e1 e2;rw[Q1,Q1,bo]at h;obtain⟨v,ws,h0,h1,h2⟩:=h;injection h0 with h0 h0';subst h0 h0';have ih:=wf (k:=k) hw e2 h2;rw[Q1,Q1,Q1,Q1,bo];refine⟨_,_,rfl,?_,ih⟩;rw[e1];split
  ·exact hw
  ·exact h1
 |[],_::_,e,_=>by cases e
 |_::_,[],e,_=>by cases e
theorem EK{K:Tu}{H:Hp}{k:κ}{w:V}{d:D}(hw:cJ K H d w){kvs:List (κ×V)}{al:List (κ×D)}(e:kvs.map (·.1)=al.map (·.1))(h:bb K H (al.map (·.2)) (kvs.map (·.2))):
  bb K H ((si al k d).map (·.2)) ((putK kvs k w).map (·.2)):=by
 have e2:(kvs.any λp=>decide (p.1=k))=(al.any λp=>decide (p.1=k)):=by
  have:=congrArg (λl=>l.any λq=>decide (q=k)) e
  simpa [Sl,Function.comp_def]using this
 unfold putK si;rw[e2];split
 ·exact wf hw e h
 ·rw[RT,RT];exact h.append (bo.mpr ⟨w,[],rfl,hw,cI.mpr rfl⟩)
end
def vS(ks ds:List D)(k v:D):Option (List (Key×D)):=(rN ks ds).bind λal=>(keyOf k).bind λk=>if small al.length then some (si al k v)else none
def pV(i:Nat)(fk fv:FX):cn:=λk ρ=>match ρ[i]? with
 |some (some (.own (.dct ks ds)))=>tq ((fv ρ).bind λv=>(fk ρ).bind λq=>rO (vS ks ds q v)) k ρ λal=>k.nx (ρ.set i (some (.own (yP al))))
 |_=>un
theorem Bw{ks ds:List D}{k v:D}{al':List (Key×D)}(h:vS ks ds k v=some al'):∃al q,ks=iR al/\ds=al.map (·.2)/\k=bx q/\small al.length=true/\al'=si al q v:=by
 unfold vS at h;cases e1:rN ks ds with
 |none=>rw[e1]at h;cases h
 |some al=>
  rw[e1]at h;cases e2:keyOf k with
  |none=>rw[e2]at h;cases h
  |some q=>
   rw[e2]at h;obtain⟨h3,h4⟩:=bI (show(if small al.length then some (si al q v)else none)=some al' from h);obtain⟨h1,h2⟩:=yn e1;exact⟨al,q,h1,h2,tV e2,h3,h4.symm⟩
theorem Hx{kvs:List (Key×V)}{al:List (Key×D)}(e:kvs.map (·.1)=al.map (·.1)):iR al=kvs.map λp=>bx p.1:=by
 have:=congrArg (List.map bx) e
 rw[SE,SE]at this;exact this.symm
def Kv(td ty tv:TE):TS:=λD σ H=>tv σ H λv H1=>td σ H1 λx H2=>ty σ H2 λy H3=>∃a k kvs,x=.ref a/\y=kV k/\(H3 a=some (.dK kvs)\/(H3 a=some (.dT [])/\kvs=[]))/\kvs.length<UQ/\D.nx σ (upd H3 a (.dK (putK kvs k v)))
section
variable{X:Cx}{o idx value:U0}{pos pos':Pos}{td ty tv:TE}
theorem Ez(hu:X.A.units+1<Vp)(ho:PE X o td)(hi:PE X idx ty)(hv:PE X value tv)(hs:swapsWith value (some (.Subscript o idx pos')) pos.line X.env=pure false):PS X (.Assign [.Subscript o idx pos'] value pos) (Kv td ty tv):=by
 intro pins s σ H D I h;refine wpAny_Assign_Subscript (dL (hv pins s σ H _ I h) λr s1 ⟨v,H1,I1,rv,q1⟩=>dL (ho pins s1 σ H1 _ I1 q1) λu s2 ⟨x,H2,I2,rx,q2⟩=>dL (hi pins s2 σ H2 _ I2 q2) λiv s3 ⟨y,H3,I3,ry,a,k,kvs,ex,ey,ha,hl,q3⟩=>?_) hs;subst ex ey;obtain rfl:u=Value.ref a:=rx;rcases ha with ha|⟨ha,rfl⟩
 ·exact nW hu I3 (KA.k ha hl) ry rv λs4 I4=>⟨σ,_,I4,q3⟩
 ·refine nW hu (Mh I3 ha) (KA.k aY hl) ry rv λs4 I4=>⟨σ,_,I4,?_⟩
  rw[tN];exact q3
end
theorem NX{X:Cx}{i:Nat}{x:Str}{idx value:U0}{fk fv:FX}{npos tpos pos:Pos}(hu:X.A.units+64<Vp)(hx:PE X (.Name x npos) (qy i))(hi:FE X idx fk)(hv:FE X value fv)
  (hs:swapsWith value (some (.Subscript (.Name x npos) idx tpos)) pos.line X.env=pure false:=by rfl):
  FS X (.Assign [.Subscript (.Name x npos) idx tpos] value pos) (pV i fk fv):=λHb Ob pins s σ H E I ⟨O,ρ,k,rr,S,hF,hk⟩=>by
 unfold pV at hF;split at hF
 ·rename_i ks ds hxs;obtain⟨a,ha,haO,hat⟩:=S.env.own i _ hxs;have hP:=ji.on hF hk S (Q:=λal=>k.nx (ρ.set i (some (.own (yP al))))=rr) λp e=>e;refine Ez ‹0› hx hi hv hs pins s σ H E I ⟨O,ρ,S.env,(ji.bind hP).imp λy hP v H1 s1 d1=>?_⟩;have S1:=S.same s1;refine⟨.ref a,ha,O,ρ,S1.env,((ji.bind hP).mono s1).imp λj hP w H2 s2 d2=>?_⟩;have S2:=S1.same s2;obtain⟨al',hg,e⟩:=ji.rO hP;obtain⟨al,q,f1,f2,f3,f4,f5⟩:=Bw hg;subst f1 f2 f3 f5;have s12:=s1.trans s2;have hat2:dD X.K H2 O a (yP al):=hat.mono (let ⟨_,z⟩:=hat.some;sY s12 z) (bN s12);have dv:cJ X.K (hid H2 O) y v:=d1.mono (bN s2);have fin:∀kvs:List (Key×V),kvs.map (·.1)=al.map (·.1)->bb X.K (hid H2 O) (al.map (·.2)) (kvs.map (·.2))->dD X.K (upd H2 a (.dK (putK kvs q v))) O a (yP (si al q y)):=λkvs k2 k3=>
   ⟨_,_,aY,(EK dv k2 k3).mono (iE haO),.inl ⟨putK kvs q v,rfl,Hx (Ee k2 q v y),rfl⟩⟩
  rcases Pt hat2 with⟨kvs,k1,k2,k3⟩|⟨k1,rfl⟩
  ·have hl:kvs.length=al.length:=(by have:=congrArg List.length k2;simpa using this);exact⟨a,q,kvs,rfl,uQ d2,.inl k1,by rw[hl];exact R0 (of_decide_eq_true f4) (by decide),hk.nx O _ σ _ (S2.setO hxs ha trivial (fin kvs k2 k3)) e⟩
  ·exact⟨a,q,[],rfl,uQ d2,.inr ⟨k1,rfl⟩,by decide,hk.nx O _ σ _ (S2.setO hxs ha trivial (fin [] rfl (cI.mpr rfl))) e⟩
 ·exact absurd hF.symm hk.ne
section
variable{X:Cx}
theorem Mq{pins:List (UN×Obj)}{σ:St}{H:Hp}{s:UX}{O:List UN}{ks ds:List D}{v:V}{qs:List Key}(I:Inv X pins σ H s)(h:cJ X.K (hid H O) (.dct ks ds) v)(hk:keysOf ks=some qs):
  ∃a vs,v=.ref a/\qs.length<=UQ/\(a==sysModules)=false/\s.heap.DictOf (bY X.prog X.w) a vs/\vs.map (·.1)=qs:=by
 obtain⟨a,vs,e,_,h2⟩:=NU.mp h;have ek:=oB hk;rcases h2 with⟨kvs,h3,h4,_⟩|⟨kvs,h3,h4,_⟩|⟨kvs,o,h3,h4,_⟩
 rotate_left 2
 ·rw[h4]at hk;cases hk
 ·obtain⟨z,hd,us,rel,dd⟩:=JG I.hok ((aB H O) _ _ h3);have e1:kvs.map (·.1)=qs:=by
   have:(kvs.map (·.1)).map bx=qs.map bx:=(by rw[SE,<-ek,h4];rfl);have e2:=congrArg keysOf this;rw[cO,cO]at e2;exact Option.some.inj e2
  refine⟨a,us,e,?_,hd,dd,?_⟩
  ·have:=congrArg List.length e1
   rw[Q2]at this;omega
  ·rw[<-rel.keys,e1]
 ·cases kvs with
  |nil=>
   rw[h4]at hk;cases hk;obtain⟨z,hd,us,rel,dd⟩:=(show cH X.prog X.w H s.heap a (.dK [])from yE (I.hok a _ ((aB H O) _ _ h3)))
   refine⟨a,us,e,Q4 _,hd,dd,?_⟩;rw[<-rel.keys];rfl
  |cons p r=>
   rw[h4]at hk;cases hk
def vR:List D->Option D
 |[.dct ks _]=>(keysOf ks).bind λqs=>some (.int qs.length)
 |_=>none
theorem C8:dY X (.builtin "len") (yd X.K vR):=by
 intro pins s σ H xs us Q I r ⟨O,ds,d,hO,hd,hg,q⟩;unfold vR at hg;split at hg
 ·rename_i ks vs0;cases hk:keysOf ks with
  |none=>rw[hk]at hg;cases hg
  |some qs=>
   rw[hk]at hg;cases hg;obtain⟨v,ev,h1⟩:=hd.one;obtain⟨a,vs,e,z,hs,dd,e1⟩:=Mq I h1 hk;subst ev e;obtain⟨u,rfl,ru⟩:=vals1 r;cases ru;have hl:vs.length=qs.length:=(by have:=congrArg List.length e1;simpa using this);refine call_len_dict hs dd (by rw[Vi]at z;omega) ?_;rw[hl];exact⟨.int qs.length,H,I.tok _,⟨_,rfl⟩,q _ H (bj.refl H) (fE.mpr rfl)⟩
 ·cases hg
theorem Du{k:Key}{v:UK}(h:sg k v=true):RelV (kV k) v:=by
 rcases dq h with⟨i,t,rfl,rfl⟩|⟨x,t,rfl,rfl⟩
 ·exact⟨_,rfl⟩
 ·exact⟨_,rfl⟩
theorem wZ{P:UM}{w:UL}:∀{vs:List (Key×UK)}{its:List UK},its.length=vs.length->(∀(j:Nat)(v:UK),its[j]?=some v->∃(k:Key)(x:UK),vs[j]?=some (k,x)/\(bY P w).is k v=true)->Vals (vs.map λp=>kV p.1) its
 |[],[],_,_=>.nil
 |p::r,u::us,hl,h=>by
  obtain⟨k,x,e,hk⟩:=h 0 u rfl;cases e;exact .cons (Du (by rw[AG]at hk;exact hk)) (wZ (by simpa using hl) λj v e=>h (j+1) v (by simpa using e))
 |[],_::_,hl,_=>by cases hl
 |_::_,[],hl,_=>by cases hl
theorem wD{K:Tu}{H:Hp}:∀qs:List Key,bb K H (qs.map bx) (qs.map kV)
 |[]=>cI.mpr rfl
 |k::r=>bo.mpr ⟨kV k,_,rfl,by cases k with
  |inl i=>exact fE.mpr rfl
  |inr x=>exact fO.mpr rfl,wD r⟩
def qz:List D->Option D
 |[.dct ks _]=>(keysOf ks).bind λ_=>some (.lst ks)
 |_=>none
theorem Be(hc:X.calm=true):dY X (.type "list") (yd X.K qz):=by
 intro pins s σ H xs us Q I r ⟨O,ds,d,hO,hd,hg,q⟩;unfold qz at hg;split at hg
 ·rename_i ks vs0;cases hk:keysOf ks with
  |none=>rw[hk]at hg;cases hg
  |some qs=>
   rw[hk]at hg;cases hg;obtain⟨v,ev,h1⟩:=hd.one;obtain⟨a,vs,e,z,hs,dd,e1⟩:=Mq I h1 hk;subst ev e;obtain⟨u,rfl,ru⟩:=vals1 r;cases ru;have hl:vs.length=qs.length:=(by have:=congrArg List.length e1;simpa using this);obtain⟨ep,da⟩:=dd.dictAt;refine T8 (PySem.W.kdl_dict hs) (I.ok.hd hc) da ‹0› λh' tk acc' c' kp e2 it=>?_;have rv:Vals (qs.map kV) acc'.toList:=by
    have:=wZ (P:=X.prog) (w:=X.w) (vs:=vs) (its:=acc'.toList) (by rw[Array.length_toList];exact it.1) λj v e=>it.2 j v (by rw[<-Array.getElem?_toList];exact e)
    rw[<-e1,SE];exact this
   refine⟨.ref s.heap.objs.size,_,I.laid (t':=tk) kp (QU _) (show cH X.prog X.w _ h' _ (.lst (qs.map kV))from⟨by rw[Q2];exact z,acc'.toList,c',rv,by simpa using e2⟩),rfl,?_⟩;have hf:=I.hok.fresh (QU s.heap.objs.size);refine q _ _ (bL hf _) ?_;rw[oB hk];exact dH hO hf (wD qs)
 ·cases hg
end
end TG
namespace TG
open PySem PySem.Spec L2
variable[aW]
end TG
namespace TG
open PySem PySem.Spec PySem.Calls L2
variable[aW]
theorem DN:typeLookup (.type "list") "keys"=pure none:=by rw[typeLookup_type,builtinLookup_eq_fast];kernel_rfl
theorem HM{prog:UM}{w:UL}{A:UW}{E:UK->UX->Prop}{s:UX}{a:UN}{o:Obj}{xs:Array UK}{k:Nat}{u:Tok}{Q:UK->UX->Prop}
  (hx:s.heap.get? a=some o) (hc:o.cls=.type "list") (hdat:o.data=.seq xs k) (hd:o.dict=none) (hA:A.handled=none)
  (h:∀h' tk e,Heap.NewExcOf s.heap h' e "AttributeError"->E (.ref e) {s with heap:=h',toks:=tk}):
  UZ (model prog w) A (getAttrBy (.ref a) (.str "keys" u) false) Q E s:=by
 obtain⟨c,dct,dat,sl⟩:=o;simp only at hc hdat hd;subst hc hdat hd;obtain⟨hp,g,d,tk,os⟩:=s;have hT:∀tk',(⟨hp,g,d,tk',os⟩:UX).TypeIs (.ref a) "list":=λ_=>⟨_,hx,rfl⟩
 have f1:=sub_AttributeError;have f3:=F.slot_list_getattribute.lookup;have f4:=F.slot_list_getattribute.bind (.ref a);have f5:=am_list_getattr_none;unfold getAttrBy
 repeat (any_goals (first|assumption|exact hT _|((with_reducible show UZ _ _ (call (Value.builtin "list.__getattribute__") _ _) _ _ _);refine call_meets F.slot_list_getattribute (hT _) am_entry_list_getattribute (F.args_list_getattribute_2 _ _) (meets_getattribute_miss_list a xs k sl "keys" _ DN (by decide +kernel) (by decide +kernel)) ⟨hx,hA,λh' tk' e hx'=>?_⟩)|wp_step))
 obtain⟨t',u',he⟩:=hx'.there;show UZ _ _ (getattributeRaised _ _ _ _ _ _ _) _ _ _;unfold getattributeRaised
 repeat (any_goals (first|assumption|wp_step))
 exact h _ _ _ hx'.of
theorem IY{prog:UM}{w:UL}{A:UW}{E:UK->UX->Prop}{s:UX}{a:UN}{o:Obj}{xs:Array UK}{k:Nat}{Q:Option UK->UX->Prop}
  (hx:s.heap.get? a=some o) (hc:o.cls=.type "list") (hdat:o.data=.seq xs k) (hd:o.dict=none) (hA:A.handled=none)
  (h:∀h' tk,(∀b o,s.heap.get? b=some o->h'.get? b=some o)->Q none {s with heap:=h',toks:=tk}):
  UZ (model prog w) A (getAttr? (.ref a) "keys") Q E s:=by
 obtain⟨hp,g,d,tk,os⟩:=s;have f1:=sub_AttributeError;unfold getAttr? getAttrBy?;refine U8 (wpAny_mkText ?_);refine U8 (V4 (HM (s:=⟨hp,g,d,tk+1,os⟩) hx hc hdat hd hA λh' tk' e ne=>?_));obtain⟨ob,vs,e1,e2,_⟩:=ne.there;refine U8 (V5 (s:=⟨h',g,d,tk',os⟩) ⟨ob,e1,e2⟩ f1 ?_);exact U7 (h h' tk' ne.keeps)
abbrev Keeps(h0 h:UP):Prop:=∀b o,h0.get? b=some o->h.get? b=some o
section
variable{prog:UM}{w:UL}{A:UW}{E:UK->UX->Prop}{K:Type}[DecidableEq K]{knd:HeapKind prog w K}{d:UN}{h0:UP}
def DI(knd:HeapKind prog w K)(h0:UP)(d:UN)(h:UP)(xs:List (K×UN×UK)):Prop:=
 (∃o es ep,h.get? d=some o/\o.ExactDict/\o.data=.dict es ep/\es.toList=xs.map (entryOfKey knd)/\(xs.map (·.1)).Nodup)/\∀x∈xs,∀h,Keeps h0 h->knd.is h x.1 x.2.1
theorem DI.dict{h:UP}{xs:List (K×UN×UK)}(x:DI knd h0 d h xs)(k:Keeps h0 h):h.DictOfH knd d xs:=by
 obtain⟨⟨o,es,ep,h1,h2,h3,h4,h5⟩,h6⟩:=x;exact⟨o,es,ep,h1,h2,h3,h4,λy hy=>h6 y hy h k,h5⟩
theorem DI.stay{h h':UP}{xs:List (K×UN×UK)}(x:DI knd h0 d h xs)(k:∀o,h.get? d=some o->h'.get? d=some o):DI knd h0 d h' xs:=by
 obtain⟨⟨o,es,ep,h1,r⟩,h6⟩:=x;exact⟨⟨o,es,ep,k o h1,r⟩,h6⟩
theorem mem_storedH{xs:List (K×UN×UK)}{k:K}{a:UN}{v:UK}{x:K×UN×UK}(h:x∈storedH xs k a v):(∃y∈xs,y.1=x.1/\y.2.1=x.2.1)\/(x.1=k/\x.2.1=a):=by
 unfold storedH at h;split at h
 ·obtain⟨y,hy,rfl⟩:=List.mem_map.mp h;refine .inl ⟨y,hy,?_⟩;unfold putAt;split<;>exact⟨rfl,rfl⟩
 ·rcases List.mem_append.mp h with z|z
  ·exact .inl ⟨x,z,rfl,rfl⟩
  ·rw[SL]at z;subst z;exact .inr ⟨rfl,rfl⟩
theorem DI.put{h h':UP}{xs:List (K×UN×UK)}{k:K}{a:UN}{v:UK}(x:DI knd h0 d h xs)(hk:∀h,Keeps h0 h->knd.is h k a)(dd:h'.DictOfH knd d (storedH xs k a v)):DI knd h0 d h' (storedH xs k a v):=by
 obtain⟨o,es,ep,h1,h2,h3,h4,_,h5⟩:=dd;refine⟨⟨o,es,ep,h1,h2,h3,h4,h5⟩,λy hy g kg=>?_⟩;rcases mem_storedH hy with⟨z,hz,e1,e2⟩|⟨e1,e2⟩
 ·rw[<-e1,<-e2];exact x.2 z hz g kg
 ·rw[e1,e2];exact hk g kg
theorem zL(xs:List (K×UN×UK))(k:K)(a:UN)(v:UK):(storedH xs k a v).length<=xs.length+1:=by
 unfold storedH;split
 ·rw[Q2];omega
 ·simp
theorem zY:entryFor table "dict.update.loop"=some Builtin.«dict.update.loop»:=entryFor_of_tree (by kernel_rfl)
theorem qp:plainId "dict.update.loop"=true:=by decide +kernel
theorem Ds{R:Vj->UX->Prop}{I:UN}{fp wr:List UN}{P:Nat->UK->Prop}{St:Nat->UP->Prop}{L:List (K×UN×UK)}(W:Walks prog w A.in1 I fp wr L.length P St)(hwr:∀b∈wr,h0.get? b=none)(hdn:h0.get? d=none)(hdf:d∉fp)
  (hn:L.length<=UQ) (hu:knd.room A.in1) (hP:∀i v,P i v->∃x t,L[i]?=some x/\v=.ref t/\∀h,Keeps h0 h->h.IsTuple t #[.ref x.2.1,x.2.2]) (hK:∀x∈L,∀h,Keeps h0 h->knd.is h x.1 x.2.1) (res:UK):
  ∀(m i:Nat)(s:UX)(xs:List (K×UN×UK))(j:Int)(u:Tok),i+m=L.length->St i s.heap->Keeps h0 s.heap->DI knd h0 d s.heap xs->xs.length<=i->
  (∀h' tk,Keeps h0 h'->DI knd h0 d h' ((L.drop i).foldl (λxs x=>storedH xs x.1 x.2.1 x.2.2) xs)->R (.ok (.ret res)) {s with heap:=h',toks:=tk})->
  Vk (model prog w) A (.builtin "dict.update.loop" ⟨[.ref d,.ref I,.int j u,res],[]⟩) R s:=by
 have hdw:d∉wr:=λh=>hdf (W.sub _ h);intro m
 induction m with
 |zero=>
  intro i s xs j u hi st kp di hl hR;have hin:i=L.length:=by omega
  subst hin;refine We zY ?_;rw[Around.under_plainId qp _];show UZ _ A.in1 (pyNext (.ref I) >>= _) _ _ s;refine U8 (W.done s _ _ st λh' tk hk=>?_);refine U8 (U7 (U7 ?_))
  have:=hR h' tk (λb o q=>hk b o (λz=>by have:=hwr b z;rw[q]at this;cases this) (kp b o q)) (by
   rw[R3,List.foldl_nil];exact di.stay λo q=>hk d o hdw q)
  exact this
 |succ m ih=>
  intro i s xs j u hi st kp di hl hR;refine We zY ?_;rw[Around.under_plainId qp _];show UZ _ A.in1 (pyNext (.ref I) >>= _) _ _ s;refine U8 (W.item i s _ _ ‹0› st λv h' tk hv st' hk=>?_);obtain⟨x,t,hx,rfl,ht⟩:=hP i v hv;have kp':Keeps h0 h':=λb o q=>hk b o (λz=>by have:=hwr b z;rw[q]at this;cases this) (kp b o q);obtain⟨o,ho,hc,n,hd⟩:=ht h' kp';have xm:x∈L:=Rg hx;refine U8 (VE (U8 (Wf ?_)));unfold Builtin.Dict.pairItems;refine U8 (VH (T:="tuple") ⟨o,ho,hc⟩ ?_);rw[if_pos (by decide)];refine U8 (VR ho hd (U7 ?_));show UZ _ _ (holding [.ref x.2.1,x.2.2] (dictSet d (.ref x.2.1) x.2.2)) _ _ _;have di':DI knd h0 d h' xs:=di.stay λo q=>hk d o hdw q;refine VE (wpAny_dictSet_heap (s:={s with heap:=h',toks:=tk}) (hsz:=by omega) hu (hK x xm h' kp') (di'.dict kp') λh2 dd sb=>?_);have kp2:Keeps h0 h2:=λb o q=>(sb.2 b (λz=>by rw[z,hdn]at q;cases q)).trans (kp' b o q);refine U7 ⟨Wh qp _,?_⟩;refine ih (i+1) _ (storedH xs x.1 x.2.1 x.2.2) (j+1) 0 ‹0› (W.frame _ _ _ st' λb hb o q=>(sb.2 b (λz=>hdf (by rw[<-z];exact hb))).trans q) kp2 (di'.put (hK x xm) dd) (by have:=zL xs x.1 x.2.1 x.2.2;omega) λh3 tk3 kp3 di3=>?_;refine hR h3 tk3 kp3 ?_;have e:L.drop i=x::L.drop (i+1):=by
   have hil:i<L.length:=(by omega);rw[RZ hil];rw[RK hil]at hx;rw[Option.some.inj hx]
  rw[e,Sr];exact di3
theorem nH{s:UX}{Q:UK->UX->Prop}{l:UN}{o:Obj}{items:Array UK}{n:Nat}{L:List (K×UN×UK)}(ho:s.heap.get? l=some o)(hc:o.cls=.type "list")(hd:o.data=.seq items n)(hdd:o.dict=none)(hh:A.handled=none)(hu:knd.room A.in1.in1)
  (hl:items.size=L.length) (hn:L.length<=UQ) (hP:∀(i:Nat) v,items[i]?=some v->∃x t,L[i]?=some x/\v=.ref t/\s.heap.IsTuple t #[.ref x.2.1,x.2.2]) (hK:∀x∈L,∀h,Keeps s.heap h->knd.is h x.1 x.2.1)
  (hQ:∀h' tk,Keeps s.heap h'->DI knd s.heap s.heap.objs.size h' (L.foldl (λxs x=>storedH xs x.1 x.2.1 x.2.2) [])->Q (.ref s.heap.objs.size) {s with heap:=h',toks:=tk}):
  UZ (model prog w) A (call (.type "dict") [.ref l]) Q E s:=by
 refine callType_codes (Q₁:=λobj s₁=>obj=.ref s.heap.objs.size/\s₁={s with heap:=s.heap.push {cls:=.type "dict",data:=.dict #[]}}) F.kt_called_dict (F.kt_typeCall_dict_1 _) F.entry_dict_init (kt_code_dict_new _ ⟨rfl,rfl⟩) ?_;rintro obj s₁ ⟨rfl,rfl⟩;have hnew:(s.heap.push {cls:=.type "dict",data:=.dict #[]}).DictOfH knd s.heap.objs.size []:=Heap.DictOfH.new s.heap;have hlt:=Uc ho;have hl1:(s.heap.push {cls:=.type "dict",data:=.dict #[]}).get? l=some o:=Ug _ ho;refine⟨hnew.typeIs,F.args_dict_init_2 _ _,?_⟩;unfold Builtin.«dict.__init__»;refine U8 ?_;unfold Builtin.Dict.selfAndRest;refine U8 (Wj hnew.typeIs ?_);show UZ _ _ (pure (s.heap.objs.size,[Value.ref l])) _ _ _;refine U7 ?_;show UZ _ _ (Builtin.Dict.updateFrom "dict.__init__" s.heap.objs.size (.ref l) [] .none) _ _ _;unfold Builtin.Dict.updateFrom;refine U8 (VH (T:="list") ⟨o,hl1,hc⟩ ?_);rw[if_pos (by decide)];refine U8 (IY hl1 hc hd hdd hh λh1 tk1 k1=>?_);rw[if_pos (show(none:Option UK).isNone=true from rfl)];refine U8 (VO ?_);have hd1:h1.get? s.heap.objs.size=some {cls:=.type "dict",data:=.dict #[]}:=k1 _ _ (Uh _ rfl);have hl2:h1.IsList l items:=⟨o,k1 _ _ hl1,hc,n,hd⟩
 have dlt:=Uc hd1;refine U8 (Va (s:={s with heap:=h1,toks:=tk1}) hl2 ?_);refine U7 ⟨Wh qp _,?_⟩;have W:=Walks.list (prog:=prog) (w:=w) (A:=A.in1.in1) hh h1.objs.size l (QK (Rv hlt dlt)) items;rw[hl]at W;refine Ds (A:=A.in1) (knd:=knd) (h0:=s.heap) (d:=s.heap.objs.size) W (λb hb=>?_) (Ud (QU _)) (λz=>?_) hn hu (λi v hv=>?_) hK .none L.length 0 _ [] 0 0 ‹0› ?_ (λb o q=>?_) ⟨⟨_,#[],0,Ug _ hd1,⟨rfl,rfl,rfl⟩,rfl,rfl,Rw⟩,λx hx=>by simp at hx⟩ (QU _) λh' tk kp di=>?_
 ·rw[SL]at hb;subst hb;exact Ud (QM dlt)
 ·simp only[R4,R5,or_false]at z;rcases z with z|z
  ·exact absurd z (QK dlt)
  ·exact absurd z.symm (QK hlt)
 ·obtain⟨x,t,e1,e2,e3⟩:=hP i v hv;obtain⟨ob,q1,q2⟩:=e3;exact⟨x,t,e1,e2,λh kh=>⟨ob,kh _ _ q1,q2⟩⟩
 ·exact⟨⟨_,Uh _ rfl,rfl,rfl⟩,let ⟨ob,q1,q2⟩:=hl2;⟨ob,Ug _ q1,q2⟩⟩
 ·exact Ug _ (k1 _ _ (Ug _ q))
 ·exact⟨rfl,hQ h' tk kp di⟩
end
def zm:D->Option (List Key×D)
 |.tup [k,v]=>(jS k).map λq=>(q,v)
 |_=>none
def i5:List D->Option (List (List Key×D))
 |[]=>some []
 |d::r=>(zm d).bind λp=>(i5 r).map (p::·)
def ww(ps:List (List Key×D)):List (List Key×D):=ps.foldl (λal p=>i6 al p.1 p.2) []
def xG:List D->Option D
 |[.lst xs]=>(i5 xs).bind λps=>if small ps.length then some (dG (ww ps))else none
 |_=>none
theorem Gw{d:D}{p:List Key×D}(h:zm d=some p):d=.tup [.tup (p.1.map bx),p.2]:=by
 unfold zm at h;split at h
 ·rename_i k v;cases e:jS k with
  |none=>rw[e]at h;cases h
  |some q=>rw[e]at h;cases h;rw[nZ e]
 ·cases h
theorem qB:∀{xs:List D}{ps:List (List Key×D)},i5 xs=some ps->xs=ps.map λp=>.tup [.tup (p.1.map bx),p.2]
 |[],_,h=>by cases h;rfl
 |d::r,ps,h=>by
  unfold i5 at h;cases e1:zm d with
  |none=>rw[e1]at h;cases h
  |some p=>
   rw[e1]at h;cases e2:i5 r with
   |none=>rw[e2]at h;cases h
   |some ps'=>rw[e2]at h;cases h;rw[Gw e1,qB e2];rfl
section
variable{X:Cx}
theorem rC{pins:List (UN×Obj)}{σ:St}{H:Hp}{s:UX}{O:List UN}(I:L2.Inv X pins σ H s):∀{ps:List (List Key×D)}{ws:List V}{its:List UK},bb X.K (hid H O) (ps.map λp=>.tup [.tup (p.1.map bx),p.2]) ws->Vals ws its->
  ∃(L:List (List Key×UN×UK))(ks:List (List Key×V)),its.length=L.length/\(∀(i:Nat)(v:UK),its[i]?=some v->∃(x:List Key×UN×UK)(t:UN),L[i]?=some x/\v=.ref t/\s.heap.IsTuple t #[.ref x.2.1,x.2.2])/\KT H ks L/\ks.map (·.1)=ps.map (·.1)/\bb X.K (hid H O) (ps.map (·.2)) (ks.map (·.2))
 |[],ws,its,h,r=>by
  rw[Rp,cI]at h;subst h;cases r;exact⟨[],[],rfl,(λi v e=>by simp at e),.nil,rfl,cI.mpr rfl⟩
 |p::ps,ws,its,h,r=>by
  rw[Q1,bo]at h;obtain⟨w,ws',rfl,h1,h2⟩:=h;cases r with
  |@cons _ u _ us ru rr=>
   obtain⟨L,ks,l1,l2,l3,l4,l5⟩:=rC I h2 rr;obtain⟨t,vs,rfl,t1,t2⟩:=cN.mp h1;obtain⟨v1,v2,rfl,d1,d2⟩:=t2.two;obtain⟨a,ks1,rfl,a1,a2⟩:=cN.mp d1;rw[jC a2]at a1;obtain⟨its',r',⟨o,q1,q2⟩,_⟩:=I.tuple (bW (K:=X.K) (aB H O) t1);obtain⟨x1,x2,rfl,rx1,rx2⟩:=vals2 r';cases rx1;obtain rfl:u=Value.ref t:=ru;refine⟨(p.1,a,x2)::L,(p.1,v2)::ks,by rw[Q0,Q0,l1],λi v e=>?_,.cons ⟨rfl,(aB H O) _ _ a1,rx2⟩ l3,by rw[Q1,Q1,l4],bo.mpr ⟨v2,_,rfl,d2,l5⟩⟩;cases i with
   |zero=>
    have e:Value.ref t=v:=(by simpa using e);subst e;exact⟨_,t,rfl,rfl,o,q1,q2⟩
   |succ i=>exact l2 i v (by simpa using e)
theorem t6{K:Tu}{H:Hp}{H0:Hp}:∀{ps:List (List Key×D)}{ks:List (List Key×V)}{L:List (List Key×UN×UK)}{al:List (List Key×D)}{kvs:List (List Key×V)}{xs:List (List Key×UN×UK)},KT H ks L->ks.map (·.1)=ps.map (·.1)->bb K H0 (ps.map (·.2)) (ks.map (·.2))->
  KT H kvs xs->kvs.map (·.1)=al.map (·.1)->bb K H0 (al.map (·.2)) (kvs.map (·.2))->
  KT H (ks.foldl (λm p=>putK m p.1 p.2) kvs) (L.foldl (λxs x=>storedH xs x.1 x.2.1 x.2.2) xs)/\(ks.foldl (λm p=>putK m p.1 p.2) kvs).map (·.1)=(ps.foldl (λal p=>i6 al p.1 p.2) al).map (·.1)/\
   bb K H0 ((ps.foldl (λal p=>i6 al p.1 p.2) al).map (·.2)) ((ks.foldl (λm p=>putK m p.1 p.2) kvs).map (·.2))/\(ks.foldl (λm p=>putK m p.1 p.2) kvs).length<=kvs.length+ks.length
 |[],[],_,al,kvs,xs,.nil,_,_,h1,h2,h3=>⟨h1,h2,h3,by simp⟩
 |p::ps,q::ks,_,al,kvs,xs,.cons (b:=x) hq hr,e,d,h1,h2,h3=>by
  rw[Q1,Q1]at e;injection e with e1 e2;rw[Q1,Q1,bo]at d;obtain⟨v,vs,d0,d1,d2⟩:=d;injection d0 with d0 d0';subst d0 d0';obtain⟨y1,y2,y3⟩:=hq;have z1:=KT.put h1 q.1 y2 y3;rw[y1]at z1;have z2:=yU h2 q.1 q.2 p.2;have z3:=Cb (k:=q.1) d1 h2 h3
  have:=t6 (kvs:=putK kvs q.1 q.2) (al:=i6 al q.1 p.2) (xs:=storedH xs x.1 x.2.1 x.2.2) hr e2 d2 (by rw[y1];exact z1) z2 z3
  rw[Sr,Sr,Sr,<-e1];refine⟨this.1,this.2.1,this.2.2.1,QL this.2.2.2 ?_⟩
  have:=kn kvs q.1 q.2
  rw[Q0];omega
 |[],_::_,_,_,_,_,_,e,_,_,_,_=>by cases e
 |_::_,[],_,_,_,_,_,e,_,_,_,_=>by cases e
theorem Am(hc:X.calm=true)(hu:X.A.units+64<Vp):dY X (.type "dict") (yd X.K xG):=by
 intro pins s σ H xs us Q I r ⟨O,ds,d,hO,hd,hg,q⟩;unfold xG at hg;split at hg
 ·rename_i ys;cases hp:i5 ys with
  |none=>rw[hp]at hg;cases hg
  |some ps=>
   rw[hp]at hg;obtain⟨sm,rfl⟩:=bI (show(if small ps.length then some (dG (ww ps))else none)=some d from hg);obtain⟨v,rfl,h1⟩:=hd.one;obtain⟨p,ws,rfl,g1,g2⟩:=cT.mp h1;obtain⟨u,rfl,ru⟩:=vals1 r;cases ru;obtain⟨its,rv,⟨o,n,ho,hcl,hd',hdd⟩,hz⟩:=I.list ((aB H O).seq g1);rw[qB hp]at g2;obtain⟨L,ks,l1,l2,l3,l4,l5⟩:=rC I g2 rv;have kl:ks.length=ps.length:=(by have:=congrArg List.length l4;simpa using this);have ll:ks.length=L.length:=Paired.length l3;have key:∀{ks:List (List Key×V)}{L:List (List Key×UN×UK)},KT H ks L->∀x∈L,∀h,Keeps s.heap h->(tupleKind (bY X.prog X.w)).is h x.1 x.2.1:=λ{ks L} kt=>by
    induction kt with
    |nil=>intro x hx;cases hx
    |cons hq _ ih=>
     intro x hx h kh;rcases List.mem_cons.mp hx with z|z
     ·subst z;obtain⟨e1,e2,_⟩:=hq;rw[e1]at e2;obtain⟨o,xs,n,k1,k2⟩:=pq I.hok e2;exact⟨o,xs,n,kh _ _ k1,k2⟩
     ·exact ih x z h kh
   obtain⟨f1,f2,f3,f4⟩:=t6 (K:=X.K) (H:=H) (H0:=hid H O) (al:=[]) (kvs:=[]) (xs:=[]) l3 l4 l5 .nil rfl (cI.mpr rfl);have hsz:ps.length<=100000:=of_decide_eq_true sm;have sl:UQ=16777216:=Vi;refine nH (knd:=tupleKind (bY X.prog X.w)) (L:=L) ho hcl hdd hd' (I.ok.hd hc) (VM (by rw[in1_units];omega)) (by simpa using l1) ‹0› (λi v e=>l2 i v (by simpa using e)) (key l3) λh' tk kp di=>?_;have hf:=I.hok.fresh (QU s.heap.objs.size);obtain⟨⟨od,es,ep,k1,k2,k3,k4,k5⟩,_⟩:=di;have kt':KT (upd H s.heap.objs.size (.dT (ks.foldl (λm p=>putK m p.1 p.2) []))) (ks.foldl (λm p=>putK m p.1 p.2) []) (L.foldl (λxs x=>storedH xs x.1 x.2.1 x.2.2) []):=KT.keeps f1 λb ys eb=>by rw[aD (λz=>by rw[z,hf]at eb;cases eb)];exact eb
   refine⟨.ref s.heap.objs.size,_,I.laid (t':=tk) kp (QU _) (show cH X.prog X.w _ h' _ (.dT (ks.foldl (λm p=>putK m p.1 p.2) []))from⟨by simp only[Rt]at f4;omega,beq_eq_false_iff_ne.mpr (Ne.symm (QK I.big)),_,kt',od,es,ep,k1,k2,k3,k4,k5⟩),rfl,?_⟩;refine q _ _ (bL hf _) ?_;have pO:=hO.not hf;refine NU.mpr ⟨s.heap.objs.size,_,rfl,f3.mono (sP hf),.inr (.inl ⟨_,by rw[ja pO];exact aY,uS f2,rfl⟩)⟩
 ·cases hg
end
def qL(al:List (List Key×D))(q:List Key):Option D:=(al.find? λp=>decide (p.1=q)).map (·.2)
def MR(ks ds:List D)(k x:D):Option D:=(kI ks ds).bind λal=>(jS k).bind λq=>some ((qL al q).getD x)
def PC(fo fk fx:FX):FX:=λρ=>(fo ρ).bind λdd=>match dd with
 |.dct ks ds=>(fk ρ).bind λk=>(fx ρ).bind λx=>rO (MR ks ds k x)
 |_=>un
theorem yy{K:Tu}{H:Hp}{v:V}{al:List (List Key×D)}(h:cJ K H (dG al) v):
  ∃a,v=.ref a/\((∃kvs:List (List Key×V),H a=some (.dT kvs)/\kvs.map (·.1)=al.map (·.1)/\bb K H (al.map (·.2)) (kvs.map (·.2)))\/(H a=some (.dK [])/\al=[])):=by
 obtain⟨a,vs,e0,h2,h3⟩:=NU.mp h;refine⟨a,e0,?_⟩;rcases h3 with⟨kvs,e,e1,e2⟩|⟨kvs,e,e1,e2⟩|⟨kvs,o,e,e1,e2⟩
 rotate_left 2
 ·cases al with
  |nil=>cases e1
  |cons _ _=>injection e1 with e1 _;cases e1
 ·cases kvs with
  |nil=>exact .inr ⟨e,by simpa using e1⟩
  |cons p r=>
   cases al with
   |nil=>cases e1
   |cons q r'=>
    have e1:D.tup (q.1.map bx)::encK r'=bx p.1::r.map (λp=>bx p.1):=e1;injection e1 with e1 _;rcases p with⟨k,v⟩
    cases k<;>cases e1
 ·refine .inl ⟨kvs,e,?_,by rw[<-e2];exact h2⟩;exact(mX (ks:=kvs.map (·.1)) (by rw[SE];exact e1)).symm
theorem yY{K:Tu}{H:Hp}(q:List Key):∀{kvs:List (List Key×V)}{al:List (List Key×D)},kvs.map (·.1)=al.map (·.1)->bb K H (al.map (·.2)) (kvs.map (·.2))->(jF kvs q=none/\qL al q=none)\/∃v d,jF kvs q=some v/\qL al q=some d/\cJ K H d v
 |[],[],_,_=>.inl ⟨rfl,rfl⟩
 |p::r,a::al,e,h=>by
  rw[Q1,Q1]at e;injection e with e1 e2;rw[Q1,Q1,bo]at h;obtain⟨v,ws,h0,h1,h2⟩:=h;injection h0 with h0 h0';subst h0 h0';by_cases z:p.1=q
  ·refine .inr ⟨p.2,a.2,lB z,?_,h1⟩;unfold qL;rw[SU (by rw[<-e1];simpa using z)];rfl
  ·have ih:=yY q e2 h2;have g:qL (a::al) q=qL al q:=by
    unfold qL;rw[SV (by rw[<-e1];simpa using z)]
   rw[jL z,g];exact ih
 |[],_::_,e,_=>by cases e
 |_::_,[],e,_=>by cases e
def xx(x y:D):Option D:=match y with
 |.dct ks ds=>(wO ks ds x).bind EX
 |_=>none
section
variable{X:Cx}
theorem C4(hu:X.A.units+64<Vp):j7 X (Vf .NotIn) (rD X.K xx):=by
 intro pins s σ H x y u v Q I rx ry ⟨O,a,b,d,hO,ha,hb,hg,q⟩;cases b with
 |dct ks ds=>
  have hg:(wO ks ds a).bind EX=some d:=hg;cases e0:wO ks ds a with
  |none=>rw[e0]at hg;cases hg
  |some d0=>
  rw[e0]at hg;obtain⟨al,qk,f1,f2,f3,f4⟩:=AQ e0;subst f1 f2 f3 f4;cases hg;obtain⟨p,ey,hh⟩:=yy hb;obtain⟨c,ws,ex,g1,g2⟩:=cN.mp ha;rw[jC g2]at g1;have g1':=(aB H O) _ _ g1;subst ex ey;cases ry;rcases hh with⟨kvs,k1,k2,k3⟩|⟨k1,rfl⟩
  ·have hv:=Fo k2 qk;rw[Sl]at hv;refine Cm ‹0› I (GN.t ((aB H O) _ _ k1) g1') rx λs3 I3=>⟨.bl (!(jF kvs qk).isSome),H,I3,rfl,q _ H (bj.refl H) (mI.mpr ?_)⟩
   rw[hv];rfl
  ·have k1':=(aB H O) _ _ k1;have ne:c≠p:=λz=>by rw[z,k1']at g1';cases g1'
   refine Cm (o:=jF [] qk) ‹0› (Fp I k1') (GN.t aY (by rw[aD ne];exact g1')) rx λs3 I4=>⟨.bl true,H,?_,rfl,q _ H (bj.refl H) (mI.mpr rfl)⟩
   have I5:=Mh I4 aY;rw[GX k1']at I5;exact I5
 |_=>cases hg
end
end TG
namespace TG
open PySem PySem.Spec L2
variable[aW]
end TG
namespace TG
open PySem PySem.Spec L2
variable[aW]
end TG
namespace TG
open PySem PySem.Spec L2
variable[aW]
end TG
namespace TG
open PySem PySem.Spec PySem.Calls L2
section
variable{prog:UM}{w:UL}{K:Type}[DecidableEq K]{knd:HeapKind prog w K}{A:UW}{E:UK->UX->Prop}{s:UX}{d a:UN}{k:K}{xs:List (K×UN×UK)}
theorem zo{v:UK}{Q:UK->UX->Prop}(hu:knd.room A)(hkey:knd.is s.heap k a)(hm:s.heap.DictOfH knd d xs)(hsz:xs.length<=UQ)
  (h1:∀p,atKey xs k=some p->Q p.2 {s with toks:=s.toks+knd.draws k})
  (h2:atKey xs k=none->∀h',h'.DictOfH knd d (storedH xs k a v)->Ue d s.heap h'->Q v {s with heap:=h',toks:=s.toks+knd.draws k}):
  UZ (model prog w) A (dictSetDefault d (.ref a) v) Q E s:=by
 obtain⟨o,es,ep,ho,hc,hd,he,his,hn⟩:=hm;unfold dictSetDefault
 try with_reducible refine VE ?_
 refine U8 (knd.pyHash hu hkey (U8 (wpAny_dictFind_heap (s:={s with toks:=s.toks+knd.draws k}) hu hkey ho hd he his hn (λhno=>?_) λj p hj=>?_)))
 ·have hnone:=atKey_none_of_get hno;refine U8 (VO (U8 (wpAny_updateDictKeys (hz:=by have e:=size_of_entries he;omega) (s:={s with toks:=s.toks+knd.draws k}) ho hd (U7 (h2 hnone _ ⟨_,_,ep+1,Uk _ ho (Obj.isFreed_of_dict (Obj.data_mapDictKeys hd _)),hc.mapDictKeys _,Obj.data_mapDictKeys hd _,?_,?_,?_⟩ (Heap.SameBut.update ..))))))
  ·rw[storedH_new hnone];simp[he,entryOfKey]
  ·rw[storedH_new hnone];intro x hx;rcases List.mem_append.mp hx with hx|hx
   ·exact knd.keeps (his x hx) ho hd (Heap.SameBut.update ..)
   ·rw[SL]at hx;subst hx;exact knd.keeps hkey ho hd (Heap.SameBut.update ..)
  ·rw[storedH_new hnone,RT,Sg];refine⟨hn,by simp,λx hx y hy=>?_⟩;simp only[Q1,Rp,SL]at hy;subst hy;exact λe=>not_mem_keys_of_get hno (e ▸ hx)
 ·refine U8 (Wk (s:={s with toks:=s.toks+knd.draws k}) ho hd ?_);rw[entry_at he j,hj];exact U8 (VO (U7 (h1 p (atKey_of_get hn hj))))
theorem yT{v:UK}{Q:UK->UX->Prop}(hu:knd.room A.in1)(hkey:knd.is s.heap k a)(hm:s.heap.DictOfH knd d xs)(hsm:(d==sysModules)=false)(hsz:xs.length<=UQ)
  (h1:∀p,atKey xs k=some p->Q p.2 {s with toks:=s.toks+knd.draws k})
  (h2:atKey xs k=none->∀h',h'.DictOfH knd d (storedH xs k a v)->Ue d s.heap h'->Q v {s with heap:=h',toks:=s.toks+knd.draws k}):
  UZ (model prog w) A (call (.builtin "dict.setdefault") [.ref d,.ref a,v]) Q E s:=by
 refine VG PySem.F.slot_dict_setdefault hm.typeIs PySem.F.entry_dict_setdefault ?_ (PySem.F.args_dict_setdefault_3 _ _ _);unfold Builtin.«dict.setdefault»;refine U8 ?_;unfold Builtin.Dict.keyAndDefault;refine U8 (Wj hm.typeIs ?_);show UZ _ _ (pure (d,Value.ref a,some v)) _ _ s;refine U7 ?_;show UZ _ _ (if(d==sysModules)=true then _ else(dictSetDefault d (.ref a) v >>= _)) _ _ s;rw[if_neg (by rw[hsm];exact QZ)];exact U8 (zo hu hkey hm hsz (λp hp=>U7 ⟨_,rfl,h1 p hp⟩) λhn h' hm' hs'=>U7 ⟨_,rfl,h2 hn h' hm' hs'⟩)
end
theorem DK{o:Option V}{w:UK}(h:ub o (some w)):∃v,o=some v/\RelV v w:=by
 cases o with
 |none=>exact h.elim
 |some v=>exact⟨v,rfl,h⟩
theorem DA{o:Option V}(h:ub o none):o=none:=by
 cases o with
 |none=>rfl
 |some v=>exact h.elim
section
variable{X:Cx}{pins:List (UN×Obj)}{σ:St}{H:Hp}{s:UX}{a b:UN}{v:V}{r:UK}{kvs:List (List Key×V)}{k:List Key}{A:UW}{E:UK->UX->Prop}
theorem yZ{Q:UK->UX->Prop}(hu:A.units+1<Vp)(I:Inv X pins σ H s)(e:H a=some (.dT kvs))(eb:H b=some (.tup (k.map kV)))(hl:kvs.length<UQ)(rv:RelV v r)
  (h1:∀v' w' s',jF kvs k=some v'->Inv X pins σ H s'->RelV v' w'->Q w' s') (h2:jF kvs k=none->∀s',Inv X pins σ (upd H a (.dT (putK kvs k v))) s'->Q r s'):
  UZ (model X.prog X.w) A (call (.builtin "dict.setdefault") [.ref a,.ref b,r]) Q E s:=by
 obtain⟨z,hd,xs,rel,dd⟩:=JE I.hok e;have hz:xs.length<=UQ:=by rw[<-Paired.length rel];exact z
 have hl2:(putK kvs k v).length<=UQ:=by have:=kn kvs k v;omega
 have q:=rel.val k;refine yT (VM hu) (pq I.hok eb) dd hd hz (λp hp=>?_) λhn h' dd' hs=>?_
 ·rw[hp]at q;obtain⟨v',ev,rv'⟩:=DK q;exact h1 v' _ _ ev (I.tok _) rv'
 ·rw[hn]at q;refine h2 (DA q) _ ?_;obtain⟨q,es,ep,hq,g2,g3,g4,_,g5⟩:=dd';refine oy I (by rw[e];exact True.intro) hs ⟨q,hq⟩ ⟨hl2,hd,_,(rel.put k eb rv).keeps λc ys ec=>?_,q,es,ep,hq,g2,g3,g4,g5⟩;rw[aD (GY ec e (λz=>nomatch z))];exact ec
end
variable[aW]
def LJ:V->List V->Hp->VK->Prop:=λx vs H Q=>∃a b k kvs v,x=.ref a/\vs=[.ref b,v]/\H b=some (.tup (k.map kV))/\(H a=some (.dT kvs)\/(H a=some (.dK [])/\kvs=[]))/\kvs.length<UQ/\(∀v',jF kvs k=some v'->Q v' H)/\(jF kvs k=none->Q v (upd H a (.dT (putK kvs k v))))
theorem Hu{X:Cx}(hu:X.A.units+64<Vp):MZ X "dict.setdefault" LJ:=by
 intro pins s σ H x vs v us Q I rx rv h;obtain⟨a,b,k,kvs,v',rfl,rfl,hb,ha,hl,h1,h2⟩:=h;cases rx;obtain⟨u1,u,rfl,r1,ru⟩:=rv.two;obtain rfl:u1=Value.ref b:=r1;rcases ha with ha|⟨ha,rfl⟩
 ·exact yZ ‹0› I ha hb hl ru (λv1 w1 s1 e I1 r=>⟨v1,H,I1,r,h1 v1 e⟩) λe s1 I1=>⟨v',_,I1,ru,h2 e⟩
 ·have ne:b≠a:=λz=>by rw[z,ha]at hb;cases hb
  refine yZ ‹0› (Fp I ha) aY (by rw[aD ne];exact hb) hl ru (λv1 w1 s1 e=>by cases e) λe s1 I1=>⟨v',_,?_,ru,h2 e⟩
  rw[tN]at I1;exact I1
end TG
namespace TG
open PySem PySem.Spec L2
variable[aW]
theorem eY.setN{K:Tu}{Hb:Hp}{Ob O O':List UN}{H H':Hp}{ρ:aq}{σ:St}(S:eY K Hb Ob O H ρ σ){i:Nat}{d d':D}(hi:ρ[i]?=some (some (.nest d)))(sub:∀b∈O,b∈O')(s:bj (hid H O) (hid H' O'))(hb:Base Hb Ob H' O')(all:dU H' O')
  (keep:∀(j:Nat) xs b,ρ[j]?=some (some (.own xs))->σ[j]?=some (some (.ref b))->H b=H' b) (new:BK K Hb Ob O' H' (ρ.set i (some (.nest d'))) σ i d'):eY K Hb Ob O' H' (ρ.set i (some (.nest d'))) σ:=by
 have own:∀(j:Nat) xs,(ρ.set i (some (.nest d')))[j]?=some (some (.own xs))->ρ[j]?=some (some (.own xs)):=λj xs e=>by
  rcases bg e with⟨_,q⟩|⟨_,q⟩
  ·cases q
  ·exact q
 refine⟨⟨λj d1 e=>?_,λj xs e=>?_,λj l xs ys a e1 e2 e3 e4=>S.env.one j l xs ys a (own j xs e1) (own l ys e2) e3 e4,all⟩,hb,λj xs a e1 e2=>S.mine j xs a (own j xs e1) e2,λj dn e=>?_⟩
 ·rcases bg e with⟨_,q⟩|⟨_,q⟩
  ·cases q
  ·obtain⟨v,q1,q2⟩:=S.env.val j d1 q;exact⟨v,q1,q2.mono s⟩
 ·obtain⟨a,q1,q2,q3⟩:=S.env.own j xs (own j xs e);exact⟨a,q1,sub a q2,q3.mono (keep j xs a (own j xs e) q1) s⟩
 ·rcases bg e with⟨hj,q⟩|⟨ne,q⟩
  ·cases q;rw[hj];exact new
  ·obtain⟨_,_,_,_,_,_,one⟩:=S.nst i d hi;exact absurd (one j dn q) ne
def LQ:aq->Bool
 |[]=>true
 |some (.nest _)::_=>false
 |_::ρ=>LQ ρ
theorem p8:∀{ρ:aq},LQ ρ=true->∀(j:Nat) d,ρ[j]?≠some (some (.nest d))
 |[],_,j,d,e=>by simp at e
 |none::ρ,h,j,d,e=>by
  cases j with
  |zero=>simp at e
  |succ j=>exact p8 (ρ:=ρ) h j d (by simpa using e)
 |some (.val _)::ρ,h,j,d,e=>by
  cases j with
  |zero=>simp at e
  |succ j=>exact p8 (ρ:=ρ) h j d (by simpa using e)
 |some (.own _)::ρ,h,j,d,e=>by
  cases j with
  |zero=>simp at e
  |succ j=>exact p8 (ρ:=ρ) h j d (by simpa using e)
 |some (.nest _)::ρ,h,j,d,e=>by cases h
theorem eY.setNewN{K:Tu}{Hb:Hp}{Ob O:List UN}{H H':Hp}{ρ:aq}{σ:St}(E:eY K Hb Ob O H ρ σ){i:Nat}{p:UN}(hi:i<σ.length)(sm:bj H H')(hp:H p=none)(m:∃o,H' p=some o/\sB o)(hn:LQ ρ=true)(new:dD K H' (p::O) p (.dct [] [])):
  eY K Hb Ob (p::O) H' (ρ.set i (some (.nest (.dct [] [])))) (σ.set i (some (.ref p))):=by
 have T:=E.setNew hi sm hp m new;have key:∀(j:Nat)(x:S),(ρ.set i (some (.nest (.dct [] []))))[j]?=some (some x)->(j=i/\x=.nest (.dct [] []))\/(j≠i/\(ρ.set i (some (.own (.dct [] []))))[j]?=some (some x)):=λj x e=>by
  rcases bg e with⟨hj,q⟩|⟨ne,q⟩
  ·cases q;exact .inl ⟨hj,rfl⟩
  ·exact .inr ⟨ne,by rw[QS (Ne.symm ne)];exact q⟩
 refine⟨⟨λj d e=>?_,λj xs e=>?_,λj l xs ys a e1 e2 e3 e4=>?_,T.env.all⟩,T.base,λj xs a e1 e2=>?_,λj dn e=>?_⟩
 ·rcases key j _ e with⟨_,q⟩|⟨_,q⟩
  ·cases q
  ·exact T.env.val j d q
 ·rcases key j _ e with⟨_,q⟩|⟨_,q⟩
  ·cases q
  ·exact T.env.own j xs q
 ·rcases key j _ e1 with⟨_,q⟩|⟨_,q1⟩
  ·cases q
  ·rcases key l _ e2 with⟨_,q⟩|⟨_,q2⟩
   ·cases q
   ·exact T.env.one j l xs ys a q1 q2 e3 e4
 ·rcases key j _ e1 with⟨_,q⟩|⟨_,q⟩
  ·cases q
  ·exact T.mine j xs a q e2
 ·rcases key j _ e with⟨hj,q⟩|⟨ne,q⟩
  ·cases q;subst hj;refine⟨p,[],QR hi,⟨[],trivial,?_⟩,by simp,λb hb=>?_,λl d' w=>?_⟩
   ·obtain⟨o,vs,h1,h2,h3⟩:=new;rcases h3 with⟨kvs,e1,e2,_⟩|⟨kvs,e1,e2,_⟩
    ·have:kvs=[]:=(by cases kvs with|nil=>rfl|cons _ _=>cases e2);subst this e1;exact .inr (.inr ⟨rfl,rfl,h1⟩)
    ·have:kvs=[]:=(by cases kvs with|nil=>rfl|cons _ _=>cases e2);subst this e1;exact .inr (.inl ⟨[],rfl,h1,rfl⟩)
   ·rw[List.mem_singleton.mp hb];refine⟨QO,E.base.same.free hp,λz=>E.env.all.not hp (E.base.sub p z),λl d' w z=>?_⟩;rcases key l _ w with⟨_,q⟩|⟨nl,q⟩
    ·cases q
    ·exact nl (T.env.one l j d' (.dct [] []) p q (QR (by
      have:=(List.getElem?_eq_some_iff.mp e).1
      rw[List.length_set]at this;exact this)) z (QR hi))
   ·rcases key l _ w with⟨hl,_⟩|⟨nl,q⟩
    ·exact hl
    ·rw[QS (Ne.symm nl)]at q;exact absurd q (p8 hn l d')
  ·rw[QS (Ne.symm ne)]at q;exact absurd q (p8 hn j dn)
def zM(i:Nat):cn:=λk ρ=>if LQ ρ then k.nx (ρ.set i (some (.nest (.dct [] []))))else un
section
variable{X:Cx}{pos:Pos}
theorem Nr{i:Nat}{x:Str}{dp pos':Pos}(hN:X.N.Nodup)(hi:X.N[i]?=some x)(hx:Loc X.env.scope x)(hs:swapsWith (.Dict [] [] dp) (some (.Name x pos')) pos.line X.env=pure false:=by rfl)(hf:X.fn x=true\/X.env.scope.names.lookup x=some .local:=by first|exact .inl rfl|exact .inr rfl|assumption):
  FS X (.Assign [.Name x pos'] (.Dict [] [] dp) pos) (zM i):=λHb Ob pins s σ H E I ⟨O,ρ,k,r,S,hF,hk⟩=>by
 unfold zM at hF;cases hn:LQ ρ with
 |false=>rw[hn]at hF;exact absurd hF.symm hk.ne
 |true=>
  rw[hn]at hF;exact Bd hN hi hx EW hs hf pins s σ H E I ⟨O,ρ,S.env,λp H1 s1 hp m o=>hk.nx _ _ _ H1 (S.setNewN (by rw[I.len];exact(List.getElem?_eq_some_iff.mp hi).1) s1 hp m hn o) hF⟩
end
theorem nM.den{K:Tu}{H:Hp}{O O':List UN}(s:bj (hid H O) (hid H O')):∀{bs:List UN}{xs:List D},nM K H O bs xs->(∀b∈bs,b∉O')->bb K (hid H O') xs (bs.map .ref)
 |[],[],_,_=>cI.mpr rfl
 |b::bs,x::xs,h,n=>bo.mpr ⟨_,_,rfl,h.1.den s (n b QO),nM.den s h.2 λb' hb=>n b' (QP _ hb)⟩
 |[],_::_,h,_=>h.elim
 |_::_,[],h,_=>h.elim
end TG
namespace TG
open PySem PySem.Spec L2
variable[aW]
def u9:List (List Key×D)->List Key->D->Option (List (List Key×D))
 |[],q,v=>some [(q,.lst [v])]
 |p::r,q,v=>if p.1=q then(match p.2 with
   |.lst ys=>if small (ys.length+1)then some ((p.1,.lst (ys++[v]))::r)else none
   |_=>none)else(u9 r q v).map (p::·)
def yC(ks xs:List D)(k v:D):Option (List (List Key×D)):=(kI ks xs).bind λal=>(jS k).bind λq=>if small al.length then u9 al q v else none
theorem D5{ks ds:List D}{k v:D}{al':List (List Key×D)}(h:yC ks ds k v=some al'):∃al q,ks=encK al/\ds=al.map (·.2)/\k=.tup (q.map bx)/\small al.length=true/\u9 al q v=some al':=by
 unfold yC at h;cases e1:kI ks ds with
 |none=>rw[e1]at h;cases h
 |some al=>
  rw[e1]at h;cases e2:jS k with
  |none=>rw[e2]at h;cases h
  |some q=>
   rw[e2]at h;obtain⟨h3,h4⟩:=wH (show(if small al.length then u9 al q v else none)=some al' from h);exact⟨al,q,(jh e1).1,(jh e1).2,nZ e2,h3,h4⟩
theorem nM.imp{K:Tu}{H H':Hp}{O O':List UN}:∀{bs:List UN}{xs:List D},nM K H O bs xs->(∀c∈bs,∀x,dD K H O c x->dD K H' O' c x)->nM K H' O' bs xs
 |[],[],_,_=>trivial
 |b::bs,x::xs,h,f=>⟨f b QO x h.1,nM.imp h.2 λc hc=>f c (QP _ hc)⟩
 |[],_::_,h,_=>h.elim
 |_::_,[],h,_=>h.elim
theorem nM.snoc{K:Tu}{H:Hp}{O:List UN}{b:UN}{x:D}(hx:dD K H O b x):∀{bs:List UN}{xs:List D},nM K H O bs xs->nM K H O (bs++[b]) (xs++[x])
 |[],[],_=>⟨hx,trivial⟩
 |b'::bs,x'::xs,h=>⟨h.1,nM.snoc hx h.2⟩
 |[],_::_,h=>h.elim
 |_::_,[],h=>h.elim
theorem xf{K:Tu}{H:Hp}{O:List UN}{q:List Key}{v:D}:∀{al al':List (List Key×D)}{kvs:List (List Key×V)}{bs:List UN},kvs.map (·.1)=al.map (·.1)->kvs.map (·.2)=bs.map .ref->nM K H O bs (al.map (·.2))->bs.Nodup->u9 al q v=some al'->
  (∃b ys,jF kvs q=some (.ref b)/\b∈bs/\dD K H O b (.lst ys)/\small (ys.length+1)=true/\al'.map (·.1)=al.map (·.1)/\∀H' O',(∀c∈bs,c≠b->∀x,dD K H O c x->dD K H' O' c x)->dD K H' O' b (.lst (ys++[v]))->nM K H' O' bs (al'.map (·.2))) \/
  (jF kvs q=none/\al'=al++[(q,.lst [v])])
 |[],al',kvs,bs,e1,e2,h,nd,g=>by
  cases kvs with
  |cons _ _=>cases e1
  |nil=>cases g;exact .inr ⟨rfl,rfl⟩
 |p::al,al',kvs,bs,e1,e2,h,nd,g=>by
  cases kvs with
  |nil=>cases e1
  |cons p' kvs=>
   cases bs with
   |nil=>cases e2
   |cons b bs=>
    rw[Q1,Q1]at e1 e2;injection e1 with f1 f2;injection e2 with f3 f4;obtain⟨n1,n2⟩:=List.nodup_cons.mp nd;have h:dD K H O b p.2/\nM K H O bs (al.map (·.2)):=h;unfold u9 at g;by_cases eq:p.1=q
    ·rw[if_pos eq]at g;left;split at g
     ·rename_i ys hp;obtain⟨g1,g2⟩:=bI g;subst g2;rw[hp]at h;refine⟨b,ys,by rw[lB (f1.trans eq),f3],QO,h.1,g1,rfl,λH' O' oth new=>⟨new,h.2.imp λc hc=>oth c (QP _ hc) λz=>n1 (by rw[<-z];exact hc)⟩⟩
     ·cases g
    ·rw[if_neg eq]at g;cases g2:u9 al q v with
     |none=>rw[g2]at g;cases g
     |some al2=>
      rw[g2]at g;cases g;rcases xf f2 f4 h.2 n2 g2 with⟨c,ys,w1,w2,w3,w4,w5,w6⟩|⟨w1,w2⟩
      ·refine .inl ⟨c,ys,by rw[jL (by rw[f1];exact eq)];exact w1,QP _ w2,w3,w4,by rw[Q1,Q1,w5],λH' O' oth new=>⟨oth b QO (λz=>n1 (by rw[z];exact w2)) _ h.1,w6 H' O' (λc' hc=>oth c' (QP _ hc)) new⟩⟩
      ·exact .inr ⟨by rw[jL (by rw[f1];exact eq)];exact w1,by rw[w2];rfl⟩
theorem vH{kvs:List (List Key×V)}{q:List Key}{v:V}(h:jF kvs q=none):putK kvs q v=kvs++[(q,v)]:=by
 unfold putK;rw[tW,h];rfl
def Eh(i:Nat)(fk fv:FX):cn:=λk ρ=>match ρ[i]? with
 |some (some (.nest (.dct ks xs)))=>((Ad (fk ρ)).bind λq=>(Ad (fv ρ)).bind λv=>rO (yC ks xs q v)).bind λal=>k.nx (ρ.set i (some (.nest (dG al))))
 |_=>un
theorem Df{i:Nat}{fk fv:FX}{k:Ks}{ρ:aq}{r:R D}(h:Eh i fk fv k ρ=r)(hr:r≠un):∃al q v al',ρ[i]?=some (some (.nest (dG al)))/\fk ρ=.ok (.tup (q.map bx))/\fv ρ=.ok v/\small al.length=true/\u9 al q v=some al'/\k.nx (ρ.set i (some (.nest (dG al'))))=r:=by
 unfold Eh at h;split at h
 ·rename_i ks xs hi;cases e1:fk ρ with
  |error z=>rw[e1]at h;exact absurd h.symm hr
  |ok qd=>
   rw[e1]at h;cases e2:fv ρ with
   |error z=>rw[e2]at h;exact absurd h.symm hr
   |ok v=>
    rw[e2]at h;have h':(rO (yC ks xs qd v)).bind (λal=>k.nx (ρ.set i (some (.nest (dG al)))))=r:=h;clear h;cases e3:yC ks xs qd v with
    |none=>rw[e3]at h';exact absurd h'.symm hr
    |some al'=>
     rw[e3]at h';obtain⟨al,q,f1,f2,f3,f4,f5⟩:=D5 e3;subst f1 f2 f3;exact⟨al,q,v,al',hi,rfl,rfl,f4,f5,h'⟩
 ·exact absurd h.symm hr
theorem tR{K:Tu}{H:Hp}{O:List UN}{a:UN}{bs:List UN}{al:List (List Key×D)}(h:Aa K H O a bs (dG al)):∃kvs:List (List Key×V),(H a=some (.dT kvs)\/(H a=some (.dK [])/\kvs=[]))/\kvs.map (·.1)=al.map (·.1)/\kvs.map (·.2)=bs.map .ref/\nM K H O bs (al.map (·.2)):=by
 obtain⟨xs,h1,h2⟩:=h;rcases h2 with⟨e,_⟩|⟨kvs,e,q,e2⟩|⟨e,e2,q⟩
 ·cases e
 ·injection e with f1 f2;subst f2;refine⟨kvs,.inl q,?_,e2,h1⟩;exact(mX (ks:=kvs.map (·.1)) (by rw[SE];exact f1)).symm
 ·injection e with f1 f2;subst f2 e2
  have:al=[]:=by
   cases al with
   |nil=>rfl
   |cons _ _=>cases f1
  subst this;exact⟨[],.inr ⟨q,rfl⟩,rfl,rfl,h1⟩
section
variable{X:Cx}
theorem Pz{i:Nat}{x:Str}{ke ve:U0}{fk fv:FX}{npos ap1 cp1 lp ap2 cp2 pos:Pos}(hu:X.A.units+64<Vp)(hx:PE X (.Name x npos) (qy i))(hke:FE X ke fk)(hve:FE X ve fv)(hn1:noStar ke=true:=by rfl)(hn2:noStar ve=true:=by rfl)
  (hb1:Vl (.Name x npos) "setdefault" X.env (eval (.Name x npos) X.env)=eval (.Name x npos) X.env:=by rfl)
  (hf1:((backTo cp1 (U1 [ke,.List [] lp] X.env)).all (λx=>!x.1)&&(backToKw cp1 (Vn [] X.env)).all (λx=>x.1.isSome)&&decide (([ke,.List [] lp]:List U0).length+([]:List Vv).length+(if([]:List Vv).isEmpty then 0 else 1)<30))=true:=by rfl)
  (hl1:(ap1.endLine==cp1.line)=true:=by rfl) (hp1:(backTo cp1 (U1 [.List [] lp] X.env)).any (·.1)=false:=by rfl)
  (hb2:Vl (.Call (.Attribute (.Name x npos) "setdefault" ap1) [ke,.List [] lp] [] cp1) "append" X.env (eval (.Call (.Attribute (.Name x npos) "setdefault" ap1) [ke,.List [] lp] [] cp1) X.env)=eval (.Call (.Attribute (.Name x npos) "setdefault" ap1) [ke,.List [] lp] [] cp1) X.env:=by rfl)
  (hf2:((backTo cp2 (U1 [ve] X.env)).all (λx=>!x.1)&&(backToKw cp2 (Vn [] X.env)).all (λx=>x.1.isSome)&&decide (([ve]:List U0).length+([]:List Vv).length+(if([]:List Vv).isEmpty then 0 else 1)<30))=true:=by rfl)
  (hl2:(ap2.endLine==cp2.line)=true:=by rfl) (hp2:(backTo cp2 (U1 [] X.env)).any (·.1)=false:=by rfl)
  (hsw:swapsWith (.Call (.Attribute (.Call (.Attribute (.Name x npos) "setdefault" ap1) [ke,.List [] lp] [] cp1) "append" ap2) [ve] [] cp2) none pos.line X.env=pure false:=by rfl):
  FS X (.Expr (.Call (.Attribute (.Call (.Attribute (.Name x npos) "setdefault" ap1) [ke,.List [] lp] [] cp1) "append" ap2) [ve] [] cp2) pos) (Eh i fk fv):=λHb Ob pins s σ H E I ⟨O,ρ,k,rr,S,hF,hk⟩=>by
 obtain⟨al,q,v,al',hi,hfk,hfv,hsm,hg,hnx⟩:=Df hF hk.ne;obtain⟨a,bs,ha,hat,nd,hbs,one⟩:=S.nst i _ hi;obtain⟨kvs,hH,ek,ev,hO⟩:=tR hat;obtain⟨na,nb⟩:=List.nodup_cons.mp nd;obtain⟨aO,aHb,aOb,aS⟩:=hbs a QO;have hlen:kvs.length<UQ:=by
  have:kvs.length=al.length:=by have:=congrArg List.length ek;simpa using this
  rw[this];exact R0 (of_decide_eq_true hsm) (by decide)
 refine xF (BC F.plainAttrs_list F.slot_list_append F.type_list_append eP (BC F.plainAttrs_dict F.slot_dict_setdefault F.type_dict_setdefault (Hu hu) hx (j6 hke (j6 (Bb pF) pF) (dh hn1)) hb1 hf1 hl1 (dh hn1) hp1) (Ij hve Ko hn2) hb2 hf2 hl2 (dh hn2) hp2) hsw pins s σ H E I ?_;refine⟨.ref a,ha,.inr (.inr (.inl ⟨rfl,?_⟩)),O,ρ,S.env,?_⟩
 ·rcases hH with h|⟨h,_⟩
  ·exact .inr ⟨_,h⟩
  ·exact .inl ⟨_,h⟩
 rw[hfk];intro y H1 s1 d1;refine⟨Q4 _,λp hp=>?_⟩;obtain⟨b,ws,eb,g1,g2⟩:=cN.mp d1;rw[jC g2]at g1;have hb1':H1 b=some (.tup (q.map kV)):=(aB H1 O) _ _ g1;have bp:b≠p:=bc hb1' hp;have ap:a≠p:=by
  rcases hH with h|⟨h,_⟩
  ·exact bc (s1 _ _ h) hp
  ·exact bc (s1 _ _ h) hp
 have pHb:Hb p=none:=(S.base.same.trans s1).free hp;have pO:p∉O:=(S.env.all.same s1).not hp;have pOb:p∉Ob:=λz=>pO (S.base.sub p z);have bsp:∀c∈bs,c≠p:=λc hc=>by
  obtain⟨o,ho⟩:=hO.some c hc;exact bc (s1 _ _ ho) hp
 have E2:eI X.K (p::O) (upd H1 p (.lst [])) ρ σ:=(S.env.same s1).hideNew trivial hp;have sm2:bj (hid H O) (hid (upd H1 p (.lst [])) (p::O)):=(bN s1).trans (t7 hp);have sH2:bj H (upd H1 p (.lst [])):=s1.trans (bL hp _);have pS:∀(j:Nat) d',ρ[j]?=some (some (.own d'))->σ[j]?≠some (some (.ref p)):=λj d' w z=>by
  obtain⟨c,e1,e2,_⟩:=S.env.own j d' w;rw[z]at e1;cases e1;exact pO e2
 have fin:∀(H3:Hp)(l:UN)(wl:List V)(ys:List D)(bs':List UN)(kvs':List (List Key×V)),eI X.K (p::O) H3 ρ σ->bj (hid (upd H1 p (.lst [])) (p::O)) (hid H3 (p::O))->(∀c o,c≠a->(upd H1 p (.lst [])) c=some o->H3 c=some o)->l∈bs'->l≠a->H3 l=some (.lst wl)->bb X.K (hid H3 (p::O)) ys wl->ys.length+1<=100000->
   (H3 a=some (.dT kvs'))->kvs'.map (·.1)=al'.map (·.1)->kvs'.map (·.2)=bs'.map .ref->(a::bs').Nodup->(∀c∈bs',c∈bs\/c=p)->
   (∀H' O',(∀c∈bs',c≠l->∀x,dD X.K H3 (p::O) c x->dD X.K H' O' c x)->dD X.K H' O' l (.lst (ys++[v]))->nM X.K H' O' bs' (al'.map (·.2)))->
   P9 X.K "list" (.ref l) H3/\NY X (af fv aw) σ H3 λvs H4=>x8 (.ref l) vs H4 λ_ H5=>E.nx σ H5:=by
  intro H3 l wl ys bs' kvs' E3 sm3 keep3 lb la hl3 dl ln ha3 k1 k2 nd' mem new;refine⟨.inl ⟨rfl,wl,pH.of hl3⟩,p::O,ρ,E3,?_⟩;have e1:(af fv aw) ρ=.ok [v]:=by
   show(fv ρ).bind _=_;rw[hfv];rfl
  rw[e1];intro vs H4 s4 dv;obtain⟨y',rfl,dy⟩:=dv.one;have lO:l∈p::O:=by
   rcases mem l lb with z|z
   ·exact QP _ (hbs l (QP _ z)).1
   ·rw[z];exact QO
  have lHb:Hb l=none:=by
   rcases mem l lb with z|z
   ·exact(hbs l (QP _ z)).2.1
   ·rw[z];exact pHb
  have lS:∀(j:Nat) d',ρ[j]?=some (some (.own d'))->σ[j]?≠some (some (.ref l)):=by
   rcases mem l lb with z|z
   ·exact(hbs l (QP _ z)).2.2.2
   ·rw[z];exact pS
  have hl4:=s4 _ _ hl3;have sm5:bj (hid H3 (p::O)) (hid (upd H4 l (.lst (wl++[y']))) (p::O)):=(bN s4).trans (iE lO);have wlen:=dl.length;refine⟨l,wl,y',rfl,rfl,hl4,by rw[<-wlen];exact QI (Nat.lt_of_succ_le ln) (by decide),hk.nx (p::O) _ σ _ (S.setN hi (λc hc=>QP _ hc) ((sm2.trans sm3).trans sm5) ⟨λc u h=>?_,λc hc=>QP _ (S.base.sub c hc),λc hc=>?_⟩ ((E3.all.same s4).upd lO trivial) (λj xs c w1 w2=>?_) ?_) hnx⟩
  ·have ca:c≠a:=λz=>by rw[z,aHb]at h;cases h
   have cl:c≠l:=λz=>by rw[z,lHb]at h;cases h
   rw[aD cl];exact s4 _ _ (keep3 c u ca (sH2 _ _ (S.base.same c u h)))
  ·rcases List.mem_cons.mp hc with z|z
   ·rw[z];exact .inr pHb
   ·exact S.base.new c z
  ·obtain⟨c',q1,q2,q3⟩:=S.env.own j xs w1;rw[w2]at q1;cases q1;obtain⟨o,ho⟩:=q3.some;have ca:c≠a:=λz=>aS j xs w1 (by rw[<-z];exact w2);have cl:c≠l:=λz=>lS j xs w1 (by rw[<-z];exact w2);rw[ho,aD cl];exact(s4 _ _ (keep3 c o ca (sH2 _ _ ho))).symm
  ·refine⟨a,bs',ha,⟨al'.map (·.2),new _ _ (λc hc ne x hx=>hx.mono ?_ sm5) ⟨_,_,aY,rfl,?_⟩,.inr (.inl ⟨kvs',?_,?_,k2⟩)⟩,nd',λc hc=>?_,λj d' w=>?_⟩
   ·obtain⟨o,ho⟩:=hx.some;rw[aD ne,ho,s4 _ _ ho]
   ·exact(dl.mono sm5).append (bo.mpr ⟨y',[],rfl,dy.mono (iE lO),cI.mpr rfl⟩)
   ·show D.dct (encK al') _=_;rw[uS k1]
   ·rw[aD (Ne.symm la)];exact s4 _ _ ha3
   ·have own:∀(j:Nat) d',(ρ.set i (some (.nest (dG al'))))[j]?=some (some (.own d'))->ρ[j]?=some (some (.own d')):=λj d' w=>by
     rcases bg w with⟨_,z⟩|⟨_,z⟩
     ·cases z
     ·exact z
    rcases List.mem_cons.mp hc with z|z
    ·rw[z];exact⟨QP _ aO,aHb,aOb,λj d' w=>aS j d' (own j d' w)⟩
    ·rcases mem c z with z'|z'
     ·obtain⟨w1,w2,w3,w4⟩:=hbs c (QP _ z');exact⟨QP _ w1,w2,w3,λj d' w=>w4 j d' (own j d' w)⟩
     ·rw[z'];exact⟨QO,pHb,pOb,λj d' w=>pS j d' (own j d' w)⟩
   ·rcases bg w with⟨hj,_⟩|⟨_,z⟩
    ·exact hj
    ·exact one j d' z
 have hH2:upd H1 p (.lst []) a=some (.dT kvs)\/(upd H1 p (.lst []) a=some (.dK [])/\kvs=[]):=by
  rw[aD ap];rcases hH with h|⟨h,z⟩
  ·exact .inl (s1 _ _ h)
  ·exact .inr ⟨s1 _ _ h,z⟩
 have hO2:nM X.K (upd H1 p (.lst [])) (p::O) bs (al.map (·.2)):=hO.mono sm2 λc hc ⟨o,ho⟩=>by rw[aD (bsp c hc),ho,s1 _ _ ho]
 refine⟨a,b,q,kvs,.ref p,rfl,by rw[eb],by rw[aD bp];exact hb1',hH2,hlen,λv' hv=>?_,λhv=>?_⟩
 ·rcases xf ek ev hO2 nb hg with⟨c,ys,w1,w2,w3,w4,w5,w6⟩|⟨w1,_⟩
  ·rw[w1]at hv;cases hv;obtain⟨o,wl,h1,h2,h3⟩:=w3;subst h2;rcases hH2 with hH2|⟨_,z⟩
   ·exact fin _ c wl ys bs kvs E2 (λ_ _ z=>z) (λ_ _ _ z=>z) w2 (λz=>na (by rw[<-z];exact w2)) h1 h3 (of_decide_eq_true w4) hH2 (ek.trans w5.symm) ev nd (λ_ z=>.inl z) w6
   ·subst z;cases w1
  ·rw[w1]at hv;cases hv
 ·rcases xf ek ev hO2 nb hg with⟨c,ys,w1,_⟩|⟨_,w2⟩
  ·rw[w1]at hv;cases hv
  ·subst w2;have aO2:a∈p::O:=QP _ aO;refine fin (upd (upd H1 p (.lst [])) a (.dT (putK kvs q (.ref p)))) p [] [] (bs++[p]) (putK kvs q (.ref p)) (E2.rewrite (show sB (.dT (putK kvs q (.ref p)))from trivial) aO2 aS) (iE aO2) (λc o ne z=>by rw[aD ne];exact z) (by simp) (Ne.symm ap) (by rw[aD (Ne.symm ap)];exact aY) (cI.mpr rfl) (by decide) aY ?_ ?_ ?_ (λc hc=>?_) λH' O' oth new=>?_
   ·rw[vH hv,RT,RT,ek];rfl
   ·rw[vH hv,RT,RT,ev];rfl
   ·refine List.nodup_cons.mpr ⟨λz=>?_,List.nodup_append.mpr ⟨nb,by simp,λc hc c' hc' e=>?_⟩⟩
    ·rcases List.mem_append.mp z with z|z
     ·exact na z
     ·exact ap (List.mem_singleton.mp z)
    ·rw[List.mem_singleton.mp hc']at e;exact bsp c hc e
   ·rcases List.mem_append.mp hc with z|z
    ·exact .inl z
    ·exact .inr (List.mem_singleton.mp z)
   ·rw[RT];refine nM.snoc new (hO2.imp λc hc x hx=>oth c (QQ _ hc) (bsp c hc) x (hx.mono ?_ (iE aO2)));exact(aD λz=>na (by rw[<-z];exact hc)).symm
end
end TG
namespace TG
open PySem PySem.Spec L2
section
variable{prog:UM}{w:UL}{A:UW}{E:UK->UX->Prop}{s:UX}{it d v:UN}{i ep:Nat}{o:Obj}{es:Array Wl}{ok ov:UK}
theorem Ah{Q:UK->UX->Prop}(ho:s.heap.get? d=some o)(hx:o.ExactDict)(hd:(d==sysModules)=false)(h:Q (.ref s.heap.objs.size) {s with heap:=s.heap.push {cls:=.type "dict_items",data:=.fields #[.ref d]}}):
  UZ (model prog w) A (call (.builtin "dict.items") [.ref d]) Q E s:=by
 refine VG PySem.F.slot_dict_items ⟨o,ho,hx.1⟩ PySem.F.entry_dict_items ?_ (PySem.F.args_dict_items_1 _);unfold Builtin.«dict.items»;refine U8 ?_;unfold Builtin.Dict.noArgs;refine U8 (Wj ⟨o,ho,hx.1⟩ ?_);show UZ _ _ (pure d) _ _ s;refine U7 ?_;show UZ _ _ (Builtin.Dict.showsAll d >>= _) _ _ s;unfold Builtin.Dict.showsAll;rw[if_neg (by rw[hd];exact QZ)];exact U8 (U7 (U8 (VI (U7 ⟨_,rfl,h⟩))))
theorem A7{Q:UK->UX->Prop}(hv:s.heap.IsItemsView v d)(ho:s.heap.get? d=some o)(hdat:o.data=.dict es ep)
  (hQ:Q (.ref s.heap.objs.size) {s with heap:=s.heap.push {cls:=.type "dict_itemiterator",data:=.fields #[.none,.bool false,.ref d,.int 0 0,.int es.size 0,.int ep 0,.none,.none]}}):UZ (model prog w) A (pyIter (.ref v)) Q E s:=by
 obtain⟨w1,hov,hcv,hdv⟩:=id hv;refine wpAny_pyIter_slot hv.typeIs F.slot_dict_items_iter (VG F.slot_dict_items_iter hv.typeIs F.entry_dict_items_iter ?_ (F.args_dict_items_iter_1 _));unfold Builtin.«dict_items.__iter__»;refine U8 (U7 (U8 ?_));unfold Builtin.Dict_items.dictOf;refine U8 (VD hov hdv (x:=.ref d) rfl (U7 (U8 ?_)));unfold Builtin.Dict_items.newIterator;refine U8 (Wk ho hdat (U8 (Wm ho hdat ?_)));simp only[show Builtin.Dict_items.ownsTuple "dict_itemiterator"=true by decide,if_true];refine VI (U7 ⟨_,rfl,"dict_itemiterator",_,⟨_,Uh _ rfl,rfl⟩,F.slot_dict_itemiterator_next.lookup,?_⟩) (by simp only[sizeOk,Builtin.Dict_items.ownedTupleFields,QY,Rh,Q0,Rt,Vi];omega)
 simpa [rawInt,Builtin.Dict_items.ownedTupleFields]using hQ
theorem AC{Q:Option UK->UX->Prop}(hit:Wn s.heap it d i es.size ep ok ov)(hod:s.heap.get? d=some o)(hdd:o.data=.dict es ep)(hlt:i<es.size)
  (hQ:∀ h',Wo h' it d (i+1) es.size ep es[i].key es[i].val s.heap.objs.size->h'.get? s.heap.objs.size=some { cls:=.type "tuple",data:=.seq #[es[i].key,es[i].val] }->h'.objs.size=s.heap.objs.size+1 ->
   (∀b o,b≠it->s.heap.get? b=some o->h'.get? b=some o)->Q (some (.ref s.heap.objs.size)) {s with heap:=h'}):UZ (model prog w) A (pyNext (.ref it)) Q E s:=by
 obtain⟨hp,g,dr,tk,os⟩:=s;have hT:Shared.TypeIs ⟨hp,g,dr,tk,os⟩ (.ref it) "dict_itemiterator":=⟨_,hit,rfl⟩
 unfold pyNext;refine U8 (V4 (VF (name:=Str.ofString "__next__") hT F.slot_dict_itemiterator_next (VG F.slot_dict_itemiterator_next hT F.entry_dict_itemiterator_next ?_ (F.args_dict_itemiterator_next_1 _))));refine U8 (U7 (U8 (U8 ?_)));first|refine U8 (Wp hT (U7 ?_))|refine U8 (Wq hT (U7 ?_))
 refine U8 (Wr hit rfl ?_);have hown:Builtin.Dict_items.ownsTuple "dict_itemiterator"=true:=by decide
 simp only[hown,if_true];show UZ _ _ (if(Value.ref d==Value.none)=true then _ else _) _ _ _;rw[if_neg (show¬((Value.ref d==Value.none)=true)from QZ)];refine U8 (U7 (U8 (Wk hod hdd ?_)));rw[if_neg (by simp)];refine U8 (U7 (U8 (Wm hod hdd ?_)));rw[if_neg (by simp)];refine U7 ?_;simp only[show¬((i:Int)<0)from by omega,if_false,Ri,Array.getElem?_eq_getElem hlt];refine U8 ?_;first|refine U8 (Wp hT (U7 ?_))|refine U8 (Wq hT (U7 ?_))
 refine U8 (Wt hT ?_);show UZ _ _ (setField (.ref it) 3 (rawInt ((i:Int)+1)) >>= _) _ _ ⟨hp,g,dr,tk,os⟩;refine U8 (VY hit (by simp) λh₁ he₁ hs₁=>?_);replace hs₁:Ue it hp h₁:=hs₁
 replace he₁:Wn h₁ it d (i+1) es.size ep ok ov:=by
  have e:((i+1:Nat):Int)=(i:Int)+1:=by omega
  unfold Wn;rw[e];simpa [rawInt]using he₁
 have hT₁:Shared.TypeIs ⟨h₁,g,dr,tk,os⟩ (.ref it) "dict_itemiterator":=⟨_,he₁,rfl⟩
 refine U8 (VE (U8 (Wt hT₁ (U8 (Wt hT₁ ?_)))));show UZ _ _ (Builtin.Dict_items.pairFromOwner (.ref it) 6 es[i].key es[i].val) _ _ ⟨h₁,g,dr,tk,os⟩;unfold Builtin.Dict_items.pairFromOwner;refine U8 (V3 ?_);have he₂:Wn (h₁.push {cls:=.type "tuple",data:=.seq #[es[i].key,es[i].val]}) it d (i+1) es.size ep ok ov:=Ug _ he₁;generalize hh₂:h₁.push {cls:=.type "tuple",data:=.seq #[es[i].key,es[i].val]}=h₂ at he₂;have hz₁:h₁.objs.size=hp.objs.size:=hs₁.1;have hil:it<hp.objs.size:=Uc hit;have ht₂:h₂.get? hp.objs.size=some {cls:=.type "tuple",data:=.seq #[es[i].key,es[i].val]}:=by rw[<-hh₂,<-hz₁];exact Uh _ rfl
 have hz₂:h₂.objs.size=hp.objs.size+1:=by rw[<-hh₂,Ui,hz₁]
 have hk₂:∀b o,b≠it->hp.get? b=some o->h₂.get? b=some o:=λb o hb e=>by rw[<-hh₂];exact Ug _ (hs₁.extBut b o hb e)
 show UZ _ _ (Builtin.Dict_items.ownedTupleIsFree (.ref it) >>= _) _ _ ⟨h₂,g,dr,tk,os⟩;rw[hz₁];clear hh₂ he₁ hs₁ hT₁ hz₁ h₁;refine U8 ?_;unfold Builtin.Dict_items.ownedTupleIsFree;refine U8 (VD he₂ rfl (x:=.none) rfl (U7 ?_));simp only[if_true];refine U8 (VD he₂ rfl (x:=ok) rfl (U8 (VD he₂ rfl (x:=ov) rfl ?_)));refine U8 (VY he₂ (by simp) λh₃ he₃ hs₃=>?_);replace hs₃:Ue it h₂ h₃:=hs₃
 replace he₃:Wn h₃ it d (i+1) es.size ep es[i].key ov:=he₃
 refine U8 (VY he₃ (by simp) λh₄ he₄ hs₄=>?_);replace hs₄:Ue it h₃ h₄:=hs₄
 replace he₄:Wn h₄ it d (i+1) es.size ep es[i].key es[i].val:=he₄
 refine U8 (VY he₄ (by simp) λh₅ he₅ hs₅=>?_);replace hs₅:Ue it h₄ h₅:=hs₅
 replace he₅:Wo h₅ it d (i+1) es.size ep es[i].key es[i].val hp.objs.size:=he₅
 refine U8 (VY he₅ (by simp) λh₆ he₆ hs₆=>?_);replace hs₆:Ue it h₅ h₆:=hs₆
 replace he₆:Wo h₆ it d (i+1) es.size ep es[i].key es[i].val hp.objs.size:=he₆
 refine U8 (V2 (U7 (U7 ⟨_,rfl,U7 (hQ h₆ he₆ ?_ ?_ ?_)⟩)))
 ·have n:=QT hil;exact hs₆.extBut _ _ n (hs₅.extBut _ _ n (hs₄.extBut _ _ n (hs₃.extBut _ _ n ht₂)))
 ·show h₆.objs.size=hp.objs.size+1;rw[hs₆.1,hs₅.1,hs₄.1,hs₃.1,hz₂]
 ·exact λb o hb e=>hs₆.extBut b o hb (hs₅.extBut b o hb (hs₄.extBut b o hb (hs₃.extBut b o hb (hk₂ b o hb e))))
theorem CZ{Q:Option UK->UX->Prop}(hh:A.handled=none)(hit:Wn s.heap it d i es.size ep ok ov)(hod:s.heap.get? d=some o)(hdd:o.data=.dict es ep)(hge:es.size<=i)
  (hQ:∀h',Ul it s.heap h'->Q none {s with heap:=h'}):UZ (model prog w) A (pyNext (.ref it)) Q E s:=by
 have hT:s.TypeIs (.ref it) "dict_itemiterator":=⟨_,hit,rfl⟩
 unfold pyNext;refine U8 (V4 (VF (name:=Str.ofString "__next__") hT F.slot_dict_itemiterator_next (VG F.slot_dict_itemiterator_next hT F.entry_dict_itemiterator_next ?_ (F.args_dict_itemiterator_next_1 _))));refine U8 (U7 (U8 (U8 ?_)));first|refine U8 (Wp hT (U7 ?_))|refine U8 (Wq hT (U7 ?_))
 refine U8 (Wr hit rfl ?_);have hown:Builtin.Dict_items.ownsTuple "dict_itemiterator"=true:=by decide
 simp only[hown,if_true];show UZ _ _ (if(Value.ref d==Value.none)=true then _ else _) _ _ s;rw[if_neg (show¬((Value.ref d==Value.none)=true)from QZ)];refine U8 (U7 (U8 (Wk hod hdd ?_)));rw[if_neg (by simp)];refine U8 (U7 (U8 (Wm hod hdd ?_)));rw[if_neg (by simp)];refine U7 ?_;simp only[show¬((i:Int)<0)from by omega,if_false,Ri,Array.getElem?_eq_none hge];refine U8 ?_;first|refine U8 (Wp hT (U7 ?_))|refine U8 (Wq hT (U7 ?_))
 show UZ _ _ (setField (.ref it) 2 .none >>= _) _ _ s;refine U8 (VS hit rfl (by simp) ?_);show UZ _ _ (newExc (.type "StopIteration") [] >>= _) _ _ _;refine U8 ?_;simp only[newExc,newTuple];refine U8 (VI ?_ (by size_fits));refine U8 (m:=firstArgMember _ _) (VU (a:=Value.none) (by first|rfl|(simp only[firstArgMember];rfl)) ?_);refine VI ?_ (by size_fits);simp only[raiseNew];refine U8 (VV ?_);rw[show A.in1.handled=none from hh];refine U8 (U7 (wpAny_throw ?_));refine U8 (V5 (T:="StopIteration") (b:=true) ⟨_,Uh _ rfl,rfl⟩ V6 ?_);exact U7 (hQ _ (((Heap.SameBut.update ..).extBut.push _).push _))
end
variable[aW]
abbrev oQ(al:List (List Key×D)):D:=.dct (.non::encK al) (al.map (·.2))
theorem Bh{X:Cx}{pins:List (UN×Obj)}{σ:St}{H:Hp}{s:UX}{a:UN}{o:Obj}{kvs:List (List Key×V)}(I:Inv X pins σ H s)(e:H a=some (.frz o (.dT kvs))):s.heap.get? a=some o/\o.ExactDict/\(a==sysModules)=false/\∃es ep xs,o.data=.dict es ep/\KT H kvs xs/\es.toList=xs.map (entryOfKey (tupleKind (bY X.prog X.w))):=by
 obtain⟨ho,z,hd,xs,rel,o',es,ep,h1,h2,h3,h4,h5⟩:=(show cH X.prog X.w H s.heap a (.frz o (.dT kvs))from I.hok a _ e)
 rw[ho]at h1;cases h1;exact⟨ho,h2,hd,es,ep,xs,h3,rel,h4⟩
def O6(a:UN)(o:Obj)(kvs:List (List Key×V)):It:=
  ⟨fun i H=>H a=some (.frz o (.dT kvs))/\i < kvs.length,
   λi H v H'=>∃p b q w,v=.ref p/\H p=none/\H'=upd H p (.tup [.ref b,w])/\kvs[i]?=some (q,w)/\H b=some (.tup (q.map kV)),
   λi H=>H a=some (.frz o (.dT kvs))/\i=kvs.length⟩
theorem uo{α β:Type}{R:α->β->Prop}:∀{xs:List α}{ys:List β},UO R xs ys->∀{i:Nat}{x:α},xs[i]?=some x->∃y,ys[i]?=some y/\R x y:=λh=>by
 induction h with
 |nil=>intro i x e;simp at e
 |cons hq _ ih=>
  intro i x e;cases i with
  |zero=>rw[R6]at e;cases e;exact⟨_,rfl,hq⟩
  |succ i=>rw[R7]at e ⊢;exact ih e
theorem A0{P:UM}{w:UL}{K:Tu}{es':List U0}{k:Nat}{pos:Pos}{a it:UN}{o:Obj}{es:Array Wl}{ep:Nat}{kvs:List (List Key×V)}(hda:o.data=.dict es ep):Turn P w K (.Tuple es' k pos) (O6 a o kvs) [it] it (λi h=>∃ok ov,Wn h it a i es.size ep ok ov)where
 mem:=by simp
 obj:=λi h ⟨ok,ov,hz⟩ c hc=>by rw[List.mem_singleton.mp hc];exact⟨_,hz,λv q=>by cases q⟩
 keep:=λi h h' ⟨ok,ov,hz⟩ kp=>⟨ok,ov,kp it (by simp) _ hz⟩
 item:=by
  intro X hP hw hK hc i pins s σ H E I hf ⟨ok,ov,hit⟩ ⟨ha,hi⟩;subst hP hw hK;obtain⟨ho,hx,_,es2,ep2,xs,h3,rel,h4⟩:=Bh I ha;rw[hda]at h3;cases h3;have hl:es.size=xs.length:=by rw[<-Array.length_toList,h4,Q2]
  have hkl:kvs.length=xs.length:=Paired.length rel;have hlt:i<es.size:=by omega
  obtain⟨x,ex,f1,f2,f3⟩:=uo rel (i:=i) (x:=kvs[i]) (by simp[hi]);have ee:es[i]=entryOfKey (tupleKind (bY X.prog X.w)) x:=by
   have:es.toList[i]?=some (entryOfKey (tupleKind (bY X.prog X.w)) x):=(by rw[h4,Rc,ex];rfl);rw[Array.getElem?_toList,Array.getElem?_eq_getElem hlt]at this;exact Option.some.inj this
  refine AC hit ho hda hlt λh' out tp sz kp=>⟨_,rfl,wpAny_letOwnedTupleGo_items out λh2 hit2 sb=>?_⟩
  have hpz:s.heap.objs.size≠it:=QT (Uc hit);have tp2:=sb.extBut _ _ hpz tp;rw[ee]at tp2;have I':Inv X pins σ (upd H s.heap.objs.size (.tup [.ref x.2.1,kvs[i].2])) {s with heap:=h2}:=Inv.turnedL (ch:=[it]) (t':=s.toks) I hf (λc u hc e=>by
   have hc:c≠it:=(by simpa using hc);exact sb.extBut _ _ hc (kp c u hc e)) (QU _) ⟨by show 2<=UQ;decide,[.ref x.2.1,x.2.2],.cons rfl (.cons f3 .nil),_,tp2,rfl,_,rfl⟩
  refine⟨.ref s.heap.objs.size,_,I',rfl,⟨_,x.2.1,kvs[i].1,kvs[i].2,rfl,I.fresh,rfl,by simp[hi],f2⟩,⟨_,_,hit2⟩,λc hc=>?_⟩;rw[List.mem_singleton.mp hc,aD (Ne.symm hpz)];exact(hf it (by simp)).1
 done:=by
  intro X hP hw hK hc i pins s σ H E I hf ⟨ok,ov,hit⟩ ⟨ha,hi⟩;subst hP hw hK;obtain⟨ho,hx,_,es2,ep2,xs,h3,rel,h4⟩:=Bh I ha;rw[hda]at h3;cases h3;have hl:es.size=xs.length:=by rw[<-Array.length_toList,h4,Q2]
  have hkl:kvs.length=xs.length:=Paired.length rel;exact CZ (I.ok.hd hc) hit ho hda ‹0› λh' eb=>⟨rfl,Inv.turned0 (ch:=[it]) I hf λc u hc e=>eb c u (by simpa using hc) e⟩
 self:=λ_ _ _ _ _ ⟨_,_,hz⟩ h=>PySem.W.kcp_self hz h
theorem yc{K:Tu}{H:Hp}:∀q:List Key,bb K H (q.map bx) (q.map kV)
 |[]=>cI.mpr rfl
 |k::q=>bo.mpr ⟨kV k,_,rfl,by cases k with|inl i=>exact fE.mpr rfl|inr x=>exact fO.mpr rfl,yc q⟩
abbrev lm(p:List Key×D):D:=.tup [.tup (p.1.map bx),p.2]
theorem Az{K:Tu}{Hd:Hp}{a:UN}{o:Obj}{kvs:List (List Key×V)}{al:List (List Key×D)}(h:Hd a=some (.frz o (.dT kvs)))(e1:kvs.map (·.1)=al.map (·.1))(e2:bb K Hd (al.map (·.2)) (kvs.map (·.2))):Walk K Hd (O6 a o kvs) (al.map lm):=λHn O' i hO sm=>by
 have s':bj Hd Hn:=sm.trans (aB Hn O');have hl:kvs.length=al.length:=by have:=congrArg List.length e1;simpa using this
 refine⟨λd e=>?_,λhl'=>⟨s' _ _ h,by rw[hl',Q2,hl]⟩⟩;rw[Rc]at e;cases ep:al[i]? with
 |none=>rw[ep]at e;cases e
 |some p=>
  rw[ep]at e;cases e;have hi:i<al.length:=(List.getElem?_eq_some_iff.mp ep).1;refine⟨⟨s' _ _ h,by omega⟩,λx H2 ⟨c,b,q,w,ex,hc,eH,ek,hb⟩=>?_⟩;subst ex eH;have k1:q=p.1:=by
   have:=congrArg (λl=>l[i]?) e1
   simp only[Rc,ek,ep]at this;exact Option.some.inj this
  obtain⟨w',ew,dw⟩:=e2.get (i:=i) (d:=p.2) (by rw[Rc,ep];rfl);rw[Rc,ek]at ew;cases ew;subst k1;have bO:b∉O':=λz=>by
   obtain⟨u,q1,q2⟩:=hO.2 b z;rw[hb]at q1;cases q1;exact q2
  exact⟨bL hc _,e7 hO hc (bo.mpr ⟨.ref b,_,rfl,cN.mpr ⟨b,_,rfl,by rw[ja bO];exact hb,yc p.1⟩,bo.mpr ⟨w,_,rfl,dw.mono sm,cI.mpr rfl⟩⟩)⟩
def AD:D->Option (List D)
 |.dct (.non::ks) ds=>(kI ks ds).map λal=>al.map lm
 |_=>none
def jp(f:FX):aq->R (List D):=λρ=>(f ρ).bind λd=>rO (AD d)
theorem yV{K:Tu}{H:Hp}{v:V}{al:List (List Key×D)}(h:cJ K H (oQ al) v):∃a o kvs,v=.ref a/\H a=some (.frz o (.dT kvs))/\kvs.map (·.1)=al.map (·.1)/\bb K H (al.map (·.2)) (kvs.map (·.2)):=by
 obtain⟨a,vs,e0,h2,h3⟩:=NU.mp h;rcases h3 with⟨kvs,e,e1,e2⟩|⟨kvs,e,e1,e2⟩|⟨kvs,o,e,e1,e2⟩
 ·cases kvs with
  |nil=>cases e1
  |cons p r=>
   injection e1 with e1 _;rcases p with⟨k,v⟩
   cases k<;>cases e1
 ·cases kvs with
  |nil=>cases e1
  |cons p r=>injection e1 with e1 _;cases e1
 ·injection e1 with _ e1;subst e2;exact⟨a,o,kvs,e0,e,(mX (ks:=kvs.map (·.1)) (by rw[SE];exact e1)).symm,h2⟩
section
variable{X:Cx}
theorem MG{o:U0}{es:List U0}{k:Nat}{tpos:Pos}{f:FX}{apos cpos:Pos}(ho:FE X o f)(hbase:Vl o "items" X.env (eval o X.env)=eval o X.env:=by rfl)(hline:(apos.endLine==cpos.line)=true:=by rfl):FI X (.Tuple es k tpos) (.Call (.Attribute o "items" apos) [] [] cpos) (jp f):=by
 intro pins s σ H RR I ⟨O,ρ,E,hG⟩;refine wpAny_Call_method0_late hbase hline (dL (ho pins s σ H (λv H1=>∃a o kvs,v=.ref a/\H1 a=some (.frz o (.dT kvs))/\RR (O6 a o kvs) H1) I ⟨O,ρ,E,(ji.bind hG).imp λd hG v H1 s1 d1=>?_⟩) λv s1 ⟨x,H1,I1,r1,a,o,kvs,ex,ha,hR⟩=>?_)
 ·obtain⟨ds,hg,q⟩:=ji.rO hG;unfold AD at hg;split at hg
  ·rename_i ks dl;cases e1:kI ks dl with
   |none=>rw[e1]at hg;cases hg
   |some al=>
    rw[e1]at hg;cases hg;obtain⟨f1,f2⟩:=jh e1;subst f1 f2;obtain⟨a,o,kvs,q1,q2,q3,q4⟩:=yV d1;exact⟨a,o,kvs,q1,(aB H1 O) _ _ q2,q _ H1 s1 (Az q2 q3 q4)⟩
  ·cases hg
 ·subst ex;cases r1;obtain⟨hob,hx,hsm,es2,ep,xs,hda,_⟩:=Bh I1 ha;refine⟨"dict","dict.items",F.plainAttrs_dict,F.slot_dict_items,F.type_dict_items,⟨o,hob,hx.1⟩,λc e=>by cases e;exact⟨o,hob,hx.2.1⟩,Calls.callWith_builtin rfl (PySem.evalArgs_none ?_)⟩;refine Ah hob hx hsm (A7 ⟨_,Uh _ rfl,rfl,rfl⟩ (Ug _ hob) hda ?_);have le:s1.heap.objs.size<=(s1.heap.push {cls:=.type "dict_items",data:=.fields #[.ref a]}).objs.size:=by rw[Ui];exact Q6 _
  refine⟨_,_,_,_,H1,rfl,I1.kept (t':=s1.toks) λb u e=>Ug _ (Ug _ e),A0 hda,⟨_,_,Uh _ rfl⟩,λb hb=>?_,hR⟩;rw[List.mem_singleton.mp hb];exact I1.fpOk le (I1.hok.fresh le)
end
theorem eY.frzG{K:Tu}{Hb:Hp}{Ob O:List UN}{H H':Hp}{ρ:aq}{σ:St}(E:eY K Hb Ob O H ρ σ){i:Nat}{d d':D}(hd:ρ[i]?=some (some (.nest d))){a:UN}{bs:List UN}(h1:σ[i]?=some (some (.ref a)))(h4:∀b∈a::bs,b∈O/\Hb b=none/\b∉Ob/\∀(j:Nat) d',ρ[j]?=some (some (.own d'))->σ[j]?≠some (some (.ref b)))(h5:∀(j:Nat) d',ρ[j]?=some (some (.nest d'))->j=i)
  (hH:∀b,b≠a->H' b=H b) (tab:aW.tab H') (dn:bj (hid H O) (hid H' (O.filter λb=>decide (b∉a::bs)))->(∀b∈a::bs,b∉O.filter λb=>decide (b∉a::bs))->cJ K (hid H' (O.filter λb=>decide (b∉a::bs))) d' (.ref a)):eY K Hb Ob (O.filter λb=>decide (b∉a::bs)) H' (TG.setV i d' ρ) σ:=by
 have sub:∀b∈O.filter (λb=>decide (b∉a::bs)),b∈O:=λb hb=>(List.mem_filter.mp hb).1;have na:∀b∈a::bs,b∉O.filter λb=>decide (b∉a::bs):=λb hb z=>(of_decide_eq_true (List.mem_filter.mp z).2) hb;have aO:=(h4 a QO).1;have s:bj (hid H O) (hid H' (O.filter λb=>decide (b∉a::bs))):=λb u e=>by
  unfold hid at e ⊢;by_cases hb:b∈O
  ·rw[if_pos hb]at e;cases e
  ·rw[if_neg hb]at e;rw[if_neg λz=>hb (sub b z),hH b λz=>hb (by rw[z];exact aO)];exact e
 have bk:∀(l:Nat) x,(TG.setV i d' ρ)[l]?=some (some x)->(∀d,x≠.val d)->ρ[l]?=some (some x):=λl x e nv=>by
  rcases bg e with⟨_,q⟩|⟨_,q⟩
  ·cases q;exact absurd rfl (nv _)
  ·exact q
 refine⟨⟨λj d1 e=>?_,λj xs e=>?_,λj l xs ys b e1 e2 e3 e4=>E.env.one j l xs ys b (bk j _ e1 (λ_ z=>nomatch z)) (bk l _ e2 (λ_ z=>nomatch z)) e3 e4,⟨tab,λb hb=>?_⟩⟩,⟨λb u e=>?_,λb hb=>?_,λb hb=>E.base.new b (sub b hb)⟩,λj xs b e1 e2=>E.mine j xs b (bk j _ e1 (λ_ z=>nomatch z)) e2,λj dn e=>?_⟩
 ·rcases bg e with⟨hj,q⟩|⟨ne,q⟩
  ·cases q;rw[hj];exact⟨.ref a,h1,dn s na⟩
  ·obtain⟨w,q1,q2⟩:=E.env.val j d1 q;exact⟨w,q1,q2.mono s⟩
 ·obtain⟨b,q1,q2,q3⟩:=E.env.own j xs (bk j _ e (λ_ z=>nomatch z));have nb:b∉a::bs:=λz=>(h4 b z).2.2.2 j xs (bk j _ e (λ_ z=>nomatch z)) q1;exact⟨b,q1,List.mem_filter.mpr ⟨q2,decide_eq_true nb⟩,q3.mono (hH b λz=>nb (by rw[z];exact QO)).symm s⟩
 ·rw[hH b λz=>na b (by rw[z];exact QO) hb];exact E.env.all.2 b (sub b hb)
 ·rw[hH b λz=>by rw[z,(h4 a QO).2.1]at e;cases e];exact E.base.same b u e
 ·exact List.mem_filter.mpr ⟨E.base.sub b hb,decide_eq_true λz=>(h4 b z).2.2.1 hb⟩
 ·have q:=bk j _ e (λ_ z=>nomatch z);have hj:=h5 j dn q;subst hj;rcases bg e with⟨_,q⟩|⟨ne,_⟩
  ·cases q
  ·exact absurd rfl ne
theorem M0{X:Cx}{pins:List (UN×Obj)}{σ:St}{H:Hp}{s:UX}{a:UN}{kvs:List (List Key×V)}(I:Inv X pins σ H s)(h1:H a=some (.dT kvs)):∃o,Inv X pins σ (upd H a (.frz o (.dT kvs))) s:=by
 obtain⟨z,hd,xs,rel,o,es,ep,g1,g2⟩:=(show cH X.prog X.w H s.heap a (.dT kvs)from I.hok a _ h1)
 refine⟨o,oy (ob:=.frz o (.dT kvs)) (h':=s.heap) (t':=s.toks) I (by rw[h1];exact trivial) ⟨rfl,λ_ _=>rfl⟩ ⟨o,g1⟩ ⟨g1,z,hd,xs,KT.keeps rel λb ys eb=>?_,o,es,ep,g1,g2⟩⟩;rw[aD (GY eb h1 (λz=>nomatch z))];exact eb
def M1(i:Nat)(ρ:aq):aq:=match ρ[i]? with
 |some (some (.nest (.dct ks ds)))=>match kI ks ds with
  |some al=>setV i (oQ al) ρ
  |none=>ρ
 |_=>ρ
def vM(i:Nat)(F:cn):cn:=λk ρ=>F k (M1 i ρ)
theorem L8{X:Cx}{st:List U2}{F:cn}(i:Nat)(h:Ac X st F):Ac X st (vM i F):=λHb Ob pins s σ H E I ⟨O,ρ,k,r,S,hF,hk⟩=>by
 unfold vM M1 at hF;split at hF
 ·rename_i ks ds hd;split at hF
  ·rename_i al hal;obtain⟨f1,f2⟩:=jh hal;subst f1 f2;obtain⟨a,bs,h1,h2,h3,h4,h5⟩:=S.nst i _ hd;obtain⟨kvs,hH,ek,ev,hO⟩:=tR h2;obtain⟨na,_⟩:=List.nodup_cons.mp h3;have fin:∀(H0:Hp)(I0:Inv X pins σ H0 s),H0 a=some (.dT kvs)->(∀b,b≠a->H0 b=H b)->UZ (model X.prog X.w) X.A (execs st X.env) (SP X pins E) X.xe s:=λH0 I0 ha0 hH0=>by
    obtain⟨o,I1⟩:=M0 I0 ha0;have hH':∀b,b≠a->upd H0 a (.frz o (.dT kvs)) b=H b:=λb nb=>by rw[aD nb];exact hH0 b nb
    have tab:aW.tab (upd H0 a (.frz o (.dT kvs))):=by
     have:upd H0 a (.frz o (.dT kvs))=upd H a (.frz o (.dT kvs)):=by
      funext b;by_cases z:b=a
      ·rw[z,aY,aY]
      ·rw[aD z,aD z,hH0 b z]
     rw[this];obtain⟨u,q1,q2⟩:=S.env.all.2 a (h4 a QO).1;exact aW.own S.env.all.1 q1 q2
    refine h Hb Ob pins s σ _ E I1 ⟨_,_,k,r,S.frzG hd h1 h4 h5 hH' tab λsm nn=>?_,hF,hk⟩;have hO':nM X.K (upd H0 a (.frz o (.dT kvs))) O bs (al.map (·.2)):=hO.mono (λb u e=>by
     unfold hid at e ⊢;by_cases hb:b∈O
     ·rw[if_pos hb]at e;cases e
     ·rw[if_neg hb]at e;rw[if_neg hb,hH' b λz=>hb (by rw[z];exact(h4 a QO).1)];exact e) λb hb _=>hH' b λz=>na (by rw[<-z];exact hb)
    have sub:∀b∈O.filter (λb=>decide (b∉a::bs)),b∈O:=λb hb=>(List.mem_filter.mp hb).1;have g:=hO'.den (iQ sub) λb hb=>nn b (QP _ hb);refine NU.mpr ⟨a,_,rfl,g,.inr (.inr ⟨kvs,o,by rw[ja (nn a QO)];exact aY,by rw[uS ek],ev.symm⟩)⟩
   rcases hH with hH|⟨hH,z⟩
   ·exact fin H I hH λ_ _=>rfl
   ·subst z;exact fin _ (Fp I hH) aY λb nb=>aD nb
  ·exact h Hb Ob pins s σ H E I ⟨O,ρ,k,r,S,hF,hk⟩
 ·exact h Hb Ob pins s σ H E I ⟨O,ρ,k,r,S,hF,hk⟩
end TG
namespace TG
open PySem PySem.Spec L2
section
variable{prog:UM}{w:UL}{A:UW}{E:UK->UX->Prop}{s:UX}{it d:UN}{i ep:Nat}{o:Obj}{es:Array Wl}
theorem DH{Q:UK->UX->Prop}(hd:(d==sysModules)=false)(ho:s.heap.get? d=some o)(hx:o.ExactDict)(hdat:o.data=.dict es ep)
  (hQ:Q (.ref s.heap.objs.size) {s with heap:=s.heap.push {cls:=.type "dict_keyiterator",data:=.fields #[.ref d,.int 0 0,.int es.size 0,.int ep 0]}}):UZ (model prog w) A (pyIter (.ref d)) Q E s:=by
 have hT:s.TypeIs (.ref d) "dict":=⟨o,ho,hx.1⟩
 refine wpAny_pyIter_slot hT F.slot_dict_iter (VG F.slot_dict_iter hT F.entry_dict_iter ?_ (F.args_dict_iter_1 _));unfold Builtin.«dict.__iter__»;refine U8 ?_;unfold Builtin.Dict.dictSlotNone;refine U8 (Wj hT ?_);show UZ _ _ (pure (Value.ref d)) _ _ s;refine U7 ?_;show UZ _ _ (Builtin.Dict.showsAll d >>= _) _ _ s;unfold Builtin.Dict.showsAll;rw[if_neg (by rw[hd];exact QZ)];refine U8 (U7 (U8 (Wk ho hdat (U8 (Wm ho hdat ?_)))));refine U8 (VI (U7 ⟨_,rfl,"dict_keyiterator",_,⟨_,Uh _ rfl,rfl⟩,F.slot_dict_keyiterator_next.lookup,?_⟩));simpa [rawInt]using hQ
theorem CY{Q:Option UK->UX->Prop}(hit:s.heap.IsKeyIter it d i es.size ep)(hod:s.heap.get? d=some o)(hdd:o.data=.dict es ep)(hlt:i<es.size)
  (hQ:∀h',h'.IsKeyIter it d (i+1) es.size ep->Ue it s.heap h'->Q (some es[i].key) {s with heap:=h'}):UZ (model prog w) A (pyNext (.ref it)) Q E s:=by
 obtain⟨oi,ho,hc,hd⟩:=id hit;unfold pyNext;refine U8 (V4 (VF (name:=Str.ofString "__next__") hit.typeIs F.slot_dict_keyiterator_next (VG F.slot_dict_keyiterator_next hit.typeIs F.entry_dict_keyiterator_next ?_ (F.args_dict_keyiterator_next_1 _))));refine U8 (U7 (U8 (U8 ?_)));first|refine U8 (Wu hit.typeIs (U7 ?_))|refine U8 (Wv hit.typeIs (U7 ?_))
 refine U8 (Wr ho hd ?_);have hown:Builtin.Dict_items.ownsTuple "dict_keyiterator"=false:=by decide
 simp only[hown,Rz,if_false];show UZ _ _ (if(Value.ref d==Value.none)=true then _ else _) _ _ s;rw[if_neg (show¬((Value.ref d==Value.none)=true)from QZ)];refine U8 (U7 (U8 (Wk hod hdd ?_)));rw[if_neg (by simp)];refine U8 (U7 (U8 (Wm hod hdd ?_)));rw[if_neg (by simp)];refine U7 ?_;simp only[show¬((i:Int)<0)from by omega,if_false,Ri,Array.getElem?_eq_getElem hlt];refine U8 ?_;first|refine U8 (Wu hit.typeIs (U7 ?_))|refine U8 (Wv hit.typeIs (U7 ?_))
 refine U8 (wpAny_isOneOf_keyiter hit.typeIs ?_);show UZ _ _ (setField (.ref it) 1 (rawInt ((i:Int)+1)) >>= _) _ _ s;refine U8 (VS ho hd (by simp) ?_);have hit':(s.heap.update it (Obj.mapFields (·.setIfInBounds 1 (rawInt ((i:Int)+1))))).IsKeyIter it d (i+1) es.size ep:=⟨_,Uk _ ho (Obj.isFreed_of_fields (Obj.data_mapFields hd _)),(Obj.cls_mapFields ..).trans hc,by rw[Obj.data_mapFields hd];simp[rawInt]⟩
 refine U8 (VE (U8 (wpAny_isOneOf_keyiter (s:={s with heap:=s.heap.update it (Obj.mapFields (·.setIfInBounds 1 (rawInt ((i:Int)+1))))}) hit'.typeIs ?_)));show UZ _ _ (pure es[i].key) _ _ _;exact U7 (U7 ⟨_,rfl,U7 (hQ _ hit' (Heap.SameBut.update ..))⟩)
theorem EV{Q:Option UK->UX->Prop}(hh:A.handled=none)(hit:s.heap.IsKeyIter it d i es.size ep)(hod:s.heap.get? d=some o)(hdd:o.data=.dict es ep)(hge:es.size<=i)(hQ:∀h',Ul it s.heap h'->Q none {s with heap:=h'}):UZ (model prog w) A (pyNext (.ref it)) Q E s:=by
 obtain⟨oi,ho,hc,hd⟩:=id hit;unfold pyNext;refine U8 (V4 (VF (name:=Str.ofString "__next__") hit.typeIs F.slot_dict_keyiterator_next (VG F.slot_dict_keyiterator_next hit.typeIs F.entry_dict_keyiterator_next ?_ (F.args_dict_keyiterator_next_1 _))));refine U8 (U7 (U8 (U8 ?_)));first|refine U8 (Wu hit.typeIs (U7 ?_))|refine U8 (Wv hit.typeIs (U7 ?_))
 refine U8 (Wr ho hd ?_);have hown:Builtin.Dict_items.ownsTuple "dict_keyiterator"=false:=by decide
 simp only[hown,Rz,if_false];show UZ _ _ (if(Value.ref d==Value.none)=true then _ else _) _ _ s;rw[if_neg (show¬((Value.ref d==Value.none)=true)from QZ)];refine U8 (U7 (U8 (Wk hod hdd ?_)));rw[if_neg (by simp)];refine U8 (U7 (U8 (Wm hod hdd ?_)));rw[if_neg (by simp)];refine U7 ?_;simp only[show¬((i:Int)<0)from by omega,if_false,Ri,Array.getElem?_eq_none hge];refine U8 ?_;first|refine U8 (Wu hit.typeIs (U7 ?_))|refine U8 (Wv hit.typeIs (U7 ?_))
 show UZ _ _ (setField (.ref it) 0 .none >>= _) _ _ s;refine U8 (VS ho hd (by simp) ?_);show UZ _ _ (newExc (.type "StopIteration") [] >>= _) _ _ _;refine U8 ?_;simp only[newExc,newTuple];refine U8 (VI ?_ (by size_fits));refine U8 (m:=firstArgMember _ _) (VU (a:=Value.none) (by first|rfl|(simp only[firstArgMember];rfl)) ?_);refine VI ?_ (by size_fits);simp only[raiseNew];refine U8 (VV ?_);rw[show A.in1.handled=none from hh];refine U8 (U7 (wpAny_throw ?_));refine U8 (V5 (T:="StopIteration") (b:=true) ⟨_,Uh _ rfl,rfl⟩ V6 ?_);exact U7 (hQ _ (((Heap.SameBut.update ..).extBut.push _).push _))
def Kx(d:UN)(o:Obj)(es:Array Wl)(ep:Nat)(h:UP):Prop:=h.get? d=some o/\o.ExactDict/\o.data=.dict es ep
theorem Bm(hh:A.handled=none)(I:UN)(hne:d≠I):Walks prog w A I [I,d] [I] es.size (λi v=>∃e,es[i]?=some e/\v=e.key) (λi h=>h.IsKeyIter I d i es.size ep/\Kx d o es ep h)where
 sub:=λb hb=>by simp at hb;simp[hb]
 frame:=λ_ _ _ st hk=>⟨st.1.at λo e=>hk I (by simp) o e,hk d (by simp) _ st.2.1,st.2.2⟩
 item:=λi s Q E hi st hQ=>CY st.1 st.2.1 st.2.2.2 hi λh' hit' hs'=>hQ _ h' s.toks ⟨es[i],by simp[hi],rfl⟩ ⟨hit',(hs'.2 d hne).trans st.2.1,st.2.2⟩ λb o hb e=>hs'.extBut b o (λh=>hb (by simp[h])) e
 done:=λs Q E st hQ=>EV hh st.1 st.2.1 st.2.2.2 (QU _) λh' he'=>hQ h' s.toks λb o hb e=>he' b o (λh=>hb (by simp[h])) e
 self:=λ_ _ _ _ st hQ=>wpAny_pyIter_keyiter st.1 hQ
theorem EQ(lo:(d==sysModules)=false):PySem.W.KdlSrc prog w "dict" d d es.size (λi v=>∃e,es[i]?=some e/\v=e.key) (Kx d o es ep)where
 type:=λ_ hm=>⟨o,hm.1,hm.2.1.1⟩
 there:=λ_ hm=>⟨Uc hm.1,Uc hm.1⟩
 keep:=λ_ _ hm hk=>⟨hk d (.inl rfl) o hm.1,hm.2⟩
 notList:=by decide
 notTuple:=by decide
 hint:=λ_ _ _ _ hm hq=>PySem.W.kdl_hint_dict ⟨o,hm.1,hm.2.1.1⟩ hq
 iter:=λ_ _ hh hm=>⟨_,_,(λ_ _ hq=>DH lo hm.1 hm.2.1 hm.2.2 hq),Bm (ep:=ep) (o:=o) hh _ (QK (Uc hm.1)),⟨⟨_,Uh _ rfl,rfl,rfl⟩,Ug _ hm.1,hm.2⟩⟩
end
variable[aW]
def G5:List D->List D->Option (List (List Key×D))
 |.non::ks,ds=>kI ks ds
 |ks,ds=>kI ks ds
theorem CC{K:Tu}{H:Hp}{v:V}{ks ds:List D}{al:List (List Key×D)}(h:cJ K H (.dct ks ds) v)(e:G5 ks ds=some al):
  ∃a,v=.ref a/\((∃kvs:List (List Key×V),Rd H a (.dT kvs)/\kvs.map (·.1)=al.map (·.1)/\bb K H (al.map (·.2)) (kvs.map (·.2)))\/(H a=some (.dK [])/\al=[])):=by
 unfold G5 at e;split at e
 ·obtain⟨f1,f2⟩:=jh e;subst f1 f2;obtain⟨a,o,kvs,q1,q2,q3,q4⟩:=yV h;exact⟨a,q1,.inl ⟨kvs,.inr ⟨o,q2⟩,q3,q4⟩⟩
 ·obtain⟨f1,f2⟩:=jh e;subst f1 f2;obtain⟨a,q1,q2⟩:=yy h;rcases q2 with⟨kvs,q2,q3⟩|q2
  ·exact⟨a,q1,.inl ⟨kvs,.inl q2,q3⟩⟩
  ·exact⟨a,q1,.inr q2⟩
section
variable{X:Cx}
def rg:List D->Option D
 |[.dct ks ds]=>(G5 ks ds).bind λal=>some (.lst (encK al))
 |_=>none
theorem EG{pins:List (UN×Obj)}{σ:St}{H:Hp}{s:UX}(I:Inv X pins σ H s){a:UN}{kvs:List (List Key×V)}(e:Rd H a (.dT kvs)):kvs.length<=UQ/\(a==sysModules)=false/\∃o es ep,Kx a o es ep s.heap/\es.size=kvs.length/\∀(i:Nat) u,es[i]?=some u->∃b q,u.key=.ref b/\kvs[i]?.map (·.1)=some q/\H b=some (.tup (q.map kV)):=by
 obtain⟨z,hd,xs,rel,o,es,ep,h1,h2,h3,h4,_⟩:=zc I.hok e;have hl:es.size=kvs.length:=by rw[<-Array.length_toList,h4,Q2];exact(Paired.length rel).symm
 refine⟨z,hd,o,es,ep,⟨h1,h2,h3⟩,hl,λi u eu=>?_⟩;have hi:i<kvs.length:=by
  have:=(Array.getElem?_eq_some_iff.mp eu).1
  omega
 obtain⟨x,ex,f1,f2,f3⟩:=uo rel (i:=i) (x:=kvs[i]) (by simp[hi])
 have:es.toList[i]?=some (entryOfKey (tupleKind (bY X.prog X.w)) x):=by rw[h4,Rc,ex];rfl
 rw[Array.getElem?_toList,eu]at this;cases this;exact⟨x.2.1,kvs[i].1,rfl,by simp[hi],f2⟩
theorem Af(hc:X.calm=true):dY X (.type "list") (yd X.K rg):=by
 intro pins s σ H xs us Q I r ⟨O,ds,d,hO,hd,hg,q⟩;unfold rg at hg;split at hg
 ·rename_i ks vs0;cases hk:G5 ks vs0 with
  |none=>rw[hk]at hg;cases hg
  |some al=>
   rw[hk]at hg;cases hg;obtain⟨v,ev,h1⟩:=hd.one;subst ev;obtain⟨a,ea,hh⟩:=CC h1 hk;subst ea;obtain⟨u,rfl,ru⟩:=vals1 r;cases ru;have fin:∀(H0:Hp)(kvs:List (List Key×V)),Inv X pins σ H0 s->Rd H0 a (.dT kvs)->kvs.map (·.1)=al.map (·.1)->(∀b ys,H0 b=some (.tup ys)->H b=some (.tup ys))->UZ (model X.prog X.w) X.A (call (.type "list") [.ref a]) (EP X pins σ Q) X.xe s:=λH0 kvs I0 hr hk2 ht=>by
    obtain⟨z,hs,o,es,ep,raw,hsz,hkey⟩:=EG I0 hr;have hl:al.length=kvs.length:=(by have:=congrArg List.length hk2;simpa using this.symm);refine T8 (EQ hs) (I.ok.hd hc) raw (by rw[hsz];exact z) λh' tk acc' c' kp e2 it=>?_;have key:∃ws:List V,Vals ws acc'.toList/\bb X.K (hid H O) (encK al) ws:=by
     have hlen:acc'.toList.length=al.length:=(by rw[Array.length_toList,it.1,hsz,hl]);have each:∀(j:Nat)(u:UK),acc'.toList[j]?=some u->∃b q,u=.ref b/\al[j]?.map (·.1)=some q/\H b=some (.tup (q.map kV)):=λj u e=>by
      obtain⟨en,e3,e4⟩:=it.2 j u (by rw[<-Array.getElem?_toList];exact e);obtain⟨b,q,w1,w2,w3⟩:=hkey j en e3;refine⟨b,q,by rw[e4,w1],?_,ht _ _ w3⟩
      have:=congrArg (λl=>l[j]?) hk2
      simp only[Rc]at this;rw[<-this];exact w2
     clear it e2;generalize acc'.toList=us at hlen each;clear hk hl hk2 h1 hh q
     induction us generalizing al with
     |nil=>
      cases al with
      |nil=>exact⟨[],.nil,cI.mpr rfl⟩
      |cons _ _=>cases hlen
     |cons u us ih=>
      cases al with
      |nil=>cases hlen
      |cons p al=>
       obtain⟨ws,w1,w2⟩:=ih (al:=al) (by simpa using hlen) λj u e=>by
        have:=each (j+1) u (by rw[R7];exact e)
        rw[R7]at this;exact this
       obtain⟨b,q,e1,e2,e3⟩:=each 0 u rfl;cases e2;have bO:b∉O:=λz=>by
        obtain⟨u',q1,q2⟩:=hO.2 b z;rw[e3]at q1;cases q1;exact q2
       exact⟨.ref b::ws,.cons (by rw[e1];rfl) w1,bo.mpr ⟨.ref b,ws,rfl,cN.mpr ⟨b,_,rfl,by rw[ja bO];exact e3,yc p.1⟩,w2⟩⟩
    obtain⟨ws,rv,dn⟩:=key;have wl:ws.length<=UQ:=(by rw[<-dn.length,Q2,hl];exact z);refine⟨.ref s.heap.objs.size,_,I.laid (t':=tk) kp (QU _) (show cH X.prog X.w _ h' _ (.lst ws)from⟨wl,acc'.toList,c',rv,by simpa using e2⟩),rfl,?_⟩;have hf:=I.hok.fresh (QU s.heap.objs.size);exact q _ _ (bL hf _) (dH hO hf dn)
   rcases hh with⟨kvs,hr,e1,_⟩|⟨hr,e1⟩
   ·refine fin H kvs I ?_ e1 λ_ _ z=>z;rcases hr with hr|⟨o,hr⟩
    ·exact .inl ((aB H O) _ _ hr)
    ·exact .inr ⟨o,(aB H O) _ _ hr⟩
   ·have ha:=(aB H O) _ _ hr;refine fin _ [] (Fp I ha) (.inl aY) (by rw[e1];rfl) λb ys eb=>?_;by_cases z:b=a
    ·rw[z,aY]at eb;cases eb
    ·rw[aD z]at eb;exact eb
 ·cases hg
end
end TG
namespace TG
open PySem PySem.Spec PySem.Calls L2
variable[aW]
def A1(dd k:D):Option D:=match dd with
 |.dct ks ds=>(G5 ks ds).bind λal=>(jS k).bind λq=>qL al q
 |_=>none
theorem Ky{H:Hp}{O:List UN}{a:UN}{u:HO}(h:Rd (hid H O) a u):Rd H a u:=by
 rcases h with h|⟨o,h⟩
 ·exact .inl ((aB H O) _ _ h)
 ·exact .inr ⟨o,(aB H O) _ _ h⟩
section
variable{X:Cx}
theorem O7{o e:U0}{fo fk:FX}{pos:Pos}(hu:X.A.units+64<Vp)(ho:FE X o fo)(hi:FE X e fk)(hs:He e):FE X (.Subscript o e pos) (f2 A1 fo fk):=
 PE.weak (IG ‹0› ho hi hs) λσ H Q ⟨O,ρ,E,hF⟩=>⟨O,ρ,E,(ji.bind hF).imp λdd hF v H1 s1 d1=>⟨O,ρ,E.same s1,((ji.bind hF).mono s1).imp λk hF y H2 s2 d2=>by
  obtain⟨d,hg,q⟩:=ji.rO hF;cases dd with
  |dct ks ds=>
   have hg:(G5 ks ds).bind (λal=>(jS k).bind λq=>qL al q)=some d:=hg;cases hk:G5 ks ds with
   |none=>rw[hk]at hg;cases hg
   |some al=>
    rw[hk]at hg;cases ht:jS k with
    |none=>rw[ht]at hg;cases hg
    |some qk=>
     rw[ht]at hg;have hg:qL al qk=some d:=hg;obtain⟨a,ea,hh⟩:=CC (d1.mono (bN s2)) hk;rw[nZ ht]at d2;obtain⟨b,ws,eb,g1,g2⟩:=cN.mp d2;rw[jC g2]at g1;rcases hh with⟨kvs,hr,e1,e2⟩|⟨_,rfl⟩
     ·rcases yY qk e1 e2 with⟨_,z2⟩|⟨w,d',z1,z2,z3⟩
      ·rw[z2]at hg;cases hg
      ·rw[z2]at hg;cases hg;exact⟨a,w,ea,by rw[<-z1];exact .inr ⟨kvs,qk,b,Ky hr,eb,(aB H2 O) _ _ g1,rfl⟩,q w H2 (s1.trans s2) z3⟩
     ·cases hg
  |_=>cases hg⟩⟩
end
def Fx(i:Nat)(f:FX):cn:=λk ρ=>match ρ[i]? with
 |some (some (.own (.lst xs)))=>tq (f ρ) k ρ λd=>match d with
  |.lst ys=>if small (xs.length+ys.length)then k.nx (ρ.set i (some (.own (.lst (xs++ys)))))else un
  |_=>un
 |_=>un
theorem N4{X:Cx}{i:Nat}{x:Str}{e:U0}{f:FX}{npos apos cpos pos:Pos}(hx:PE X (.Name x npos) (qy i))(he:FN X e f)(hns:noStar e=true:=by rfl)
  (hbase:Vl (.Name x npos) "extend" X.env (eval (.Name x npos) X.env)=eval (.Name x npos) X.env:=by rfl)
  (hfew:((backTo cpos (U1 [e] X.env)).all (λx=>!x.1)&&(backToKw cpos (Vn [] X.env)).all (λx=>x.1.isSome)&&decide (([e]:List U0).length+([]:List Vv).length+(if([]:List Vv).isEmpty then 0 else 1)<30))=true:=by rfl)
  (hline:(apos.endLine==cpos.line)=true:=by rfl) (hplain:(backTo cpos (U1 [] X.env)).any (·.1)=false:=by rfl)
  (hsw:swapsWith (.Call (.Attribute (.Name x npos) "extend" apos) [e] [] cpos) none pos.line X.env=pure false:=by rfl):
  FS X (.Expr (.Call (.Attribute (.Name x npos) "extend" apos) [e] [] cpos) pos) (Fx i f):=λHb Ob pins s σ H E I ⟨O,ρ,k,rr,S,hF,hk⟩=>by
 unfold Fx at hF;split at hF
 ·rename_i xs hxs;obtain⟨a,ha,haO,hat⟩:=S.env.own i _ hxs;obtain⟨o,vs0,ho,eo,dn⟩:=hat;subst eo;refine xF (BC F.plainAttrs_list F.slot_list_extend F.type_list_extend C1 hx (j6 he pF (dh hns)) hbase hfew hline (dh hns) hplain) hsw pins s σ H E I ⟨.ref a,ha,.inl ⟨rfl,vs0,pH.of ho⟩,O,ρ,S.env,ji.on hF hk S λd hr p H1 s1 hp m own=>?_⟩;have S1:=S.same s1;cases d with
  |lst ys=>
   have hr:(if small (xs.length+ys.length)then k.nx (ρ.set i (some (.own (.lst (xs++ys)))))else un)=rr:=hr;cases hsm:small (xs.length+ys.length)with
   |false=>rw[hsm]at hr;exact absurd hr.symm hk.ne
   |true=>
    rw[hsm]at hr;obtain⟨o,zs,h1,h2,h3⟩:=own;subst h2;have dz:bb X.K (hid H1 O) ys zs:=h3.mono (iQ λb hb=>QP _ hb);have hz:=eM hsm;exact⟨a,p,vs0,zs,rfl,rfl,s1 _ _ ho,h1,by rw[<-dn.length,<-dz.length];exact hz,hk.nx O _ σ _ (S1.setO hxs ha trivial (se haO ((dn.mono (bN s1)).append dz))) hr⟩
  |_=>exact absurd (show un=rr from hr).symm hk.ne
 ·exact absurd hF.symm hk.ne
def tM:List D->Option D
 |[.lst xs]=>(i5 xs).bind λps=>if small ps.length then some (oQ (ww ps))else none
 |_=>none
section
variable{X:Cx}
theorem Bu(hc:X.calm=true)(hu:X.A.units+64<Vp):dY X (.type "dict") (yd X.K tM):=by
 intro pins s σ H xs us Q I r ⟨O,ds,d,hO,hd,hg,q⟩;unfold tM at hg;split at hg
 ·rename_i ys;cases hp:i5 ys with
  |none=>rw[hp]at hg;cases hg
  |some ps=>
   rw[hp]at hg;obtain⟨sm,rfl⟩:=bI (show(if small ps.length then some (oQ (ww ps))else none)=some d from hg);obtain⟨v,rfl,h1⟩:=hd.one;obtain⟨p,ws,rfl,g1,g2⟩:=cT.mp h1;obtain⟨u,rfl,ru⟩:=vals1 r;cases ru;obtain⟨its,rv,⟨o,n,ho,hcl,hd',hdd⟩,hz⟩:=I.list ((aB H O).seq g1);rw[qB hp]at g2;obtain⟨L,ks,l1,l2,l3,l4,l5⟩:=rC I g2 rv;have kl:ks.length=ps.length:=(by have:=congrArg List.length l4;simpa using this);have ll:ks.length=L.length:=Paired.length l3;have key:∀{ks:List (List Key×V)}{L:List (List Key×UN×UK)},KT H ks L->∀x∈L,∀h,Keeps s.heap h->(tupleKind (bY X.prog X.w)).is h x.1 x.2.1:=λ{ks L} kt=>by
    induction kt with
    |nil=>intro x hx;cases hx
    |cons hq _ ih=>
     intro x hx h kh;rcases List.mem_cons.mp hx with z|z
     ·subst z;obtain⟨e1,e2,_⟩:=hq;rw[e1]at e2;obtain⟨o,xs,n,k1,k2⟩:=pq I.hok e2;exact⟨o,xs,n,kh _ _ k1,k2⟩
     ·exact ih x z h kh
   obtain⟨f1,f2,f3,f4⟩:=t6 (K:=X.K) (H:=H) (H0:=hid H O) (al:=[]) (kvs:=[]) (xs:=[]) l3 l4 l5 .nil rfl (cI.mpr rfl);have hsz:ps.length<=100000:=of_decide_eq_true sm;have sl:UQ=16777216:=Vi;refine nH (knd:=tupleKind (bY X.prog X.w)) (L:=L) ho hcl hdd hd' (I.ok.hd hc) (VM (by rw[in1_units];omega)) (by simpa using l1) ‹0› (λi v e=>l2 i v (by simpa using e)) (key l3) λh' tk kp di=>?_;have hf:=I.hok.fresh (QU s.heap.objs.size);obtain⟨⟨od,es,ep,k1,k2,k3,k4,k5⟩,_⟩:=di;have kt':KT (upd H s.heap.objs.size (.frz od (.dT (ks.foldl (λm p=>putK m p.1 p.2) [])))) (ks.foldl (λm p=>putK m p.1 p.2) []) (L.foldl (λxs x=>storedH xs x.1 x.2.1 x.2.2) []):=KT.keeps f1 λb ys eb=>by rw[aD (λz=>by rw[z,hf]at eb;cases eb)];exact eb
   refine⟨.ref s.heap.objs.size,_,I.laid (t':=tk) kp (QU _) (show cH X.prog X.w _ h' _ (.frz od (.dT (ks.foldl (λm p=>putK m p.1 p.2) [])))from⟨k1,by simp only[Rt]at f4;omega,beq_eq_false_iff_ne.mpr (Ne.symm (QK I.big)),_,kt',od,es,ep,k1,k2,k3,k4,k5⟩),rfl,?_⟩;refine q _ _ (bL hf _) ?_;have pO:=hO.not hf;refine NU.mpr ⟨s.heap.objs.size,_,rfl,f3.mono (sP hf),.inr (.inr ⟨_,od,by rw[ja pO];exact aY,congrArg _ (uS f2),rfl⟩)⟩
 ·cases hg
end
end TG
namespace L2
open PySem PySem.Spec PyProof.Rows
theorem rangeSize_down(a b:Int):Builtin.Range.rangeSize a b (-1)=if b<a then a-b else 0:=by
 unfold Builtin.Range.rangeSize;simp only[show¬((-1:Int)>0)by decide,if_false];split<;>(try split)<;>(try simp)<;>omega
theorem small_down{a b:Int}(ha:-(2^62)<=a)(ha':a<2^62)(hb:-(2^62)<=b)(hb':b<2^62):Builtin.Range.small a b (-1)=true:=by
 unfold Builtin.Range.small;rw[rangeSize_down];simp only[Builtin.Range.rangeFitsLong,Rl,RN,decide_eq_true_eq,beq_iff_eq,show¬((-1:Int)>0)by decide,if_false];split<;>omega
def Nj(hi:Int)(n:Nat):It:=⟨λi _=>i<n,λi H x H'=>H'=H/\x=.int (hi-i),λi _=>n<=i⟩
theorem CM{P:UM}{w:UL}{K:Tu}{tg:U0}(it:UN)(lo:Int)(n:Nat):Turn P w K tg (Nj lo n) [it] it (λi h=>U9 h it (lo+(i:Nat)*(-1)) ((n:Int)-(i:Nat)) (-1))where
 mem:=by simp
 obj:=λi h st b hb=>by
  have e:b=it:=by simpa using hb
  subst e;exact⟨_,st,λv z=>by
   have z':Data.fields _=Data.cell v:=z;cases z'⟩
 keep:=λi h h' st k=>k it (by simp) _ st
 item:=by
  intro X hP hw hK hc i pins s σ H E I hf st hg;subst hP hw hK;obtain⟨f0,f1,f2,f3,f4,f5⟩:=hf it (by simp);have W:=Walks.range (prog:=X.prog) (w:=X.w) (I.ok.hd hc) it lo (-1) n;refine W.item i s _ _ hg st λv h' tk hv st' kk=>?_;obtain⟨t,rfl⟩:=hv;have I1:Inv X pins σ H {s with heap:=h',toks:=tk}:=I.turned (λb o hb e=>kk b o (by simpa using hb) e) f0 f1 f3 f4 f5;refine⟨_,rfl,BF (s:={s with heap:=h',toks:=tk}) (n:="range_iterator") st' rfl rfl (by decide) ⟨.int (lo-i),H,I1,⟨t,?_⟩,⟨rfl,rfl⟩,st',λb hb=>(hf b hb).1⟩⟩;rw[show lo+(i:Int)*(-1)=lo-i by omega]
 done:=by
  intro X hP hw hK hc i pins s σ H E I hf st hg;subst hP hw hK;obtain⟨f0,f1,f2,f3,f4,f5⟩:=hf it (by simp);exact wpAny_pyNext_range_end (I.ok.hd hc) st (by have:n<=i:=hg;omega) λh' eb=>⟨rfl,I.turned (t':=s.toks) (λb o hb e=>eb b o hb e) f0 f1 f3 f4 f5⟩
 self:=λ_ _ _ _ _ st h=>wpAny_pyIter_rangeiter st h
section
variable{X:Cx}{tg:U0}
theorem IJ{pins:List (UN×Obj)}{σ:St}{H:Hp}{s:UX}{R:It->Hp->Prop}{E:UK->UX->Prop}{lo hi:Int}{t u v:Tok}{tk:Nat}(I:Inv X pins σ H s)(h1:-(2^62)<=lo)(h2:lo<2^62)(h3:-(2^62)<=hi)(h4:hi<2^62)
  (q:R (Nj lo (lo-hi).toNat) H):UZ (model X.prog X.w) X.A (pyIter (.ref s.heap.objs.size)) (PIE X pins σ tg R) E {s with heap:=s.heap.push {cls:=.type "range",data:=.fields #[.int lo t,.int hi u,.int (-1) v]},toks:=tk}:=by
 refine wpAny_pyIter_range (IsRange.new ..) (small_down h1 h2 h3 h4) ?_;have I1:Inv X pins σ H {s with heap:=s.heap.push {cls:=.type "range",data:=.fields #[.int lo t,.int hi u,.int (-1) v]},toks:=tk}:=I.kept λb o e=>Ug _ e;refine⟨(s.heap.push {cls:=.type "range",data:=.fields #[.int lo t,.int hi u,.int (-1) v]}).objs.size,[(s.heap.push {cls:=.type "range",data:=.fields #[.int lo t,.int hi u,.int (-1) v]}).objs.size],_,_,H,rfl,
  I1.kept (t':=tk) λb o e=>Ug _ e,CM _ lo (lo-hi).toNat,?_,λb hb=>?_,q⟩
 ·have e1:lo+((0:Nat):Int)*(-1)=lo:=by simp
  have e2:(((lo-hi).toNat:Nat):Int)-((0:Nat):Int)=Builtin.Range.rangeSize lo hi (-1):=by rw[rangeSize_down];split<;>omega
  show U9 _ _ (lo+((0:Nat):Int)*(-1)) ((((lo-hi).toNat:Nat):Int)-((0:Nat):Int)) (-1);rw[e1,e2];exact Uh _ rfl
 ·have e:b=(s.heap.push {cls:=.type "range",data:=.fields #[.int lo t,.int hi u,.int (-1) v]}).objs.size:=by simpa using hb
  subst e;exact I1.fpOk (QU _) (I1.hok.fresh (QU _))
def L9(ta:TA):TI:=λσ H R=>ta σ H λvs H1=>∃i j:Int,vs=[.int i,.int j,.int (-1)]/\(-(2^62)<=i/\i<2^62/\-(2^62)<=j/\j<2^62)/\R (Nj i (i-j).toNat) H1
theorem CV{a b c:U0}{ta:TA}{p pos:Pos}(hg:Gl X "range")(hm:X.mg "range"=none)(ha:PA X [a,b,c] ta)(hs:U1 [a,b,c] X.env=[(false,eval a X.env),(false,eval b X.env),(false,eval c X.env)]:=by rfl)(hs2:U1 [b,c] X.env=[(false,eval b X.env),(false,eval c X.env)]:=by rfl):
  PI X tg (.Call (.Name "range" p) [a,b,c] [] pos) (L9 ta):=by
 intro pins s σ H R I h;refine Call_ (ky I hg hm boot_range (Ur (dL (ha pos pins s σ H _ I h) λus s1 ⟨vs,H1,I1,r1,q1⟩=>?_) (by rw[hs,hs2]) (by rw[hs2];rfl)));obtain⟨i,j,e,⟨q1,q2,q3,q4⟩,q⟩:=q1;subst e;cases r1 with
 |cons r rr=>
  cases rr with
  |cons r' rr=>
   cases rr with
   |cons r'' rr=>
    cases rr;obtain⟨t,rfl⟩:=r;obtain⟨t',rfl⟩:=r';obtain⟨t'',rfl⟩:=r'';exact call_range_3 (by decide) (IJ I1 q1 q2 q3 q4 q) (.inl (PyProof.noPylong_small ‹0›))
end
end L2
namespace TG
open PySem PySem.Spec L2
variable[aW]
def rV(hi:Int)(n:Nat):List D:=(List.range n).map λ(k:Nat)=>D.int (hi-(k:Int))
theorem qP(hi:Int)(n:Nat):(rV hi n).length=n:=by unfold rV;rw[Q2,RV]
theorem CP{K:Tu}{Hd:Hp}(lo:Int)(n:Nat):Walk K Hd (Nj lo n) (rV lo n):=λHn O' i hO s=>
  ⟨fun d e=>by
    unfold rV at e;rw[Rc]at e;cases hi:(List.range n)[i]? with
    |none=>rw[hi]at e;cases e
    |some k=>
      rw[hi]at e;cases e;have hlt:i<n:=by
        have:=(List.getElem?_eq_some_iff.mp hi).1
        rwa [RV]at this
      have ek:k=i:=by
        rw[RY hlt]at hi;exact(Option.some.inj hi).symm
      subst ek;exact⟨hlt,λx H2 ⟨e1,e2⟩=>by subst e1;exact⟨bj.refl _,fE.mpr e2⟩⟩,
   λhl=>by rw[qP]at hl;exact Q3 hl.symm⟩
def sF:List D->Option (List D)
 |[.int i,.int j,.int k]=>if decide (k=-1)&&(okR i&&okR j)then some (rV i (i-j).toNat)else none
 |_=>none
def qg(f:aq->R (List D)):aq->R (List D):=λρ=>(f ρ).bind λds=>rO (sF ds)
section
variable{X:Cx}{tg:U0}
theorem LA{a b c:U0}{f:aq->R (List D)}{p pos:Pos}(hg:Gl X "range")(hm:X.mg "range"=none)(ha:FA X [a,b,c] f)(hs:U1 [a,b,c] X.env=[(false,eval a X.env),(false,eval b X.env),(false,eval c X.env)]:=by rfl)(hs2:U1 [b,c] X.env=[(false,eval b X.env),(false,eval c X.env)]:=by rfl):FI X tg (.Call (.Name "range" p) [a,b,c] [] pos) (qg f):=by
 intro pins s σ H R I ⟨O,ρ,E,hG⟩;refine CV hg hm ha hs hs2 pins s σ H R I ⟨O,ρ,E,(ji.bind hG).imp λes hG' vs H1 s1 d1=>?_⟩;clear hG;obtain⟨ds,hG,q⟩:=ji.rO hG';clear hG';unfold sF at hG;split at hG
 ·rename_i i j k;obtain⟨h1,h2⟩:=bI hG;subst h2;rw[Rl,Rl]at h1;have hk:=of_decide_eq_true h1.1;obtain⟨i1,i2⟩:=of_decide_eq_true h1.2.1;obtain⟨j1,j2⟩:=of_decide_eq_true h1.2.2;obtain⟨v,vs',ev,dv,d2⟩:=bo.mp d1;obtain⟨w,u,ew,dw,du⟩:=d2.two;exact⟨i,j,by rw[ev,ew,fE.mp dv,fE.mp dw,fE.mp du,hk],⟨i1,i2,j1,j2⟩,q _ H1 s1 (CP i _)⟩
 ·cases hG
end
end TG
namespace TX
open PySem PySem.Spec L2 TG
variable[aW]
structure XE(X:Cx)(e:U0)(F:FX):Prop where h:FE X e F
structure XT(X:Cx)(e:U0)(F:aq->R Bool):Prop where h:FT X e F
structure XW(X:Cx)(e:U0)(F:aq->R Bool):Prop where h:FW X e F
structure XA(X:Cx)(e:List U0)(F:aq->R (List D)):Prop where h:FA X e F
structure XS(X:Cx)(e:U2)(F:cn):Prop where h:FS X e F
structure An(X:Cx)(e:List U2)(F:cn):Prop where h:Ac X e F
structure XI(X:Cx)(t e:U0)(F:aq->R (List D)):Prop where h:FI X t e F
structure XG(X:Cx)(e:U0)(F:GF):Prop where h:FG X e F
structure NK(X:Cx)(e:List U0)(F:Em):Prop where h:LO X e F
structure XO(X:Cx)(e:Option U0)(F:aq->R (Option Int)):Prop where h:FO X e F
structure XN(X:Cx)(e:U0)(F:FX):Prop where h:FN X e F
structure PD(X:Cx)(e:List U0)(F:aq->R Bool):Prop where h:NN X e F
structure XV(X:Cx)(e:U0)(i:Nat):Prop where h:PE X e (qy i)
structure XB(X:Cx)(scope:UY)(N:List Str)(tg elt:U0)(ifs:List U0)(g:GF)(C:aq->R Bool)(Fe:FX)(cl:List (Str×UN))(C':UN)(fp:List UN)(s:UX)(H:Hp)(E:UK->UX->Prop):Prop where
 a:XG (cQ X scope N cl C' fp s H E) tg g
 b:PD (cQ X scope N cl C' fp s H E) ifs C
 c:XE (cQ X scope N cl C' fp s H E) elt Fe
structure Hf(X:Cx)(scope:UY)(N:List Str)(tg elt:U0)(ifs:List U0)(g:GF)(C:aq->R Bool)(Fe:FX):Prop where
 q:∀cl C' fp s H E,XB X scope N tg elt ifs g C Fe cl C' fp s H E
theorem Hf.h{X:Cx}{scope:UY}{N:List Str}{tg elt:U0}{ifs:List U0}{g:GF}{C:aq->R Bool}{Fe:FX}(x:Hf X scope N tg elt ifs g C Fe):Mi X scope N tg elt ifs g C Fe:=λcl C' fp s H E=>⟨(x.q cl C' fp s H E).a.h,(x.q cl C' fp s H E).b.h,(x.q cl C' fp s H E).c.h⟩
theorem xv{X:Cx}(i:Nat){x:Str}{pos:Pos}(hN:X.N[i]?=some x:=by rfl)(hv:J9 X.env.scope x:=by first|exact Or.inl rfl|exact Or.inr (Or.inl rfl)|exact Or.inr (Or.inr rfl))(hd:(x==("__debug__":Str))=false:=by decide)
  (hcd:(x==("__classdict__":Str))=false:=by decide):XV X (.Name x pos) i:=⟨pv i hN hv hd hcd⟩
theorem Jj{X:Cx}{e:U0}{f:aq->R Bool}(h:XW X e f):XT X e f:=⟨FW.ft h.h⟩
section
variable[aW]{X:Cx}
theorem aa{i:Nat}{x:Str}{pos:Pos}(h:XV X (.Name x pos) i):XE X (.Name x pos) (ah i):=⟨TG.OQ h.h⟩
end
section
variable[aW]{X:Cx}
theorem ai{i j pos}:XE X (.Constant (.int i) j pos) (fC (.int i)):=⟨TG.Pj ⟩
end
section
variable[aW]{X:Cx}
theorem iZ{b j pos}:XE X (.Constant (.bool b) j pos) (fC (.bl b)):=⟨TG.Qh ⟩
end
section
variable[aW]{X:Cx}
theorem fD{x j pos}:XE X (.Constant (.str x) j pos) (fC (.str x)):=⟨TG.N7 ⟩
end
section
variable[aW]{X:Cx}
theorem aj:XA X [] aw:=⟨TG.Ko ⟩
end
section
variable[aW]{X:Cx}
theorem ae{e:U0}{es:List U0}{f:FX}{g:aq->R (List D)}(he:XE X e f)(hs:XA X es g)(hns:noStar e=true:=by rfl):XA X (e::es) (af f g):=⟨TG.Ij he.h hs.h hns⟩
end
section
variable[aW]{X:Cx}
theorem de{es:List U0}{g:aq->R (List D)}{k pos}(h:XA X es g):XE X (.Tuple es k pos) (fF g):=⟨TG.OX h.h⟩
end
section
variable[aW]{X:Cx}
theorem js{es:List U0}{g:aq->R (List D)}{pos}(h:XA X es g):XE X (.List es pos) (jM g):=⟨TG.Of h.h⟩
end
section
variable[aW]{X:Cx}
theorem ao{a b:U0}{op:Operator}{r:R2}{g:D->D->Option D}{fa fb:FX}{pos:Pos}(ho:j7 X (Ve op) r)(s:cX X.K r g)(ha:XE X a fa)(hb:XE X b fb):XE X (.BinOp a op b pos) (f2 g fa fb):=⟨TG.Oc ho s ha.h hb.h⟩
end
section
variable[aW]{X:Cx}
theorem qe{a b:U0}{op:Vg}{r:R2}{g:D->D->Option D}{fa fb:FX}{pos:Pos}(ho:j7 X (Vf op) r)(s:cX X.K r g)(ha:XE X a fa)(hb:XE X b fb)(hm:Vh op b=false):XE X (.Compare a [op] [b] pos) (f2 g fa fb):=⟨TG.N5 ho s ha.h hb.h hm⟩
end
section
variable[aW]{X:Cx}
theorem bG{a b:U0}{op:Vg}{r:R2}{g:D->D->Option D}{fa fb:FX}{pos:Pos}(ho:j7 X (Vf op) r)(s:cX X.K r g)(ha:XE X a fa)(hb:XE X b fb)(hm:Vh op b=false):XT X (.Compare a [op] [b] pos) (fB (f2 g fa fb)):=⟨TG.OZ ho s ha.h hb.h hm⟩
end
section
variable[aW]{X:Cx}{a b c:U0}{rest:List U0}{pos:Pos}{f g:aq->R Bool}
theorem oz(h:XT X a f):XT X (.UnaryOp .Not a pos) (tS f):=⟨TG.Pb h.h⟩
end
section
variable[aW]{X:Cx}{a b c:U0}{rest:List U0}{pos:Pos}{f g:aq->R Bool}
theorem GK(h:XT X a f):XW X (.BoolOp .And [a] pos) f:=⟨TG.NA h.h⟩
end
section
variable[aW]{X:Cx}{a b c:U0}{rest:List U0}{pos:Pos}{f g:aq->R Bool}
theorem mH(h:XT X a f):XW X (.BoolOp .Or [a] pos) f:=⟨TG.PP h.h⟩
end
section
variable[aW]{X:Cx}{a b c:U0}{rest:List U0}{pos:Pos}{f g:aq->R Bool}
theorem Cw(ha:XT X a f)(hb:XW X (.BoolOp .And (b::rest) pos) g):XW X (.BoolOp .And (a::b::rest) pos) (Fk f g):=⟨TG.OY ha.h hb.h⟩
end
section
variable[aW]{X:Cx}{a b c:U0}{rest:List U0}{pos:Pos}{f g:aq->R Bool}
theorem pC(ha:XT X a f)(hb:XW X (.BoolOp .Or (b::rest) pos) g):XW X (.BoolOp .Or (a::b::rest) pos) (Ek f g):=⟨TG.Qr ha.h hb.h⟩
end
section
variable[aW]{X:Cx}{a b c:U0}{rest:List U0}{pos:Pos}{f g:aq->R Bool}{fa fb:FX}
theorem sX{op}(h:XE X a fa):XE X (.BoolOp op [a] pos) fa:=⟨TG.P5 h.h⟩
end
section
variable[aW]{X:Cx}{a b c:U0}{rest:List U0}{pos:Pos}{f g:aq->R Bool}{fa fb:FX}
theorem pM(ha:XE X a fa)(hb:XE X (.BoolOp .And (b::rest) pos) fb):XE X (.BoolOp .And (a::b::rest) pos) (sd fa fb):=⟨TG.OV ha.h hb.h⟩
end
section
variable[aW]{X:Cx}{a b c:U0}{rest:List U0}{pos:Pos}{f g:aq->R Bool}{fa fb:FX}
theorem IX(ha:XE X a fa):XE X (.UnaryOp .Not a pos) (BZ fa):=⟨TG.OL ha.h⟩
end
section
variable[aW]{X:Cx}
theorem aG{a b:U0}{fa fb:FX}{pos:Pos}(ha:XE X a fa)(hb:XE X b fb)(hs:xW b):XE X (.Subscript a b pos) (f2 aH fa fb):=⟨TG.Qd ha.h hb.h hs⟩
end
section
variable[aW]{X:Cx}
theorem iI:XO X none cK:=⟨TG.NB ⟩
end
section
variable[aW]{X:Cx}
theorem iJ{e:U0}{f:FX}(h:XE X e f):XO X (some e) (fI f):=⟨TG.Nw h.h⟩
end
section
variable[aW]{X:Cx}
theorem gh{e:U0}{f:FX}{l h:aq->R (Option Int)}{lo hi:Option U0}{p2 pos:Pos}(he:XE X e f)(hl:XO X lo l)(hh:XO X hi h):XE X (.Subscript e (.Slice lo hi none p2) pos) (dJ f l h):=⟨TG.Ml he.h hl.h hh.h⟩
end
section
variable[aW]{X:Cx}{x:Str}{p pos:Pos}{e:U0}{es:List U0}{id T:String}{g:List D->Option D}{f:aq->R (List D)}
theorem bD(hc:dY X (.builtin id) (yd X.K g))(hg:Gl X x)(hm:X.mg x=none)(hv:UV x=some (.builtin id))(ha:XA X (e::es) f)(hn:x≠"__name__":=by decide)(hdb:(x==("__debug__":Str))=false:=by decide)(hns:(e::es).all noStar=true:=by rfl):XE X (.Call (.Name x p) (e::es) [] pos) (fL g f):=⟨TG.MI hc hg hm hv ha.h hn hdb hns⟩
end
section
variable[aW]{X:Cx}{x:Str}{p pos:Pos}{e:U0}{es:List U0}{id T:String}{g:List D->Option D}{f:aq->R (List D)}
theorem bF(hc:dY X (.type T) (yd X.K g))(hg:Gl X x)(hm:X.mg x=none)(hv:UV x=some (.type T))(ha:XA X (e::es) f)(hn:x≠"__name__":=by decide)(hdb:(x==("__debug__":Str))=false:=by decide)(hns:(e::es).all noStar=true:=by rfl):XE X (.Call (.Name x p) (e::es) [] pos) (fL g f):=⟨TG.Ls hc hg hm hv ha.h hn hdb hns⟩
end
section
variable[aW]{X:Cx}{x:Str}{p pos:Pos}{e:U0}{es:List U0}{id T:String}{g:List D->Option D}{f:aq->R (List D)}
theorem gG{f:FX}{xT:Str}{p2:Pos}(ok:zF X.K T)(hg:Gl X "isinstance")(hm:X.mg "isinstance"=none)(hgT:Gl X xT)(hmT:X.mg xT=none)(hvT:UV xT=some (.type T))(he:XE X e f)(hn2:xT≠"__name__":=by decide)(hd2:(xT==("__debug__":Str))=false:=by decide)(hns:noStar e=true:=by rfl):XE X (.Call (.Name "isinstance" p) [e,.Name xT p2] [] pos) (pN T f):=⟨TG.PB ok hg hm hgT hmT hvT he.h hn2 hd2 hns⟩
end
section
variable[aW]{X:Cx}{a:U0}{f:FX}{pos:Pos}
theorem eQ(h:XE X a f)(he:∀whole,isTrue a X.env whole=(do let v<-whole;standAt a.pos;holding [v] (truthy v)):=by intro _;rfl):XT X a (fT f):=⟨TG.Nh h.h he⟩
end
section
variable[aW]{X:Cx}{tg:U0}
theorem dP{e:U0}{f:FX}(h:XE X e f):XI X tg e (bT f):=⟨TG.Ou h.h⟩
end
section
variable[aW]{X:Cx}{tg:U0}
theorem mF{a:U0}{f:aq->R (List D)}{p pos:Pos}(hg:Gl X "range")(hm:X.mg "range"=none)(ha:XA X [a] f)(hs:U1 [a] X.env=[(false,eval a X.env)]:=by rfl):XI X tg (.Call (.Name "range" p) [a] [] pos) (jf f):=⟨TG.Lz hg hm ha.h hs⟩
end
section
variable[aW]{X:Cx}{tg:U0}
theorem Ba{a b:U0}{f:aq->R (List D)}{p pos:Pos}(hg:Gl X "range")(hm:X.mg "range"=none)(ha:XA X [a,b] f)(hs:U1 [a,b] X.env=[(false,eval a X.env),(false,eval b X.env)]:=by rfl)(hs2:U1 [b] X.env=[(false,eval b X.env)]:=by rfl):XI X tg (.Call (.Name "range" p) [a,b] [] pos) (sJ f):=⟨TG.Ly hg hm ha.h hs hs2⟩
end
section
variable[aW]{X:Cx}{pos:Pos}
theorem aP{i:Nat}{x:Str}(hN:X.N.Nodup)(hi:X.N[i]?=some x)(hx:Loc X.env.scope x)(hf:X.fn x=true\/X.env.scope.names.lookup x=some .local:=by first|exact .inl rfl|exact .inr rfl|assumption):XG X (.Name x pos) (gN i):=⟨TG.NP hN hi hx hf⟩
end
section
variable[aW]{X:Cx}{pos:Pos}
theorem eN:NK X [] Eo:=⟨TG.Np ⟩
end
section
variable[aW]{X:Cx}{pos:Pos}
theorem bC{e:U0}{es:List U0}{g:GF}{h:Em}(h1:XG X e g)(h2:NK X es h)(hs:(assignEach (e::es) X.env).map (·.2)=assign e X.env::(assignEach es X.env).map (·.2):=by rfl):NK X (e::es) (AV g h):=⟨TG.Mv h1.h h2.h hs⟩
end
section
variable[aW]{X:Cx}{pos:Pos}
theorem fM{es:List U0}{k:Nat}{g:Em}{n:Nat}(hc:X.calm=true)(h:NK X es g)(hn:(assignEach es X.env).length=n:=by rfl)(hst:(assignEach es X.env).findIdx? (·.1)=none:=by rfl):XG X (.Tuple es k pos) (gT n g):=⟨TG.P0 hc h.h hn hst⟩
end
section
variable[aW]
theorem eZ{X:Cx}:PD X [] dF:=⟨TG.Nm ⟩
end
section
variable[aW]
theorem mQ{X:Cx}{c:U0}{F:aq->R Bool}(h:XT X c F):PD X [c] F:=⟨TG.NW h.h⟩
end
section
variable[aW]{X:Cx}{elt tg iter:U0}{ifs:List U0}{scope:UY}{pos:Pos}{N:List Str}{ix:List (Option Nat)}{G:aq->R (List D)}{g:GF}{C:aq->R Bool}{Fe:FX}
theorem gu(hc:X.calm=true)(ok:lZ X scope N ix)(tk:vq ix g)(hi:XI X tg iter G)(hb:Hf X scope N tg elt ifs g C Fe)(hs:∀x,Vc iter X.env x=pure x:=by intro _;rfl):XE X (.ListComp elt [⟨tg,iter,ifs,0⟩] scope pos) (kr ix G g C Fe):=⟨TG.Qk hc ok tk hi.h hb.h hs⟩
end
section
variable[aW]{X:Cx}{st:U2}{rest body:List U2}{pos:Pos}
theorem aX:An X [] cM:=⟨TG.Nu ⟩
end
section
variable[aW]{X:Cx}{st:U2}{rest body:List U2}{pos:Pos}
theorem ak{F1 F2:cn}(h1:XS X st F1)(h2:An X rest F2):An X (st::rest) (aU F1 F2):=⟨TG.LW h1.h h2.h⟩
end
section
variable[aW]{X:Cx}{st:U2}{rest body:List U2}{pos:Pos}
theorem az{F1:cn}(h1:XS X st F1):An X [st] F1:=⟨TG.N0 h1.h⟩
end
section
variable[aW]{X:Cx}{st:U2}{rest body:List U2}{pos:Pos}
theorem aJ{e:U0}{f:FX}(h:XE X e f):XS X (.Return (some e) pos) (bM f):=⟨TG.Pn h.h⟩
end
section
variable[aW]{X:Cx}{st:U2}{rest body:List U2}{pos:Pos}
theorem cG{c:U0}{a b:List U2}{tc:aq->R Bool}{A B:cn}(hc:XT X c tc)(ha:An X a A)(hb:An X b B):XS X (.If c a b pos) (mO tc A B):=⟨TG.Qm hc.h ha.h hb.h⟩
end
section
variable[aW]{X:Cx}{st:U2}{rest body:List U2}{pos:Pos}
theorem aR{i:Nat}{x:Str}{e:U0}{f:FX}{pos':Pos}(hN:X.N.Nodup)(hi:X.N[i]?=some x)(hx:Loc X.env.scope x)(he:XE X e f)(hs:swapsWith e (some (.Name x pos')) pos.line X.env=pure false:=by rfl)(hf:X.fn x=true\/X.env.scope.names.lookup x=some .local:=by first|exact .inl rfl|exact .inr rfl|assumption):XS X (.Assign [.Name x pos'] e pos) (cy i f):=⟨TG.P6 hN hi hx he.h hs hf⟩
end
section
variable[aW]{X:Cx}{st:U2}{rest body:List U2}{pos:Pos}
theorem JT{elt tg iter:U0}{ifs:List U0}{scope:UY}{N:List Str}{ix:List (Option Nat)}{G:aq->R (List D)}{g:GF}{C:aq->R Bool}{Fe:FX}{i:Nat}{y:Str}{lpos py spos:Pos}(hN:X.N.Nodup)(hi':X.N[i]?=some y)(hx:Loc X.env.scope y)(hc:X.calm=true)(ok:lZ X scope N ix)(tk:vq ix g)(hi:XI X tg iter G)(hb:Hf X scope N tg elt ifs g C Fe)(hsw:swapsWith (.ListComp elt [⟨tg,iter,ifs,0⟩] scope lpos) (some (.Name y py)) spos.line X.env=pure true:=by rfl)(hs:∀x,Vc iter X.env x=pure x:=by intro _;rfl)(hf:X.fn y=true\/X.env.scope.names.lookup y=some .local:=by first|exact .inl rfl|exact .inr rfl|assumption):XS X (.Assign [.Name y py] (.ListComp elt [⟨tg,iter,ifs,0⟩] scope lpos) spos) (cy i (kr ix G g C Fe)):=⟨TG.Qf hN hi' hx hc ok tk hi.h hb.h hsw hs hf⟩
end
section
variable[aW]{X:Cx}{st:U2}{rest body:List U2}{pos:Pos}
theorem Hv{tg e:U0}{f:FX}{g:GF}(he:XE X e f)(hg:XG X tg g)(hs:swapsWithSole [tg] e pos.line X.env=pure false:=by rfl)(hw:swappedStores [tg] e X.env=pure none:=by rfl)(h1:(assignEach [tg] X.env).map (·.2)=[assign tg X.env]:=by rfl):XS X (.Assign [tg] e pos) (EC f g):=⟨TG.PR he.h hg.h hs hw h1⟩
end
section
variable[aW]{X:Cx}{st:U2}{rest body:List U2}{pos:Pos}
theorem jG:XS X st pU:=⟨TG.ND ⟩
end
section
variable[aW]{X:Cx}{st:U2}{rest body:List U2}{pos:Pos}
theorem bR{st:List U2}{F:cn}(is:List Nat)(h:An X st F):An X st (dM is F):=⟨TG.LK is h.h⟩
end
section
variable[aW]{X:Cx}{st:U2}{rest body:List U2}{pos:Pos}
theorem eD{tg iter:U0}{G:aq->R (List D)}{g:GF}{B:cn}(hp:Vb (model X.prog X.w) X.A X.env X.xe)(hc:X.calm=true)(hi:XI X tg iter G)(hg:XG X tg g)(hb:An X body B)(hs:∀x,Vc iter X.env x=pure x:=by intro _;rfl):XS X (.For tg iter body [] pos) (jU G g B):=⟨TG.OS hp hc hi.h hg.h hb.h hs⟩
end
section
variable[aW]{X:Cx}{pos:Pos}
theorem j9{es:List U0}{g:aq->R (List D)}(h:XA X es g):XN X (.List es pos) (jM g):=⟨TG.O1 h.h⟩
end
section
variable[aW]{X:Cx}{pos:Pos}
theorem wF:XN X (.Dict [] [] pos) zh:=⟨TG.EW ⟩
end
section
variable[aW]{X:Cx}{pos:Pos}
theorem iF{i:Nat}{x:Str}{e:U0}{f:FX}{pos':Pos}(hN:X.N.Nodup)(hi:X.N[i]?=some x)(hx:Loc X.env.scope x)(he:XN X e f)(hs:swapsWith e (some (.Name x pos')) pos.line X.env=pure false:=by rfl)(hf:X.fn x=true\/X.env.scope.names.lookup x=some .local:=by first|exact .inl rfl|exact .inr rfl|assumption):XS X (.Assign [.Name x pos'] e pos) (qi i f):=⟨TG.PN hN hi hx he.h hs hf⟩
end
section
variable[aW]
theorem KC{X:Cx}{elt tg iter:U0}{ifs:List U0}{scope:UY}{pos:Pos}{N:List Str}{ix:List (Option Nat)}{G:aq->R (List D)}{g:GF}{C:aq->R Bool}{Fe:FX}(hc:X.calm=true)(ok:lZ X scope N ix)(tk:vq ix g)(hi:XI X tg iter G)(hb:Hf X scope N tg elt ifs g C Fe)(hs:∀x,Vc iter X.env x=pure x:=by intro _;rfl):XN X (.ListComp elt [⟨tg,iter,ifs,0⟩] scope pos) (kr ix G g C Fe):=⟨TG.Qo hc ok tk hi.h hb.h hs⟩
end
section
variable[aW]
theorem m7{X : Cx}{i : Nat}{x m : Str}{id : String}{r : V -> List V -> Hp -> VK -> Prop}{u : List D -> List D -> Option (List D)}{e : U0}{es : List U0}{f : aq -> R (List D)}{npos apos cpos pos : Pos}(slot : Slot "list" m id)(hty : typeOf (.builtin id) = pure (.type "method_descriptor"))(hm : MZ X id r)(ok : Gk X.K r u)(hx : XV X (.Name x npos) i)(he : XA X (e :: es) f)(hbase : Vl (.Name x npos) m X.env (eval (.Name x npos) X.env) = eval (.Name x npos) X.env := by rfl)(hfew : ((backTo cpos (U1 (e :: es) X.env)).all (fun x => !x.1) && (backToKw cpos (Vn [] X.env)).all (fun x => x.1.isSome)
      && decide ((e::es:List U0).length+([]:List Vv).length+(if([]:List Vv).isEmpty then 0 else 1)<30))=true:=by rfl)(hline:(apos.endLine==cpos.line)=true:=by rfl)(hs:U1 (e::es) X.env=(false,eval e X.env)::U1 es X.env:=by rfl)(hplain:(backTo cpos (U1 es X.env)).any (·.1)=false:=by rfl)(hsw:swapsWith (.Call (.Attribute (.Name x npos) m apos) (e::es) [] cpos) none pos.line X.env=pure false:=by rfl):XS X (.Expr (.Call (.Attribute (.Name x npos) m apos) (e::es) [] cpos) pos) (C6 i u f):=⟨TG.Qi slot hty hm ok hx.h he.h hbase hfew hline hs hplain hsw⟩
end
section
variable[aW]
theorem fH{X:Cx}{st:List U2}{F:cn}(i:Nat)(h:An X st F):An X st (kE i F):=⟨TG.NM i h.h⟩
end
section
variable[aW]
theorem yQ{X:Cx}{e:U0}{f:FX}(is:List Nat)(h:XE X e f):XE X e (tP is f):=⟨TG.Nv is h.h⟩
end
section
variable[aW]
theorem zH{X:Cx}{e:U0}{f:aq->R Bool}(is:List Nat)(h:XT X e f):XT X e (nE is f):=⟨TG.Nt is h.h⟩
end
section
variable[aW]
theorem ay{X:Cx}{k k':Nat}{ps:List Str}{g:List D->R D}{h:aq->R (List D)}{x:Str}{p pos:Pos}{e:U0}{es:List U0}(C:Callee X.prog X.w X.K X.mg X.base k x ps g)(hn:Ar ps.length g)(hr:fY k' X.A)(hk:k<=k')(ha:XA X (e::es) h)(hg:Gl X x:=by rfl)(hdb:(x==("__debug__":Str))=false:=by decide)(hns:(e::es).all noStar=true:=by rfl):XE X (.Call (.Name x p) (e::es) [] pos) (fR g h):=⟨TG.Lx C hn hr hk ha.h hg hdb hns⟩
end
section
variable[aW]{X:Cx}{a b c:U0}{fa fb fc:FX}{pos:Pos}
theorem CF{op op':Vg}{r r':R2}{g g':D->D->Option D}(ho:j7 X (Vf op) r)(s:cX X.K r g)(ho':j7 X (Vf op') r')(s':cX X.K r' g')(ha:XE X a fa)(hb:XE X b fb)(hc:XE X c fc)(hm:lastMarks [op,op'] [b,c]=false:=by with_unfolding_all rfl):XT X (.Compare a [op,op'] [b,c] pos) (fB (uR g g' fa fb fc)):=⟨TG.ME ho s ho' s' ha.h hb.h hc.h hm⟩
end
section
variable[aW]{X:Cx}{a b c:U0}{fa fb fc:FX}{pos:Pos}
theorem km(ha:XE X a fa):XE X (.UnaryOp .USub a pos) (mK fa):=⟨TG.Oe ha.h⟩
end
section
variable[aW]{X:Cx}{a b c:U0}{fa fb fc:FX}{pos:Pos}
theorem yS{x:Str}{i:Int}(hg:Gl X x)(hm:∃t,X.mg x=some (.int i t))(hd:(x==("__debug__":Str))=false:=by decide):XE X (.Name x pos) (fC (.int i)):=⟨TG.NC hg hm hd⟩
end
section
variable[aW]{X:Cx}
theorem BJ{a b:U0}{es:List U0}{k:Nat}{tpos:Pos}{f:aq->R (List D)}{p pos:Pos}(hg:Gl X "zip")(hm:X.mg "zip"=none)(ha:XA X [a,b] f)(hs:U1 [a,b] X.env=(false,eval a X.env)::U1 [b] X.env:=by rfl)(hpl:(backTo pos (U1 [b] X.env)).any (·.1)=false:=by rfl):XI X (.Tuple es k tpos) (.Call (.Name "zip" p) [a,b] [] pos) (Dd f):=⟨TG.Pw hg hm ha.h hs hpl⟩
end
section
variable[aW]{X:Cx}
theorem kC{a:U0}{es:List U0}{k:Nat}{tpos:Pos}{f:aq->R (List D)}{p pos:Pos}(hg:Gl X "enumerate")(hm:X.mg "enumerate"=none)(ha:XA X [a] f)(hs:U1 [a] X.env=(false,eval a X.env)::U1 [] X.env:=by rfl)(hpl:(backTo pos (U1 [] X.env)).any (·.1)=false:=by rfl):XI X (.Tuple es k tpos) (.Call (.Name "enumerate" p) [a] [] pos) (fS f):=⟨TG.IM hg hm ha.h hs hpl⟩
end
section
variable[aW]{X:Cx}{a o e:U0}{es:List U0}{fa fo:FX}{fas:aq->R (List D)}{f m x:Str}{cs:List Str}{pos apos p:Pos}{k k':Nat}{ps:List Str}
theorem iB(ok:nK X.K f cs)(h:XE X a fa)(hb:Vl a f X.env (eval a X.env)=eval a X.env:=by rfl):XE X (.Attribute a f pos) (f1 (mC f cs) fa):=⟨TG.Oh ok h.h hb⟩
end
section
variable[aW]{X:Cx}{a o e:U0}{es:List U0}{fa fo:FX}{fas:aq->R (List D)}{f m x:Str}{cs:List Str}{pos apos p:Pos}{k k':Nat}{ps:List Str}
theorem kM{tbl : List (Str × (List D -> R D))}{pl : Sem Bool}(tb : gO X.prog X.w X.K X.mg X.base k m ps tbl)(hr : fY k' X.A)(hk : k <= k')(ho : XE X o fo)(ha : XA X (e :: es) fas)(hns : (e :: es).all noStar = true := by rfl)(ht : eval (.Call (.Attribute o m apos) (e :: es) [] pos) X.env = (do
      let ov<-eval o X.env
      standAt apos.atName
      let (f,first)<-holding [ov] (getMethod ov m pl)
      Vm pos f first (backTo pos (U1 (e::es) X.env)) (backToKw pos (Vn [] X.env))):=by rfl):XE X (.Call (.Attribute o m apos) (e::es) [] pos) (dS m tbl fo fas):=⟨TG.NR tb hr hk ho.h ha.h hns ht⟩
end
section
variable[aW]{X:Cx}{a o e:U0}{es:List U0}{fa fo:FX}{fas:aq->R (List D)}{f m x:Str}{cs:List Str}{pos apos p:Pos}{k k':Nat}{ps:List Str}
theorem sW{c:Str}{fs:List Str}(IA:o6 X.prog X.w X.K X.mg X.base k c ps fs)(hr:fY k' X.A)(hk:k+1<=k')(hg:Gl X c)(ha:XA X (e::es) fas)(hdb:(c==("__debug__":Str))=false:=by decide)(hns:(e::es).all noStar=true:=by rfl):XE X (.Call (.Name c p) (e::es) [] pos) (fNew c fs fas):=⟨TG.O8 IA hr hk hg ha.h hdb hns⟩
end
section
variable[aW]
theorem Gg{X:Cx}{i:Nat}{x:Str}{idx value:U0}{fk fv:FX}{npos tpos pos:Pos}(hu:X.A.units+64<Vp)(hx:XV X (.Name x npos) i)(hi:XE X idx fk)(hv:XE X value fv)(hs:swapsWith value (some (.Subscript (.Name x npos) idx tpos)) pos.line X.env=pure false:=by rfl):XS X (.Assign [.Subscript (.Name x npos) idx tpos] value pos) (vK i fk fv):=⟨TG.Ni hu hx.h hi.h hv.h hs⟩
end
section
variable[aW]{X:Cx}{p pos kp:Pos}{e:U0}
theorem G3{f:FX}{i:Int}{j:Nat}{cp:Pos}(hc:X.calm=true)(hg:Gl X "max")(hm:X.mg "max"=none)(he:XE X e f)(hns:noStar e=true:=by rfl):XE X (.Call (.Name "max" p) [e] [⟨some "default",.Constant (.int i) j cp,kp⟩] pos) (f1 (rQ i) f):=⟨TG.N1 hc hg hm he.h hns⟩
end
section
variable[aW]{X:Cx}{pins:List (UN×Obj)}{s:UX}{σ:L2.St}{H:Hp}{O:List UN}
theorem Dp{f:FX}{j:Nat}{k:Nat}{c P cc:UN}{e:U0}{p lpos kp pos np mp p2 spos:Pos}{row many:Str}{params:Vy}{scope:UY}(hr:fY k X.A)(hg:Gl X "sorted")(hm:X.mg "sorted"=none)(B:CW X.mg X.base c P)(hcode:X.env.code=.ref c)(hT:∀H,aW.tab H->H P=some (.ext (qq P lpos (X.env.qual++"<lambda>"))))(he:XE X e f)(hN:X.N[j]?=some many)(hkm:X.env.kindOf many=some .cell)(hv:J9 X.env.scope many)(hcc:X.env.cells.lookup many=some cc)(hcl:closureFor scope X.env=pure [(many,cc)])(hdef:defaultsOf params X.env=([],[]))(hbind:∀cdv ctv v,bindArgs (T6 "<lambda>" (X.env.qual++"<lambda>") params (cutE row many np mp p2 spos) scope [(many,cc)] ((X.mg "__name__").getD .none) cdv ctv) ⟨[v],[]⟩=pure [(row,v)])(hco:scope.isCoroutine=false)(hgen:scope.isGenerator=false)(hk:scope.kind=.function)(hno:∀x∈scope.names,x.2≠.cell)(hlr:scope.names.lookup row=some .local)(hlm:scope.names.lookup many=some .free)(d1:(row==("__debug__":Str))=false)(d2:(many==("__debug__":Str))=false)(d3:(many==("__classdict__":Str))=false)(hns:noStar e=true:=by rfl):XE X (.Call (.Name "sorted" p) [e] [⟨some "key",.Lambda params (cutE row many np mp p2 spos) scope lpos,kp⟩] pos) (f2 rA f (ah j)):=⟨TG.LD hr hg hm B hcode hT he.h hN hkm hv hcc hcl hdef hbind hco hgen hk hno hlr hlm d1 d2 d3 hns⟩
end
section
variable[aW]
theorem yt{X:Cx}{i:Nat}{x:Str}{idx value:U0}{fk fv:FX}{npos tpos pos:Pos}(hu:X.A.units+64<Vp)(hx:XV X (.Name x npos) i)(hi:XE X idx fk)(hv:XE X value fv)(hs:swapsWith value (some (.Subscript (.Name x npos) idx tpos)) pos.line X.env=pure false:=by rfl):XS X (.Assign [.Subscript (.Name x npos) idx tpos] value pos) (pV i fk fv):=⟨TG.NX hu hx.h hi.h hv.h hs⟩
end
section
variable[aW]{X:Cx}{pos:Pos}
theorem G4{i:Nat}{x:Str}{dp pos':Pos}(hN:X.N.Nodup)(hi:X.N[i]?=some x)(hx:Loc X.env.scope x)(hs:swapsWith (.Dict [] [] dp) (some (.Name x pos')) pos.line X.env=pure false:=by rfl)(hf:X.fn x=true\/X.env.scope.names.lookup x=some .local:=by first|exact .inl rfl|exact .inr rfl|assumption):XS X (.Assign [.Name x pos'] (.Dict [] [] dp) pos) (zM i):=⟨TG.Nr hN hi hx hs hf⟩
end
section
variable[aW]{X:Cx}
theorem Hm{i:Nat}{x:Str}{ke ve:U0}{fk fv:FX}{npos ap1 cp1 lp ap2 cp2 pos:Pos}(hu:X.A.units+64<Vp)(hx:XV X (.Name x npos) i)(hke:XE X ke fk)(hve:XE X ve fv)(hn1:noStar ke=true:=by rfl)(hn2:noStar ve=true:=by rfl)(hb1:Vl (.Name x npos) "setdefault" X.env (eval (.Name x npos) X.env)=eval (.Name x npos) X.env:=by rfl)(hf1:((backTo cp1 (U1 [ke,.List [] lp] X.env)).all (λx=>!x.1)&&(backToKw cp1 (Vn [] X.env)).all (λx=>x.1.isSome)&&decide (([ke,.List [] lp]:List U0).length+([]:List Vv).length+(if([]:List Vv).isEmpty then 0 else 1)<30))=true:=by rfl)(hl1:(ap1.endLine==cp1.line)=true:=by rfl)(hp1:(backTo cp1 (U1 [.List [] lp] X.env)).any (·.1)=false:=by rfl)(hb2:Vl (.Call (.Attribute (.Name x npos) "setdefault" ap1) [ke,.List [] lp] [] cp1) "append" X.env (eval (.Call (.Attribute (.Name x npos) "setdefault" ap1) [ke,.List [] lp] [] cp1) X.env)=eval (.Call (.Attribute (.Name x npos) "setdefault" ap1) [ke,.List [] lp] [] cp1) X.env:=by rfl)(hf2:((backTo cp2 (U1 [ve] X.env)).all (λx=>!x.1)&&(backToKw cp2 (Vn [] X.env)).all (λx=>x.1.isSome)&&decide (([ve]:List U0).length+([]:List Vv).length+(if([]:List Vv).isEmpty then 0 else 1)<30))=true:=by rfl)(hl2:(ap2.endLine==cp2.line)=true:=by rfl)(hp2:(backTo cp2 (U1 [] X.env)).any (·.1)=false:=by rfl)(hsw:swapsWith (.Call (.Attribute (.Call (.Attribute (.Name x npos) "setdefault" ap1) [ke,.List [] lp] [] cp1) "append" ap2) [ve] [] cp2) none pos.line X.env=pure false:=by rfl):XS X (.Expr (.Call (.Attribute (.Call (.Attribute (.Name x npos) "setdefault" ap1) [ke,.List [] lp] [] cp1) "append" ap2) [ve] [] cp2) pos) (Eh i fk fv):=⟨TG.Pz hu hx.h hke.h hve.h hn1 hn2 hb1 hf1 hl1 hp1 hb2 hf2 hl2 hp2 hsw⟩
end
section
variable[aW]{X:Cx}
theorem ot{o:U0}{es:List U0}{k:Nat}{tpos:Pos}{f:FX}{apos cpos:Pos}(ho:XE X o f)(hbase:Vl o "items" X.env (eval o X.env)=eval o X.env:=by rfl)(hline:(apos.endLine==cpos.line)=true:=by rfl):XI X (.Tuple es k tpos) (.Call (.Attribute o "items" apos) [] [] cpos) (jp f):=⟨TG.MG ho.h hbase hline⟩
end
section
variable[aW]
theorem CI{X:Cx}{st:List U2}{F:cn}(i:Nat)(h:An X st F):An X st (vM i F):=⟨TG.L8 i h.h⟩
end
section
variable[aW]{X:Cx}
theorem Hk{o e:U0}{fo fk:FX}{pos:Pos}(hu:X.A.units+64<Vp)(ho:XE X o fo)(hi:XE X e fk)(hs:He e):XE X (.Subscript o e pos) (f2 A1 fo fk):=⟨TG.O7 hu ho.h hi.h hs⟩
end
section
variable[aW]
theorem IE{X:Cx}{i:Nat}{x:Str}{e:U0}{f:FX}{npos apos cpos pos:Pos}(hx:XV X (.Name x npos) i)(he:XN X e f)(hns:noStar e=true:=by rfl)(hbase:Vl (.Name x npos) "extend" X.env (eval (.Name x npos) X.env)=eval (.Name x npos) X.env:=by rfl)(hfew:((backTo cpos (U1 [e] X.env)).all (λx=>!x.1)&&(backToKw cpos (Vn [] X.env)).all (λx=>x.1.isSome)&&decide (([e]:List U0).length+([]:List Vv).length+(if([]:List Vv).isEmpty then 0 else 1)<30))=true:=by rfl)(hline:(apos.endLine==cpos.line)=true:=by rfl)(hplain:(backTo cpos (U1 [] X.env)).any (·.1)=false:=by rfl)(hsw:swapsWith (.Call (.Attribute (.Name x npos) "extend" apos) [e] [] cpos) none pos.line X.env=pure false:=by rfl):XS X (.Expr (.Call (.Attribute (.Name x npos) "extend" apos) [e] [] cpos) pos) (Fx i f):=⟨TG.N4 hx.h he.h hns hbase hfew hline hplain hsw⟩
end
section
variable[aW]{X:Cx}{tg:U0}
theorem Aw{a b c:U0}{f:aq->R (List D)}{p pos:Pos}(hg:Gl X "range")(hm:X.mg "range"=none)(ha:XA X [a,b,c] f)(hs:U1 [a,b,c] X.env=[(false,eval a X.env),(false,eval b X.env),(false,eval c X.env)]:=by rfl)(hs2:U1 [b,c] X.env=[(false,eval b X.env),(false,eval c X.env)]:=by rfl):XI X tg (.Call (.Name "range" p) [a,b,c] [] pos) (qg f):=⟨TG.LA hg hm ha.h hs hs2⟩
end
abbrev Lk(K:Tu)(f:UN)(nm qual:Str)(st:U2)(oc:UK)(od:Option UN)(kV dc pm:UK)(an:Option UN)(cd ct:UK)(sl:Array (Option UK)):Prop:=K.lookup f=some ⟨oc,od,.func (TU nm qual (nY st) (fw st) (ax st) .none kV dc pm an cd ct),sl⟩
structure cz(P:UM)(w:UL)(K:Tu)(mg:Str->Option UK)(base:UP)(k:Nat)(N:List Str)(qual:Str)(st:U2)(f:UN)(B:cn):Prop where
 h:∀(cdv:UK)(A:UW)(outer:List Env)(s:UX)(H:Hp)(E:XK),fY k (A.deeper (Ut qual (ax st) s.heap.objs.size f cdv))->Vb (model P w) (A.deeper (Ut qual (ax st) s.heap.objs.size f cdv)) (Ut qual (ax st) s.heap.objs.size f cdv) (kB (oW P w) P w K mg base N qual (ax st) f cdv A outer s H E).xe->
  An (kB (oW P w) P w K mg base N qual (ax st) f cdv A outer s H E) (fw st) B
structure Gu(P:UM)(w:UL)(K:Tu)(mg:Str->Option UK)(base:UP)(k:Nat)(N:List Str)(qual:Str)(st:U2)(f:UN)(B:cn):Prop where
 h:∀(cdv:UK)(A:UW)(outer:List Env)(s:UX)(H:Hp)(E:XK),vP K f cdv->fY k (A.deeper (Ut qual (ax st) s.heap.objs.size f cdv))->Vb (model P w) (A.deeper (Ut qual (ax st) s.heap.objs.size f cdv)) (Ut qual (ax st) s.heap.objs.size f cdv) (kB (oW P w) P w K mg base N qual (ax st) f cdv A outer s H E).xe->
  An (kB (oW P w) P w K mg base N qual (ax st) f cdv A outer s H E) (fw st) B
theorem Gu.ok{P:UM}{w:UL}{K:Tu}{mg:Str->Option UK}{base:UP}{k:Nat}{N:List Str}{qual:Str}{st:U2}{f:UN}{B:cn}(h:Gu P w K mg base k N qual st f B):xX P w K mg base k N qual st f B:=⟨λcdv A outer s H E hc hr hp=>(h.h cdv A outer s H E hc hr hp).h⟩
theorem cz.ok{P:UM}{w:UL}{K:Tu}{mg:Str->Option UK}{base:UP}{k:Nat}{N:List Str}{qual:Str}{st:U2}{f:UN}{B:cn}(h:cz P w K mg base k N qual st f B):BodyOk P w K mg base k N qual st f B:=⟨λcdv A outer s H E hr hp=>(h.h cdv A outer s H E hr hp).h⟩
end TX
namespace TG
open L2
instance(priority:=low) noTabs:aW:=⟨λ_=>True,λ_ _=>trivial,λ_ _ _=>trivial⟩
open PySem PySem.Spec L2
theorem nr{α:Sort _}{a b:α}(h:a=b):a=b:=h
theorem cq{α β:Type}(a:α)(f:α->R β):Except.bind (Except.ok a:R α) f=f a:=nr rfl
theorem vL{α β:Type}(x:Option Ex)(f:α->R β):Except.bind (Except.error x:R α) f=.error x:=nr rfl
theorem rL{α:Type}(a:α)(k:Ks)(ρ:aq)(f:α->R D):tq (.ok a) k ρ f=f a:=nr rfl
theorem vW{α:Type}(x:Ex)(k:Ks)(ρ:aq)(f:α->R D):tq (.error (some x)) k ρ f=k.ex x ρ:=nr rfl
theorem fZ{α:Type}(a:α):Ad (.ok a:R α)=.ok a:=nr rfl
theorem eJ{α:Type}(a:α):rO (some a)=.ok a:=nr rfl
theorem ge_0(d:D)(ρ:aq):uG (some (.val d)::ρ) 0=.ok d:=nr rfl
theorem DR(x:Option S)(ρ:aq)(i:Nat):uG (x::ρ) (i+1)=uG ρ i:=by
 unfold uG;rw[R7]
theorem qF(i:Nat)(ρ:aq):ah i ρ=uG ρ i:=nr rfl
theorem DU(d:D)(ρ:aq):fC d ρ=.ok d:=nr rfl
theorem qZ(ρ:aq):aw ρ=.ok []:=nr rfl
theorem n6(f:FX)(g:aq->R (List D))(ρ:aq):af f g ρ=(f ρ).bind λx=>(g ρ).bind λxs=>.ok (x::xs):=nr rfl
theorem qX(g:aq->R (List D))(ρ:aq):fF g ρ=(g ρ).bind λxs=>rO (v9 xs):=nr rfl
theorem qH(g:aq->R (List D))(ρ:aq):jM g ρ=(g ρ).bind λxs=>rO (ku xs):=nr rfl
theorem C5(g:D->Option D)(f:FX)(ρ:aq):f1 g f ρ=(f ρ).bind λa=>rO (g a):=nr rfl
theorem CU(g:D->D->Option D)(f h:FX)(ρ:aq):f2 g f h ρ=(f ρ).bind λa=>(h ρ).bind λb=>rO (g a b):=nr rfl
theorem C3(f:FX)(ρ:aq):fB f ρ=(f ρ).bind λd=>rO (Oo d):=nr rfl
theorem Dh(g:List D->Option D)(f:aq->R (List D))(ρ:aq):fL g f ρ=(f ρ).bind λds=>rO (g ds):=nr rfl
theorem Dz(g:List D->R D)(f:aq->R (List D))(ρ:aq):fR g f ρ=(f ρ).bind g:=nr rfl
theorem qG(f:aq->R Bool)(ρ:aq):tS f ρ=(f ρ).bind λb=>.ok (!b):=nr rfl
theorem qR(f g:aq->R Bool)(ρ:aq):Fk f g ρ=(f ρ).bind λb=>if b then g ρ else .ok false:=nr rfl
theorem wA(f g:aq->R Bool)(ρ:aq):Ek f g ρ=(f ρ).bind λb=>if b then .ok true else g ρ:=nr rfl
theorem lx(f:FX)(ρ:aq):fT f ρ=(f ρ).bind λd=>rO (truth d):=nr rfl
theorem nU(f g:FX)(ρ:aq):sd f g ρ=(f ρ).bind λd=>Av d (g ρ):=nr rfl
theorem rj(f g:FX)(ρ:aq):PV f g ρ=(f ρ).bind λd=>MU d (g ρ):=nr rfl
theorem ox(f:FX)(ρ:aq):BZ f ρ=(f ρ).bind λa=>rO (EX a):=nr rfl
theorem wU(t:aq->R Bool)(f g:FX)(ρ:aq):Qs t f g ρ=(t ρ).bind λc=>if c then f ρ else g ρ:=nr rfl
theorem qK(T:String)(f:FX)(ρ:aq):pN T f ρ=(f ρ).bind λa=>rO (iO T a):=nr rfl
theorem rE(f:FX)(ρ:aq):OM f ρ=(f ρ).bind λa=>.ok (.bl (isNon a)):=nr rfl
theorem oh(f:FX)(ρ:aq):Ng f ρ=(f ρ).bind λa=>.ok (.bl (!isNon a)):=nr rfl
theorem qO(f:FX)(ρ:aq):mK f ρ=(f ρ).bind λa=>rO (K7 a):=nr rfl
theorem lj(f:FX)(ρ:aq):KS f ρ=(f ρ).bind λa=>rO (Gq a):=nr rfl
theorem ro(f:FX)(ρ:aq):PZ f ρ=(f ρ).bind λa=>rO (J4 a):=nr rfl
theorem lr(g g':D->D->Option D)(fa fb fc:FX)(ρ:aq):uR g g' fa fb fc ρ=(fa ρ).bind λx=>(fb ρ).bind λy=>(rO (g x y)).bind λz=>Av z ((fc ρ).bind λw=>rO (g' y w)):=nr rfl
theorem kN(f:FX)(ρ:aq):bT f ρ=(f ρ).bind λd=>rO (tJ d):=nr rfl
theorem jB(f:aq->R (List D))(ρ:aq):jf f ρ=(f ρ).bind λds=>rO (n0 ds):=nr rfl
theorem jy(f:aq->R (List D))(ρ:aq):sJ f ρ=(f ρ).bind λds=>rO (sO ds):=nr rfl
theorem qw(f:aq->R (List D))(ρ:aq):Dd f ρ=(f ρ).bind λds=>rO (AJ ds):=nr rfl
theorem og(f:aq->R (List D))(ρ:aq):fS f ρ=(f ρ).bind λds=>rO (wm ds):=nr rfl
theorem qU(z:Str):QF (.str z)=some z:=nr rfl
theorem jA(ρ:aq):cK ρ=.ok none:=nr rfl
theorem nV(f:FX)(ρ:aq):fI f ρ=(f ρ).bind λd=>rO (Bi d):=nr rfl
theorem lD(f:FX)(l h:aq->R (Option Int))(ρ:aq):dJ f l h ρ=(f ρ).bind λa=>(l ρ).bind λlo=>(h ρ).bind λhi=>rO (ux a lo hi):=nr rfl
theorem oo(ρ:aq):dF ρ=.ok true:=nr rfl
theorem oG(k:Ks)(ρ:aq):cM k ρ=k.nx ρ:=nr rfl
theorem iA(A B:cn)(k:Ks)(ρ:aq):aU A B k ρ=A {k with nx:=B k} ρ:=nr rfl
theorem oO(f:FX)(k:Ks)(ρ:aq):bM f k ρ=tq (f ρ) k ρ .ok:=nr rfl
theorem kY(k:Ks)(ρ:aq):LI k ρ=.ok .non:=nr rfl
theorem o9(c:aq->R Bool)(A B:cn)(k:Ks)(ρ:aq):mO c A B k ρ=tq (c ρ) k ρ λb=>if b then A k ρ else B k ρ:=nr rfl
theorem nX(i:Nat)(f:FX)(k:Ks)(ρ:aq):cy i f k ρ=tq (f ρ) k ρ λd=>k.nx (setV i d ρ):=nr rfl
theorem kO(is:List Nat)(F:cn)(k:Ks)(ρ:aq):dM is F k ρ=F k (kill is ρ):=nr rfl
theorem ju(G:aq->R (List D))(g:GF)(B:cn)(k:Ks)(ρ:aq):jU G g B k ρ=tq (G ρ) k ρ λds=>ie g B k ds ρ:=nr rfl
theorem CK(d:D)(x:Option S)(ρ:aq):setV 0 d (x::ρ)=some (.val d)::ρ:=nr rfl
theorem Dm(i:Nat)(d:D)(x:Option S)(ρ:aq):setV (i+1) d (x::ρ)=x::setV i d ρ:=nr rfl
theorem qE(ρ:aq):kill [] ρ=ρ:=nr rfl
theorem oJ(i:Nat)(is:List Nat)(ρ:aq):kill (i::is) ρ=kill is (ρ.set i none):=nr rfl
theorem kA(B:cn)(n:Nat)(a:D):aK B 1 n [a]=B K0 (env0 n [a]):=nr rfl
theorem dX(B:cn)(n:Nat)(a b:D):aK B 2 n [a,b]=B K0 (env0 n [a,b]):=nr rfl
theorem pA(B:cn)(n:Nat)(a b c:D):aK B 3 n [a,b,c]=B K0 (env0 n [a,b,c]):=nr rfl
theorem Bp(B:cn)(n:Nat)(a b c d:D):aK B 4 n [a,b,c,d]=B K0 (env0 n [a,b,c,d]):=nr rfl
theorem Li(B:cn)(n:Nat)(a b c d e:D):aK B 5 n [a,b,c,d,e]=B K0 (env0 n [a,b,c,d,e]):=nr rfl
theorem qV(ρ:aq):inB [] ρ=[]:=nr rfl
theorem oH(ix:List (Option Nat))(ρ:aq):inB (none::ix) ρ=none::inB ix ρ:=nr rfl
def pick(ρ:aq)(i:Nat):Option S:=match ρ[i]? with
 |some (some (.val d))=>some (.val d)
 |_=>none
theorem nT(i:Nat)(ix:List (Option Nat))(ρ:aq):inB (some i::ix) ρ=pick ρ i::inB ix ρ:=nr rfl
theorem Ej(d:D)(ρ:aq):pick (some (.val d)::ρ) 0=some (.val d):=rfl
theorem Ei(x:Option S)(ρ:aq)(i:Nat):pick (x::ρ) (i+1)=pick ρ i:=by
 unfold pick;rw[R7]
theorem oC(i:Nat)(f:FX)(k:Ks)(ρ:aq):qi i f k ρ=tq (f ρ) k ρ λd=>k.nx (ρ.set i (some (.own d))):=nr rfl
theorem n8(i:Nat)(F:cn)(k:Ks)(ρ:aq):kE i F k ρ=F k (frz i ρ):=nr rfl
theorem D6(d:D)(ρ:aq):frz 0 (some (.own d)::ρ)=some (.val d)::ρ:=nr rfl
theorem vD(d:D)(ρ:aq):frz 0 (some (.val d)::ρ)=some (.val d)::ρ:=nr rfl
theorem DL(i:Nat)(x:Option S)(ρ:aq):frz (i+1) (x::ρ)=x::frz i ρ:=by
 unfold frz;rw[R7];split<;>rename_i h
 ·rw[h];rfl
 ·rfl
theorem nh(i:Nat)(u:List D->List D->Option (List D))(f:aq->R (List D))(k:Ks)(ρ:aq){xs:List D}(h:ρ[i]?=some (some (.own (.lst xs)))):C6 i u f k ρ=tq (f ρ) k ρ λds=>(rO (u xs ds)).bind λys=>k.nx (ρ.set i (some (.own (.lst ys)))):=by
 unfold C6;rw[h]
theorem nu{xs:List D}{y:D}(h:xs.length<100000):ig xs [y]=some (xs++[y]):=by
 show(if small (xs.length+1)then some (xs++[y])else none)=_;rw[dE ‹0›];rfl
theorem rG(i j:Int):ce (.int i) (.int j)=some (.int (i+j)):=nr rfl
theorem qQ(i j:Int):TG.vz (.int i) (.int j)=some (.int (i-j)):=nr rfl
theorem wC(i j:Int):Qz (.int i) (.int j)=some (.bl (decide (i<j))):=nr rfl
theorem qv(i j:Int):uF (.int i) (.int j)=some (.bl (decide (i<j))):=nr rfl
theorem rB(x y:Str):uF (.str x) (.str y)=some (.bl (decide (x.cps.toList<y.cps.toList))):=nr rfl
theorem rk(c d:Bool):Qb (.bl c) (.bl d)=some (.bl (c==d)):=nr rfl
theorem jx(c d:Bool):lN (.bl c) (.bl d)=some (.bl (!(c==d))):=nr rfl
theorem v6(i j:Int):Qn (.int i) (.int j)=some (.bl (decide (i<=j))):=nr rfl
theorem vC(i j:Int):N2 (.int i) (.int j)=some (.bl (decide (j<i))):=nr rfl
theorem wL(i j:Int):Qg (.int i) (.int j)=some (.bl (decide (j<=i))):=nr rfl
theorem qC(i:Int):K7 (.int i)=some (.int (-i)):=nr rfl
theorem fV{i j:Int}(h:0<j):cS (.int i) (.int j)=some (.int (i%j)):=by
 show(if decide (0<j)then some (D.int (i%j))else none)=_;rw[decide_eq_true h];rfl
theorem nA{i j:Int}(h:0<j)(h':j<10^200):dN (.int i) (.int j)=some (.int (i/j)):=by
 show(if decide (0<j/\j<10^200)then some (D.int (i/j))else none)=_;rw[decide_eq_true ⟨h,h'⟩];rfl
theorem tu{i j:Int}(h:-(2^64)<i)(h':i<2^64):o3 (.int i) (.int j)=some (.int (i*j)):=by
 show(if decide ((-(2^64)<i/\i<2^64)\/(-(2^64)<j/\j<2^64))then some (D.int (i*j))else none)=_;rw[decide_eq_true (.inl ⟨h,h'⟩)];rfl
theorem pR{i j:Int}(h:-(2^64)<j)(h':j<2^64):o3 (.int i) (.int j)=some (.int (i*j)):=by
 show(if decide ((-(2^64)<i/\i<2^64)\/(-(2^64)<j/\j<2^64))then some (D.int (i*j))else none)=_;rw[decide_eq_true (.inr ⟨h,h'⟩)];rfl
theorem Bl(i:Int)(n:Nat)(h:n<=1000000)(h':i.natAbs<2^64):sC (.int i) (.int n)=some (.int (i^n)):=by
 show(if decide (0<=(n:Int)/\(n:Int)<=1000000/\i.natAbs<2^64)then some (D.int (i^(n:Int).toNat))else none)=_;rw[decide_eq_true ⟨by omega,by omega,h'⟩];rfl
theorem FD:sC (.int 10) (.int 59)=some (.int (10^59)):=Bl 10 59 (by decide) (by decide)
def Jq:Int:=10^59
def QG:Int:=10^60
theorem MS:1000000<Jq/\Jq*10=QG:=by decide +kernel
theorem Lf:sC (.int 10) (.int 59)=some (.int Jq):=FD
theorem lw(i j:Int):lI (.int i) (.int j)=some (.bl (i==j)):=by unfold lI pyEq;rfl
theorem kL(i j:Str):lI (.str i) (.str j)=some (.bl (i==j)):=by unfold lI pyEq;rfl
theorem lH(i j:Bool):lI (.bl i) (.bl j)=some (.bl (i==j)):=by unfold lI pyEq;rfl
theorem kR(i j:Int):G6 (.int i) (.int j)=some (.bl (!(i==j))):=by unfold G6 pyEq;rfl
theorem kJ(i j:Str):G6 (.str i) (.str j)=some (.bl (!(i==j))):=by unfold G6 pyEq;rfl
theorem ly(i j:Bool):G6 (.bl i) (.bl j)=some (.bl (!(i==j))):=by unfold G6 pyEq;rfl
theorem CL{α:Type}(xs:List α)(n:Nat):pI xs (n:Int)=xs[n]?:=by
 unfold pI Jm;rw[if_pos ‹0›];by_cases h:n<xs.length
 ·rw[if_pos ‹0›];rfl
 ·rw[if_neg ‹0›,SJ ‹0›];rfl
theorem DQ{α:Type}(a:α)(xs:List α):pI (a::xs) 0=some a:=CL (a::xs) 0
theorem CT{α:Type}(a:α)(xs:List α)(n:Nat):pI (a::xs) ((n+1:Nat):Int)=pI xs (n:Int):=by
 rw[CL,CL,R7]
theorem IL(xs:List D)(i:Int):aH (.tup xs) (.int i)=pI xs i:=nr rfl
theorem HC(xs:List D)(i:Int):aH (.lst xs) (.int i)=pI xs i:=nr rfl
theorem wc(a:D)(xs:List D):aH (.tup (a::xs)) (.int 0)=some a:=DQ a xs
theorem wM(a b:D)(xs:List D):aH (.tup (a::b::xs)) (.int 1)=some b:=(CT a _ 0).trans (DQ b xs)
theorem wQ(a b c:D)(xs:List D):aH (.tup (a::b::c::xs)) (.int 2)=some c:=(CT a _ 1).trans ((CT b _ 0).trans (DQ c xs))
theorem wK(a:D)(xs:List D):aH (.lst (a::xs)) (.int 0)=some a:=DQ a xs
theorem vJ(a b:D)(xs:List D):aH (.lst (a::b::xs)) (.int 1)=some b:=(CT a _ 0).trans (DQ b xs)
theorem wV(a b c:D)(xs:List D):aH (.lst (a::b::c::xs)) (.int 2)=some c:=(CT a _ 1).trans ((CT b _ 0).trans (DQ c xs))
theorem kU(xs:List D):je [.lst xs]=some (.int xs.length):=nr rfl
theorem lu(xs:List D):je [.tup xs]=some (.int xs.length):=nr rfl
theorem gZ(xs:List D):cP [.lst xs]=some (.tup xs):=nr rfl
theorem hX(xs:List D):cP [.tup xs]=some (.tup xs):=nr rfl
theorem qt(b:Bool):Oo (.bl b)=some b:=nr rfl
theorem jD(i:Int):Bi (.int i)=some (some i):=nr rfl
theorem hU(b:Bool):truth (.bl b)=some b:=nr rfl
theorem h7(xs:List D):truth (.tup xs)=some (!xs.isEmpty):=nr rfl
theorem gX(xs:List D):truth (.lst xs)=some (!xs.isEmpty):=nr rfl
theorem lK(i j:Int):rR [.int i,.int j]=some (.int (if j>i then j else i)):=nr rfl
theorem ng(i j:Int):yX [.int i,.int j]=some (.int (if j<i then j else i)):=nr rfl
theorem Es(b:Bool):BX [.bl b]=some (.int (if b then 1 else 0)):=nr rfl
theorem gQ(xs:List D):tJ (.lst xs)=some xs:=nr rfl
theorem gR(xs:List D):tJ (.tup xs)=some xs:=nr rfl
theorem lg(k:R D):Av (.bl true) k=k:=nr rfl
theorem lE(k:R D):Av (.bl false) k=.ok (.bl false):=nr rfl
theorem oA(k:R D):MU (.bl true) k=.ok (.bl true):=nr rfl
theorem nQ(k:R D):MU (.bl false) k=k:=nr rfl
theorem kX(a b:Bool):Av (.bl a) (.ok (.bl b))=.ok (.bl (a&&b)):=by cases a<;>rfl
theorem oa(a b:Bool):MU (.bl a) (.ok (.bl b))=.ok (.bl (a||b)):=by cases a<;>rfl
theorem qY(b:Bool):EX (.bl b)=some (.bl (!b)):=nr rfl
theorem rq(xs:List D):J4 (.lst xs)=some (.lst xs.reverse):=nr rfl
theorem n9(n:Nat)(h:n<2^62):n0 [.int n]=some (fQ 0 n):=by
 show(if okR (n:Int)then some (fQ 0 ((n:Int).toNat))else none)=_
 have:okR (n:Int)=true:=decide_eq_true ⟨by omega,by omega⟩
 rw[this];rfl
theorem J0{xs:List D}(h:xs.length<=100000):ku xs=some (.lst xs):=by unfold ku;rw[dE h];rfl
theorem By{α:Type}(f:α->D)(h:∀a,pl (f a)=true):∀xs:List α,rM (xs.map f)=true
 |[]=>rfl
 |x::xs=>by
  show(pl (f x)&&rM (xs.map f))=true;rw[h,By f h xs];rfl
theorem Ht(f:Str->D)(hf:f=D.str)(w:Str)(ws:List Str):inD (.str w) (ws.map f)=ws.any λy=>y==w:=by
 subst hf;unfold inD;rw[Sl];congr 1
theorem B1(w:Str)(ws:List Str):JI (.str w) (.tup (ws.map .str))=some (.bl (ws.contains w)):=by
 show(if(pl (.str w)&&rM (ws.map .str))&&iT 8 (.str w)then some (D.bl (inD (.str w) (ws.map .str)))else none)=_;rw[Ht _ rfl,By _ λ_=>rfl];show some (D.bl _)=_;congr 2
 induction ws with
 |nil=>rfl
 |cons x xs ih=>rw[Rr,Se,ih,Bool.beq_comm]
theorem Ih(w:Str)(ws:List Str):JI (.str w) (.lst (ws.map .str))=some (.bl (ws.contains w)):=B1 w ws
theorem ED(xs ys:List D)(h:xs.length+ys.length<=100000):ce (.lst xs) (.lst ys)=some (.lst (xs++ys)):=by
 show(if small (xs.length+ys.length)then some (D.lst (xs++ys))else none)=_;rw[dE h];rfl
theorem iS(xs ys:List D)(h:xs.length+ys.length<=100000):ce (.tup xs) (.tup ys)=some (.tup (xs++ys)):=by
 show(if small (xs.length+ys.length)then some (D.tup (xs++ys))else none)=_;rw[dE h];rfl
theorem n5(xs:List D)(lo hi:Option Int):ux (.lst xs) lo hi=some (.lst (cutD xs lo hi)):=nr rfl
theorem oq(xs:List D)(lo hi:Option Int):ux (.tup xs) lo hi=some (.tup (cutD xs lo hi)):=nr rfl
theorem eV{ix:List (Option Nat)}{G:aq->R (List D)}{g:GF}{C:aq->R Bool}{Fe:FX}{ρ:aq}{ds r:List D}(h1:G ρ=.ok ds)(h2:ds.length<=100000)(h3:Ab (inB ix ρ) g C Fe ds=.ok r):kr ix G g C Fe ρ=.ok (.lst r):=by
 unfold kr;rw[h1,cq,dE h2,h3];rfl
theorem tO{α:Type}{ρ:aq}{g:GF}{C:aq->R Bool}{Fe:FX}(mk:α->D)(p:α->Bool)(v:α->D):∀xs:List α,(∀a∈xs,∃ρ1,g (mk a) ρ=some ρ1/\C ρ1=.ok (p a)/\Fe ρ1=.ok (v a))->
  Ab ρ g C Fe (xs.map mk)=.ok ((xs.filter p).map v)
 |[],_=>rfl
 |a::xs,h=>by
  obtain⟨ρ1,h1,h2,h3⟩:=h a QO;rw[Q1,kT,h1,eJ,cq,h2,fZ,cq,h3,fZ,cq,tO mk p v xs λb hb=>h b (QP _ hb)];cases e:p a with
  |true=>rw[if_pos rfl,Sx e];rfl
  |false=>rw[if_neg QZ,Sy (by simp[e])]
theorem jk{α:Type}{ρ:aq}{g:GF}{C:aq->R Bool}{Fe:FX}(mk:α->D)(v:α->D)(xs:List α)(h:∀a∈xs,∃ρ1,g (mk a) ρ=some ρ1/\C ρ1=.ok true/\Fe ρ1=.ok (v a)):Ab ρ g C Fe (xs.map mk)=.ok (xs.map v):=by
 rw[tO mk (λ_=>true) v xs h,List.filter_eq_self.mpr λ_ _=>rfl]
theorem B5{g:GF}{B:cn}{k:Ks}(Iv:Nat->aq->Prop):∀(ds:List D)(i:Nat)(ρ:aq),(∀j d ρ (k':Ks),i<=j->ds[j-i]?=some d->Iv j ρ->∃ρ1 ρ2,g d ρ=some ρ1/\Iv (j+1) ρ2/\B k' ρ1=k'.nx ρ2)->Iv i ρ->∃ρ',Iv (i+ds.length) ρ'/\ie g B k ds ρ=k.nx ρ'
 |[],i,ρ,_,h=>⟨ρ,h,rfl⟩
 |d::ds,i,ρ,st,h=>by
  obtain⟨ρ1,ρ2,e1,h2,e2⟩:=st i d ρ ⟨ie g B k ds,k.nx,ie g B k ds,k.ex⟩ (QU _) (by rw[Si];rfl) h;obtain⟨ρ',h3,e3⟩:=B5 (g:=g) (B:=B) (k:=k) Iv ds (i+1) ρ2 (λj d' ρ k' hj hd=>st j d' ρ k' ‹0› (by rw[show j-i=(j-(i+1))+1 by omega,R7];exact hd)) h2;refine⟨ρ',?_,?_⟩
  ·rw[Q0]
   have:i+(ds.length+1)=i+1+ds.length:=(by omega);rw[this];exact h3
  ·show((rO (g d ρ)).bind λρ1=>B ⟨ie g B k ds,k.nx,ie g B k ds,k.ex⟩ ρ1)=_;rw[e1,eJ,cq,e2];exact e3
theorem dQ{g:GF}{B:cn}{k:Ks}{ds:List D}{ρ:aq}{Q:R D->Prop}(Iv:Nat->aq->Prop)(st:∀i d ρ (k':Ks),ds[i]?=some d->Iv i ρ->∃ρ1 ρ2,g d ρ=some ρ1/\Iv (i+1) ρ2/\B k' ρ1=k'.nx ρ2)(h:Iv 0 ρ)(q:∀ρ',Iv ds.length ρ'->Q (k.nx ρ')):Q (ie g B k ds ρ):=by
 obtain⟨ρ',h1,e⟩:=B5 (k:=k) Iv ds 0 ρ (λj d ρ k' _ hd=>st j d ρ k' hd) h;rw[e];rw[Sb]at h1;exact q ρ' h1
theorem cx{α:Type}{xs:List α}{i:Nat}{a:α}(h:xs[i]?=some a):i<xs.length:=by
 rcases SH i xs.length with z|z
 ·exact z
 ·rw[SJ z]at h;cases h
theorem BW{α β:Type}(f:α->β)(xs:List α)(i:Int):pI (xs.map f) i=(pI xs i).map f:=by
 unfold pI;rw[Q2];cases Jm xs.length i with
 |none=>rfl
 |some j=>simp
theorem ut{α:Type}{xs:List α}{k:Nat}(h:k<xs.length):pI xs (k:Int)=some xs[k]:=by
 unfold pI Jm;rw[if_pos ‹0›,if_pos ‹0›];simp[h]
theorem qj{α:Type}{xs:List α}{i:Int}(h0:0<=i)(h:i<xs.length):pI xs i=some (xs[i.toNat]'‹0›):=by
 have e:i=((i.toNat:Nat):Int):=by omega
 conv=>lhs;rw[e]
 exact ut ‹0›
def JN:cn:=aU (mO (fB (f2 uF (ah 1) (fL je (af (ah 0) (aw))))) (bM (f2 aH (ah 0) (ah 1))) (cM)) (bM (fC (.int 0)))
theorem HG(ns:List Int)(k:Nat):aK JN 2 2 [.lst (ns.map .int),.int k]=.ok (.int (ns.getD k 0)):=by
 show(if decide ((k:Int)<((ns.map D.int).length:Int))then tq (rO (pI (ns.map D.int) (k:Int))) _ _ .ok else .ok (.int 0))=_;rw[Q2];by_cases h:k<ns.length
 ·rw[if_pos (by simpa using h),BW,ut h,Option.map_some,SD,RK h];rfl
 ·rw[if_neg (by simpa using h),SD,SJ ‹0›];rfl
theorem Fm(ns:List Int)(i:Int)(h:0<=i):∃c:Int,aK JN 2 2 [.lst (ns.map .int),.int i]=.ok (.int c):=by
 have e:i=((i.toNat:Nat):Int):=by omega
 exact⟨ns.getD i.toNat 0,by rw[e];exact HG ns i.toNat⟩
theorem BQ(x y:Str):(x++y).length=x.length+y.length:=by
 show(x.cps++y.cps).size=_;rw[Array.size_append];rfl
theorem mP(x y:Str)(h:x.length<=1000)(h':y.length<=1000):ce (.str x) (.str y)=some (.str (x++y)):=by
 show(if small (x.length+y.length)then some (D.str (x++y))else none)=_;rw[dE ‹0›];rfl
theorem BI(x:Str)(h:x.length<=1000)(i:Int)(h0:0<=i)(h1:i<x.length):∃y:Str,y.length=1/\aH (.str x) (.int i)=some (.str y):=by
 have hl:x.cps.toList.length=x.length:=by simp[Str.length]
 have hi:i<x.cps.toList.length:=by omega
 refine⟨⟨#[x.cps.toList[i.toNat]'‹0›]⟩,rfl,?_⟩;show(if small x.length then(pI x.cps.toList i).bind λc=>some (D.str ⟨#[c]⟩)else none)=_;rw[dE ‹0›,if_pos rfl,qj h0 hi];rfl
theorem oE(lo:Int)(n:Nat):fQ lo n=(List.range n).map λ(k:Nat)=>D.int (lo+(k:Int)):=nr rfl
theorem dI(lo:Int)(n:Nat):(fQ lo n).length=n:=by unfold fQ;rw[Q2,RV]
theorem tI{α:Type}(xs:List α)(m:Nat):cutD xs none (some (m:Int))=xs.take m:=by
 unfold cutD;rw[HT.Ms,HT.NS,RF,RX];rcases SM m xs.length with h|h
 ·rw[SN h]
 ·rw[SR h,SK h,SK (QU _)]
theorem yM{α:Type}(xs:List α)(m:Nat):cutD xs (some (m:Int)) none=xs.drop m:=by
 unfold cutD;rw[HT.Ms,HT.NS];rcases SM m xs.length with h|h
 ·rw[SN h];exact SK (by rw[Rj];exact QU _)
 ·rw[SR h,Si,RC,List.drop_eq_nil_of_le h]
theorem BR(ρ:aq):zh ρ=.ok (.dct [] []):=nr rfl
theorem p6(q:List Key):jS (.tup (q.map bx))=some q:=cO q
theorem Ic{i:Nat}{fk fv:FX}{k:Ks}{ρ:aq}{al:List (List Key×D)}{q:List Key}{v:D}(h:ρ[i]?=some (some (.own (dG al))))(ek:fk ρ=.ok (.tup (q.map bx)))(ev:fv ρ=.ok v)(hl:al.length<=100000):vK i fk fv k ρ=k.nx (ρ.set i (some (.own (dG (i6 al q v))))):=by
 have e:wY (encK al) (al.map (·.2)) (.tup (q.map bx)) v=some (i6 al q v):=by
  unfold wY;rw[kW];show(jS (.tup (q.map bx))).bind _=_;rw[p6];show(if small al.length then _ else _)=_;rw[dE hl];rfl
 unfold vK;rw[h];show tq ((fv ρ).bind λv=>(fk ρ).bind λq=>rO (wY (encK al) (al.map (·.2)) q v)) k ρ _=_;rw[ev,cq,ek,cq,e];rfl
theorem Hl{α:Type}(xs:List α)(a:α):pI (xs++[a]) (-1)=some a:=by
 unfold pI Jm;rw[if_neg (by decide),Rh,Rn];simp;rw[if_pos ‹0›];show(xs++[a])[(-1+((xs.length:Int)+1)).toNat]?=some a;rw[show(-1+((xs.length:Int)+1)).toNat=xs.length by omega];simp
theorem Ay:∀{σ τ:List Bool}{a b:List D},Sh σ a->Sh τ b->Sh (σ++τ) (a++b)
 |_,_,_,_,.nil,h=>h
 |_,_,_,_,.int i h,h'=>.int i (Ay h h')
 |_,_,_,_,.str i h,h'=>.str i (Ay h h')
local macro_rules
 |`(tactic| simp! only[$xs,*])=>`(tactic| simp only[cq,vL,rL,vW,fZ,eJ,ge_0,DR,qF,DU,qZ,n6,qX,qH,C5,CU,C3,Dh,Dz,qG,qR,wA,lx,nU,rj,ox,wU,qK,rE,oh,qO,lj,ro,lr,kN,jB,jy,qw,og,jA,nV,lD,oo,oG,iA,oO,kY,o9,nX,kO,ju,oC,n8,D6,vD,DL,CK,Dm,qE,oJ,qV,oH,nT,Ej,Ei,SW,SY,Q1,Rp,RB,RP,K0,env0,List.replicate,Sj,Q5,Sb,Nat.reduceAdd,Nat.reduceSub,Q0,Rt,rG,qQ,wC,qv,rB,rk,jx,qU,v6,vC,wL,qC,lw,kL,lH,kR,kJ,ly,wc,wM,wQ,wK,vJ,wV,kU,lu,gZ,hX,qt,jD,hU,h7,gX,lK,ng,gQ,gR,lg,lE,oA,nQ,kX,oa,qY,rq,n5,oq,gN,if_true,if_false,SZ,S0,Rz,$xs,*])
theorem Ov(a b c:D):v9 [a,b,c]=some (.tup [a,b,c]):=nr rfl
theorem Iw(a b:D):v9 [a,b]=some (.tup [a,b]):=nr rfl
theorem OW(a:D):v9 [a]=some (.tup [a]):=nr rfl
theorem QB:v9 []=some (.tup []):=nr rfl
theorem Qq(a:D):ku [a]=some (.lst [a]):=nr rfl
theorem M3(a b:D):ku [a,b]=some (.lst [a,b]):=nr rfl
theorem MQ:ku []=some (.lst []):=nr rfl
def EJ:cn:=bM (fL cP (af (kr [none] (bT (f2 ce (f2 aH (ah 0) (fC (.int 0))) (f2 aH (ah 0) (fC (.int 1))))) (gN 0) (dF) (f2 aH (ah 0) (fC (.int 1)))) (aw)))
theorem kinds_ok(kf rf:List D)(ps:List (Str×D))(hl:kf.length+rf.length<=100)(e:kf++rf=ps.map (λp=>.tup [.str p.1,p.2])):aK EJ 1 1 [.tup [.tup kf,.tup rf]]=.ok (.tup (ps.map (·.2))):=by
 have hl':ps.length<=100:=by have:=congrArg List.length e;rw[Rh,Q2]at this;omega
 have f0:kr [none] (bT (f2 ce (f2 aH (ah 0) (fC (.int 0))) (f2 aH (ah 0) (fC (.int 1))))) (gN 0) (dF) (f2 aH (ah 0) (fC (.int 1))) [some (.val (.tup [.tup kf,.tup rf]))]=.ok (.lst (ps.map (·.2))):=by
  refine eV (ds:=ps.map (λp=>.tup [.str p.1,p.2])) ?_ (by rw[Q2];omega) ?_
  ·simp! only[];rw[iS _ _ ‹0›,e];simp! only[]
  ·refine jk _ _ ps λp _=>⟨_,rfl,rfl,?_⟩
   simp! only[]
 rw[kA];unfold EJ;simp! only[f0]
def JL(m:Nat)(rows:List (List D)):Prop:=rows.Pairwise λr s=>eR (r.take m) (s.take m)=some true
inductive F2{α β:Type}(R:α->β->Prop):List α->List β->Prop where
 |nil:F2 R [] []
 |cons {a:α} {b:β} {as:List α} {bs:List β} (h:R a b) (t:F2 R as bs):F2 R (a::as) (b::bs)
theorem FH{ρ:aq}{g:GF}{C:aq->R Bool}{Fe:FX}:∀(ds:List D)(P:Nat->D->Prop),(∀i d,ds[i]?=some d->∃ρ1 v,g d ρ=some ρ1/\C ρ1=.ok true/\Fe ρ1=.ok v/\P i v)->∃vs:List D,vs.length=ds.length/\(∀i v,vs[i]?=some v->P i v)/\Ab ρ g C Fe ds=.ok vs
 |[],_,_=>⟨[],rfl,(λ_ _ h=>nomatch h),rfl⟩
 |d::ds,P,h=>by
  obtain⟨ρ1,w,h1,h2,h3,h4⟩:=h 0 d rfl;obtain⟨ws,e1,e2,e3⟩:=FH (ρ:=ρ) (g:=g) (C:=C) (Fe:=Fe) ds (λi v=>P (i+1) v) λi d' hd=>h (i+1) d' (by rw[R7];exact hd);refine⟨w::ws,by rw[Q0,Q0,e1],λi v hv=>?_,?_⟩
  ·cases i with
   |zero=>cases hv;exact h4
   |succ i=>rw[R7]at hv;exact e2 i v hv
  ·rw[kT,h1,eJ,cq,h2,fZ,cq,h3,fZ,cq,e3];rfl
end TG
namespace TD
open PySem PySem.Spec L2 TG TX
def cD:cn:=aU (mO (fB (f2 uF (ah 1) (fL je (af (ah 0) (aw))))) (bM (f2 aH (ah 0) (ah 1))) (cM)) (bM (fC (.int 0)))
def eE:cn:=bM (fL cP (af (kr [none] (bT (f2 ce (f2 aH (ah 0) (fC (.int 0))) (f2 aH (ah 0) (fC (.int 1))))) (gN 0) (dF) (f2 aH (ah 0) (fC (.int 0)))) (aw)))
def eX:cn:=aU (jU (fS (af (fR (aK eE 1 1) (af (ah 0) (aw))) (aw))) (gT 2 (kP [2,3])) (aU (mO (fB (f2 lI (ah 3) (ah 1))) (bM (ah 2)) (cM)) (dM [2,3] cM))) (pU)
def eB:cn:=bM (fL cP (af (kr [none] (bT (f2 ce (f2 aH (ah 0) (fC (.int 0))) (f2 aH (ah 0) (fC (.int 1))))) (gN 0) (dF) (f2 aH (ah 0) (fC (.int 1)))) (aw)))
def gf:cn:=bM (f2 aH (f2 aH (f2 ce (f2 aH (ah 0) (fC (.int 0))) (f2 aH (ah 0) (fC (.int 1)))) (ah 1)) (fC (.int 1)))
def bd:cn:=bM (f2 cS (f2 ce (f2 ce (f2 o3 (ah 0) (ah 0)) (f2 o3 (fC (.int 48271)) (ah 0))) (fC (.int 11))) (fC (.int 2147483647)))
def cR:cn:=aU (cy 2 (f2 cS (f2 ce (f2 ce (f2 cS (fR (aK cD 2 2) (af (ah 0) (af (ah 1) (aw)))) (fC (.int 2147483647))) (f2 o3 (f2 o3 (fC (.int 69621)) (ah 1)) (ah 1))) (fC (.int 5))) (fC (.int 2147483647)))) (bM (fR (aK bd 1 1) (af (fR (aK bd 1 1) (af (ah 2) (aw))) (aw))))
def cu:cn:=aU (cy 2 (fC (.str "abcdefghijklmnopqrstuvwxyz"))) (aU (cy 1 (f2 cS (f2 ce (f2 o3 (ah 1) (f2 aH (jM (af (fC (.int 1)) (af (fC (.int 5)) (af (fC (.int 7)) (af (fC (.int 11)) (af (fC (.int 13)) (af (fC (.int 23)) (aw)))))))) (f2 cS (ah 0) (fC (.int 6))))) (f2 dN (ah 0) (fC (.int 6)))) (fC (.int 24)))) (aU (cy 0 (f2 dN (ah 0) (fC (.int 144)))) (aU (mO (fB (f2 lI (f2 cS (ah 0) (fC (.int 3))) (fC (.int 0)))) (bM (f2 yD (f2 aH (ah 2) (f2 cS (f2 ce (f2 dN (ah 0) (fC (.int 3))) (f2 dN (ah 1) (fC (.int 8)))) (fC (.int 26)))) (f2 ce (fC (.int 1)) (f2 cS (ah 1) (fC (.int 8)))))) (cM)) (aU (cy 3 (f2 ce (fC (.int 1)) (f2 cS (f2 dN (ah 0) (fC (.int 3))) (fC (.int 8))))) (aU (cy 4 (fC (.str ""))) (aU (jU (jf (af (ah 3) (aw))) (gN 5) (aU (cy 6 (f2 dN (ah 0) (f2 ce (fC (.int 24)) (f2 o3 (f2 o3 (fC (.int 11)) (ah 5)) (ah 5))))) (aU (mO (fB (f2 lI (ah 5) (f2 cS (f2 dN (ah 0) (fC (.int 24))) (ah 3)))) (cy 6 (f2 ce (ah 6) (ah 1))) (cM)) (aU (cy 4 (f2 ce (ah 4) (f2 aH (ah 2) (f2 cS (ah 6) (fC (.int 26)))))) (dM [5,6] cM))))) (bM (ah 4))))))))
noncomputable def cW:cn:=aU (mO (fB (f2 uF (f2 cS (ah 0) (fC (.int 3))) (fC (.int 2)))) (aU (cy 1 (f2 aH (jM (af (fC (.int 0)) (af (mK (fC (.int 3))) (af (f2 vz (fC (.int 0)) (f2 cS (f2 sC (ah 0) (fC (.int 7))) (f2 sC (fC (.int 10)) (fC (.int 59))))) (af (f2 cS (f2 sC (ah 0) (fC (.int 7))) (f2 sC (fC (.int 10)) (fC (.int 59)))) (aw)))))) (f2 cS (f2 dN (ah 0) (fC (.int 3))) (fC (.int 4))))) (bM (fF (af (fC (.str "number")) (af (ah 1) (af (f2 ce (ah 1) (f2 aH (jM (af (fC (.int 0)) (af (fC (.int 1)) (af (fC (.int 6)) (af (f2 sC (fC (.int 10)) (fC (.int 59))) (aw)))))) (f2 cS (f2 dN (ah 0) (fC (.int 12))) (fC (.int 4))))) (aw))))))) (cM)) (aU (cy 2 (fC (.str "abcdefghijklmnopqrstuvwxyz"))) (aU (cy 3 (f2 aH (ah 2) (f2 cS (f2 dN (ah 0) (fC (.int 3))) (fC (.int 26))))) (aU (cy 4 (f2 aH (ah 2) (f2 cS (f2 dN (ah 0) (fC (.int 78))) (fC (.int 26))))) (aU (cy 5 (jM (af (fC (.str "")) (af (ah 3) (af (ah 4) (af (f2 ce (ah 3) (ah 4)) (af (f2 ce (ah 4) (ah 3)) (af (f2 yD (ah 3) (fC (.int 8))) (af (f2 ce (ah 3) (ah 3)) (af (f2 yD (ah 4) (fC (.int 3))) (aw))))))))))) (aU (qi 6 zh) (dM [1,2,4] (aU (jU (jf (af (fC (.int 8)) (aw))) (gN 7) (aU (mO (fB (f2 lI (f2 rY (f2 x5 (f2 dN (ah 0) (fC (.int 2028))) (ah 7)) (fC (.int 1))) (fC (.int 1)))) (pV 6 (f2 aH (ah 5) (ah 7)) (fC (.bl true))) (cM)) (dM [7] cM))) (aU (mO (nE [6] (fB (f2 lI (fL vR (af (ah 6) (aw))) (fC (.int 0))))) (pV 6 (ah 3) (fC (.bl true))) (cM)) (kE 6 (bM (fF (af (fC (.str "word")) (af (fL cP (af (fL iG (af (fL qz (af (ah 6) (aw))) (aw))) (aw))) (aw))))))))))))))
open PySem PySem.Spec L2 TG
local macro_rules
 |`(tactic| simp! only[$xs,*])=>`(tactic| simp only[cq,vL,rL,vW,fZ,eJ,ge_0,DR,qF,DU,qZ,n6,qX,qH,C5,CU,C3,Dh,Dz,qG,qR,wA,lx,nU,rj,ox,wU,qK,rE,oh,qO,lj,ro,lr,kN,jB,jy,qw,og,jA,nV,lD,oo,oG,iA,oO,kY,o9,nX,kO,ju,oC,n8,D6,vD,DL,CK,Dm,qE,oJ,qV,oH,nT,Ej,Ei,SW,SY,Q1,Rp,RB,RP,K0,env0,List.replicate,Sj,Q5,Sb,Nat.reduceAdd,Nat.reduceSub,Q0,Rt,rG,qQ,wC,qv,rB,rk,jx,qU,v6,vC,wL,qC,lw,kL,lH,kR,kJ,ly,wc,wM,wQ,wK,vJ,wV,kU,lu,gZ,hX,qt,jD,hU,h7,gX,lK,ng,gQ,gR,lg,lE,oA,nQ,kX,oa,qY,rq,n5,oq,gN,if_true,if_false,SZ,S0,Rz,$xs,*])
theorem NF(ns:List Int)(i:Int)(h:0<=i):∃c:Int,aK cD 2 2 [.lst (ns.map .int),.int i]=.ok (.int c):=Fm ns i h
theorem v8(xs ys:List D):AJ [.tup xs,.tup ys]=some (mM xs ys):=nr rfl
local macro_rules
 |`(tactic| simp! only[$xs,*])=>`(tactic| simp only[cq,vL,rL,vW,fZ,eJ,ge_0,DR,qF,DU,qZ,n6,qX,qH,C5,CU,C3,Dh,Dz,qG,qR,wA,lx,nU,rj,ox,wU,qK,rE,oh,qO,lj,ro,lr,kN,jB,jy,qw,og,jA,nV,lD,oo,oG,iA,oO,kY,o9,nX,kO,ju,oC,n8,D6,vD,DL,CK,Dm,qE,oJ,qV,oH,nT,Ej,Ei,SW,SY,Q1,Rp,RB,RP,K0,env0,List.replicate,Sj,Q5,Sb,Nat.reduceAdd,Nat.reduceSub,Q0,Rt,rG,qQ,wC,qv,rB,rk,jx,qU,v6,vC,wL,qC,lw,kL,lH,kR,kJ,ly,wc,wM,wQ,wK,vJ,wV,kU,lu,gZ,hX,qt,jD,hU,h7,gX,lK,ng,gQ,gR,lg,lE,oA,nQ,kX,oa,qY,rq,n5,oq,gN,if_true,if_false,SZ,S0,Rz,$xs,*])
theorem vB{g:GF}{B:cn}{k:Ks}{Q:R D->Prop}(Iv:Nat->aq->Prop):∀(ds:List D)(o i:Nat)(ρ:aq)(d:D),ds[i]?=some d->(∀j d ρ (k':Ks),j<i->ds[j]?=some d->Iv (o+j) ρ->∃ρ1 ρ2,g d ρ=some ρ1/\Iv (o+j+1) ρ2/\B k' ρ1=k'.nx ρ2)->Iv o ρ->
  (∀ρ (k':Ks),Iv (o+i) ρ->∃ρ1,g d ρ=some ρ1/\Q (B k' ρ1))->Q (ie g B k ds ρ)
 |[],_,_,_,_,h,_,_,_=>nomatch h
 |x::ds,o,0,ρ,d,h,_,hI,q=>by
  cases h;obtain⟨ρ1,e1,q1⟩:=q ρ ⟨ie g B k ds,k.nx,ie g B k ds,k.ex⟩ hI;show Q ((rO (g x ρ)).bind λρ1=>B ⟨ie g B k ds,k.nx,ie g B k ds,k.ex⟩ ρ1);rw[e1,eJ,cq];exact q1
 |x::ds,o,i+1,ρ,d,h,st,hI,q=>by
  obtain⟨ρ1,ρ2,e1,h2,e2⟩:=st 0 x ρ ⟨ie g B k ds,k.nx,ie g B k ds,k.ex⟩ ‹0› rfl hI;show Q ((rO (g x ρ)).bind λρ1=>B ⟨ie g B k ds,k.nx,ie g B k ds,k.ex⟩ ρ1);rw[e1,eJ,cq,e2];refine vB Iv ds (o+1) i ρ2 d (by rw[R7]at h;exact h) (λj d' ρ' k' hj hd hI'=>?_) h2 (λρ' k' hI'=>q ρ' k' (by rw[show o+(i+1)=o+1+i by omega];exact hI'));obtain⟨a,b,c1,c2,c3⟩:=st (j+1) d' ρ' k' ‹0› (by rw[R7];exact hd) (by rw[show o+(j+1)=o+1+j by omega];exact hI');exact⟨a,b,c1,by rw[show o+1+j+1=o+(j+1)+1 by omega];exact c2,c3⟩
abbrev fld(p:Str×D):D:=.tup [.str p.1,p.2]
theorem uC(kf rf:List D)(ps:List (Str×D))(hl:ps.length<=100)(e:kf++rf=ps.map fld):aK eE 1 1 [.tup [.tup kf,.tup rf]]=.ok (.tup (ps.map λp=>.str p.1)):=by
 have hl':kf.length+rf.length<=100:=by have:=congrArg List.length e;rw[Rh,Q2]at this;omega
 have f0:kr [none] (bT (f2 ce (f2 aH (ah 0) (fC (.int 0))) (f2 aH (ah 0) (fC (.int 1))))) (gN 0) (dF) (f2 aH (ah 0) (fC (.int 0))) [some (.val (.tup [.tup kf,.tup rf]))]=.ok (.lst (ps.map λp=>.str p.1)):=by
  refine eV (ds:=ps.map fld) ?_ (by rw[Q2];omega) ?_
  ·simp! only[];rw[iS _ _ ‹0›,e];simp! only[]
  ·refine jk _ _ ps λp _=>⟨_,rfl,rfl,?_⟩
   simp! only[]
 rw[kA];unfold eE;simp! only[f0]
theorem vX(xs:List D):wm [.tup xs]=some (gL 0 xs):=nr rfl
theorem uI:∀(xs:List D)(k i:Nat),(gL k xs)[i]?=(xs[i]?).map λx=>.tup [.int ((k+i:Nat):Int),x]
 |[],k,i=>by simp[gL]
 |x::xs,k,0=>by simp[gL]
 |x::xs,k,i+1=>by
  rw[gL,R7,uI xs (k+1) i,R7];congr 1;funext y;rw[show k+1+i=k+(i+1)by omega]
theorem A3(kf rf:List D)(ps:List (Str×D))(hl:ps.length<=100)(e:kf++rf=ps.map fld)(hn:(ps.map (·.1)).Nodup)(i:Nat)(nm:Str)(k:D)(hi:ps[i]?=some (nm,k)):
  aK eX 2 4 [.tup [.tup kf,.tup rf],.str nm]=.ok (.int i):=by
 have en:=uC kf rf ps hl e;rw[dX];unfold eX;rw[iA,ju];simp! only[en,vX];have di:(gL 0 (ps.map λp=>D.str p.1))[i]?=some (.tup [.int ((i:Nat):Int),.str nm]):=by
  rw[uI,Rc,hi,Sb];rfl
 refine vB (Q:=λz=>z=.ok (.int i)) (λ_ ρ=>ρ=[some (.val (.tup [.tup kf,.tup rf])),some (.val (.str nm)),none,none]) _ 0 i _ _ di ?_ rfl ?_
 ·rintro j d ρ k' hj hd rfl;rw[uI,Rc]at hd;have hil:=cx hi;have hjl:j<ps.length:=by omega
  rw[RK hjl]at hd;cases hd;have ne:(ps[j].1==nm)=false:=by
   have h1:=List.pairwise_iff_getElem.mp hn j i (by rw[Q2];exact hjl) (by rw[Q2];exact hil) hj;rw[S3,S3]at h1;have h2:ps[i]=(nm,k):=(by rw[RK hil]at hi;exact Option.some.inj hi);rw[h2]at h1
   simpa using h1
  refine⟨[some (.val (.tup [.tup kf,.tup rf])),some (.val (.str nm)),some (.val (.int ((0+j:Nat):Int))),some (.val (.str ps[j].1))],_,rfl,rfl,?_⟩;simp! only[ne]
 ·rintro ρ k' rfl;refine⟨[some (.val (.tup [.tup kf,.tup rf])),some (.val (.str nm)),some (.val (.int (i:Int))),some (.val (.str nm))],rfl,?_⟩;simp! only[BEq.rfl]
theorem CH(kf rf:List D)(ps:List (Str×D))(hl:ps.length<=100)(e:kf++rf=ps.map fld)(i:Nat)(nm:Str)(k:D)(hi:ps[i]?=some (nm,k)):aK gf 2 2 [.tup [.tup kf,.tup rf],.int i]=.ok k:=by
 have hl':kf.length+rf.length<=100:=by have:=congrArg List.length e;rw[Rh,Q2]at this;omega
 have g:aH (.tup (ps.map fld)) (.int (i:Int))=some (.tup [.str nm,k]):=by
  rw[IL,CL,Rc,hi];rfl
 rw[dX];unfold gf;simp! only[iS kf rf ‹0›,e,g]
theorem Cz:∀bs:List Bool,anyB (bs.map .bl)=some (bs.any id)
 |[]=>rfl
 |b::bs=>by
  show(anyB (bs.map .bl)).bind (λc=>some (b||c))=_;rw[Cz bs];rfl
theorem HZ(bs:List Bool):CQ [.lst (bs.map .bl)]=some (.bl (bs.any id)):=by
 have e:CQ [.lst (bs.map .bl)]=(anyB (bs.map .bl)).bind λb=>some (D.bl b):=rfl;rw[e,Cz];rfl
end TD
namespace T4
open PySem PySem.Spec L2 TG TD
local macro_rules
 |`(tactic| simp! only[$xs,*])=>`(tactic| simp only[cq,vL,rL,vW,fZ,eJ,ge_0,DR,qF,DU,qZ,n6,qX,qH,C5,CU,C3,Dh,Dz,qG,qR,wA,lx,nU,rj,ox,wU,qK,rE,oh,qO,lj,ro,lr,kN,jB,jy,qw,og,jA,nV,lD,oo,oG,iA,oO,kY,o9,nX,kO,ju,oC,n8,D6,vD,DL,CK,Dm,qE,oJ,qV,oH,nT,Ej,Ei,SW,SY,Q1,Rp,RB,RP,K0,env0,List.replicate,Sj,Q5,Sb,Nat.reduceAdd,Nat.reduceSub,Q0,Rt,rG,qQ,wC,qv,rB,rk,jx,qU,v6,vC,wL,qC,lw,kL,lH,kR,kJ,ly,wc,wM,wQ,wK,vJ,wV,kU,lu,gZ,hX,qt,jD,hU,h7,gX,lK,ng,gQ,gR,lg,lE,oA,nQ,kX,oa,qY,rq,n5,oq,gN,if_true,if_false,SZ,S0,Rz,$xs,*])
theorem Kr{x:Str}{n:Int}(h:1<=n)(h':n<=1000)(hx:x.length<=1000):yD (.str x) (.int n)=some (.str (mL x n)):=by
 show(if decide (1<=n/\n<=1000/\x.length<=1000)then some (D.str (mL x n))else none)=_;rw[decide_eq_true ⟨h,h',hx⟩];rfl
theorem jg(x:Int)(h0:0<=x)(h1:x<2147483700):∃y:Int,0<=y/\y<2147483647/\aK bd 1 1 [.int x]=.ok (.int y):=by
 have m1:=tu (i:=x) (j:=x) ‹0› ‹0›;have m2:=tu (i:=48271) (j:=x) (by decide) (by decide);have g:=λi=>fV (i:=i) (show(0:Int)<2147483647 by decide);refine⟨(x*x+48271*x+11)%2147483647,S4 _ (by decide),S5 _ (by decide),?_⟩;rw[kA];unfold bd;simp! only[m1,m2,g]
theorem xh(ns:List Int)(k:Nat)(hk:k<=100):∃y:Int,0<=y/\y<2147483647/\aK cR 2 3 [.lst (ns.map .int),.int k]=.ok (.int y):=by
 obtain⟨c,ec⟩:=TD.NF ns k ‹0›;have m1:=tu (i:=69621) (j:=(k:Int)) (by decide) (by decide);have m2:=pR (i:=69621*(k:Int)) (j:=(k:Int)) ‹0› ‹0›;have g:=λi=>fV (i:=i) (show(0:Int)<2147483647 by decide);obtain⟨y1,a1,b1,e1⟩:=jg ((c%2147483647+69621*(k:Int)*(k:Int)+5)%2147483647) (S4 _ (by decide)) (by have:=S5 (c%2147483647+69621*(k:Int)*(k:Int)+5) (show(0:Int)<2147483647 by decide);omega);obtain⟨y2,a2,b2,e2⟩:=jg y1 a1 ‹0›;refine⟨y2,a2,b2,?_⟩;rw[dX];unfold cR;simp! only[ec,g,m1,m2,e1,e2]
theorem Cq{i:Nat}{fk fv:FX}{k:Ks}{ρ:aq}{al:List (Key×D)}{q:Key}{d v:D}(h:ρ[i]?=some (some (.own (yP al))))(ek:fk ρ=.ok d)(hd:d=bx q)(ev:fv ρ=.ok v)(hl:al.length<=1000):
  pV i fk fv k ρ=k.nx (ρ.set i (some (.own (yP (si al q v))))):=by
 subst hd;have e:vS (iR al) (al.map (·.2)) (bx q) v=some (si al q v):=by
  unfold vS;rw[vY];show(keyOf (bx q)).bind _=_;rw[mB];show(if small al.length then _ else _)=_;rw[dE ‹0›];rfl
 unfold pV;rw[h];show tq ((fv ρ).bind λv=>(fk ρ).bind λq=>rO (vS (iR al) (al.map (·.2)) q v)) k ρ _=_;rw[ev,cq,ek,cq,e];rfl
abbrev D4(ws:List Str):List (Key×D):=ws.map λw=>((.inr w:Key),D.bl true)
abbrev wd(ws:List Str):D:=yP (D4 ws)
def uZ(ws:List Str)(w:Str):List Str:=if w∈ws then ws else ws++[w]
theorem Gc(ws:List Str)(w:Str):si (D4 ws) (.inr w) (.bl true)=D4 (uZ ws w):=by
 have e:((D4 ws).any λp=>decide (p.1=(.inr w:Key)))=decide (w∈ws):=by
  induction ws with
  |nil=>simp
  |cons a ws ih=>
   show(decide ((.inr a:Key)=.inr w)||(D4 ws).any λp=>decide (p.1=(.inr w:Key)))=_;rw[ih];by_cases z:a=w
   ·subst z;simp
   ·have z':¬(.inr a:Key)=.inr w:=λq=>z (Sum.inr.inj q);have z2:¬w=a:=λq=>z q.symm;simp[z',z2]
 unfold si uZ;rw[e];by_cases h:w∈ws
 ·rw[if_pos (by simpa using h),if_pos h];show(ws.map _).map _=_;rw[SE];refine RQ λa _=>?_;show(if(.inr a:Key)=.inr w then((.inr a:Key),D.bl true)else((.inr a:Key),D.bl true))=_;split<;>rfl
 ·rw[if_neg (by simpa using h),if_neg h];show _=(ws++[w]).map _;rw[RT];rfl
theorem Cy{ws:List Str}(w:Str)(h:ws.Nodup):(uZ ws w).Nodup:=by
 unfold uZ;split
 ·exact h
 ·rename_i z;exact List.nodup_append.mpr ⟨h,List.nodup_cons.mpr ⟨by simp,Rw⟩,λa ha b hb e=>by
   rw[SL]at hb;subst hb e;exact z ha⟩
theorem yk(ws:List Str)(w:Str):(uZ ws w).length<=ws.length+1:=by
 unfold uZ;split
 ·omega
 ·simp
theorem Ju(ws:List Str):iR (D4 ws)=ws.map D.str:=by
 show(ws.map _).map _=_;rw[SE];rfl
theorem FP(ws:List Str):keysOf (iR (D4 ws))=some (ws.map .inr):=by
 rw[show iR (D4 ws)=(ws.map (.inr:Str->Key)).map bx from by rw[Ju,SE];rfl];exact cO _
theorem IH(ws:List Str):vR [wd ws]=some (.int ws.length):=by
 show(keysOf (iR (D4 ws))).bind _=_;rw[FP];show some (D.int ((ws.map _).length:Int))=_;rw[Q2]
theorem G0(ws:List Str):qz [wd ws]=some (.lst (ws.map .str)):=by
 show(keysOf (iR (D4 ws))).bind _=_;rw[FP];show some (D.lst (iR (D4 ws)))=_;rw[Ju]
theorem uj(is:List Nat)(f:aq->R Bool)(ρ:aq):nE is f ρ=Ad (f (frzs is ρ)):=nr rfl
theorem JQ(i:Nat)(ρ:aq):frzs [i] ρ=frz i ρ:=nr rfl
theorem FZ(i:Int)(k:Nat):x5 (.int i) (.int k)=some (.int (i/2^k)):=by
 show(if decide (0<=(k:Int))then some (D.int (i/2^(k:Int).toNat))else none)=_;rw[decide_eq_true ‹0›];rfl
theorem xV(i j:Int):rY (.int i) (.int j)=some (.int (Builtin.bitAnd i j)):=nr rfl
theorem Mm(a b c d:D):ku [a,b,c,d]=some (.lst [a,b,c,d]):=nr rfl
theorem Qx(a b c d:D)(i:Int)(h0:0<=i)(h1:i<4):∃x∈[a,b,c,d],aH (.lst [a,b,c,d]) (.int i)=some x:=by
 rcases(show i=0\/i=1\/i=2\/i=3 by omega)with z|z|z|z<;>subst z
 ·exact⟨a,by simp,rfl⟩
 ·exact⟨b,by simp,rfl⟩
 ·exact⟨c,by simp,rfl⟩
 ·exact⟨d,by simp,rfl⟩
theorem Kk:(("number":Str)==("rows":Str))=false:=by decide +kernel
theorem Ib:(("word":Str)==("rows":Str))=false:=by decide +kernel
theorem J5(B:cn)(n:Nat)(a b c d e f:D):aK B 6 n [a,b,c,d,e,f]=B K0 (env0 n [a,b,c,d,e,f]):=nr rfl
abbrev fm(ps qs:List (Str×D)):D:=.tup [.tup (ps.map fld),.tup (qs.map fld)]
theorem BL{α:Type}{ρ:aq}{g:GF}{C:aq->R Bool}{Fe:FX}(mk:α->D)(p:α->Bool)(v:α->D):∀xs:List α,(∀a∈xs,∃ρ1,g (mk a) ρ=some ρ1/\C ρ1=.ok (p a)/\(p a=true->Fe ρ1=.ok (v a)))->
  Ab ρ g C Fe (xs.map mk)=.ok ((xs.filter p).map v)
 |[],_=>rfl
 |a::xs,h=>by
  obtain⟨ρ1,h1,h2,h3⟩:=h a QO;rw[Q1,kT,h1,eJ,cq,h2,fZ,cq,BL mk p v xs λb hb=>h b (QP _ hb)];cases e:p a with
  |true=>rw[if_pos rfl,h3 e,fZ,cq,Sx e];rfl
  |false=>rw[if_neg QZ,Sy (by simp[e])]
def mx(a b:Int):Int:=if b>a then b else a
theorem zK(vs:List Int)(hp:∀v∈vs,0<v):∀j,j+1<=vs.length->vF (λk=>vs.getD k 0) (j+1)=(vs.take (j+1)).foldl mx 0
 |0,h=>by
  cases vs with
  |nil=>simp at h
  |cons v vs=>
   have:=hp v QO
   show v=mx 0 v;unfold mx;rw[if_pos this]
 |j+1,h=>by
  have ih:=zK vs hp j ‹0›;have e:vs.take (j+2)=vs.take (j+1)++[vs.getD (j+1) 0]:=by
   rw[RU,RK ‹0›,SD,RK ‹0›];rfl
  rw[e,S6,<-ih];show(if _ then _ else _)=mx _ _;rfl
theorem Fz(vs:List Int)(hp:∀v∈vs,0<v):(if vs.length=0 then 0 else vF (λk=>vs.getD k 0) vs.length)=vs.foldl mx 0:=by
 cases vs with
 |nil=>rfl
 |cons v vs=>
  rw[if_neg (by simp)]
  have:=zK (v::vs) hp vs.length (by simp)
  rw[show(v::vs).length=vs.length+1 from rfl,this,SK (by simp)]
theorem Fa(ps qs:List (Str×D))(h1:ps.length<=8)(h2:qs.length<=8):aK eB 1 1 [fm ps qs]=.ok (.tup ((ps++qs).map (·.2))):=
 kinds_ok _ _ (ps++qs) (by simp;omega) (by rw[RT])
local macro_rules
 |`(tactic| simp! only[$xs,*])=>`(tactic| simp only[cq,vL,rL,vW,fZ,eJ,ge_0,DR,qF,DU,qZ,n6,qX,qH,C5,CU,C3,Dh,Dz,qG,qR,wA,lx,nU,rj,ox,wU,qK,rE,oh,qO,lj,ro,lr,kN,jB,jy,qw,og,jA,nV,lD,oo,oG,iA,oO,kY,o9,nX,kO,ju,oC,n8,D6,vD,DL,CK,Dm,qE,oJ,qV,oH,nT,Ej,Ei,SW,SY,Q1,Rp,RB,RP,K0,env0,List.replicate,Sj,Q5,Sb,Nat.reduceAdd,Nat.reduceSub,Q0,Rt,rG,qQ,wC,qv,rB,rk,jx,qU,v6,vC,wL,qC,lw,kL,lH,kR,kJ,ly,wc,wM,wQ,wK,vJ,wV,kU,lu,gZ,hX,qt,jD,hU,h7,gX,lK,ng,gQ,gR,lg,lE,oA,nQ,kX,oa,qY,rq,n5,oq,gN,if_true,if_false,SZ,S0,Rz,$xs,*])
def LT:List Nat:=("abcdefghijklmnopqrstuvwxyz":Str).cps.toList
theorem GL:∀a<26,∀b<26,LT[a]?=LT[b]?->a=b:=by decide +kernel
def stp(b:Int):Int:=([1,5,7,11,13,23]:List Int).getD (b%6).toNat 0
def kk(b k:Int):Int:=(k*stp b+b/6)%24
def jz(b:Int):Int:=b/144/24%(1+b/144/3%8)
def C0(b k:Int)(w:Str):Prop:=
 (b/144%3=0->w.length=(1+kk b k%8).toNat/\w.cps.toList[0]?=LT[((b/144/3+kk b k/8)%26).toNat]?)/\
 (b/144%3≠0->w.cps.toList[(jz b).toNat]?=LT[((b/144/(24+11*jz b*jz b)+kk b k)%26).toNat]?)
theorem LC(b k:Int):0<=kk b k/\kk b k<24:=⟨S4 _ (by decide),S5 _ (by decide)⟩
theorem Kt{b k1 k2:Int}(a1:0<=k1)(a2:k1<24)(b1:0<=k2)(b2:k2<24)(h:kk b k1=kk b k2):k1=k2:=by
 unfold kk stp at h;rcases(show b%6=0\/b%6=1\/b%6=2\/b%6=3\/b%6=4\/b%6=5 by omega)with z|z|z|z|z|z<;>rw[z]at h<;>simp at h<;>omega
theorem xl{b k1 k2:Int}{w:Str}(a1:0<=k1)(a2:k1<24)(b1:0<=k2)(b2:k2<24)(h1:C0 b k1 w)(h2:C0 b k2 w):k1=k2:=by
 refine Kt (b:=b) a1 a2 b1 b2 ?_;have q1:=LC b k1;have q2:=LC b k2;by_cases z:b/144%3=0
 ·obtain⟨l1,e1⟩:=h1.1 z;obtain⟨l2,e2⟩:=h2.1 z
  have:=GL _ ‹0› _ ‹0› (e1.symm.trans e2)
  omega
 ·have:=GL _ ‹0› _ ‹0› ((h1.2 z).symm.trans (h2.2 z))
  omega
theorem Ak(x:Str)(h:x.length<=1000)(i:Int)(h0:0<=i)(h1:i<x.length):∃y:Str,y.length=1/\y.cps.toList[0]?=x.cps.toList[i.toNat]?/\aH (.str x) (.int i)=some (.str y):=by
 have hl:x.cps.toList.length=x.length:=by simp[Str.length]
 have hi:i<x.cps.toList.length:=by omega
 have hn:i.toNat<x.cps.toList.length:=by omega
 refine⟨⟨#[x.cps.toList[i.toNat]'hn]⟩,rfl,?_,?_⟩
 ·rw[RK hn];rfl
 ·show(if small x.length then(pI x.cps.toList i).bind λc=>some (D.str ⟨#[c]⟩)else none)=_;rw[dE ‹0›,if_pos rfl,qj h0 hi];rfl
theorem vO(c:Array Nat)(hc:0<c.size):∀(n:Nat)(a:Array Nat),((List.replicate n c).foldl (·++·) a).toList[0]?=if a.size=0 then(if n=0 then none else c.toList[0]?)else a.toList[0]?
 |0,a=>by
  rw[Sj,List.foldl_nil];split
  ·rename_i h;simp[h]
  ·rfl
 |n+1,a=>by
  rw[Sq,Sr,vO c hc n (a++c)]
  have:¬(a++c).size=0:=by rw[Array.size_append];omega
  rw[if_neg this,Array.toList_append];by_cases h:a.size=0
  ·rw[if_pos h,if_neg ‹0›,Q9 (by simp[h])];simp[h]
  ·rw[if_neg h,Rb (by simp;omega)]
theorem Ey{y:Str}{n:Int}(h:1<=n)(hy:y.length=1):(mL y n).cps.toList[0]?=y.cps.toList[0]?:=by
 unfold mL;split
 ·rfl
 ·have hc:0<y.cps.size:=by have:y.cps.size=1:=hy;omega
  rw[vO y.cps hc n.toNat #[]];split
  ·rw[if_neg ‹0›]
  ·rename_i z;exact absurd rfl z
theorem Bz(x y:Str):(x++y).cps.toList=x.cps.toList++y.cps.toList:=by
 show(x.cps++y.cps).toList=_;rw[Array.toList_append]
theorem xi(x:Str):x.cps.toList.length=x.length:=by simp[Str.length]
theorem ya(b k:Int)(hb:0<=b)(hk:0<=k):∃w:Str,aK cu 2 7 [.int b,.int k]=.ok (.str w)/\C0 b k w:=by
 have LL:(("abcdefghijklmnopqrstuvwxyz":Str)).length=26:=by decide +kernel
 have hLT:LT=("abcdefghijklmnopqrstuvwxyz":Str).cps.toList:=rfl;generalize hL:("abcdefghijklmnopqrstuvwxyz":Str)=L at LL hLT;have g3:=λi=>fV (i:=i) (show(0:Int)<3 by decide);have g6:=λi=>fV (i:=i) (show(0:Int)<6 by decide);have g8:=λi=>fV (i:=i) (show(0:Int)<8 by decide);have g24:=λi=>fV (i:=i) (show(0:Int)<24 by decide);have g26:=λi=>fV (i:=i) (show(0:Int)<26 by decide);have d3:=λi=>nA (i:=i) (show(0:Int)<3 by decide) (show(3:Int)<10^200 by decide);have d6:=λi=>nA (i:=i) (show(0:Int)<6 by decide) (show(6:Int)<10^200 by decide);have d8:=λi=>nA (i:=i) (show(0:Int)<8 by decide) (show(8:Int)<10^200 by decide);have d24:=λi=>nA (i:=i) (show(0:Int)<24 by decide) (show(24:Int)<10^200 by decide);have d144:=λi=>nA (i:=i) (show(0:Int)<144 by decide) (show(144:Int)<10^200 by decide);obtain⟨st,hst,hstp,est⟩:∃st:Int,(0<=st/\st<=25)/\stp b=st/\aH (.lst [.int 1,.int 5,.int 7,.int 11,.int 13,.int 23]) (.int (b%6))=some (.int st):=by
  rcases(show b%6=0\/b%6=1\/b%6=2\/b%6=3\/b%6=4\/b%6=5 by omega)with z|z|z|z|z|z<;>rw[z]
  ·exact⟨1,by decide,by unfold stp;rw[z];rfl,rfl⟩
  ·exact⟨5,by decide,by unfold stp;rw[z];rfl,rfl⟩
  ·exact⟨7,by decide,by unfold stp;rw[z];rfl,rfl⟩
  ·exact⟨11,by decide,by unfold stp;rw[z];rfl,rfl⟩
  ·exact⟨13,by decide,by unfold stp;rw[z];rfl,rfl⟩
  ·exact⟨23,by decide,by unfold stp;rw[z];rfl,rfl⟩
 have l6:∀a b c d e f:D,ku [a,b,c,d,e,f]=some (.lst [a,b,c,d,e,f]):=λ_ _ _ _ _ _=>rfl;have ms:=pR (i:=k) (j:=st) ‹0› ‹0›;have hkk:kk b k=(k*st+b/6)%24:=by unfold kk;rw[hstp]
 generalize hk':(k*st+b/6)%24=k' at hkk;have k1:0<=k'/\k'<24:=by omega
 have hP:∀w,C0 b k w=((b/144%3=0->w.length=(1+kk b k%8).toNat/\w.cps.toList[0]?=LT[((b/144/3+kk b k/8)%26).toNat]?)/\(b/144%3≠0->w.cps.toList[(jz b).toNat]?=LT[((b/144/(24+11*jz b*jz b)+kk b k)%26).toNat]?)):=λ_=>rfl;have hj:jz b=b/144/24%(1+b/144/3%8):=rfl;generalize hb':b/144=b' at hP hj;generalize jz b=j0 at hP hj;rw[hkk]at hP;simp only[hP];have b0:0<=b':=by omega
 rw[dX];unfold cu;by_cases h:b'%3=0
 ·have h':(b'%3==0)=true:=by simp[h]
  obtain⟨y,hy,hy0,e1⟩:=Ak L ‹0› ((b'/3+k'/8)%26) ‹0› ‹0›;have mu:=Kr (x:=y) (n:=1+k'%8) ‹0› ‹0› ‹0›;refine⟨mL y (1+k'%8),?_,λ_=>⟨by rw[yB ‹0›,hy,Nat.mul_one],by rw[Ey ‹0› hy,hy0,hLT]⟩,λz=>absurd h z⟩;simp! only[hL,g6,l6,est,ms,d6,g24,hk',d144,hb',g3,h',d3,d8,g26,e1,g8,mu]
 ·have h':(b'%3==0)=false:=by simp[h]
  obtain⟨n,hn,hn1,hn2⟩:∃n:Nat,1+b'/3%8=(n:Int)/\1<=n/\n<=8:=⟨(1+b'/3%8).toNat,by omega,by omega,by omega⟩
  rw[hn]at hj;have hj1:0<=j0/\j0<(n:Int):=by rw[hj];exact⟨S4 _ ‹0›,S5 _ ‹0›⟩
  have rn:=n9 n ‹0›;obtain⟨T,hT⟩:∃T:cn,T=(aU (jU (jf (af (ah 3) (aw))) (gN 5) (aU (cy 6 (f2 dN (ah 0) (f2 ce (fC (.int 24)) (f2 o3 (f2 o3 (fC (.int 11)) (ah 5)) (ah 5))))) (aU (mO (fB (f2 lI (ah 5) (f2 cS (f2 dN (ah 0) (fC (.int 24))) (ah 3)))) (cy 6 (f2 ce (ah 6) (ah 1))) (cM)) (aU (cy 4 (f2 ce (ah 4) (f2 aH (ah 2) (f2 cS (ah 6) (fC (.int 26)))))) (dM [5,6] cM))))) (bM (ah 4))):=⟨_,rfl⟩
  have key:∃w:Str,(w.cps.toList[j0.toNat]?=LT[((b'/(24+11*j0*j0)+k')%26).toNat]?)/\T K0 [some (.val (.int b')),some (.val (.int k')),some (.val (.str L)),some (.val (.int n)),some (.val (.str "")),none,none]=.ok (.str w):=by
   rw[hT,iA,ju];simp! only[rn];refine dQ (Q:=λz=>∃w:Str,(w.cps.toList[j0.toNat]?=LT[((b'/(24+11*j0*j0)+k')%26).toNat]?)/\z=.ok (.str w)) (λi ρ=>∃w:Str,w.length=i/\(j0<(i:Int)->w.cps.toList[j0.toNat]?=LT[((b'/(24+11*j0*j0)+k')%26).toNat]?)/\ρ=[some (.val (.int b')),some (.val (.int k')),some (.val (.str L)),some (.val (.int n)),some (.val (.str w)),none,none]) ?_ ?_ ?_
   ·rintro i d ρ kx hd ⟨w,hw,hw2,rfl⟩;have hi:=cx hd;rw[dI]at hi;have hdi:d=.int (i:Int):=by
     rw[oE,Rc,RY hi]at hd;cases hd;simp
    subst hdi;have m1:=tu (i:=11) (j:=(i:Int)) (by decide) (by decide);have m2:=pR (i:=11*(i:Int)) (j:=(i:Int)) ‹0› ‹0›;have ii:0<=11*(i:Int)*(i:Int):=Int.mul_nonneg ‹0› ‹0›;have ii2:11*(i:Int)*(i:Int)<=11*8*8:=Int.mul_le_mul ‹0› ‹0› ‹0› (by decide);have dd:=λz=>nA (i:=z) (show(0:Int)<24+11*(i:Int)*(i:Int)by omega) (show 24+11*(i:Int)*(i:Int)<10^200 by
     have:(10:Int)^200>10000:=by decide +kernel
     omega)
    have gn:=λz=>fV (i:=z) (show(0:Int)<(n:Int)by omega);generalize hs:b'/(24+11*(i:Int)*(i:Int))=s;by_cases hq:((i:Int)==b'/24%(n:Int))=true
    ·obtain⟨y,hy,hy0,e1⟩:=Ak L ‹0› ((s+k')%26) ‹0› ‹0›;have ad:=mP w y ‹0› ‹0›;refine⟨_,_,rfl,⟨w++y,by rw[BQ];omega,λ_=>?_,rfl⟩,?_⟩
     ·have eq:(i:Int)=b'/24%(n:Int):=(by simpa using hq);rw[<-hj]at eq;subst eq;rw[Bz,Q9 (by rw[xi];omega),xi,hw,Ri,Si,hy0,hLT,<-hs]
     simp! only[m1,m2,dd,hs,d24,gn,hq,g26,e1,ad]
    ·have hq':((i:Int)==b'/24%(n:Int))=false:=(by simpa using hq);obtain⟨y,hy,hy0,e1⟩:=Ak L ‹0› (s%26) ‹0› ‹0›;have ad:=mP w y ‹0› ‹0›;refine⟨_,_,rfl,⟨w++y,by rw[BQ];omega,λz=>?_,rfl⟩,?_⟩
     ·have ne:j0≠(i:Int):=λq=>hq (by rw[<-q,<-hj];simp);rw[Bz,Rb (by rw[xi];omega)];exact hw2 ‹0›
     simp! only[m1,m2,dd,hs,d24,gn,hq',g26,e1,ad]
   ·exact⟨"",by decide +kernel,λz=>by omega,rfl⟩
   ·rintro ρ' ⟨w,hw,hw2,rfl⟩;rw[dI]at hw2;exact⟨w,hw2 ‹0›,by simp! only[]⟩
  obtain⟨w,hw,ew⟩:=key;refine⟨w,?_,λz=>absurd z h,λ_=>hw⟩;rw[<-hT];simp only[K0]at ew;simp! only[hL,g6,l6,est,ms,d6,g24,hk',d144,hb',g3,h',d3,g8,hn,ew]
theorem ql{α:Type}{motive:List α->Prop}(nil:motive [])(snoc:∀(t:List α)(r:α),motive t->motive (t++[r]))(t:List α):motive t:=by
 have h:∀l:List α,motive l.reverse:=λl=>by
  induction l with
  |nil=>exact nil
  |cons a l ih=>rw[List.reverse_cons];exact snoc _ _ ih
 have:=h t.reverse
 rw[List.reverse_reverse]at this;exact this
theorem sK:∀{σ:List Bool}{a:List D}(m:Nat),Sh σ a->Sh (σ.take m) (a.take m)
 |_,_,0,_=>by rw[RC,RC];exact .nil
 |_,_,m+1,.nil=>by rw[RD,RD];exact .nil
 |_,_,m+1,.int i h=>by rw[RE,RE];exact .int i (sK m h)
 |_,_,m+1,.str i h=>by rw[RE,RE];exact .str i (sK m h)
theorem sS:∀{σ:List Bool}{a:List D},Sh σ a->∃q:List Key,a=q.map bx
 |_,_,.nil=>⟨[],rfl⟩
 |_,_,.int i h=>by
  obtain⟨q,e⟩:=sS h;exact⟨.inl i::q,by rw[Q1,e];rfl⟩
 |_,_,.str x h=>by
  obtain⟨q,e⟩:=sS h;exact⟨.inr x::q,by rw[Q1,e];rfl⟩
theorem uH:∀{p q:List Key},p.map bx=q.map bx->p=q:=λ{p q} h=>by
 have:=congrArg keysOf h
 rw[cO,cO]at this;exact Option.some.inj this
theorem uJ:∀{σ:List Bool}{a b:List D}(m:Nat),Sh σ a->Sh σ b->eR a b=some true->eR (a.take m) (b.take m)=some true\/a.take m=b.take m
 |_,_,_,0,_,_,_=>.inr (by rw[RC,RC])
 |_,_,_,m+1,.nil,.nil,_=>.inr rfl
 |_,_,_,m+1,.int i h,.int j h',e=>by
  rw[qc]at e;rw[RE,RE,qc];by_cases z:i=j
  ·rw[if_pos z]at e ⊢;rcases uJ m h h' e with q|q
   ·exact .inl q
   ·exact .inr (by rw[z,q])
  ·rw[if_neg z]at e ⊢;exact .inl e
 |_,_,_,m+1,.str i h,.str j h',e=>by
  rw[qo]at e;rw[RE,RE,qo];by_cases z:i=j
  ·rw[if_pos z]at e ⊢;rcases uJ m h h' e with q|q
   ·exact .inl q
   ·exact .inr (by rw[z,q])
  ·rw[if_neg z]at e ⊢;exact .inl e
section
open Classical
variable(m:Nat)
noncomputable def Kj(acc:List (List D))(r:List D):List (List D):=if r.take m∈acc then acc else acc++[r.take m]
noncomputable def fs(t:List (List D)):List (List D):=t.foldl (Kj m) []
noncomputable def gp(t:List (List D))(f:List D):List (List D):=(t.filter λr=>decide (r.take m=f)).map (List.drop m)
theorem oK(t:List (List D))(r:List D):fs m (t++[r])=Kj m (fs m t) r:=by
 unfold fs;rw[S6];rfl
theorem lW{t:List (List D)}{f:List D}:f∈fs m t↔∃r∈t,r.take m=f:=by
 induction t using ql with
 |nil=>unfold fs;simp
 |snoc t r ih=>
  rw[oK];unfold Kj;split
  ·rename_i h;rw[ih];constructor
   ·rintro⟨x,h1,h2⟩;exact⟨x,QQ _ h1,h2⟩
   ·rintro⟨x,h1,h2⟩;rcases List.mem_append.mp h1 with z|z
    ·exact⟨x,z,h2⟩
    ·rw[List.mem_singleton.mp z]at h2;rw[h2]at h;exact ih.mp h
  ·rw[List.mem_append,ih,SL];constructor
   ·rintro(⟨x,h1,h2⟩|h2)
    ·exact⟨x,QQ _ h1,h2⟩
    ·exact⟨r,by simp,h2.symm⟩
   ·rintro⟨x,h1,h2⟩;rcases List.mem_append.mp h1 with z|z
    ·exact .inl ⟨x,z,h2⟩
    ·rw[List.mem_singleton.mp z]at h2;exact .inr h2.symm
theorem Gv(t:List (List D)):(fs m t).Nodup:=by
 induction t using ql with
 |nil=>exact Rw
 |snoc t r ih=>
  rw[oK];unfold Kj;split
  ·exact ih
  ·rename_i h;exact List.nodup_append.mpr ⟨ih,by simp,λa ha b hb e=>by
    rw[List.mem_singleton.mp hb]at e;rw[e]at ha;exact h ha⟩
theorem mi(t:List (List D)):(fs m t).length<=t.length:=by
 induction t using ql with
 |nil=>exact QU _
 |snoc t r ih=>
  rw[oK];unfold Kj;split
  ·rw[Rh];omega
  ·rw[Rh,Rh];simpa using ih
theorem Gm{σ:List Bool}{n:Nat}(hn:n=σ.length){t:List (List D)}(hs:∀r∈t,Sh σ (r.take n))(hm:m<=n)(p:JL n t):(fs m t).Pairwise (λa b=>eR a b=some true)/\∀r,t.getLast?=some r->(fs m t).getLast?=some (r.take m):=by
 induction t using ql with
 |nil=>exact⟨List.Pairwise.nil,λr h=>by simp at h⟩
 |snoc t r ih=>
  obtain⟨p1,p2,p3⟩:=List.pairwise_append.mp p;obtain⟨i1,i2⟩:=ih (λx hx=>hs x (QQ _ hx)) p1;have sm:∀x∈t++[r],Sh (σ.take m) (x.take m):=λx hx=>by
   have:=sK m (hs x hx)
   rw[S7,SN hm]at this;exact this
  have le:∀x∈t,eR (x.take m) (r.take m)=some true\/x.take m=r.take m:=λx hx=>by
   have:=uJ m (hs x (QQ _ hx)) (hs r (by simp)) (p3 x hx r (by simp))
   rw[S7,S7,SN hm]at this;exact this
  rw[oK];unfold Kj;split
  ·rename_i h;refine⟨i1,λx hx=>?_⟩;rw[S8]at hx;have hx:r=x:=(by simpa using hx);subst hx;obtain⟨y,hy,ey⟩:=(lW m).mp h;have ne:t≠[]:=λz=>by rw[z]at hy;cases hy
   have e0:=i2 _ (S9 ne);have f0:fs m t≠[]:=λz=>by rw[z]at h;cases h
   rw[S9 f0]at e0 ⊢;have e0:=Option.some.inj e0;rcases le _ (Ta ne)with q|q
   ·
    exfalso;have hd:fs m t=(fs m t).dropLast++[(fs m t).getLast f0]:=(Tb f0).symm;rw[hd]at h i1;rcases List.mem_append.mp h with z|z
    ·have:=(List.pairwise_append.mp i1).2.2 _ z _ (List.mem_singleton.mpr rfl)
     rw[e0]at this;have a:=zj (sm r (by simp)) (sm _ (QQ _ (Ta ne))) this;rw[q]at a;cases a
    ·have:=List.mem_singleton.mp z
     rw[e0]at this;rw[this]at q;rw[lR (sm _ (QQ _ (Ta ne)))]at q;cases q
   ·rw[e0,q]
  ·rename_i h;refine⟨List.pairwise_append.mpr ⟨i1,Sw _ _,λa ha b hb=>?_⟩,λx hx=>?_⟩
   ·rw[List.mem_singleton.mp hb];obtain⟨y,hy,ey⟩:=(lW m).mp ha;rcases le y hy with q|q
    ·rw[ey]at q;exact q
    ·rw[ey]at q;rw[q]at ha;exact absurd ha h
   ·rw[S8]at hx ⊢;have hx:r=x:=(by simpa using hx);subst hx;simp
theorem sQ(t:List (List D))(r f:List D):gp m (t++[r]) f=gp m t f++(if r.take m=f then[r.drop m]else[]):=by
 unfold gp;rw[List.filter_append,RT];congr 1;by_cases h:r.take m=f
 ·rw[if_pos h,Sx (by simpa using h)];rfl
 ·rw[if_neg h,Sy (by simpa using h)];rfl
noncomputable def flat(t:List (List D)):List (List D):=(fs m t).flatMap λf=>(gp m t f).map (f++·)
theorem Iu{σ:List Bool}{n:Nat}(hn:n=σ.length){t:List (List D)}(hs:∀r∈t,Sh σ (r.take n))(hm:m<=n)(p:JL n t):flat m t=t:=by
 induction t using ql with
 |nil=>rfl
 |snoc t r ih=>
  have p1:=(List.pairwise_append.mp p).1;have i0:=ih (λx hx=>hs x (QQ _ hx)) p1;have hr:=Gm m hn hs hm p;unfold flat at i0 ⊢;rw[oK]at hr ⊢;unfold Kj at hr ⊢;have same:∀L:List (List D),r.take m∉L->(L.flatMap λf=>(gp m (t++[r]) f).map (f++·))=L.flatMap λf=>(gp m t f).map (f++·):=λL hL=>by
   induction L with
   |nil=>rfl
   |cons f L ih=>
    rw[Tc,Tc,ih λz=>hL (QP _ z),sQ,if_neg λz=>hL (by rw[z];exact QO),Q5]
  split
  ·rename_i h;rw[if_pos h]at hr;have f0:fs m t≠[]:=λz=>by rw[z]at h;cases h
   have last:=hr.2 r (by rw[S8];simp);rw[S9 f0]at last;have last:=Option.some.inj last;have hd:fs m t=(fs m t).dropLast++[r.take m]:=by
    rw[<-last];exact(Tb f0).symm
   have nd:=Gv m t;rw[hd]at nd;have nin:r.take m∉(fs m t).dropLast:=λz=>(List.nodup_append.mp nd).2.2 _ z _ (List.mem_singleton.mpr rfl) rfl;rw[hd,Td]at i0 ⊢;rw[same _ nin]
   conv=>rhs;rw[<-i0]
   rw[R1];congr 1;rw[Te,Te,sQ,if_pos rfl,RT,Tf,Tg]
  ·rename_i h;rw[Td,same _ h,i0,Te,sQ,if_pos rfl];congr 1;have e:gp m t (r.take m)=[]:=by
    unfold gp;rw[List.filter_eq_nil_iff.mpr]
    ·rfl
    ·intro x hx z;exact h ((lW m).mpr ⟨x,hx,by simpa using z⟩)
   rw[e,RP,Tf,Tg]
end
open Classical in
theorem vT(al:List (List Key×D))(q:List Key)(v:D):(i6 al q v).map (·.1)=if q∈al.map (·.1)then al.map (·.1)else al.map (·.1)++[q]:=by
 have e:(al.any λp=>decide (p.1=q))=true↔q∈al.map (·.1):=by
  rw[List.any_eq_true,List.mem_map];simp only[decide_eq_true_eq]
 unfold i6;by_cases h:q∈al.map (·.1)
 ·rw[if_pos (e.mpr h),if_pos h,SE];refine RQ λp _=>?_;show(if p.1=q then(p.1,v)else p).1=p.1;split<;>rfl
 ·rw[if_neg λz=>h (e.mp z),if_neg h,RT];rfl
theorem Fs{al:List (List Key×D)}{q:List Key}{v:D}{p:List Key×D}(h:p∈i6 al q v):p∈al\/p=(q,v):=by
 unfold i6 at h;split at h
 ·obtain⟨a,ha,e⟩:=List.mem_map.mp h;by_cases z:a.1=q
  ·rw[if_pos z]at e;exact .inr (by rw[<-e,z])
  ·rw[if_neg z]at e;exact .inl (by rw[<-e];exact ha)
 ·rcases List.mem_append.mp h with z|z
  ·exact .inl z
  ·exact .inr (List.mem_singleton.mp z)
theorem IB{al:List (List Key×D)}(q:List Key)(v:D)(h:(al.map (·.1)).Nodup):((i6 al q v).map (·.1)).Nodup:=by
 rw[vT];split
 ·exact h
 ·rename_i z;exact List.nodup_append.mpr ⟨h,by simp,λa ha b hb e=>by
   rw[List.mem_singleton.mp hb]at e;rw[e]at ha;exact z ha⟩
theorem Ft(al:List (List Key×D))(q:List Key)(v:D):(i6 al q v).length<=al.length+1:=by
 have:=congrArg List.length (vT al q v)
 rw[Q2]at this;rw[this];split<;>simp
theorem zi:∀{al:List (List Key×D)}{p:List Key×D},(al.map (·.1)).Nodup->p∈al->qL al p.1=some p.2
 |a::al,p,h,hp=>by
  obtain⟨h1,h2⟩:=List.nodup_cons.mp (by simpa using h:(a.1::al.map (·.1)).Nodup);unfold qL;by_cases e:a.1=p.1
  ·rw[SU (by simpa using e)];rcases List.mem_cons.mp hp with z|z
   ·rw[z];rfl
   ·exact absurd (show a.1∈al.map (·.1)from by rw[e];exact List.mem_map.mpr ⟨p,z,rfl⟩) h1
  ·rw[SV (by simpa using e)];rcases List.mem_cons.mp hp with z|z
   ·exact absurd (by rw[z]) e
   ·exact zi h2 z
theorem Ck(al:List (List Key×D)):G5 (encK al) (al.map (·.2))=some al:=by
 cases al with
 |nil=>rfl
 |cons p al=>exact kW (p::al)
theorem Gh(al:List (List Key×D)):rg [dG al]=some (.lst (encK al)):=by
 show(G5 (encK al) (al.map (·.2))).bind _=_;rw[Ck];rfl
theorem Ki(al:List (List Key×D))(q:List Key):A1 (dG al) (.tup (q.map bx))=qL al q:=by
 show(G5 (encK al) (al.map (·.2))).bind _=_;rw[Ck];show(jS (.tup (q.map bx))).bind _=_;rw[p6];rfl
theorem uA(al:List (List Key×D)):AD (oQ al)=some (al.map lm):=by
 show(kI (encK al) (al.map (·.2))).map _=_;rw[kW];rfl
theorem Hr{al:List (List Key×D)}{σ:List Bool}(nd:(al.map (·.1)).Nodup)(hs:∀p∈al,Sh σ (p.1.map bx))(h0:σ≠[])(hl:al.length<64):iG [.lst (encK al)]=some (.lst (ki eS (encK al)))/\zB eS (ki eS (encK al)):=by
 have hx:∀x∈encK al,∃k,x=.tup k/\Sh σ k:=λx hx=>by
  obtain⟨p,hp,rfl⟩:=List.mem_map.mp hx;exact⟨_,rfl,hs p hp⟩
 have pw:(encK al).Pairwise λx y=>eS x≠eS y:=by
  rw[SA]
  have:=List.pairwise_map.mp nd
  exact this.imp λ{a b} ne e=>ne (uH e)
 have a:Kg (encK al):=⟨by rw[Q2];exact hl,σ,h0,hx,pw⟩
 refine⟨?_,rp (σ:=σ) (λx h=>by obtain⟨k,e,s⟩:=hx x h;rw[e];exact s) pw⟩;show rS (encK al)=_;unfold rS;rw[if_pos a]
theorem Cp:∀vs:List D,(∀v∈vs,∃r,v=.tup r)->∃t:List (List D),vs=t.map .tup
 |[],_=>⟨[],rfl⟩
 |v::vs,h=>by
  obtain⟨r,e⟩:=h v QO;obtain⟨t,et⟩:=Cp vs λv hv=>h v (QP _ hv);exact⟨r::t,by rw[e,et];rfl⟩
def AL:Nat->D->Prop
 |0,d=>(∃i,d=.int i)\/∃x,d=.str x
 |n+1,d=>((∃i,d=.int i)\/∃x,d=.str x)\/∃ds,d=.tup ds/\ds.length<=1000/\∀x∈ds,AL n x
theorem AL.of0{d:D}(h:AL 0 d):∀n,AL n d
 |0=>h
 |_+1=>.inl h
theorem AL.up:∀{n:Nat}{d:D},AL n d->AL (n+1) d
 |0,_,h=>.inl h
 |n+1,_,h=>by
  rcases h with h|⟨ds,e,l,f⟩
  ·exact .inl h
  ·exact .inr ⟨ds,e,l,λx hx=>AL.up (f x hx)⟩
theorem AL.le{n m:Nat}(h:n<=m){d:D}(hd:AL n d):AL m d:=by
  induction m with
  | zero => have : n = 0 := by omega
            subst this;exact hd
  |succ m ih=>
    by_cases e:n=m+1
    ·subst e;exact hd
    ·exact AL.up (ih ‹0›)
theorem AL.tup{n:Nat}{ds:List D}(l:ds.length<=1000)(h:∀x∈ds,AL n x):AL (n+1) (.tup ds):=.inr ⟨ds,rfl,l,h⟩
theorem wy:∀{σ:List Bool}{a:List D},Sh σ a->∀x∈a,AL 0 x
 |_,_,.int i h,x,hx=>by
  rcases List.mem_cons.mp hx with z|z
  ·exact .inl ⟨i,z⟩
  ·exact wy h x z
 |_,_,.str i h,x,hx=>by
  rcases List.mem_cons.mp hx with z|z
  ·exact .inr ⟨i,z⟩
  ·exact wy h x z
theorem JM:∀{n:Nat}{d:D},AL n d->pl d=true
 |0,_,h=>by rcases h with⟨i,rfl⟩|⟨x,rfl⟩<;>rfl
 |n+1,_,h=>by
  rcases h with(⟨i,rfl⟩|⟨x,rfl⟩)|⟨ds,rfl,_,f⟩
  ·rfl
  ·rfl
  ·rw[eA];exact xq λx hx=>JM (f x hx)
end T4
namespace Tk46
open PySem PySem.Spec L2 TG TX TD
def top(i:Nat):U2:=PySem.Challenge.pw_twoglass_k46_whole_nested_and_back.main.body.getD i (.Pass ⟨0,0,0,0⟩)
abbrev eW:U2:=inClass (top 28) 0
theorem oZ:aM ["self","name"] ["self","name"] (ax eW):=‹2›
abbrev fP:U2:=inClass (top 27) 0
theorem qA:aM ["self","many","name"] ["self","many","name"] (ax fP):=‹2›
abbrev gJ:U2:=top 43
theorem vg:aM ["_law_found","_law_due","_law_one","_law_other"] ["_law_found","_law_due"] (ax gJ):=‹2›
def cA(aC:List D->R D):cn:=aU (mO (fT (pN "str" (ah 1))) (bM (sd (pN "str" (ah 0)) (f2 lI (ah 0) (ah 1)))) (cM)) (aU (mO (Ek (fT (pN "bool" (ah 1))) (fT (pN "bool" (ah 0)))) (bM (sd (pN "bool" (ah 1)) (sd (pN "bool" (ah 0)) (f2 lI (ah 0) (ah 1))))) (cM)) (aU (mO (fT (pN "int" (ah 1))) (bM (sd (pN "int" (ah 0)) (f2 lI (ah 0) (ah 1)))) (cM)) (aU (mO (Ek (tS (fT (pN "tuple" (ah 0)))) (fB (f2 G6 (fL je (af (ah 0) (aw))) (fL je (af (ah 1) (aw)))))) (bM (fC (.bl false))) (cM)) (aU (jU (Dd (af (ah 0) (af (ah 1) (aw)))) (gT 2 (kP [2,3])) (aU (mO (tS (fT (fR aC (af (ah 2) (af (ah 3) (aw)))))) (bM (fC (.bl false))) (cM)) (dM [2,3] cM))) (bM (fC (.bl true)))))))
def aC:Nat->List D->R D
 |0=>λ_=>un
 |n+1=>aK (cA (aC n)) 2 4
theorem jX(n:Nat):aC (n+1)=aK (cA (aC n)) 2 4:=by rw[aC]
theorem fJ:∀n:Nat,Ar 2 (aC n)
 |0=>λ_ h=>absurd (by rw[aC]) h
 |n+1=>by rw[jX];exact aQ
abbrev lX:U2:=inClass (top 25) 3
theorem yW:aM ["self","form","table","view"] ["self","form","table","view"] (ax lX):=‹2›
def il:cn:=bM (ah 3)
abbrev mD:U2:=top 29
theorem y4:aM ["many","table","rows","row"] ["many","table"] (ax mD):=‹2›
def fW:cn:=aU (qi 2 (jM (aw))) (aU (jU (bT (ah 1)) (gN 3) (aU (Fx 2 (kr [none,some 3,some 0] (bT (f2 aH (ah 3) (ah 0))) (gN 0) (dF) (f2 ce (dJ (ah 1) (cK) (fI (ah 2))) (ah 0)))) (dM [3] cM))) (kE 2 (bM (fL cP (af (ah 2) (aw))))))
abbrev me:U2:=inClass (top 27) 4
theorem zU:aM ["self","form","table","view"] ["self","form","table","view"] (ax me):=‹2›
def d9:cn:=bM (fR (aK fW 2 4) (af (f1 (mC "many" ["Nest"]) (ah 0)) (af (ah 3) (aw))))
abbrev jY:U2:=top 18
theorem xN:aM ["many","rows"] ["many","rows"] (ax jY):=‹2›
noncomputable def iM:cn:=bM (fL cP (af (f2 rA (ah 1) (ah 0)) (aw)))
abbrev pJ:U2:=top 21
theorem D8:aM ["many","rows"] ["many","rows"] (ax pJ):=‹2›
def ni:cn:=bM (fL xG (af (kr [none,some 0] (bT (ah 1)) (gN 0) (dF) (fF (af (dJ (ah 0) (cK) (fI (ah 1))) (af (ah 0) (aw))))) (aw)))
abbrev lJ:U2:=top 23
theorem yv:aM ["many","rows","others","taken"] ["many","rows","others"] (ax lJ):=‹2›
noncomputable def jI:cn:=aU (cy 3 (fR (aK ni 2 2) (af (ah 0) (af (ah 1) (aw))))) (bM (fR (aK iM 2 2) (af (ah 0) (af (f2 ce (fL Cv (af (ah 1) (aw))) (kr [none,some 0,some 3] (bT (ah 2)) (gN 0) (fB (f2 xx (dJ (ah 0) (cK) (fI (ah 1))) (ah 2))) (ah 0))) (aw)))))
abbrev ou:U2:=top 22
theorem AK:aM ["many","rows","groups","row"] ["many","rows"] (ax ou):=‹2›
def fA:cn:=aU (zM 2) (aU (jU (bT (ah 1)) (gN 3) (aU (Eh 2 (dJ (ah 3) (cK) (fI (ah 0))) (dJ (ah 3) (fI (ah 0)) (cK))) (dM [3] cM))) (vM 2 (bM (fL tM (af (kr [none,none] (jp (ah 2)) (gT 2 (kP [0,1])) (dF) (fF (af (ah 0) (af (fL cP (af (ah 1) (aw))) (aw))))) (aw))))))
abbrev jm:U2:=inClass (top 28) 4
theorem vi:aM ["self","form","table","view","many","rows"] ["self","form","table","view"] (ax jm):=‹2›
noncomputable def cV:cn:=aU (cy 4 (fL je (af (f2 aH (ah 1) (fC (.int 0))) (aw)))) (aU (cy 5 (kr [none,none] (jp (fR (aK fA 2 4) (af (ah 4) (af (ah 3) (aw))))) (gT 2 (kP [0,1])) (dF) (f2 ce (ah 0) (fF (af (ah 1) (aw)))))) (bM (fR (aK jI 3 4) (af (ah 4) (af (ah 5) (af (kr [none,some 4] (bT (ah 2)) (gN 0) (fB (f2 lI (f2 aH (ah 0) (ah 1)) (fF (aw)))) (ah 0)) (aw)))))))
abbrev iz:U2:=inClass (top 25) 5
theorem nw:aM ["self","form"] ["self","form"] (ax iz):=‹2›
def bU:cn:=bM (fC (.bl true))
abbrev oN:U2:=top 20
theorem Aj:aM ["form","place"] ["form","place"] (ax oN):=‹2›
abbrev mE:U2:=top 14
theorem zx:aM ["form"] ["form"] (ax mE):=‹2›
abbrev lU:U2:=top 15
theorem yh:aM ["form","name","place","other"] ["form","name"] (ax lU):=‹2›
abbrev gD:U2:=inClass (top 28) 5
theorem mJ:aM ["self","form"] ["self","form"] (ax gD):=‹2›
def bi:cn:=bM (f2 aH (fR (aK gf 2 2) (af (ah 1) (af (fR (aK eX 2 4) (af (ah 1) (af (f1 (mC "name" ["Unnest"]) (ah 0)) (aw)))) (aw)))) (fC (.int 2)))
abbrev fK:U2:=inClass (top 28) 6
theorem ra:aM ["self","form"] ["self","form"] (ax fK):=‹2›
def bX:cn:=bM (dS "exact" [("Unnest",(aK bi 2 2))] (ah 0) (af (ah 1) (aw)))
abbrev jv:U2:=inClass (top 25) 4
theorem oX:aM ["self","form"] ["self","form"] (ax jv):=‹2›
def cC:cn:=bM (fC (.bl true))
abbrev e9:U2:=inClass (top 25) 1
theorem qb:aM ["self","form"] ["self","form"] (ax e9):=‹2›
def dA:cn:=bM (ah 1)
abbrev mG:U2:=top 10
theorem yo:aM ["form"] ["form"] (ax mG):=‹2›
abbrev jR:U2:=top 16
theorem ye:aM ["form"] ["form"] (ax jR):=‹2›
def jK(bw:List D->R D):cn:=bM (f1 (rQ 0) (kr [none] (bT (fR (aK eB 1 1) (af (ah 0) (aw)))) (gN 0) (fB (f2 lI (f2 aH (ah 0) (fC (.int 0))) (fC (.str "rows")))) (f2 ce (fC (.int 1)) (fR bw (af (f2 aH (ah 0) (fC (.int 1))) (aw))))))
def bw:Nat->List D->R D
 |0=>λ_=>un
 |n+1=>aK (jK (bw n)) 1 1
theorem fN(n:Nat):bw (n+1)=aK (jK (bw n)) 1 1:=by rw[bw]
theorem oT:∀n:Nat,Ar 1 (bw n)
 |0=>λ_ h=>absurd (by rw[bw]) h
 |n+1=>by rw[fN];exact aQ
abbrev mr:U2:=top 9
theorem zz:aM ["value"] ["value"] (ax mr):=‹2›
def jE:cn:=bM (sd (pN "int" (ah 0)) (BZ (pN "bool" (ah 0))))
abbrev fg:U2:=inClass (top 27) 2
theorem pK:aM ["self","form","key","inner"] ["self","form"] (ax fg):=‹2›
def bS:cn:=aU (mO (Ek (tS (fT (fR (aK jE 1 1) (af (f1 (mC "many" ["Nest"]) (ah 0)) (aw))))) (tS (fB (uR Qn uF (fC (.int 1)) (f1 (mC "many" ["Nest"]) (ah 0)) (fL je (af (f2 aH (ah 1) (fC (.int 0))) (aw))))))) (pU) (cM)) (aU (cy 2 (dJ (f2 aH (ah 1) (fC (.int 0))) (cK) (fI (f1 (mC "many" ["Nest"]) (ah 0))))) (aU (mO (fB (f2 JI (f1 (mC "name" ["Nest"]) (ah 0)) (kr [none] (bT (ah 2)) (gN 0) (dF) (f2 aH (ah 0) (fC (.int 0)))))) (pU) (cM)) (aU (cy 3 (fF (af (dJ (f2 aH (ah 1) (fC (.int 0))) (fI (f1 (mC "many" ["Nest"]) (ah 0))) (cK)) (af (f2 aH (ah 1) (fC (.int 1))) (aw))))) (aU (mO (fB (f2 Qg (fR (bw 20) (af (ah 3) (aw))) (fC (.int 3)))) (pU) (cM)) (bM (fF (af (ah 2) (af (fF (af (fF (af (f1 (mC "name" ["Nest"]) (ah 0)) (af (fF (af (fC (.str "rows")) (af (ah 3) (af (fC (.bl true)) (aw))))) (aw)))) (aw))) (aw)))))))))
abbrev eG:U2:=inClass (top 28) 2
theorem oR:aM ["self","form","kind","key","inner"] ["self","form"] (ax eG):=‹2›
def bH:cn:=aU (cy 2 (fR (aK gf 2 2) (af (ah 1) (af (fR (aK eX 2 4) (af (ah 1) (af (f1 (mC "name" ["Unnest"]) (ah 0)) (aw)))) (aw))))) (aU (mO (Ek (fB (f2 G6 (f2 aH (ah 2) (fC (.int 0))) (fC (.str "rows")))) (fB (f2 G6 (fL je (af (f2 aH (ah 1) (fC (.int 1))) (aw))) (fC (.int 1))))) (pU) (cM)) (aU (cy 3 (f2 aH (ah 1) (fC (.int 0)))) (aU (cy 4 (f2 aH (ah 2) (fC (.int 1)))) (aU (mO (fT (fL CQ (af (kr [none,some 4] (bT (ah 3)) (gN 0) (dF) (f2 JI (f2 aH (ah 0) (fC (.int 0))) (fR (aK eE 1 1) (af (ah 1) (aw))))) (aw)))) (pU) (cM)) (aU (mO (fB (f2 N2 (f2 ce (fL je (af (ah 3) (aw))) (fL je (af (f2 aH (ah 4) (fC (.int 0))) (aw)))) (fC (.int 8)))) (pU) (cM)) (bM (fF (af (f2 ce (ah 3) (f2 aH (ah 4) (fC (.int 0)))) (af (f2 aH (ah 4) (fC (.int 1))) (aw))))))))))
abbrev lV:U2:=inClass (top 25) 2
theorem yx:aM ["self","form","table"] ["self","form","table"] (ax lV):=‹2›
def ic:cn:=bM (ah 2)
abbrev lM:U2:=inClass (top 27) 3
theorem yG:aM ["self","form","table"] ["self","form","table"] (ax lM):=‹2›
def eK:cn:=bM (fL cP (af (kr [none,none] (jp (fR (aK fA 2 4) (af (f1 (mC "many" ["Nest"]) (ah 0)) (af (ah 2) (aw))))) (gT 2 (kP [0,1])) (dF) (f2 ce (ah 0) (fF (af (ah 1) (aw))))) (aw)))
abbrev jt:U2:=inClass (top 28) 3
theorem uU:aM ["self","form","table"] ["self","form","table"] (ax jt):=‹2›
def cZ:cn:=bM (fR (aK fW 2 4) (af (fL je (af (f2 aH (ah 1) (fC (.int 0))) (aw))) (af (ah 2) (aw))))
abbrev lP:U2:=top 46
theorem zX:aM ["_law_steps","_law_form_here","_law_table_here","_law_forms","_law_tables","_law_step"] ["_law_steps","_law_form_here","_law_table_here"] (ax lP):=‹2›
def hJ:cn:=aU (qi 3 (jM (af (ah 1) (aw)))) (aU (qi 4 (jM (af (ah 2) (aw)))) (dM [1,2] (aU (jU (bT (ah 0)) (gN 5) (aU (C6 4 ig (af (tP [3,4] (dS "got" [("Step",(aK ic 3 3)),("Nest",(aK eK 3 3)),("Unnest",(aK cZ 3 3))] (ah 5) (af (f2 aH (ah 3) (mK (fC (.int 1)))) (af (f2 aH (ah 4) (mK (fC (.int 1)))) (aw))))) (aw))) (aU (C6 3 ig (af (tP [3] (dS "view_form" [("Step",(aK dA 2 2)),("Nest",(aK bS 2 4)),("Unnest",(aK bH 2 5))] (ah 5) (af (f2 aH (ah 3) (mK (fC (.int 1)))) (aw)))) (aw))) (dM [5] cM)))) (kE 3 (kE 4 (bM (fF (af (ah 3) (af (ah 4) (aw))))))))))
abbrev iV:U2:=top 45
theorem xK:aM ["_law_form_here","_law_found","_law_name_here","_law_kind_here"] ["_law_form_here"] (ax iV):=‹2›
def iH(bE:List D->R D):cn:=aU (cy 1 (fC (.int 0))) (aU (jU (bT (f2 aH (ah 0) (fC (.int 1)))) (gT 2 (kP [2,3])) (aU (mO (fB (f2 lI (f2 aH (ah 3) (fC (.int 0))) (fC (.str "rows")))) (cy 1 (fL rR (af (ah 1) (af (f2 ce (fC (.int 1)) (fR bE (af (f2 aH (ah 3) (fC (.int 1))) (aw)))) (aw))))) (cM)) (dM [2,3] cM))) (bM (ah 1)))
def bE:Nat->List D->R D
 |0=>λ_=>un
 |n+1=>aK (iH (bE n)) 1 4
theorem fu(n:Nat):bE (n+1)=aK (iH (bE n)) 1 4:=by rw[bE]
theorem m9:∀n:Nat,Ar 1 (bE n)
 |0=>λ_ h=>absurd (by rw[bE]) h
 |n+1=>by rw[fu];exact aQ
abbrev j3:U2:=top 34
theorem xI:aM ["_law_base","_law_k","_law_letters","_law_size","_law_name_here","_law_j","_law_step"] ["_law_base","_law_k"] (ax j3):=‹2›
abbrev iD:U2:=top 40
theorem tG:aM ["_law_many","_law_rows_here","_law_found","_law_row_here"] ["_law_many","_law_rows_here"] (ax iD):=‹2›
noncomputable def bQ:cn:=aU (qi 2 zh) (aU (jU (bT (ah 1)) (gN 3) (aU (vK 2 (dJ (ah 3) (cK) (fI (ah 0))) (ah 3)) (dM [3] cM))) (kE 2 (bM (fL cP (af (kr [none,some 2] (bT (fL iG (af (fL rg (af (ah 2) (aw))) (aw)))) (gN 0) (dF) (f2 A1 (ah 1) (ah 0))) (aw))))))
abbrev kc:U2:=top 32
theorem xU:aM ["_law_x"] ["_law_x"] (ax kc):=‹2›
abbrev gE:U2:=top 38
theorem vc:aM ["_law_kind_here","_law_x"] ["_law_kind_here","_law_x"] (ax gE):=‹2›
abbrev jH:U2:=top 39
theorem zZ:aM ["_law_form_here","_law_many","_law_head","_law_tail","_law_row_here","_law_name_here","_law_kind_here"] ["_law_form_here","_law_many","_law_head","_law_tail"] (ax jH):=‹2›
abbrev iP:U2:=top 41
theorem xA:aM ["_law_form_here","_law_x","_law_many","_law_rows_here","_law_k"] ["_law_form_here","_law_x","_law_many"] (ax iP):=‹2›
noncomputable def gF(aA aI aN:List D->R D):cn:=aU (mO (fB (f2 lI (f2 aH (ah 0) (fC (.int 0))) (fC (.str "number")))) (bM (f2 ce (f2 aH (ah 0) (fC (.int 1))) (f2 cS (f2 sC (ah 1) (fC (.int 7))) (f2 ce (f2 vz (f2 aH (ah 0) (fC (.int 2))) (f2 aH (ah 0) (fC (.int 1)))) (fC (.int 1)))))) (cM)) (aU (mO (fB (f2 lI (f2 aH (ah 0) (fC (.int 0))) (fC (.str "word")))) (bM (f2 aH (f2 aH (ah 0) (fC (.int 1))) (f2 cS (ah 1) (fL je (af (f2 aH (ah 0) (fC (.int 1))) (aw)))))) (cM)) (bM (fR aN (af (f2 aH (ah 0) (fC (.int 1))) (af (f2 dN (ah 1) (fC (.int 3))) (af (fL rR (af (f2 cS (ah 1) (fC (.int 3))) (af (fL BX (af (f2 aH (ah 0) (fC (.int 2))) (aw))) (aw)))) (aw)))))))
noncomputable def lY(aA aI aN:List D->R D):cn:=aU (qi 4 (jM (aw))) (aU (jU (bT (f2 ce (f2 aH (ah 0) (fC (.int 0))) (f2 aH (ah 0) (fC (.int 1))))) (gT 2 (kP [5,6])) (aU (mO (nE [4] (fB (f2 uF (fL je (af (ah 4) (aw))) (ah 1)))) (aU (cy 2 (fR (aK bd 1 1) (af (ah 2) (aw)))) (C6 4 ig (af (fR aA (af (ah 6) (af (ah 2) (aw)))) (aw)))) (aU (cy 3 (fR (aK bd 1 1) (af (ah 3) (aw)))) (C6 4 ig (af (fR aA (af (ah 6) (af (ah 3) (aw)))) (aw))))) (dM [5,6] cM))) (kE 4 (bM (fL cP (af (ah 4) (aw))))))
noncomputable def j4(aA aI aN:List D->R D):cn:=aU (qi 3 (jM (aw))) (aU (jU (jf (af (ah 2) (aw))) (gN 4) (aU (cy 1 (fR (aK bd 1 1) (af (ah 1) (aw)))) (aU (C6 3 ig (af (fR aI (af (ah 0) (af (fC (.int 0)) (af (fC (.int 0)) (af (ah 1) (aw)))))) (aw))) (dM [4] cM)))) (kE 3 (bM (fR (aK bQ 2 4) (af (fL je (af (f2 aH (ah 0) (fC (.int 0))) (aw))) (af (ah 3) (aw)))))))
mutual
noncomputable def aA:Nat->List D->R D
 |0=>λ_=>un
 |n+1=>aK (gF (aA n) (aI n) (aN n)) 2 2
noncomputable def aI:Nat->List D->R D
 |0=>λ_=>un
 |n+1=>aK (lY (aA n) (aI n) (aN n)) 4 7
noncomputable def aN:Nat->List D->R D
 |0=>λ_=>un
 |n+1=>aK (j4 (aA n) (aI n) (aN n)) 3 5
end
theorem eU(n:Nat):aA (n+1)=aK (gF (aA n) (aI n) (aN n)) 2 2:=by rw[aA]
theorem jc:∀n:Nat,Ar 2 (aA n)
 |0=>λ_ h=>absurd (by rw[aA]) h
 |n+1=>by rw[eU];exact aQ
theorem i7(n:Nat):aI (n+1)=aK (lY (aA n) (aI n) (aN n)) 4 7:=by rw[aI]
theorem iC:∀n:Nat,Ar 4 (aI n)
 |0=>λ_ h=>absurd (by rw[aI]) h
 |n+1=>by rw[i7];exact aQ
theorem ik(n:Nat):aN (n+1)=aK (j4 (aA n) (aI n) (aN n)) 3 5:=by rw[aN]
theorem jQ:∀n:Nat,Ar 3 (aN n)
 |0=>λ_ h=>absurd (by rw[aN]) h
 |n+1=>by rw[ik];exact aQ
abbrev gC:U2:=top 31
theorem sq:aM ["_law_script","_law_k"] ["_law_script","_law_k"] (ax gC):=‹2›
abbrev jW:U2:=top 33
theorem xg:aM ["_law_script","_law_k","_law_x"] ["_law_script","_law_k"] (ax jW):=‹2›
abbrev jo:U2:=top 42
theorem vp:aM ["_law_form_here","_law_many","_law_script","_law_start","_law_most","_law_rows_here","_law_k","_law_x"] ["_law_form_here","_law_many","_law_script","_law_start","_law_most"] (ax jo):=‹2›
noncomputable def gA:cn:=aU (qi 5 (jM (aw))) (aU (jU (sJ (af (ah 3) (af (fL yX (af (fL rR (af (fL je (af (ah 2) (aw))) (af (f2 ce (ah 3) (fC (.int 5))) (aw)))) (af (f2 ce (ah 3) (ah 4)) (aw)))) (aw)))) (gN 6) (aU (cy 7 (fR (aK cR 2 3) (af (ah 2) (af (ah 6) (aw))))) (aU (C6 5 ig (af (fR (aI 20) (af (ah 0) (af (ah 1) (af (f2 aH (jM (af (f2 cS (f2 dN (ah 7) (fC (.int 2))) (fC (.int 4))) (af (f2 dN (ah 7) (fC (.int 2))) (aw)))) (f2 cS (ah 7) (fC (.int 2)))) (af (fR (aK bd 1 1) (af (ah 7) (aw))) (aw)))))) (aw))) (dM [6,7] cM)))) (kE 5 (bM (fR (aK bQ 2 4) (af (fL je (af (f2 aH (ah 0) (fC (.int 0))) (aw))) (af (ah 5) (aw)))))))
abbrev jj:U2:=top 35
theorem vd:aM ["_law_x","_law_low","_law_letters","_law_one","_law_other","_law_some","_law_kept","_law_k"] ["_law_x"] (ax jj):=‹2›
abbrev iN:U2:=top 36
theorem xP:aM ["_law_x","_law_base","_law_deep_here","_law_inner"] ["_law_x","_law_base","_law_deep_here"] (ax iN):=‹2›
abbrev iU:U2:=top 37
theorem xC:aM ["_law_x","_law_base","_law_start","_law_many","_law_more","_law_deep_here","_law_key","_law_rest","_law_k"] ["_law_x","_law_base","_law_start","_law_many","_law_more","_law_deep_here"] (ax iU):=‹2›
noncomputable def iY(bf aZ:List D->R D):cn:=aU (mO (Ek (fB (f2 lI (ah 2) (fC (.int 0)))) (fB (f2 uF (f2 cS (ah 0) (fC (.int 3))) (fC (.int 2))))) (bM (fR (aK cW 1 8) (af (f2 dN (ah 0) (fC (.int 3))) (aw)))) (cM)) (aU (cy 3 (fR aZ (af (f2 dN (ah 0) (fC (.int 3))) (af (ah 1) (af (f2 cS (f2 dN (ah 0) (fC (.int 36))) (fC (.int 12))) (af (f2 ce (fC (.int 1)) (f2 cS (f2 dN (ah 0) (fC (.int 3))) (fC (.int 2)))) (af (f2 cS (f2 dN (ah 0) (fC (.int 6))) (fC (.int 3))) (af (f2 vz (ah 2) (fC (.int 1))) (aw))))))))) (bM (fF (af (fC (.str "rows")) (af (ah 3) (af (f2 lI (f2 cS (f2 dN (ah 0) (fC (.int 18))) (fC (.int 2))) (fC (.int 1))) (aw)))))))
noncomputable def j5(bf aZ:List D->R D):cn:=aU (qi 6 (jM (aw))) (aU (qi 7 (jM (aw))) (aU (jU (jf (af (f2 ce (ah 3) (ah 4)) (aw))) (gN 8) (aU (cy 0 (fR (aK bd 1 1) (af (ah 0) (aw)))) (aU (mO (fB (f2 uF (ah 8) (ah 3))) (C6 6 ig (af (fF (af (fR (aK cu 2 7) (af (ah 1) (af (f2 ce (ah 2) (ah 8)) (aw)))) (af (fR (aK cW 1 8) (af (ah 0) (aw))) (aw)))) (aw))) (C6 7 ig (af (fF (af (fR (aK cu 2 7) (af (ah 1) (af (f2 ce (ah 2) (ah 8)) (aw)))) (af (fR bf (af (ah 0) (af (ah 1) (af (ah 5) (aw))))) (aw)))) (aw)))) (dM [8] cM)))) (kE 7 (kE 6 (bM (fF (af (fL cP (af (ah 6) (aw))) (af (fL cP (af (ah 7) (aw))) (aw)))))))))
mutual
noncomputable def bf:Nat->List D->R D
 |0=>λ_=>un
 |n+1=>aK (iY (bf n) (aZ n)) 3 4
noncomputable def aZ:Nat->List D->R D
 |0=>λ_=>un
 |n+1=>aK (j5 (bf n) (aZ n)) 6 9
end
theorem fh(n:Nat):bf (n+1)=aK (iY (bf n) (aZ n)) 3 4:=by rw[bf]
theorem nF:∀n:Nat,Ar 3 (bf n)
 |0=>λ_ h=>absurd (by rw[bf]) h
 |n+1=>by rw[fh];exact aQ
theorem hV(n:Nat):aZ (n+1)=aK (j5 (bf n) (aZ n)) 6 9:=by rw[aZ]
theorem jJ:∀n:Nat,Ar 6 (aZ n)
 |0=>λ_ h=>absurd (by rw[aZ]) h
 |n+1=>by rw[hV];exact aQ
abbrev eT:U2:=top 44
theorem o8:aM ["_law_script","_law_fewest","_law_x","_law_base","_law_many","_law_more","_law_deep_here"] ["_law_script","_law_fewest"] (ax eT):=‹2›
noncomputable def dC:cn:=aU (cy 2 (fR (aK cR 2 3) (af (ah 0) (af (fC (.int 0)) (aw))))) (aU (cy 3 (f2 cS (f2 o3 (fR (aK cD 2 2) (af (ah 0) (af (fC (.int 1)) (aw)))) (fC (.int 48271))) (fC (.int 2147483647)))) (aU (cy 4 (f2 ce (ah 1) (f2 cS (ah 2) (f2 vz (fC (.int 5)) (ah 1))))) (aU (cy 5 (f2 cS (f2 dN (ah 2) (fC (.int 8))) (fC (.int 4)))) (aU (cy 6 (f2 aH (jM (af (fC (.int 0)) (af (fC (.int 0)) (af (fC (.int 1)) (af (fC (.int 2)) (aw)))))) (f2 cS (f2 dN (ah 2) (fC (.int 32))) (fC (.int 4))))) (aU (mO (fB (f2 lI (f2 cS (f2 dN (ah 2) (fC (.int 128))) (fC (.int 8))) (fC (.int 3)))) (aU (cy 4 (f2 vz (fC (.int 8)) (f2 cS (f2 dN (ah 2) (fC (.int 1024))) (fC (.int 3))))) (aU (cy 5 (f2 cS (f2 dN (ah 2) (fC (.int 4096))) (fC (.int 9)))) (cy 6 (fC (.int 0))))) (cM)) (bM (fR (aZ 20) (af (fR (aK bd 1 1) (af (ah 2) (aw))) (af (ah 3) (af (fC (.int 0)) (af (ah 4) (af (ah 5) (af (ah 6) (aw))))))))))))))
abbrev uh:U2:=top 47
theorem Ke:aM ["_law_script","_law_form_here","_law_base","_law_x","_law_many","_law_rows_here","_law_table_here","_law_view","_law_names","_law_steps","_law_forms","_law_tables","_law_step","_law_there","_law_put","_law_k"] ["_law_script"] (ax uh):=‹2›
noncomputable def uM:cn:=aU (cy 1 (fR (aK dC 2 7) (af (ah 0) (af (fC (.int 2)) (aw))))) (aU (cy 2 (f2 cS (f2 o3 (fR (aK cD 2 2) (af (ah 0) (af (fC (.int 1)) (aw)))) (fC (.int 48271))) (fC (.int 2147483647)))) (aU (cy 3 (fR (aK bd 1 1) (af (fR (aK cR 2 3) (af (ah 0) (af (fC (.int 2)) (aw)))) (aw)))) (aU (cy 4 (f2 ce (fC (.int 1)) (f2 cS (ah 3) (f2 vz (fL je (af (f2 aH (ah 1) (fC (.int 0))) (aw))) (fC (.int 1)))))) (aU (cy 5 (fR (aK gA 5 8) (af (ah 1) (af (ah 4) (af (ah 0) (af (fC (.int 2)) (af (fC (.int 60)) (aw)))))))) (aU (cy 6 (fL cP (af (kr [none,none,some 3] (fS (af (ah 5) (aw))) (gT 2 (kP [0,1])) (fB (f2 lI (f2 rY (f2 x5 (f2 dN (ah 2) (fC (.int 3))) (f2 cS (ah 0) (fC (.int 20)))) (fC (.int 1))) (fC (.int 1)))) (ah 1)) (aw)))) (aU (cy 7 (fL cP (af (kr [none,none,some 3] (fS (af (ah 5) (aw))) (gT 2 (kP [0,1])) (fB (f2 lI (f2 rY (f2 x5 (f2 dN (ah 2) (fC (.int 5))) (f2 cS (ah 0) (fC (.int 19)))) (fC (.int 1))) (fC (.int 1)))) (ah 1)) (aw)))) (aU (cy 8 (jM (af (fR (aK cu 2 7) (af (ah 2) (af (f2 ce (fC (.int 17)) (f2 cS (f2 dN (ah 3) (fC (.int 64))) (fC (.int 3)))) (aw)))) (af (fR (aK cu 2 7) (af (ah 2) (af (f2 ce (fC (.int 20)) (f2 cS (f2 dN (ah 3) (fC (.int 256))) (fC (.int 3)))) (aw)))) (aw))))) (aU (cy 9 (jM (af (fNew "Nest" ["many","name"] (af (ah 4) (af (f2 aH (ah 8) (fC (.int 0))) (aw)))) (af (fNew "Unnest" ["name"] (af (f2 aH (ah 8) (fC (.int 0))) (aw))) (aw))))) (aU (mO (Fk (fB (f2 N2 (ah 4) (fC (.int 1)))) (Fk (fB (f2 uF (fR (bE 20) (af (ah 1) (aw))) (fC (.int 2)))) (fB (f2 lI (f2 cS (f2 dN (ah 3) (fC (.int 1024))) (fC (.int 2))) (fC (.int 1)))))) (cy 9 (jM (af (f2 aH (ah 9) (fC (.int 0))) (af (fNew "Nest" ["many","name"] (af (f2 ce (fC (.int 1)) (f2 cS (f2 dN (ah 3) (fC (.int 2048))) (f2 vz (ah 4) (fC (.int 1))))) (af (f2 aH (ah 8) (fC (.int 1))) (aw)))) (af (fNew "Unnest" ["name"] (af (f2 aH (ah 8) (fC (.int 1))) (aw))) (af (f2 aH (ah 9) (fC (.int 1))) (aw))))))) (cM)) (aU (EC (fR (aK hJ 3 6) (af (ah 9) (af (ah 1) (af (ah 6) (aw))))) (gT 2 (kP [10,11]))) (aU (mO (Ek (tS (fT (fR (aC 20) (af (f2 aH (ah 10) (mK (fC (.int 1)))) (af (ah 1) (aw)))))) (tS (fT (fR (aC 20) (af (f2 aH (ah 11) (mK (fC (.int 1)))) (af (ah 6) (aw))))))) (bM (fC (.bl false))) (cM)) (dM [0,1,2,3,4,5,6,8] (aU (jU (Dd (af (ah 9) (af (ah 10) (aw)))) (gT 2 (kP [12,13])) (aU (mO (Ek (fB (f2 lN (dS "exact" [("Step",(aK cC 2 2)),("Nest",(aK cC 2 2)),("Unnest",(aK bi 2 2))] (ah 12) (af (ah 13) (aw))) (fC (.bl true)))) (fB (f2 lN (dS "steady" [("Step",(aK bU 2 2)),("Nest",(aK bU 2 2)),("Unnest",(aK bX 2 2))] (ah 12) (af (ah 13) (aw))) (fC (.bl true))))) (bM (fC (.bl false))) (cM)) (dM [12,13] cM))) (aU (cy 14 (ah 7)) (dM [0,1,2,3,4,5,6,8,12,13] (aU (jU (qg (af (f2 vz (fL je (af (ah 9) (aw))) (fC (.int 1))) (af (mK (fC (.int 1))) (af (mK (fC (.int 1))) (aw))))) (gN 15) (aU (cy 14 (dS "put" [("Step",(aK il 4 4)),("Nest",(aK d9 4 4)),("Unnest",(aK cV 4 6))] (f2 aH (ah 9) (ah 15)) (af (f2 aH (ah 10) (ah 15)) (af (f2 aH (ah 11) (ah 15)) (af (ah 14) (aw)))))) (dM [15] cM))) (bM (fR (aC 20) (af (ah 14) (af (ah 7) (aw)))))))))))))))))))))
theorem OU:(["within","row","many"]:List Str).Nodup:=by decide +kernel
theorem N8:(["row","many"]:List Str).Nodup:=by decide +kernel
theorem Pa:(["row","many","taken"]:List Str).Nodup:=by decide +kernel
theorem Ma:(["key","within"]:List Str).Nodup:=by decide +kernel
theorem IP:(["key","within"]:List Str).Nodup:=by decide +kernel
theorem PJ:(["row","many"]:List Str).Nodup:=by decide +kernel
theorem PX:(["field"]:List Str).Nodup:=by decide +kernel
theorem Od:(["field"]:List Str).Nodup:=by decide +kernel
theorem P4:(["kind"]:List Str).Nodup:=by decide +kernel
theorem N9:(["field"]:List Str).Nodup:=by decide +kernel
theorem L5:(["field","inner"]:List Str).Nodup:=by decide +kernel
theorem JD:(["key","within"]:List Str).Nodup:=by decide +kernel
theorem Nc:(["_law_key","_law_found"]:List Str).Nodup:=by decide +kernel
theorem Jw:(["_law_k","_law_row_here","_law_x"]:List Str).Nodup:=by decide +kernel
theorem JO:(["_law_k","_law_row_here","_law_x"]:List Str).Nodup:=by decide +kernel
section
variable{P:UM}{w:UL}{K:Tu}{mg:Str->Option UK}{base:UP}[aW]
theorem vy{n:Nat}{f:UN}(bq:mg "isinstance"=none)(uN:mg "str"=none)(jb:mg "bool"=none)(gb:mg "int"=none)(aL:mg "tuple"=none)(bP:mg "len"=none)(pQ:mg "zip"=none){aC:List D->R D}(eF:Callee P w K mg base (0+n) "_law_alike" ["_law_found","_law_due"] aC)(L__law_alike:Ar 2 aC):cz P w K mg base (0+n) ["_law_found","_law_due","_law_one","_law_other"] "_law_alike" gJ f (cA aC):=
 ⟨λcdv A outer s H E hr hp=>(ak (cG (eQ (gG yu rfl bq rfl uN Ux (aa (xv 1)))) (az (aJ (pM (gG yu rfl bq rfl uN Ux (aa (xv 0))) (sX (qe (d7 hr.units) au (aa (xv 0)) (aa (xv 1)) (cj _)))))) (aX)) (ak (cG (Jj (pC (eQ (gG kK rfl bq rfl jb Uy (aa (xv 1)))) (mH (eQ (gG kK rfl bq rfl jb Uy (aa (xv 0))))))) (az (aJ (pM (gG kK rfl bq rfl jb Uy (aa (xv 1))) (pM (gG kK rfl bq rfl jb Uy (aa (xv 0))) (sX (qe (d7 hr.units) au (aa (xv 0)) (aa (xv 1)) (cj _))))))) (aX)) (ak (cG (eQ (gG ud rfl bq rfl gb Uz (aa (xv 1)))) (az (aJ (pM (gG ud rfl bq rfl gb Uz (aa (xv 0))) (sX (qe (d7 hr.units) au (aa (xv 0)) (aa (xv 1)) (cj _)))))) (aX)) (ak (cG (Jj (pC (oz (eQ (gG AI rfl bq rfl aL UA (aa (xv 0))))) (mH (bG (AZ hr.units) au (bD cE rfl bP PySem.boot_len (ae (aa (xv 0)) (aj))) (bD cE rfl bP PySem.boot_len (ae (aa (xv 1)) (aj))) (cj _))))) (az (aJ (iZ))) (aX)) (ak (eD hp rfl (BJ rfl pQ (ae (aa (xv 0)) (ae (aa (xv 1)) (aj)))) (fM (g:=kP [2,3]) rfl (bC (aP (i:=2) vg.nd rfl ‹1›) (bC (aP (i:=3) vg.nd rfl ‹1›) (eN)))) (ak (cG (oz (eQ (ay eF L__law_alike hr ‹0› (ae (aa (xv 2)) (ae (aa (xv 3)) (aj)))))) (az (aJ (iZ))) (aX)) (bR [2,3] aX))) (az (aJ (iZ))))))))⟩
theorem mS{f__law_alike:UN}{fd__law_alike:Vq}(F__law_alike:uT K "_law_alike" "_law_alike" gJ f__law_alike fd__law_alike)(mz:Binds K fd__law_alike ["_law_found","_law_due"] [])(m__law_alike:mg "_law_alike"=some (.ref f__law_alike))(bq:mg "isinstance"=none)(uN:mg "str"=none)(jb:mg "bool"=none)(gb:mg "int"=none)(aL:mg "tuple"=none)(bP:mg "len"=none)(pQ:mg "zip"=none):∀n:Nat,Callee P w K mg base (0+n) "_law_alike" ["_law_found","_law_due"] (aC n)
 |0=>by
  rw[aC];exact dZ 0 F__law_alike mz m__law_alike
 |n+1=>by
  have ih:=mS F__law_alike mz m__law_alike bq uN jb gb aL bP pQ n;rw[jX];exact bu F__law_alike mz m__law_alike vg (cz.ok (vy bq uN jb gb aL bP pQ ih (fJ n)))
theorem zg{f:UN}:cz P w K mg base 0 ["self","form","table","view"] "Step.put" lX f il:=
 ⟨λcdv A outer s H E hr hp=>(az (aJ (aa (xv 3))))⟩
theorem yK{f:UN}(aL:mg "tuple"=none):cz P w K mg base 0 ["many","table","rows","row"] "unnested" mD f fW:=
 ⟨λcdv A outer s H E hr hp=>(ak (iF (i:=2) y4.nd rfl ‹1› (j9 (aj))) (ak (eD hp rfl (dP (aa (xv 1))) (aP (i:=3) y4.nd rfl ‹1›) (ak (IE (xv 2) (KC (N:=["within","row","many"]) (ix:=[none,some 3,some 0]) rfl (.of rfl) (eO rfl) (dP (aG (aa (xv 3)) (aa (xv 0)) (λ_ _=>rfl))) ⟨λ_ _ _ _ _ _=>⟨aP (i:=0) OU rfl (Or.inl rfl),eZ,ao bh au (gh (aa (xv 1)) (iI) (iJ (aa (xv 2)))) (aa (xv 0))⟩⟩)) (bR [3] aX))) (fH 2 (az (aJ (bF cm rfl aL UA (ae (aa (xv 2)) (aj))))))))⟩
theorem yq{f:UN}(ip:Callee P w K mg base 1 "unnested" ["many","table"] (aK fW 2 4))(bZ:nK K "many" ["Nest"]):cz P w K mg base 1 ["self","form","table","view"] "Nest.put" me f d9:=
 ⟨λcdv A outer s H E hr hp=>(az (aJ (ay ip aQ hr ‹0› (ae (iB bZ (aa (xv 0))) (ae (aa (xv 3)) (aj))))))⟩
theorem xJ{f cL T:UN}(aL:mg "tuple"=none)(gB:mg "sorted"=none)(lamB:CW mg base cL T)(lamC:vP K f (.ref cL))(lamT:∀H,aW.tab H->H T=some (.ext (qq T ⟨36,34,36,56⟩ ((("sorted_by":Str)++".<locals>.")++"<lambda>")))):Gu P w K mg base 0 ["many","rows"] "sorted_by" jY f iM:=
 ⟨fun cdv A outer s H E hc hr hp=>by
  obtain rfl:=hc.one lamC;exact(az (aJ (bF cm rfl aL UA (ae (Dp (j:=0) hr rfl gB lamB rfl lamT (aa (xv 1)) rfl rfl (Or.inr (Or.inl rfl)) rfl rfl rfl (λ_ _ _=>rfl) rfl rfl rfl (by decide) rfl rfl rfl rfl rfl) (aj)))))⟩
theorem D9{f:UN}(qS:mg "dict"=none):cz P w K mg base 0 ["many","rows"] "by_key" pJ f ni:=
 ⟨λcdv A outer s H E hr hp=>(az (aJ (bF (Am rfl hr.units) rfl qS UB (ae (gu (N:=["row","many"]) (ix:=[none,some 0]) rfl (.of rfl) (eO rfl) (dP (aa (xv 1))) ⟨λ_ _ _ _ _ _=>⟨aP (i:=0) N8 rfl (Or.inl rfl),eZ,de (ae (gh (aa (xv 0)) (iI) (iJ (aa (xv 1)))) (ae (aa (xv 0)) (aj)))⟩⟩) (aj)))))⟩
theorem zy{f:UN}(tZ:Callee P w K mg base 1 "by_key" ["many","rows"] (aK ni 2 2))(nc:Callee P w K mg base 1 "sorted_by" ["many","rows"] (aK iM 2 2))(mw:mg "list"=none):cz P w K mg base 1 ["many","rows","others","taken"] "standing" lJ f jI:=
 ⟨λcdv A outer s H E hr hp=>(ak (aR (i:=3) yv.nd rfl ‹1› (ay tZ aQ hr ‹0› (ae (aa (xv 0)) (ae (aa (xv 1)) (aj))))) (az (aJ (ay nc aQ hr ‹0› (ae (aa (xv 0)) (ae (ao bh au (bF Bk rfl mw UC (ae (aa (xv 1)) (aj))) (gu (N:=["row","many","taken"]) (ix:=[none,some 0,some 3]) rfl (.of rfl) (eO rfl) (dP (aa (xv 2))) ⟨λ_ _ _ _ _ _=>⟨aP (i:=0) Pa rfl (Or.inl rfl),mQ (bG (C4 hr.units) au (gh (aa (xv 0)) (iI) (iJ (aa (xv 1)))) (aa (xv 2)) rfl),aa (xv 0)⟩⟩)) (aj)))))))⟩
theorem AW{f:UN}(qS:mg "dict"=none)(aL:mg "tuple"=none):cz P w K mg base 0 ["many","rows","groups","row"] "grouped" ou f fA:=
 ⟨λcdv A outer s H E hr hp=>(ak (G4 (i:=2) AK.nd rfl ‹1›) (ak (eD hp rfl (dP (aa (xv 1))) (aP (i:=3) AK.nd rfl ‹1›) (ak (Hm hr.units (xv 2) (gh (aa (xv 3)) (iI) (iJ (aa (xv 0)))) (gh (aa (xv 3)) (iJ (aa (xv 0))) (iI))) (bR [3] aX))) (CI 2 (az (aJ (bF (Bu rfl hr.units) rfl qS UB (ae (gu (N:=["key","within"]) (ix:=[none,none]) rfl (.of rfl) (iu rfl) (ot (aa (xv 2))) ⟨λ_ _ _ _ _ _=>⟨fM (g:=kP [0,1]) rfl (bC (aP (i:=0) Ma rfl (Or.inl rfl)) (bC (aP (i:=1) Ma rfl (Or.inl rfl)) (eN))),eZ,de (ae (aa (xv 0)) (ae (bF cm rfl aL UA (ae (aa (xv 1)) (aj))) (aj)))⟩⟩) (aj))))))))⟩
theorem uX{f:UN}(gW:Callee P w K mg base 1 "grouped" ["many","rows"] (aK fA 2 4))(o4:Callee P w K mg base 2 "standing" ["many","rows","others"] (aK jI 3 4))(bP:mg "len"=none):cz P w K mg base 2 ["self","form","table","view","many","rows"] "Unnest.put" jm f cV:=
 ⟨λcdv A outer s H E hr hp=>(ak (aR (i:=4) vi.nd rfl ‹1› (bD cE rfl bP PySem.boot_len (ae (aG (aa (xv 1)) (ai) (λ_ _=>rfl)) (aj)))) (ak (by first|exact JT (i:=5) vi.nd rfl ‹1› (N:=["key","within"]) (ix:=[none,none]) rfl (.of rfl) (iu rfl) (ot (ay gW aQ hr ‹0› (ae (aa (xv 4)) (ae (aa (xv 3)) (aj))))) ⟨λ_ _ _ _ _ _=>⟨fM (g:=kP [0,1]) rfl (bC (aP (i:=0) IP rfl (Or.inl rfl)) (bC (aP (i:=1) IP rfl (Or.inl rfl)) (eN))),eZ,ao bh au (aa (xv 0)) (de (ae (aa (xv 1)) (aj)))⟩⟩|exact aR (i:=5) vi.nd rfl ‹1› (gu (N:=["key","within"]) (ix:=[none,none]) rfl (.of rfl) (iu rfl) (ot (ay gW aQ hr ‹0› (ae (aa (xv 4)) (ae (aa (xv 3)) (aj))))) ⟨λ_ _ _ _ _ _=>⟨fM (g:=kP [0,1]) rfl (bC (aP (i:=0) IP rfl (Or.inl rfl)) (bC (aP (i:=1) IP rfl (Or.inl rfl)) (eN))),eZ,ao bh au (aa (xv 0)) (de (ae (aa (xv 1)) (aj)))⟩⟩)) (az (aJ (ay o4 aQ hr ‹0› (ae (aa (xv 4)) (ae (aa (xv 5)) (ae (gu (N:=["row","many"]) (ix:=[none,some 4]) rfl (.of rfl) (eO rfl) (dP (aa (xv 2))) ⟨λ_ _ _ _ _ _=>⟨aP (i:=0) PJ rfl (Or.inl rfl),mQ (bG (d7 hr.units) au (aG (aa (xv 0)) (aa (xv 1)) (λ_ _=>rfl)) (de (aj)) (cj _)),aa (xv 0)⟩⟩) (aj)))))))))⟩
theorem uE{f:UN}:cz P w K mg base 0 ["self","form"] "Step.steady" iz f bU:=
 ⟨λcdv A outer s H E hr hp=>(az (aJ (iZ)))⟩
theorem Bo{f:UN}:cz P w K mg base 0 ["form","place"] "kind_at" oN f gf:=
 ⟨λcdv A outer s H E hr hp=>(az (aJ (aG (aG (ao bh au (aG (aa (xv 0)) (ai) (λ_ _=>rfl)) (aG (aa (xv 0)) (ai) (λ_ _=>rfl))) (aa (xv 1)) (λ_ _=>rfl)) (ai) (λ_ _=>rfl))))⟩
theorem yJ{f:UN}(aL:mg "tuple"=none):cz P w K mg base 0 ["form"] "names_of" mE f eE:=
 ⟨λcdv A outer s H E hr hp=>(az (aJ (bF cm rfl aL UA (ae (gu (N:=["field"]) (ix:=[none]) rfl (.of rfl) (eO rfl) (dP (ao bh au (aG (aa (xv 0)) (ai) (λ_ _=>rfl)) (aG (aa (xv 0)) (ai) (λ_ _=>rfl)))) ⟨λ_ _ _ _ _ _=>⟨aP (i:=0) PX rfl (Or.inl rfl),eZ,aG (aa (xv 0)) (ai) (λ_ _=>rfl)⟩⟩) (aj)))))⟩
theorem zP{f:UN}(gY:Callee P w K mg base 1 "names_of" ["form"] (aK eE 1 1))(e8:mg "enumerate"=none):cz P w K mg base 1 ["form","name","place","other"] "place_of" lU f eX:=
 ⟨λcdv A outer s H E hr hp=>(ak (eD hp rfl (kC rfl e8 (ae (ay gY aQ hr ‹0› (ae (aa (xv 0)) (aj))) (aj))) (fM (g:=kP [2,3]) rfl (bC (aP (i:=2) yh.nd rfl ‹1›) (bC (aP (i:=3) yh.nd rfl ‹1›) (eN)))) (ak (cG (bG (d7 hr.units) au (aa (xv 3)) (aa (xv 1)) (cj _)) (az (aJ (aa (xv 2)))) (aX)) (bR [2,3] aX))) (az (jG)))⟩
theorem sy{f:UN}(jw:Callee P w K mg base 1 "kind_at" ["form","place"] (aK gf 2 2))(ia:Callee P w K mg base 2 "place_of" ["form","name"] (aK eX 2 4))(dR:nK K "name" ["Unnest"]):cz P w K mg base 2 ["self","form"] "Unnest.exact" gD f bi:=
 ⟨λcdv A outer s H E hr hp=>(az (aJ (aG (ay jw aQ hr ‹0› (ae (aa (xv 1)) (ae (ay ia aQ hr ‹0› (ae (aa (xv 1)) (ae (iB dR (aa (xv 0))) (aj)))) (aj)))) (ai) (λ_ _=>rfl))))⟩
theorem rh{f:UN}(su:gO P w K mg base 3 "exact" ["self","form"] [("Unnest",(aK bi 2 2))]):cz P w K mg base 3 ["self","form"] "Unnest.steady" fK f bX:=
 ⟨λcdv A outer s H E hr hp=>(az (aJ (kM su hr ‹0› (aa (xv 0)) (ae (aa (xv 1)) (aj)))))⟩
theorem vk{f:UN}:cz P w K mg base 0 ["self","form"] "Step.exact" jv f cC:=
 ⟨λcdv A outer s H E hr hp=>(az (aJ (iZ)))⟩
theorem pZ{f:UN}:cz P w K mg base 0 ["self","form"] "Step.view_form" e9 f dA:=
 ⟨λcdv A outer s H E hr hp=>(az (aJ (aa (xv 1))))⟩
theorem zv{f:UN}(aL:mg "tuple"=none):cz P w K mg base 0 ["form"] "kinds_of" mG f eB:=
 ⟨λcdv A outer s H E hr hp=>(az (aJ (bF cm rfl aL UA (ae (gu (N:=["field"]) (ix:=[none]) rfl (.of rfl) (eO rfl) (dP (ao bh au (aG (aa (xv 0)) (ai) (λ_ _=>rfl)) (aG (aa (xv 0)) (ai) (λ_ _=>rfl)))) ⟨λ_ _ _ _ _ _=>⟨aP (i:=0) Od rfl (Or.inl rfl),eZ,aG (aa (xv 0)) (ai) (λ_ _=>rfl)⟩⟩) (aj)))))⟩
theorem y9{n:Nat}{f:UN}(iq:Callee P w K mg base 1 "kinds_of" ["form"] (aK eB 1 1))(eL:mg "max"=none){bw:List D->R D}(jN:Callee P w K mg base (1+n) "depth_of" ["form"] bw)(L_depth_of:Ar 1 bw):cz P w K mg base (1+n) ["form"] "depth_of" jR f (jK bw):=
 ⟨λcdv A outer s H E hr hp=>(az (aJ (G3 rfl rfl eL (gu (N:=["kind"]) (ix:=[none]) rfl (.of rfl) (eO rfl) (dP (ay iq aQ hr ‹0› (ae (aa (xv 0)) (aj)))) ⟨λ_ _ _ _ _ _=>⟨aP (i:=0) P4 rfl (Or.inl rfl),mQ (bG (d7 hr.units) au (aG (aa (xv 0)) (ai) (λ_ _=>rfl)) (fD) (cj _)),ao bh au (ai) (ay jN L_depth_of hr ‹0› (ae (aG (aa (xv 0)) (ai) (λ_ _=>rfl)) (aj)))⟩⟩))))⟩
theorem qf{f_depth_of:UN}{fd_depth_of:Vq}(F_depth_of:uT K "depth_of" "depth_of" jR f_depth_of fd_depth_of)(o0:Binds K fd_depth_of ["form"] [])(m_depth_of:mg "depth_of"=some (.ref f_depth_of))(iq:Callee P w K mg base 1 "kinds_of" ["form"] (aK eB 1 1))(eL:mg "max"=none):∀n:Nat,Callee P w K mg base (1+n) "depth_of" ["form"] (bw n)
 |0=>by
  rw[bw];exact dZ 1 F_depth_of o0 m_depth_of
 |n+1=>by
  have ih:=qf F_depth_of o0 m_depth_of iq eL n;rw[fN];exact bu F_depth_of o0 m_depth_of ye (cz.ok (y9 iq eL ih (oT n)))
theorem zA{f:UN}(bq:mg "isinstance"=none)(gb:mg "int"=none)(jb:mg "bool"=none):cz P w K mg base 0 ["value"] "is_whole" mr f jE:=
 ⟨λcdv A outer s H E hr hp=>(az (aJ (pM (gG ud rfl bq rfl gb Uz (aa (xv 0))) (sX (IX (gG kK rfl bq rfl jb Uy (aa (xv 0))))))))⟩
theorem qm{f:UN}(pD:Callee P w K mg base 1 "is_whole" ["value"] (aK jE 1 1))(jN:Callee P w K mg base 21 "depth_of" ["form"] (bw 20))(bZ:nK K "many" ["Nest"])(jn:nK K "name" ["Nest"])(bP:mg "len"=none)(c_MOST_WITHIN:∃t,mg "MOST_WITHIN"=some (.int 3 t)):cz P w K mg base 21 ["self","form","key","inner"] "Nest.view_form" fg f bS:=
 ⟨λcdv A outer s H E hr hp=>(ak (cG (Jj (pC (oz (eQ (ay pD aQ hr ‹0› (ae (iB bZ (aa (xv 0))) (aj))))) (mH (oz (CF MJ oI (pj hr.units) au (ai) (iB bZ (aa (xv 0))) (bD cE rfl bP PySem.boot_len (ae (aG (aa (xv 1)) (ai) (λ_ _=>rfl)) (aj)))))))) (az (jG)) (aX)) (ak (aR (i:=2) pK.nd rfl ‹1› (gh (aG (aa (xv 1)) (ai) (λ_ _=>rfl)) (iI) (iJ (iB bZ (aa (xv 0)))))) (ak (cG (bG (Gx hr.units) au (iB jn (aa (xv 0))) (gu (N:=["field"]) (ix:=[none]) rfl (.of rfl) (eO rfl) (dP (aa (xv 2))) ⟨λ_ _ _ _ _ _=>⟨aP (i:=0) N9 rfl (Or.inl rfl),eZ,aG (aa (xv 0)) (ai) (λ_ _=>rfl)⟩⟩) rfl) (az (jG)) (aX)) (ak (aR (i:=3) pK.nd rfl ‹1› (de (ae (gh (aG (aa (xv 1)) (ai) (λ_ _=>rfl)) (iJ (iB bZ (aa (xv 0)))) (iI)) (ae (aG (aa (xv 1)) (ai) (λ_ _=>rfl)) (aj))))) (ak (cG (bG MA oI (ay jN (oT 20) hr ‹0› (ae (aa (xv 3)) (aj))) (yS rfl c_MOST_WITHIN) (cj _)) (az (jG)) (aX)) (az (aJ (de (ae (aa (xv 2)) (ae (de (ae (de (ae (iB jn (aa (xv 0))) (ae (de (ae (fD) (ae (aa (xv 3)) (ae (iZ) (aj))))) (aj)))) (aj))) (aj)))))))))))⟩
theorem oP{f:UN}(jw:Callee P w K mg base 1 "kind_at" ["form","place"] (aK gf 2 2))(ia:Callee P w K mg base 2 "place_of" ["form","name"] (aK eX 2 4))(gY:Callee P w K mg base 1 "names_of" ["form"] (aK eE 1 1))(dR:nK K "name" ["Unnest"])(bP:mg "len"=none)(Gd:mg "any"=none)(c_MOST_FIELDS:∃t,mg "MOST_FIELDS"=some (.int 8 t)):cz P w K mg base 2 ["self","form","kind","key","inner"] "Unnest.view_form" eG f bH:=
 ⟨λcdv A outer s H E hr hp=>(ak (aR (i:=2) oR.nd rfl ‹1› (ay jw aQ hr ‹0› (ae (aa (xv 1)) (ae (ay ia aQ hr ‹0› (ae (aa (xv 1)) (ae (iB dR (aa (xv 0))) (aj)))) (aj))))) (ak (cG (Jj (pC (bG (AZ hr.units) au (aG (aa (xv 2)) (ai) (λ_ _=>rfl)) (fD) (cj _)) (mH (bG (AZ hr.units) au (bD cE rfl bP PySem.boot_len (ae (aG (aa (xv 1)) (ai) (λ_ _=>rfl)) (aj))) (ai) (cj _))))) (az (jG)) (aX)) (ak (aR (i:=3) oR.nd rfl ‹1› (aG (aa (xv 1)) (ai) (λ_ _=>rfl))) (ak (aR (i:=4) oR.nd rfl ‹1› (aG (aa (xv 2)) (ai) (λ_ _=>rfl))) (ak (cG (eQ (bD (Dv rfl) rfl Gd PyProof.Rows.boot_any (ae (gu (N:=["field","inner"]) (ix:=[none,some 4]) rfl (.of rfl) (eO rfl) (dP (aa (xv 3))) ⟨λ_ _ _ _ _ _=>⟨aP (i:=0) L5 rfl (Or.inl rfl),eZ,qe (Gx hr.units) au (aG (aa (xv 0)) (ai) (λ_ _=>rfl)) (ay gY aQ hr ‹0› (ae (aa (xv 1)) (aj))) rfl⟩⟩) (aj)))) (az (jG)) (aX)) (ak (cG (bG JH oI (ao bh au (bD cE rfl bP PySem.boot_len (ae (aa (xv 3)) (aj))) (bD cE rfl bP PySem.boot_len (ae (aG (aa (xv 4)) (ai) (λ_ _=>rfl)) (aj)))) (yS rfl c_MOST_FIELDS) (cj _)) (az (jG)) (aX)) (az (aJ (de (ae (ao bh au (aa (xv 3)) (aG (aa (xv 4)) (ai) (λ_ _=>rfl))) (ae (aG (aa (xv 4)) (ai) (λ_ _=>rfl)) (aj))))))))))))⟩
theorem yj{f:UN}:cz P w K mg base 0 ["self","form","table"] "Step.got" lV f ic:=
 ⟨λcdv A outer s H E hr hp=>(az (aJ (aa (xv 2))))⟩
theorem za{f:UN}(gW:Callee P w K mg base 1 "grouped" ["many","rows"] (aK fA 2 4))(bZ:nK K "many" ["Nest"])(aL:mg "tuple"=none):cz P w K mg base 1 ["self","form","table"] "Nest.got" lM f eK:=
 ⟨λcdv A outer s H E hr hp=>(az (aJ (bF cm rfl aL UA (ae (gu (N:=["key","within"]) (ix:=[none,none]) rfl (.of rfl) (iu rfl) (ot (ay gW aQ hr ‹0› (ae (iB bZ (aa (xv 0))) (ae (aa (xv 2)) (aj))))) ⟨λ_ _ _ _ _ _=>⟨fM (g:=kP [0,1]) rfl (bC (aP (i:=0) JD rfl (Or.inl rfl)) (bC (aP (i:=1) JD rfl (Or.inl rfl)) (eN))),eZ,ao bh au (aa (xv 0)) (de (ae (aa (xv 1)) (aj)))⟩⟩) (aj)))))⟩
theorem uW{f:UN}(ip:Callee P w K mg base 1 "unnested" ["many","table"] (aK fW 2 4))(bP:mg "len"=none):cz P w K mg base 1 ["self","form","table"] "Unnest.got" jt f cZ:=
 ⟨λcdv A outer s H E hr hp=>(az (aJ (ay ip aQ hr ‹0› (ae (bD cE rfl bP PySem.boot_len (ae (aG (aa (xv 1)) (ai) (λ_ _=>rfl)) (aj))) (ae (aa (xv 2)) (aj))))))⟩
theorem zb{f:UN}(kQ:gO P w K mg base 22 "got" ["self","form","table"] [("Step",(aK ic 3 3)),("Nest",(aK eK 3 3)),("Unnest",(aK cZ 3 3))])(iL:gO P w K mg base 22 "view_form" ["self","form"] [("Step",(aK dA 2 2)),("Nest",(aK bS 2 4)),("Unnest",(aK bH 2 5))]):cz P w K mg base 22 ["_law_steps","_law_form_here","_law_table_here","_law_forms","_law_tables","_law_step"] "_law_way" lP f hJ:=
 ⟨λcdv A outer s H E hr hp=>(ak (iF (i:=3) zX.nd rfl ‹1› (j9 (ae (aa (xv 1)) (aj)))) (ak (iF (i:=4) zX.nd rfl ‹1› (j9 (ae (aa (xv 2)) (aj)))) (bR [1,2] (ak (eD hp rfl (dP (aa (xv 0))) (aP (i:=5) zX.nd rfl ‹1›) (ak (m7 UI UJ eP ga (xv 4) (ae (yQ [3,4] (kM kQ hr ‹0› (aa (xv 5)) (ae (aG (aa (xv 3)) (km (ai)) (λ_ _=>rfl)) (ae (aG (aa (xv 4)) (km (ai)) (λ_ _=>rfl)) (aj))))) (aj))) (ak (m7 UI UJ eP ga (xv 3) (ae (yQ [3] (kM iL hr ‹0› (aa (xv 5)) (ae (aG (aa (xv 3)) (km (ai)) (λ_ _=>rfl)) (aj)))) (aj))) (bR [5] aX)))) (fH 3 (fH 4 (az (aJ (de (ae (aa (xv 3)) (ae (aa (xv 4)) (aj))))))))))))⟩
theorem xQ{n:Nat}{f:UN}(eL:mg "max"=none){bE:List D->R D}(iK:Callee P w K mg base (0+n) "_law_deep" ["_law_form_here"] bE)(L__law_deep:Ar 1 bE):cz P w K mg base (0+n) ["_law_form_here","_law_found","_law_name_here","_law_kind_here"] "_law_deep" iV f (iH bE):=
 ⟨λcdv A outer s H E hr hp=>(ak (aR (i:=1) xK.nd rfl ‹1› (ai)) (ak (eD hp rfl (dP (aG (aa (xv 0)) (ai) (λ_ _=>rfl))) (fM (g:=kP [2,3]) rfl (bC (aP (i:=2) xK.nd rfl ‹1›) (bC (aP (i:=3) xK.nd rfl ‹1›) (eN)))) (ak (cG (bG (d7 hr.units) au (aG (aa (xv 3)) (ai) (λ_ _=>rfl)) (fD) (cj _)) (az (aR (i:=1) xK.nd rfl ‹1› (bD (pB rfl) rfl eL UD (ae (aa (xv 1)) (ae (ao bh au (ai) (ay iK L__law_deep hr ‹0› (ae (aG (aa (xv 3)) (ai) (λ_ _=>rfl)) (aj)))) (aj)))))) (aX)) (bR [2,3] aX))) (az (aJ (aa (xv 1))))))⟩
theorem oV{f__law_deep:UN}{fd__law_deep:Vq}(F__law_deep:uT K "_law_deep" "_law_deep" iV f__law_deep fd__law_deep)(mR:Binds K fd__law_deep ["_law_form_here"] [])(m__law_deep:mg "_law_deep"=some (.ref f__law_deep))(eL:mg "max"=none):∀n:Nat,Callee P w K mg base (0+n) "_law_deep" ["_law_form_here"] (bE n)
 |0=>by
  rw[bE];exact dZ 0 F__law_deep mR m__law_deep
 |n+1=>by
  have ih:=oV F__law_deep mR m__law_deep eL n;rw[fu];exact bu F__law_deep mR m__law_deep xK (cz.ok (xQ eL ih (m9 n)))
theorem xc{f:UN}(bJ:mg "range"=none):cz P w K mg base 0 ["_law_base","_law_k","_law_letters","_law_size","_law_name_here","_law_j","_law_step"] "_law_name" j3 f cu:=
 ⟨λcdv A outer s H E hr hp=>(ak (aR (i:=2) xI.nd rfl ‹1› (fD)) (ak (aR (i:=1) xI.nd rfl ‹1› (ao bB bz (ao bh au (ao kF kG (aa (xv 1)) (aG (js (ae (ai) (ae (ai) (ae (ai) (ae (ai) (ae (ai) (ae (ai) (aj)))))))) (ao bB bz (aa (xv 0)) (ai)) (λ_ _=>rfl))) (ao bn bV (aa (xv 0)) (ai))) (ai))) (ak (aR (i:=0) xI.nd rfl ‹1› (ao bn bV (aa (xv 0)) (ai))) (ak (cG (bG (d7 hr.units) au (ao bB bz (aa (xv 0)) (ai)) (ai) (cj _)) (az (aJ (ao xH au (aG (aa (xv 2)) (ao bB bz (ao bh au (ao bn bV (aa (xv 0)) (ai)) (ao bn bV (aa (xv 1)) (ai))) (ai)) (λ_ _=>rfl)) (ao bh au (ai) (ao bB bz (aa (xv 1)) (ai)))))) (aX)) (ak (aR (i:=3) xI.nd rfl ‹1› (ao bh au (ai) (ao bB bz (ao bn bV (aa (xv 0)) (ai)) (ai)))) (ak (aR (i:=4) xI.nd rfl ‹1› (fD)) (ak (eD hp rfl (mF rfl bJ (ae (aa (xv 3)) (aj))) (aP (i:=5) xI.nd rfl ‹1›) (ak (aR (i:=6) xI.nd rfl ‹1› (ao bn bV (aa (xv 0)) (ao bh au (ai) (ao kF kG (ao kF kG (ai) (aa (xv 5))) (aa (xv 5)))))) (ak (cG (bG (d7 hr.units) au (aa (xv 5)) (ao bB bz (ao bn bV (aa (xv 0)) (ai)) (aa (xv 3))) (cj _)) (az (aR (i:=6) xI.nd rfl ‹1› (ao bh au (aa (xv 6)) (aa (xv 1))))) (aX)) (ak (aR (i:=4) xI.nd rfl ‹1› (ao bh au (aa (xv 4)) (aG (aa (xv 2)) (ao bB bz (aa (xv 6)) (ai)) (λ_ _=>rfl)))) (bR [5,6] aX))))) (az (aJ (aa (xv 4)))))))))))⟩
theorem uk{f:UN}(aL:mg "tuple"=none)(gB:mg "sorted"=none)(mw:mg "list"=none):cz P w K mg base 0 ["_law_many","_law_rows_here","_law_found","_law_row_here"] "_law_sorted" iD f bQ:=
 ⟨λcdv A outer s H E hr hp=>(ak (iF (i:=2) tG.nd rfl ‹1› (wF)) (ak (eD hp rfl (dP (aa (xv 1))) (aP (i:=3) tG.nd rfl ‹1›) (ak (Gg (hr.units) (xv 2) (gh (aa (xv 3)) (iI) (iJ (aa (xv 0)))) (aa (xv 3))) (bR [3] aX))) (fH 2 (az (aJ (bF cm rfl aL UA (ae (gu (N:=["_law_key","_law_found"]) (ix:=[none,some 2]) rfl (.of rfl) (eO rfl) (dP (bD p4 rfl gB my (ae (bF (Af rfl) rfl mw UC (ae (aa (xv 2)) (aj))) (aj)))) ⟨λ_ _ _ _ _ _=>⟨aP (i:=0) Nc rfl (Or.inl rfl),eZ,Hk hr.units (aa (xv 1)) (aa (xv 0)) (λ_ _=>rfl)⟩⟩) (aj))))))))⟩
theorem xE{f:UN}:cz P w K mg base 0 ["_law_x"] "_law_next" kc f bd:=
 ⟨λcdv A outer s H E hr hp=>(az (aJ (ao bB bz (ao bh au (ao bh au (ao kF kG (aa (xv 0)) (aa (xv 0))) (ao kF kG (ai) (aa (xv 0)))) (ai)) (ai))))⟩
theorem vh{n:Nat}{f:UN}(aE:Callee P w K mg base 1 "_law_next" ["_law_x"] (aK bd 1 1))(bK:Callee P w K mg base 1 "_law_sorted" ["_law_many","_law_rows_here"] (aK bQ 2 4))(bP:mg "len"=none)(eL:mg "max"=none)(gb:mg "int"=none)(aL:mg "tuple"=none)(bJ:mg "range"=none){aA:List D->R D}(gH:Callee P w K mg base (1+n) "_law_value" ["_law_kind_here","_law_x"] aA)(L__law_value:Ar 2 aA){aI:List D->R D}(fX:Callee P w K mg base (1+n) "_law_row" ["_law_form_here","_law_many","_law_head","_law_tail"] aI)(L__law_row:Ar 4 aI){aN:List D->R D}(kj:Callee P w K mg base (1+n) "_law_rows" ["_law_form_here","_law_x","_law_many"] aN)(L__law_rows:Ar 3 aN):cz P w K mg base (1+n) ["_law_kind_here","_law_x"] "_law_value" gE f (gF aA aI aN):=
 ⟨λcdv A outer s H E hr hp=>(ak (cG (bG (d7 hr.units) au (aG (aa (xv 0)) (ai) (λ_ _=>rfl)) (fD) (cj _)) (az (aJ (ao bh au (aG (aa (xv 0)) (ai) (λ_ _=>rfl)) (ao bB bz (ao qT qD (aa (xv 1)) (ai)) (ao bh au (ao nz nG (aG (aa (xv 0)) (ai) (λ_ _=>rfl)) (aG (aa (xv 0)) (ai) (λ_ _=>rfl))) (ai)))))) (aX)) (ak (cG (bG (d7 hr.units) au (aG (aa (xv 0)) (ai) (λ_ _=>rfl)) (fD) (cj _)) (az (aJ (aG (aG (aa (xv 0)) (ai) (λ_ _=>rfl)) (ao bB bz (aa (xv 1)) (bD cE rfl bP PySem.boot_len (ae (aG (aa (xv 0)) (ai) (λ_ _=>rfl)) (aj)))) (λ_ _=>rfl)))) (aX)) (az (aJ (ay kj L__law_rows hr ‹0› (ae (aG (aa (xv 0)) (ai) (λ_ _=>rfl)) (ae (ao bn bV (aa (xv 1)) (ai)) (ae (bD (pB rfl) rfl eL UD (ae (ao bB bz (aa (xv 1)) (ai)) (ae (bF AU rfl gb Uz (ae (aG (aa (xv 0)) (ai) (λ_ _=>rfl)) (aj))) (aj)))) (aj)))))))))⟩
theorem zT{n:Nat}{f:UN}(aE:Callee P w K mg base 1 "_law_next" ["_law_x"] (aK bd 1 1))(bK:Callee P w K mg base 1 "_law_sorted" ["_law_many","_law_rows_here"] (aK bQ 2 4))(bP:mg "len"=none)(eL:mg "max"=none)(gb:mg "int"=none)(aL:mg "tuple"=none)(bJ:mg "range"=none){aA:List D->R D}(gH:Callee P w K mg base (1+n) "_law_value" ["_law_kind_here","_law_x"] aA)(L__law_value:Ar 2 aA){aI:List D->R D}(fX:Callee P w K mg base (1+n) "_law_row" ["_law_form_here","_law_many","_law_head","_law_tail"] aI)(L__law_row:Ar 4 aI){aN:List D->R D}(kj:Callee P w K mg base (1+n) "_law_rows" ["_law_form_here","_law_x","_law_many"] aN)(L__law_rows:Ar 3 aN):cz P w K mg base (1+n) ["_law_form_here","_law_many","_law_head","_law_tail","_law_row_here","_law_name_here","_law_kind_here"] "_law_row" jH f (lY aA aI aN):=
 ⟨λcdv A outer s H E hr hp=>(ak (iF (i:=4) zZ.nd rfl ‹1› (j9 (aj))) (ak (eD hp rfl (dP (ao bh au (aG (aa (xv 0)) (ai) (λ_ _=>rfl)) (aG (aa (xv 0)) (ai) (λ_ _=>rfl)))) (fM (g:=kP [5,6]) rfl (bC (aP (i:=5) zZ.nd rfl ‹1›) (bC (aP (i:=6) zZ.nd rfl ‹1›) (eN)))) (ak (cG (zH [4] (bG (pj hr.units) au (bD cE rfl bP PySem.boot_len (ae (aa (xv 4)) (aj))) (aa (xv 1)) (cj _))) (ak (aR (i:=2) zZ.nd rfl ‹1› (ay aE aQ hr ‹0› (ae (aa (xv 2)) (aj)))) (az (m7 UI UJ eP ga (xv 4) (ae (ay gH L__law_value hr ‹0› (ae (aa (xv 6)) (ae (aa (xv 2)) (aj)))) (aj))))) (ak (aR (i:=3) zZ.nd rfl ‹1› (ay aE aQ hr ‹0› (ae (aa (xv 3)) (aj)))) (az (m7 UI UJ eP ga (xv 4) (ae (ay gH L__law_value hr ‹0› (ae (aa (xv 6)) (ae (aa (xv 3)) (aj)))) (aj)))))) (bR [5,6] aX))) (fH 4 (az (aJ (bF cm rfl aL UA (ae (aa (xv 4)) (aj))))))))⟩
theorem xS{n:Nat}{f:UN}(aE:Callee P w K mg base 1 "_law_next" ["_law_x"] (aK bd 1 1))(bK:Callee P w K mg base 1 "_law_sorted" ["_law_many","_law_rows_here"] (aK bQ 2 4))(bP:mg "len"=none)(eL:mg "max"=none)(gb:mg "int"=none)(aL:mg "tuple"=none)(bJ:mg "range"=none){aA:List D->R D}(gH:Callee P w K mg base (1+n) "_law_value" ["_law_kind_here","_law_x"] aA)(L__law_value:Ar 2 aA){aI:List D->R D}(fX:Callee P w K mg base (1+n) "_law_row" ["_law_form_here","_law_many","_law_head","_law_tail"] aI)(L__law_row:Ar 4 aI){aN:List D->R D}(kj:Callee P w K mg base (1+n) "_law_rows" ["_law_form_here","_law_x","_law_many"] aN)(L__law_rows:Ar 3 aN):cz P w K mg base (1+n) ["_law_form_here","_law_x","_law_many","_law_rows_here","_law_k"] "_law_rows" iP f (j4 aA aI aN):=
 ⟨λcdv A outer s H E hr hp=>(ak (iF (i:=3) xA.nd rfl ‹1› (j9 (aj))) (ak (eD hp rfl (mF rfl bJ (ae (aa (xv 2)) (aj))) (aP (i:=4) xA.nd rfl ‹1›) (ak (aR (i:=1) xA.nd rfl ‹1› (ay aE aQ hr ‹0› (ae (aa (xv 1)) (aj)))) (ak (m7 UI UJ eP ga (xv 3) (ae (ay fX L__law_row hr ‹0› (ae (aa (xv 0)) (ae (ai) (ae (ai) (ae (aa (xv 1)) (aj)))))) (aj))) (bR [4] aX)))) (fH 3 (az (aJ (ay bK aQ hr ‹0› (ae (bD cE rfl bP PySem.boot_len (ae (aG (aa (xv 0)) (ai) (λ_ _=>rfl)) (aj))) (ae (aa (xv 3)) (aj)))))))))⟩
theorem mV{f__law_value:UN}{fd__law_value:Vq}(F__law_value:uT K "_law_value" "_law_value" gE f__law_value fd__law_value)(lL:Binds K fd__law_value ["_law_kind_here","_law_x"] [])(m__law_value:mg "_law_value"=some (.ref f__law_value)){f__law_row:UN}{fd__law_row:Vq}(F__law_row:uT K "_law_row" "_law_row" jH f__law_row fd__law_row)(ph:Binds K fd__law_row ["_law_form_here","_law_many","_law_head","_law_tail"] [])(m__law_row:mg "_law_row"=some (.ref f__law_row)){f__law_rows:UN}{fd__law_rows:Vq}(F__law_rows:uT K "_law_rows" "_law_rows" iP f__law_rows fd__law_rows)(mZ:Binds K fd__law_rows ["_law_form_here","_law_x","_law_many"] [])(m__law_rows:mg "_law_rows"=some (.ref f__law_rows))(aE:Callee P w K mg base 1 "_law_next" ["_law_x"] (aK bd 1 1))(bK:Callee P w K mg base 1 "_law_sorted" ["_law_many","_law_rows_here"] (aK bQ 2 4))(bP:mg "len"=none)(eL:mg "max"=none)(gb:mg "int"=none)(aL:mg "tuple"=none)(bJ:mg "range"=none):∀n:Nat,Callee P w K mg base (1+n) "_law_value" ["_law_kind_here","_law_x"] (aA n)/\Callee P w K mg base (1+n) "_law_row" ["_law_form_here","_law_many","_law_head","_law_tail"] (aI n)/\Callee P w K mg base (1+n) "_law_rows" ["_law_form_here","_law_x","_law_many"] (aN n)
 |0=>by
  rw[aA];rw[aI];rw[aN];exact⟨dZ 1 F__law_value lL m__law_value,dZ 1 F__law_row ph m__law_row,dZ 1 F__law_rows mZ m__law_rows⟩
 |n+1=>by
  have ih:=mV F__law_value lL m__law_value F__law_row ph m__law_row F__law_rows mZ m__law_rows aE bK bP eL gb aL bJ n;rw[eU];rw[i7];rw[ik];exact⟨bu F__law_value lL m__law_value vc (cz.ok (vh aE bK bP eL gb aL bJ ih.1 (jc n) ih.2.1 (iC n) ih.2.2 (jQ n))),bu F__law_row ph m__law_row zZ (cz.ok (zT aE bK bP eL gb aL bJ ih.1 (jc n) ih.2.1 (iC n) ih.2.2 (jQ n))),bu F__law_rows mZ m__law_rows xA (cz.ok (xS aE bK bP eL gb aL bJ ih.1 (jc n) ih.2.1 (iC n) ih.2.2 (jQ n)))⟩
theorem sr{f:UN}(bP:mg "len"=none):cz P w K mg base 0 ["_law_script","_law_k"] "_law_cell_at" gC f cD:=
 ⟨λcdv A outer s H E hr hp=>(ak (cG (bG (pj hr.units) au (aa (xv 1)) (bD cE rfl bP PySem.boot_len (ae (aa (xv 0)) (aj))) (cj _)) (az (aJ (aG (aa (xv 0)) (aa (xv 1)) (λ_ _=>rfl)))) (aX)) (az (aJ (ai))))⟩
theorem xt{f:UN}(cB:Callee P w K mg base 1 "_law_cell_at" ["_law_script","_law_k"] (aK cD 2 2))(aE:Callee P w K mg base 1 "_law_next" ["_law_x"] (aK bd 1 1)):cz P w K mg base 1 ["_law_script","_law_k","_law_x"] "_law_seed" jW f cR:=
 ⟨λcdv A outer s H E hr hp=>(ak (aR (i:=2) xg.nd rfl ‹1› (ao bB bz (ao bh au (ao bh au (ao bB bz (ay cB aQ hr ‹0› (ae (aa (xv 0)) (ae (aa (xv 1)) (aj)))) (ai)) (ao kF kG (ao kF kG (ai) (aa (xv 1))) (aa (xv 1)))) (ai)) (ai))) (az (aJ (ay aE aQ hr ‹0› (ae (ay aE aQ hr ‹0› (ae (aa (xv 2)) (aj))) (aj))))))⟩
theorem vA{f:UN}(dB:Callee P w K mg base 2 "_law_seed" ["_law_script","_law_k"] (aK cR 2 3))(fX:Callee P w K mg base 21 "_law_row" ["_law_form_here","_law_many","_law_head","_law_tail"] (aI 20))(aE:Callee P w K mg base 1 "_law_next" ["_law_x"] (aK bd 1 1))(bK:Callee P w K mg base 1 "_law_sorted" ["_law_many","_law_rows_here"] (aK bQ 2 4))(bJ:mg "range"=none)(GR:mg "min"=none)(eL:mg "max"=none)(bP:mg "len"=none):cz P w K mg base 21 ["_law_form_here","_law_many","_law_script","_law_start","_law_most","_law_rows_here","_law_k","_law_x"] "_law_table" jo f gA:=
 ⟨λcdv A outer s H E hr hp=>(ak (iF (i:=5) vp.nd rfl ‹1› (j9 (aj))) (ak (eD hp rfl (Ba rfl bJ (ae (aa (xv 3)) (ae (bD (Ax rfl) rfl GR PyProof.Rows.boot_min (ae (bD (pB rfl) rfl eL UD (ae (bD cE rfl bP PySem.boot_len (ae (aa (xv 2)) (aj))) (ae (ao bh au (aa (xv 3)) (ai)) (aj)))) (ae (ao bh au (aa (xv 3)) (aa (xv 4))) (aj)))) (aj)))) (aP (i:=6) vp.nd rfl ‹1›) (ak (aR (i:=7) vp.nd rfl ‹1› (ay dB aQ hr ‹0› (ae (aa (xv 2)) (ae (aa (xv 6)) (aj))))) (ak (m7 UI UJ eP ga (xv 5) (ae (ay fX (iC 20) hr ‹0› (ae (aa (xv 0)) (ae (aa (xv 1)) (ae (aG (js (ae (ao bB bz (ao bn bV (aa (xv 7)) (ai)) (ai)) (ae (ao bn bV (aa (xv 7)) (ai)) (aj)))) (ao bB bz (aa (xv 7)) (ai)) (λ_ _=>rfl)) (ae (ay aE aQ hr ‹0› (ae (aa (xv 7)) (aj))) (aj)))))) (aj))) (bR [6,7] aX)))) (fH 5 (az (aJ (ay bK aQ hr ‹0› (ae (bD cE rfl bP PySem.boot_len (ae (aG (aa (xv 0)) (ai) (λ_ _=>rfl)) (aj))) (ae (aa (xv 5)) (aj)))))))))⟩
theorem vx{f:UN}(bJ:mg "range"=none)(bP:mg "len"=none)(aL:mg "tuple"=none)(gB:mg "sorted"=none)(mw:mg "list"=none):cz P w K mg base 0 ["_law_x","_law_low","_law_letters","_law_one","_law_other","_law_some","_law_kept","_law_k"] "_law_plain" jj f cW:=
 ⟨λcdv A outer s H E hr hp=>(ak (cG (bG (pj hr.units) au (ao bB bz (aa (xv 0)) (ai)) (ai) (cj _)) (ak (aR (i:=1) vd.nd rfl ‹1› (aG (js (ae (ai) (ae (km (ai)) (ae (ao nz nG (ai) (ao bB bz (ao qT qD (aa (xv 0)) (ai)) (ao qT qD (ai) (ai)))) (ae (ao bB bz (ao qT qD (aa (xv 0)) (ai)) (ao qT qD (ai) (ai))) (aj)))))) (ao bB bz (ao bn bV (aa (xv 0)) (ai)) (ai)) (λ_ _=>rfl))) (az (aJ (de (ae (fD) (ae (aa (xv 1)) (ae (ao bh au (aa (xv 1)) (aG (js (ae (ai) (ae (ai) (ae (ai) (ae (ao qT qD (ai) (ai)) (aj)))))) (ao bB bz (ao bn bV (aa (xv 0)) (ai)) (ai)) (λ_ _=>rfl))) (aj)))))))) (aX)) (ak (aR (i:=2) vd.nd rfl ‹1› (fD)) (ak (aR (i:=3) vd.nd rfl ‹1› (aG (aa (xv 2)) (ao bB bz (ao bn bV (aa (xv 0)) (ai)) (ai)) (λ_ _=>rfl))) (ak (aR (i:=4) vd.nd rfl ‹1› (aG (aa (xv 2)) (ao bB bz (ao bn bV (aa (xv 0)) (ai)) (ai)) (λ_ _=>rfl))) (ak (aR (i:=5) vd.nd rfl ‹1› (js (ae (fD) (ae (aa (xv 3)) (ae (aa (xv 4)) (ae (ao bh au (aa (xv 3)) (aa (xv 4))) (ae (ao bh au (aa (xv 4)) (aa (xv 3))) (ae (ao xH au (aa (xv 3)) (ai)) (ae (ao bh au (aa (xv 3)) (aa (xv 3))) (ae (ao xH au (aa (xv 4)) (ai)) (aj))))))))))) (ak (iF (i:=6) vd.nd rfl ‹1› (wF)) (bR [1,2,4] (ak (eD hp rfl (mF rfl bJ (ae (ai) (aj))) (aP (i:=7) vd.nd rfl ‹1›) (ak (cG (bG (d7 hr.units) au (ao Bj Al (ao AX Br (ao bn bV (aa (xv 0)) (ai)) (aa (xv 7))) (ai)) (ai) (cj _)) (az (yt (hr.units) (xv 6) (aG (aa (xv 5)) (aa (xv 7)) (λ_ _=>rfl)) (iZ))) (aX)) (bR [7] aX))) (ak (cG (zH [6] (bG (d7 hr.units) au (bD C8 rfl bP PySem.boot_len (ae (aa (xv 6)) (aj))) (ai) (cj _))) (az (yt (hr.units) (xv 6) (aa (xv 3)) (iZ))) (aX)) (fH 6 (az (aJ (de (ae (fD) (ae (bF cm rfl aL UA (ae (bD p4 rfl gB my (ae (bF (Be rfl) rfl mw UC (ae (aa (xv 6)) (aj))) (aj))) (aj))) (aj))))))))))))))))⟩
theorem xO{n:Nat}{f:UN}(cY:Callee P w K mg base 1 "_law_plain" ["_law_x"] (aK cW 1 8))(aE:Callee P w K mg base 1 "_law_next" ["_law_x"] (aK bd 1 1))(cw:Callee P w K mg base 1 "_law_name" ["_law_base","_law_k"] (aK cu 2 7))(bJ:mg "range"=none)(aL:mg "tuple"=none){bf:List D->R D}(mY:Callee P w K mg base (1+n) "_law_kind" ["_law_x","_law_base","_law_deep_here"] bf)(L__law_kind:Ar 3 bf){aZ:List D->R D}(gq:Callee P w K mg base (1+n) "_law_form" ["_law_x","_law_base","_law_start","_law_many","_law_more","_law_deep_here"] aZ)(L__law_form:Ar 6 aZ):cz P w K mg base (1+n) ["_law_x","_law_base","_law_deep_here","_law_inner"] "_law_kind" iN f (iY bf aZ):=
 ⟨λcdv A outer s H E hr hp=>(ak (cG (Jj (pC (bG (d7 hr.units) au (aa (xv 2)) (ai) (cj _)) (mH (bG (pj hr.units) au (ao bB bz (aa (xv 0)) (ai)) (ai) (cj _))))) (az (aJ (ay cY aQ hr ‹0› (ae (ao bn bV (aa (xv 0)) (ai)) (aj))))) (aX)) (ak (aR (i:=3) xP.nd rfl ‹1› (ay gq L__law_form hr ‹0› (ae (ao bn bV (aa (xv 0)) (ai)) (ae (aa (xv 1)) (ae (ao bB bz (ao bn bV (aa (xv 0)) (ai)) (ai)) (ae (ao bh au (ai) (ao bB bz (ao bn bV (aa (xv 0)) (ai)) (ai))) (ae (ao bB bz (ao bn bV (aa (xv 0)) (ai)) (ai)) (ae (ao nz nG (aa (xv 2)) (ai)) (aj))))))))) (az (aJ (de (ae (fD) (ae (aa (xv 3)) (ae (qe (d7 hr.units) au (ao bB bz (ao bn bV (aa (xv 0)) (ai)) (ai)) (ai) (cj _)) (aj)))))))))⟩
theorem xk{n:Nat}{f:UN}(cY:Callee P w K mg base 1 "_law_plain" ["_law_x"] (aK cW 1 8))(aE:Callee P w K mg base 1 "_law_next" ["_law_x"] (aK bd 1 1))(cw:Callee P w K mg base 1 "_law_name" ["_law_base","_law_k"] (aK cu 2 7))(bJ:mg "range"=none)(aL:mg "tuple"=none){bf:List D->R D}(mY:Callee P w K mg base (1+n) "_law_kind" ["_law_x","_law_base","_law_deep_here"] bf)(L__law_kind:Ar 3 bf){aZ:List D->R D}(gq:Callee P w K mg base (1+n) "_law_form" ["_law_x","_law_base","_law_start","_law_many","_law_more","_law_deep_here"] aZ)(L__law_form:Ar 6 aZ):cz P w K mg base (1+n) ["_law_x","_law_base","_law_start","_law_many","_law_more","_law_deep_here","_law_key","_law_rest","_law_k"] "_law_form" iU f (j5 bf aZ):=
 ⟨λcdv A outer s H E hr hp=>(ak (iF (i:=6) xC.nd rfl ‹1› (j9 (aj))) (ak (iF (i:=7) xC.nd rfl ‹1› (j9 (aj))) (ak (eD hp rfl (mF rfl bJ (ae (ao bh au (aa (xv 3)) (aa (xv 4))) (aj))) (aP (i:=8) xC.nd rfl ‹1›) (ak (aR (i:=0) xC.nd rfl ‹1› (ay aE aQ hr ‹0› (ae (aa (xv 0)) (aj)))) (ak (cG (bG (pj hr.units) au (aa (xv 8)) (aa (xv 3)) (cj _)) (az (m7 UI UJ eP ga (xv 6) (ae (de (ae (ay cw aQ hr ‹0› (ae (aa (xv 1)) (ae (ao bh au (aa (xv 2)) (aa (xv 8))) (aj)))) (ae (ay cY aQ hr ‹0› (ae (aa (xv 0)) (aj))) (aj)))) (aj)))) (az (m7 UI UJ eP ga (xv 7) (ae (de (ae (ay cw aQ hr ‹0› (ae (aa (xv 1)) (ae (ao bh au (aa (xv 2)) (aa (xv 8))) (aj)))) (ae (ay mY L__law_kind hr ‹0› (ae (aa (xv 0)) (ae (aa (xv 1)) (ae (aa (xv 5)) (aj))))) (aj)))) (aj))))) (bR [8] aX)))) (fH 7 (fH 6 (az (aJ (de (ae (bF cm rfl aL UA (ae (aa (xv 6)) (aj))) (ae (bF cm rfl aL UA (ae (aa (xv 7)) (aj))) (aj)))))))))))⟩
theorem oY{f__law_kind:UN}{fd__law_kind:Vq}(F__law_kind:uT K "_law_kind" "_law_kind" iN f__law_kind fd__law_kind)(nI:Binds K fd__law_kind ["_law_x","_law_base","_law_deep_here"] [])(m__law_kind:mg "_law_kind"=some (.ref f__law_kind)){f__law_form:UN}{fd__law_form:Vq}(F__law_form:uT K "_law_form" "_law_form" iU f__law_form fd__law_form)(nJ:Binds K fd__law_form ["_law_x","_law_base","_law_start","_law_many","_law_more","_law_deep_here"] [])(m__law_form:mg "_law_form"=some (.ref f__law_form))(cY:Callee P w K mg base 1 "_law_plain" ["_law_x"] (aK cW 1 8))(aE:Callee P w K mg base 1 "_law_next" ["_law_x"] (aK bd 1 1))(cw:Callee P w K mg base 1 "_law_name" ["_law_base","_law_k"] (aK cu 2 7))(bJ:mg "range"=none)(aL:mg "tuple"=none):∀n:Nat,Callee P w K mg base (1+n) "_law_kind" ["_law_x","_law_base","_law_deep_here"] (bf n)/\Callee P w K mg base (1+n) "_law_form" ["_law_x","_law_base","_law_start","_law_many","_law_more","_law_deep_here"] (aZ n)
 |0=>by
  rw[bf];rw[aZ];exact⟨dZ 1 F__law_kind nI m__law_kind,dZ 1 F__law_form nJ m__law_form⟩
 |n+1=>by
  have ih:=oY F__law_kind nI m__law_kind F__law_form nJ m__law_form cY aE cw bJ aL n;rw[fh];rw[hV];exact⟨bu F__law_kind nI m__law_kind xP (cz.ok (xO cY aE cw bJ aL ih.1 (nF n) ih.2 (jJ n))),bu F__law_form nJ m__law_form xC (cz.ok (xk cY aE cw bJ aL ih.1 (nF n) ih.2 (jJ n)))⟩
theorem o7{f:UN}(dB:Callee P w K mg base 2 "_law_seed" ["_law_script","_law_k"] (aK cR 2 3))(cB:Callee P w K mg base 1 "_law_cell_at" ["_law_script","_law_k"] (aK cD 2 2))(gq:Callee P w K mg base 21 "_law_form" ["_law_x","_law_base","_law_start","_law_many","_law_more","_law_deep_here"] (aZ 20))(aE:Callee P w K mg base 1 "_law_next" ["_law_x"] (aK bd 1 1)):cz P w K mg base 21 ["_law_script","_law_fewest","_law_x","_law_base","_law_many","_law_more","_law_deep_here"] "_law_drawn_form" eT f dC:=
 ⟨λcdv A outer s H E hr hp=>(ak (aR (i:=2) o8.nd rfl ‹1› (ay dB aQ hr ‹0› (ae (aa (xv 0)) (ae (ai) (aj))))) (ak (aR (i:=3) o8.nd rfl ‹1› (ao bB bz (ao kF kG (ay cB aQ hr ‹0› (ae (aa (xv 0)) (ae (ai) (aj)))) (ai)) (ai))) (ak (aR (i:=4) o8.nd rfl ‹1› (ao bh au (aa (xv 1)) (ao bB bz (aa (xv 2)) (ao nz nG (ai) (aa (xv 1)))))) (ak (aR (i:=5) o8.nd rfl ‹1› (ao bB bz (ao bn bV (aa (xv 2)) (ai)) (ai))) (ak (aR (i:=6) o8.nd rfl ‹1› (aG (js (ae (ai) (ae (ai) (ae (ai) (ae (ai) (aj)))))) (ao bB bz (ao bn bV (aa (xv 2)) (ai)) (ai)) (λ_ _=>rfl))) (ak (cG (bG (d7 hr.units) au (ao bB bz (ao bn bV (aa (xv 2)) (ai)) (ai)) (ai) (cj _)) (ak (aR (i:=4) o8.nd rfl ‹1› (ao nz nG (ai) (ao bB bz (ao bn bV (aa (xv 2)) (ai)) (ai)))) (ak (aR (i:=5) o8.nd rfl ‹1› (ao bB bz (ao bn bV (aa (xv 2)) (ai)) (ai))) (az (aR (i:=6) o8.nd rfl ‹1› (ai))))) (aX)) (az (aJ (ay gq (jJ 20) hr ‹0› (ae (ay aE aQ hr ‹0› (ae (aa (xv 2)) (aj))) (ae (aa (xv 3)) (ae (ai) (ae (aa (xv 4)) (ae (aa (xv 5)) (ae (aa (xv 6)) (aj))))))))))))))))⟩
theorem J3{f:UN}{fd:Vq}(F:uT K "law" "law" uh f fd)(gK:Callee P w K mg base 22 "_law_drawn_form" ["_law_script","_law_fewest"] (aK dC 2 7))(cB:Callee P w K mg base 1 "_law_cell_at" ["_law_script","_law_k"] (aK cD 2 2))(aE:Callee P w K mg base 1 "_law_next" ["_law_x"] (aK bd 1 1))(dB:Callee P w K mg base 2 "_law_seed" ["_law_script","_law_k"] (aK cR 2 3))(mq:Callee P w K mg base 22 "_law_table" ["_law_form_here","_law_many","_law_script","_law_start","_law_most"] (aK gA 5 8))(cw:Callee P w K mg base 1 "_law_name" ["_law_base","_law_k"] (aK cu 2 7))(iK:Callee P w K mg base 20 "_law_deep" ["_law_form_here"] (bE 20))(o5:Callee P w K mg base 23 "_law_way" ["_law_steps","_law_form_here","_law_table_here"] (aK hJ 3 6))(eF:Callee P w K mg base 20 "_law_alike" ["_law_found","_law_due"] (aC 20))(jV:gO P w K mg base 23 "exact" ["self","form"] [("Step",(aK cC 2 2)),("Nest",(aK cC 2 2)),("Unnest",(aK bi 2 2))])(jP:gO P w K mg base 23 "steady" ["self","form"] [("Step",(aK bU 2 2)),("Nest",(aK bU 2 2)),("Unnest",(aK bX 2 2))])(lG:gO P w K mg base 23 "put" ["self","form","table","view"] [("Step",(aK il 4 4)),("Nest",(aK d9 4 4)),("Unnest",(aK cV 4 6))])(pW:o6 P w K mg base 1 "Unnest" ["self","name"] ["name"])(x4:o6 P w K mg base 1 "Nest" ["self","many","name"] ["many","name"])(bP:mg "len"=none)(aL:mg "tuple"=none)(e8:mg "enumerate"=none)(pQ:mg "zip"=none)(bJ:mg "range"=none):jT P w K mg base (oW P w) 24 f fd ["_law_script"] (El K 1 (aK uM 1 16)):=
 xu (k:=23) F Ke (cz.ok ⟨λcdv A outer s H E hr hp=>(ak (aR (i:=1) Ke.nd rfl ‹1› (ay gK aQ hr ‹0› (ae (aa (xv 0)) (ae (ai) (aj))))) (ak (aR (i:=2) Ke.nd rfl ‹1› (ao bB bz (ao kF kG (ay cB aQ hr ‹0› (ae (aa (xv 0)) (ae (ai) (aj)))) (ai)) (ai))) (ak (aR (i:=3) Ke.nd rfl ‹1› (ay aE aQ hr ‹0› (ae (ay dB aQ hr ‹0› (ae (aa (xv 0)) (ae (ai) (aj)))) (aj)))) (ak (aR (i:=4) Ke.nd rfl ‹1› (ao bh au (ai) (ao bB bz (aa (xv 3)) (ao nz nG (bD cE rfl bP PySem.boot_len (ae (aG (aa (xv 1)) (ai) (λ_ _=>rfl)) (aj))) (ai))))) (ak (aR (i:=5) Ke.nd rfl ‹1› (ay mq aQ hr ‹0› (ae (aa (xv 1)) (ae (aa (xv 4)) (ae (aa (xv 0)) (ae (ai) (ae (ai) (aj)))))))) (ak (aR (i:=6) Ke.nd rfl ‹1› (bF cm rfl aL UA (ae (gu (N:=["_law_k","_law_row_here","_law_x"]) (ix:=[none,none,some 3]) rfl (.of rfl) (iu rfl) (kC rfl e8 (ae (aa (xv 5)) (aj))) ⟨λ_ _ _ _ _ _=>⟨fM (g:=kP [0,1]) rfl (bC (aP (i:=0) Jw rfl (Or.inl rfl)) (bC (aP (i:=1) Jw rfl (Or.inl rfl)) (eN))),mQ (bG (d7 hr.units) au (ao Bj Al (ao AX Br (ao bn bV (aa (xv 2)) (ai)) (ao bB bz (aa (xv 0)) (ai))) (ai)) (ai) (cj _)),aa (xv 1)⟩⟩) (aj)))) (ak (aR (i:=7) Ke.nd rfl ‹1› (bF cm rfl aL UA (ae (gu (N:=["_law_k","_law_row_here","_law_x"]) (ix:=[none,none,some 3]) rfl (.of rfl) (iu rfl) (kC rfl e8 (ae (aa (xv 5)) (aj))) ⟨λ_ _ _ _ _ _=>⟨fM (g:=kP [0,1]) rfl (bC (aP (i:=0) JO rfl (Or.inl rfl)) (bC (aP (i:=1) JO rfl (Or.inl rfl)) (eN))),mQ (bG (d7 hr.units) au (ao Bj Al (ao AX Br (ao bn bV (aa (xv 2)) (ai)) (ao bB bz (aa (xv 0)) (ai))) (ai)) (ai) (cj _)),aa (xv 1)⟩⟩) (aj)))) (ak (aR (i:=8) Ke.nd rfl ‹1› (js (ae (ay cw aQ hr ‹0› (ae (aa (xv 2)) (ae (ao bh au (ai) (ao bB bz (ao bn bV (aa (xv 3)) (ai)) (ai))) (aj)))) (ae (ay cw aQ hr ‹0› (ae (aa (xv 2)) (ae (ao bh au (ai) (ao bB bz (ao bn bV (aa (xv 3)) (ai)) (ai))) (aj)))) (aj))))) (ak (aR (i:=9) Ke.nd rfl ‹1› (js (ae (sW x4 hr ‹0› rfl (ae (aa (xv 4)) (ae (aG (aa (xv 8)) (ai) (λ_ _=>rfl)) (aj)))) (ae (sW pW hr ‹0› rfl (ae (aG (aa (xv 8)) (ai) (λ_ _=>rfl)) (aj))) (aj))))) (ak (cG (Jj (Cw (bG JH oI (aa (xv 4)) (ai) (cj _)) (Cw (bG (pj hr.units) au (ay iK (m9 20) hr ‹0› (ae (aa (xv 1)) (aj))) (ai) (cj _)) (GK (bG (d7 hr.units) au (ao bB bz (ao bn bV (aa (xv 3)) (ai)) (ai)) (ai) (cj _)))))) (az (aR (i:=9) Ke.nd rfl ‹1› (js (ae (aG (aa (xv 9)) (ai) (λ_ _=>rfl)) (ae (sW x4 hr ‹0› rfl (ae (ao bh au (ai) (ao bB bz (ao bn bV (aa (xv 3)) (ai)) (ao nz nG (aa (xv 4)) (ai)))) (ae (aG (aa (xv 8)) (ai) (λ_ _=>rfl)) (aj)))) (ae (sW pW hr ‹0› rfl (ae (aG (aa (xv 8)) (ai) (λ_ _=>rfl)) (aj))) (ae (aG (aa (xv 9)) (ai) (λ_ _=>rfl)) (aj)))))))) (aX)) (ak (Hv (ay o5 aQ hr ‹0› (ae (aa (xv 9)) (ae (aa (xv 1)) (ae (aa (xv 6)) (aj))))) (fM (g:=kP [10,11]) rfl (bC (aP (i:=10) Ke.nd rfl ‹1›) (bC (aP (i:=11) Ke.nd rfl ‹1›) (eN))))) (ak (cG (Jj (pC (oz (eQ (ay eF (fJ 20) hr ‹0› (ae (aG (aa (xv 10)) (km (ai)) (λ_ _=>rfl)) (ae (aa (xv 1)) (aj)))))) (mH (oz (eQ (ay eF (fJ 20) hr ‹0› (ae (aG (aa (xv 11)) (km (ai)) (λ_ _=>rfl)) (ae (aa (xv 6)) (aj))))))))) (az (aJ (iZ))) (aX)) (bR [0,1,2,3,4,5,6,8] (ak (eD hp rfl (BJ rfl pQ (ae (aa (xv 9)) (ae (aa (xv 10)) (aj)))) (fM (g:=kP [12,13]) rfl (bC (aP (i:=12) Ke.nd rfl ‹1›) (bC (aP (i:=13) Ke.nd rfl ‹1›) (eN)))) (ak (cG (Jj (pC (bG vV au (kM jV hr ‹0› (aa (xv 12)) (ae (aa (xv 13)) (aj))) (iZ) rfl) (mH (bG vV au (kM jP hr ‹0› (aa (xv 12)) (ae (aa (xv 13)) (aj))) (iZ) rfl)))) (az (aJ (iZ))) (aX)) (bR [12,13] aX))) (ak (aR (i:=14) Ke.nd rfl ‹1› (aa (xv 7))) (bR [0,1,2,3,4,5,6,8,12,13] (ak (eD hp rfl (Aw rfl bJ (ae (ao nz nG (bD cE rfl bP PySem.boot_len (ae (aa (xv 9)) (aj))) (ai)) (ae (km (ai)) (ae (km (ai)) (aj))))) (aP (i:=15) Ke.nd rfl ‹1›) (ak (aR (i:=14) Ke.nd rfl ‹1› (kM lG hr ‹0› (aG (aa (xv 9)) (aa (xv 15)) (λ_ _=>rfl)) (ae (aG (aa (xv 10)) (aa (xv 15)) (λ_ _=>rfl)) (ae (aG (aa (xv 11)) (aa (xv 15)) (λ_ _=>rfl)) (ae (aa (xv 14)) (aj)))))) (bR [15] aX))) (az (aJ (ay eF (fJ 20) hr ‹0› (ae (aa (xv 14)) (ae (aa (xv 7)) (aj)))))))))))))))))))))))⟩)
theorem zQ{C f:UN}{fd:Vq}(h1:clsAt K "Unnest" C)(hM:Mk K C f)(cl:yH K C)(na:∀g∈(["name"]:List Str),kz K C g)(F:uT K "__init__" "Unnest.__init__" eW f fd)(b:Binds K fd ["self","name"] [])(hmg:mg "Unnest"=some (.ref C)):o6 P w K mg base 1 "Unnest" ["self","name"] ["name"]:=
 vN (k:=0) h1 hM cl na F b hmg oZ rfl (by decide +kernel) (by decide) λcdv A outer s H E=>(wz rfl (pv 0) (pv 1) rfl)
theorem CG{C f:UN}{fd:Vq}(h1:clsAt K "Nest" C)(hM:Mk K C f)(cl:yH K C)(na:∀g∈(["many","name"]:List Str),kz K C g)(F:uT K "__init__" "Nest.__init__" fP f fd)(b:Binds K fd ["self","many","name"] [])(hmg:mg "Nest"=some (.ref C)):o6 P w K mg base 1 "Nest" ["self","many","name"] ["many","name"]:=
 vN (k:=0) h1 hM cl na F b hmg qA rfl (by decide +kernel) (by decide) λcdv A outer s H E=>(Bt rfl (pv 0) (pv 1) rfl (wz rfl (pv 0) (pv 2) rfl))
end
theorem AH{us:List UK}(h:us.length=1):∃u0,us=[u0]:=match us,h with|[u0],_=>⟨u0,rfl⟩
theorem kD{us:List UK}(h:us.length=2):∃u0 u1,us=[u0,u1]:=match us,h with|[u0,u1],_=>⟨u0,u1,rfl⟩
theorem zO{us:List UK}(h:us.length=3):∃u0 u1 u2,us=[u0,u1,u2]:=match us,h with|[u0,u1,u2],_=>⟨u0,u1,u2,rfl⟩
theorem Ir{us:List UK}(h:us.length=4):∃u0 u1 u2 u3,us=[u0,u1,u2,u3]:=match us,h with|[u0,u1,u2,u3],_=>⟨u0,u1,u2,u3,rfl⟩
theorem Og{us:List UK}(h:us.length=5):∃u0 u1 u2 u3 u4,us=[u0,u1,u2,u3,u4]:=match us,h with|[u0,u1,u2,u3,u4],_=>⟨u0,u1,u2,u3,u4,rfl⟩
theorem Ow{us:List UK}(h:us.length=6):∃u0 u1 u2 u3 u4 u5,us=[u0,u1,u2,u3,u4,u5]:=match us,h with|[u0,u1,u2,u3,u4,u5],_=>⟨u0,u1,u2,u3,u4,u5,rfl⟩
theorem all_mk{l:T7}{w:UL}{K:Tu}{h:UP}{mg:Str->Option UK}{fa:UN}(X:K.In h)(G:h.Ns UT mg)(hfa:mg "law"=some (.ref fa)){f1 f2:UN}
  (ac0:TY K UT "Nest"=some (some (.ref Cl0)))
  (ac1:TY K UT "Unnest"=some (some (.ref Cl1)))
  (ac2:TY K UT "Step"=some (some (.ref Cl2)))
  (a0:TY K UT "_law_alike"=some (some (.ref f0)))
  (l0:Lk K f0 "_law_alike" "_law_alike" gJ oc0 od0 kV0 dc0 pm0 an0 cd0 ct0 sl0)
  (c0:TV K cd0 "_law_alike"=true)
  (k0:TN K (.ref f0)=true)
  (a1:Tz K (.ref Cl2) "put"=some (some (.ref f1)))
  (i1:TF K (.ref f1)=true)
  (l1:Lk K f1 "put" "Step.put" lX oc1 od1 kV1 dc1 pm1 an1 cd1 ct1 sl1)
  (c1:TV K cd1 "Step.put"=true)
  (k1:TN K (.ref f1)=true)
  (a2:TY K UT "unnested"=some (some (.ref f2)))
  (l2:Lk K f2 "unnested" "unnested" mD oc2 od2 kV2 dc2 pm2 an2 cd2 ct2 sl2)
  (c2:TV K cd2 "unnested"=true)
  (k2:TN K (.ref f2)=true)
  (a3:Tz K (.ref Cl0) "put"=some (some (.ref f3)))
  (i3:TF K (.ref f3)=true)
  (l3:Lk K f3 "put" "Nest.put" me oc3 od3 kV3 dc3 pm3 an3 cd3 ct3 sl3)
  (c3:TV K cd3 "Nest.put"=true)
  (k3:TN K (.ref f3)=true)
  (a4:TY K UT "sorted_by"=some (some (.ref f4)))
  (l4:Lk K f4 "sorted_by" "sorted_by" jY oc4 od4 kV4 dc4 pm4 an4 cd4 ct4 sl4)
  (c4:TV K cd4 "sorted_by"=true)
  (k4:TN K (.ref f4)=true)
  (a5:TY K UT "by_key"=some (some (.ref f5)))
  (l5:Lk K f5 "by_key" "by_key" pJ oc5 od5 kV5 dc5 pm5 an5 cd5 ct5 sl5)
  (c5:TV K cd5 "by_key"=true)
  (k5:TN K (.ref f5)=true)
  (a6:TY K UT "standing"=some (some (.ref f6)))
  (l6:Lk K f6 "standing" "standing" lJ oc6 od6 kV6 dc6 pm6 an6 cd6 ct6 sl6)
  (c6:TV K cd6 "standing"=true)
  (k6:TN K (.ref f6)=true)
  (a7:TY K UT "grouped"=some (some (.ref f7)))
  (l7:Lk K f7 "grouped" "grouped" ou oc7 od7 kV7 dc7 pm7 an7 cd7 ct7 sl7)
  (c7:TV K cd7 "grouped"=true)
  (k7:TN K (.ref f7)=true)
  (a8:Tz K (.ref Cl1) "put"=some (some (.ref f8)))
  (i8:TF K (.ref f8)=true)
  (l8:Lk K f8 "put" "Unnest.put" jm oc8 od8 kV8 dc8 pm8 an8 cd8 ct8 sl8)
  (c8:TV K cd8 "Unnest.put"=true)
  (k8:TN K (.ref f8)=true)
  (a9:Tz K (.ref Cl0) "steady"=some (some (.ref f9)))
  (a9_2:Tz K (.ref Cl2) "steady"=some (some (.ref f9)))
  (i9:TF K (.ref f9)=true)
  (l9:Lk K f9 "steady" "Step.steady" iz oc9 od9 kV9 dc9 pm9 an9 cd9 ct9 sl9)
  (c9:TV K cd9 "Step.steady"=true)
  (k9:TN K (.ref f9)=true)
  (a10:TY K UT "kind_at"=some (some (.ref f10)))
  (l10:Lk K f10 "kind_at" "kind_at" oN oc10 od10 kV10 dc10 pm10 an10 cd10 ct10 sl10)
  (c10:TV K cd10 "kind_at"=true)
  (k10:TN K (.ref f10)=true)
  (a11:TY K UT "names_of"=some (some (.ref f11)))
  (l11:Lk K f11 "names_of" "names_of" mE oc11 od11 kV11 dc11 pm11 an11 cd11 ct11 sl11)
  (c11:TV K cd11 "names_of"=true)
  (k11:TN K (.ref f11)=true)
  (a12:TY K UT "place_of"=some (some (.ref f12)))
  (l12:Lk K f12 "place_of" "place_of" lU oc12 od12 kV12 dc12 pm12 an12 cd12 ct12 sl12)
  (c12:TV K cd12 "place_of"=true)
  (k12:TN K (.ref f12)=true)
  (a13:Tz K (.ref Cl1) "exact"=some (some (.ref f13)))
  (i13:TF K (.ref f13)=true)
  (l13:Lk K f13 "exact" "Unnest.exact" gD oc13 od13 kV13 dc13 pm13 an13 cd13 ct13 sl13)
  (c13:TV K cd13 "Unnest.exact"=true)
  (k13:TN K (.ref f13)=true)
  (a14:Tz K (.ref Cl1) "steady"=some (some (.ref f14)))
  (i14:TF K (.ref f14)=true)
  (l14:Lk K f14 "steady" "Unnest.steady" fK oc14 od14 kV14 dc14 pm14 an14 cd14 ct14 sl14)
  (c14:TV K cd14 "Unnest.steady"=true)
  (k14:TN K (.ref f14)=true)
  (a15:Tz K (.ref Cl0) "exact"=some (some (.ref f15)))
  (a15_2:Tz K (.ref Cl2) "exact"=some (some (.ref f15)))
  (i15:TF K (.ref f15)=true)
  (l15:Lk K f15 "exact" "Step.exact" jv oc15 od15 kV15 dc15 pm15 an15 cd15 ct15 sl15)
  (c15:TV K cd15 "Step.exact"=true)
  (k15:TN K (.ref f15)=true)
  (a16:Tz K (.ref Cl2) "view_form"=some (some (.ref f16)))
  (i16:TF K (.ref f16)=true)
  (l16:Lk K f16 "view_form" "Step.view_form" e9 oc16 od16 kV16 dc16 pm16 an16 cd16 ct16 sl16)
  (c16:TV K cd16 "Step.view_form"=true)
  (k16:TN K (.ref f16)=true)
  (a17:TY K UT "kinds_of"=some (some (.ref f17)))
  (l17:Lk K f17 "kinds_of" "kinds_of" mG oc17 od17 kV17 dc17 pm17 an17 cd17 ct17 sl17)
  (c17:TV K cd17 "kinds_of"=true)
  (k17:TN K (.ref f17)=true)
  (a18:TY K UT "depth_of"=some (some (.ref f18)))
  (l18:Lk K f18 "depth_of" "depth_of" jR oc18 od18 kV18 dc18 pm18 an18 cd18 ct18 sl18)
  (c18:TV K cd18 "depth_of"=true)
  (k18:TN K (.ref f18)=true)
  (a19:TY K UT "is_whole"=some (some (.ref f19)))
  (l19:Lk K f19 "is_whole" "is_whole" mr oc19 od19 kV19 dc19 pm19 an19 cd19 ct19 sl19)
  (c19:TV K cd19 "is_whole"=true)
  (k19:TN K (.ref f19)=true)
  (a20:Tz K (.ref Cl0) "view_form"=some (some (.ref f20)))
  (i20:TF K (.ref f20)=true)
  (l20:Lk K f20 "view_form" "Nest.view_form" fg oc20 od20 kV20 dc20 pm20 an20 cd20 ct20 sl20)
  (c20:TV K cd20 "Nest.view_form"=true)
  (k20:TN K (.ref f20)=true)
  (a21:Tz K (.ref Cl1) "view_form"=some (some (.ref f21)))
  (i21:TF K (.ref f21)=true)
  (l21:Lk K f21 "view_form" "Unnest.view_form" eG oc21 od21 kV21 dc21 pm21 an21 cd21 ct21 sl21)
  (c21:TV K cd21 "Unnest.view_form"=true)
  (k21:TN K (.ref f21)=true)
  (a22:Tz K (.ref Cl2) "got"=some (some (.ref f22)))
  (i22:TF K (.ref f22)=true)
  (l22:Lk K f22 "got" "Step.got" lV oc22 od22 kV22 dc22 pm22 an22 cd22 ct22 sl22)
  (c22:TV K cd22 "Step.got"=true)
  (k22:TN K (.ref f22)=true)
  (a23:Tz K (.ref Cl0) "got"=some (some (.ref f23)))
  (i23:TF K (.ref f23)=true)
  (l23:Lk K f23 "got" "Nest.got" lM oc23 od23 kV23 dc23 pm23 an23 cd23 ct23 sl23)
  (c23:TV K cd23 "Nest.got"=true)
  (k23:TN K (.ref f23)=true)
  (a24:Tz K (.ref Cl1) "got"=some (some (.ref f24)))
  (i24:TF K (.ref f24)=true)
  (l24:Lk K f24 "got" "Unnest.got" jt oc24 od24 kV24 dc24 pm24 an24 cd24 ct24 sl24)
  (c24:TV K cd24 "Unnest.got"=true)
  (k24:TN K (.ref f24)=true)
  (a25:TY K UT "_law_way"=some (some (.ref f25)))
  (l25:Lk K f25 "_law_way" "_law_way" lP oc25 od25 kV25 dc25 pm25 an25 cd25 ct25 sl25)
  (c25:TV K cd25 "_law_way"=true)
  (k25:TN K (.ref f25)=true)
  (a26:TY K UT "_law_deep"=some (some (.ref f26)))
  (l26:Lk K f26 "_law_deep" "_law_deep" iV oc26 od26 kV26 dc26 pm26 an26 cd26 ct26 sl26)
  (c26:TV K cd26 "_law_deep"=true)
  (k26:TN K (.ref f26)=true)
  (a27:TY K UT "_law_name"=some (some (.ref f27)))
  (l27:Lk K f27 "_law_name" "_law_name" j3 oc27 od27 kV27 dc27 pm27 an27 cd27 ct27 sl27)
  (c27:TV K cd27 "_law_name"=true)
  (k27:TN K (.ref f27)=true)
  (a28:TY K UT "_law_sorted"=some (some (.ref f28)))
  (l28:Lk K f28 "_law_sorted" "_law_sorted" iD oc28 od28 kV28 dc28 pm28 an28 cd28 ct28 sl28)
  (c28:TV K cd28 "_law_sorted"=true)
  (k28:TN K (.ref f28)=true)
  (a29:TY K UT "_law_next"=some (some (.ref f29)))
  (l29:Lk K f29 "_law_next" "_law_next" kc oc29 od29 kV29 dc29 pm29 an29 cd29 ct29 sl29)
  (c29:TV K cd29 "_law_next"=true)
  (k29:TN K (.ref f29)=true)
  (a30:TY K UT "_law_value"=some (some (.ref f30)))
  (l30:Lk K f30 "_law_value" "_law_value" gE oc30 od30 kV30 dc30 pm30 an30 cd30 ct30 sl30)
  (c30:TV K cd30 "_law_value"=true)
  (k30:TN K (.ref f30)=true)
  (a31:TY K UT "_law_row"=some (some (.ref f31)))
  (l31:Lk K f31 "_law_row" "_law_row" jH oc31 od31 kV31 dc31 pm31 an31 cd31 ct31 sl31)
  (c31:TV K cd31 "_law_row"=true)
  (k31:TN K (.ref f31)=true)
  (a32:TY K UT "_law_rows"=some (some (.ref f32)))
  (l32:Lk K f32 "_law_rows" "_law_rows" iP oc32 od32 kV32 dc32 pm32 an32 cd32 ct32 sl32)
  (c32:TV K cd32 "_law_rows"=true)
  (k32:TN K (.ref f32)=true)
  (a33:TY K UT "_law_cell_at"=some (some (.ref f33)))
  (l33:Lk K f33 "_law_cell_at" "_law_cell_at" gC oc33 od33 kV33 dc33 pm33 an33 cd33 ct33 sl33)
  (c33:TV K cd33 "_law_cell_at"=true)
  (k33:TN K (.ref f33)=true)
  (a34:TY K UT "_law_seed"=some (some (.ref f34)))
  (l34:Lk K f34 "_law_seed" "_law_seed" jW oc34 od34 kV34 dc34 pm34 an34 cd34 ct34 sl34)
  (c34:TV K cd34 "_law_seed"=true)
  (k34:TN K (.ref f34)=true)
  (a35:TY K UT "_law_table"=some (some (.ref f35)))
  (l35:Lk K f35 "_law_table" "_law_table" jo oc35 od35 kV35 dc35 pm35 an35 cd35 ct35 sl35)
  (c35:TV K cd35 "_law_table"=true)
  (k35:TN K (.ref f35)=true)
  (a36:TY K UT "_law_plain"=some (some (.ref f36)))
  (l36:Lk K f36 "_law_plain" "_law_plain" jj oc36 od36 kV36 dc36 pm36 an36 cd36 ct36 sl36)
  (c36:TV K cd36 "_law_plain"=true)
  (k36:TN K (.ref f36)=true)
  (a37:TY K UT "_law_kind"=some (some (.ref f37)))
  (l37:Lk K f37 "_law_kind" "_law_kind" iN oc37 od37 kV37 dc37 pm37 an37 cd37 ct37 sl37)
  (c37:TV K cd37 "_law_kind"=true)
  (k37:TN K (.ref f37)=true)
  (a38:TY K UT "_law_form"=some (some (.ref f38)))
  (l38:Lk K f38 "_law_form" "_law_form" iU oc38 od38 kV38 dc38 pm38 an38 cd38 ct38 sl38)
  (c38:TV K cd38 "_law_form"=true)
  (k38:TN K (.ref f38)=true)
  (a39:TY K UT "_law_drawn_form"=some (some (.ref f39)))
  (l39:Lk K f39 "_law_drawn_form" "_law_drawn_form" eT oc39 od39 kV39 dc39 pm39 an39 cd39 ct39 sl39)
  (c39:TV K cd39 "_law_drawn_form"=true)
  (k39:TN K (.ref f39)=true)
  (a40:TY K UT "law"=some (some (.ref f40)))
  (l40:Lk K f40 "law" "law" uh oc40 od40 kV40 dc40 pm40 an40 cd40 ct40 sl40)
  (c40:TV K cd40 "law"=true)
  (k40:TN K (.ref f40)=true)
  (a41:Tz K (.ref Cl1) "__init__"=some (some (.ref f41)))
  (i41:TF K (.ref f41)=true)
  (l41:Lk K f41 "__init__" "Unnest.__init__" eW oc41 od41 kV41 dc41 pm41 an41 cd41 ct41 sl41)
  (c41:TV K cd41 "Unnest.__init__"=true)
  (k41:TN K (.ref f41)=true)
  (a42:Tz K (.ref Cl0) "__init__"=some (some (.ref f42)))
  (i42:TF K (.ref f42)=true)
  (l42:Lk K f42 "__init__" "Nest.__init__" fP oc42 od42 kV42 dc42 pm42 an42 cd42 ct42 sl42)
  (c42:TV K cd42 "Nest.__init__"=true)
  (k42:TN K (.ref f42)=true)
  (p0:Tw K Cl0 Str.empty=true)
  (q0:Tx K Cl0=true)
  (r0:TH K Cl0=true)
  (s0:Tz K (.ref Cl0) "__setattr__"=some (some (.builtin "object.__setattr__")))
  (n0_0:Tz K (.ref Cl0) "many"=some none)
  (n0_1:Tz K (.ref Cl0) "name"=some none)
  (m0:TK K Cl0=true)
  (kp0:TN K (.ref Cl0)=true)
  (p1:Tw K Cl1 Str.empty=true)
  (q1:Tx K Cl1=true)
  (r1:TH K Cl1=true)
  (s1:Tz K (.ref Cl1) "__setattr__"=some (some (.builtin "object.__setattr__")))
  (n1_0:Tz K (.ref Cl1) "name"=some none)
  (m1:TK K Cl1=true)
  (kp1:TN K (.ref Cl1)=true)
  (p2:Tw K Cl2 Str.empty=true)
  (q2:Tx K Cl2=true)
  (r2:TH K Cl2=true)
  (s2:Tz K (.ref Cl2) "__setattr__"=some (some (.builtin "object.__setattr__")))
  (z0:TY K UT "isinstance"=some none)
  (z1:TY K UT "str"=some none)
  (z2:TY K UT "bool"=some none)
  (z3:TY K UT "int"=some none)
  (z4:TY K UT "tuple"=some none)
  (z5:TY K UT "len"=some none)
  (z6:TY K UT "zip"=some none)
  (z7:TY K UT "sorted"=some none)
  (z8:TY K UT "dict"=some none)
  (z9:TY K UT "list"=some none)
  (z10:TY K UT "enumerate"=some none)
  (z11:TY K UT "max"=some none)
  (z12:TY K UT "any"=some none)
  (z13:TY K UT "range"=some none)
  (z14:TY K UT "min"=some none)
  (e0:TY K UT "MOST_WITHIN"=some (some (.int 3 tk0)))
  (e1:TY K UT "MOST_FIELDS"=some (some (.int 8 tk1)))
  (lc:cd4=.ref cL)
  (lh:T9 K cL T=true)
  (lt:K.lookup T=none):
  (∃c,T9 K c T=true)/\K.lookup T=none/\∃fd:Vq,(∀(s:UX)(v:UK),Vr s fd ⟨[v],[]⟩ [("_law_script",v)])/\∀base:UP,K.In base->base.Ns UT mg->As mg base->jT l.prog w K mg base (oW l.prog w) 24 fa fd ["_law_script"] (@El (w8 T ⟨36,34,36,56⟩ ((("sorted_by":Str)++".<locals>.")++"<lambda>")) K 1 (aK uM 1 16)):=by
 letI:aW:=w8 T ⟨36,34,36,56⟩ ((("sorted_by":Str)++".<locals>.")++"<lambda>")
 have e:=hfa.symm.trans (Ua X G a40);cases e;have bq:=Ub X G z0;have uN:=Ub X G z1;have jb:=Ub X G z2;have gb:=Ub X G z3;have aL:=Ub X G z4;have bP:=Ub X G z5;have pQ:=Ub X G z6;have gB:=Ub X G z7;have qS:=Ub X G z8;have mw:=Ub X G z9;have e8:=Ub X G z10;have eL:=Ub X G z11;have Gd:=Ub X G z12;have bJ:=Ub X G z13;have GR:=Ub X G z14;have c_MOST_WITHIN:∃t,mg "MOST_WITHIN"=some (.int 3 t):=⟨_,Ua X G e0⟩
 have c_MOST_FIELDS:∃t,mg "MOST_FIELDS"=some (.int 8 t):=⟨_,Ua X G e1⟩
 have F0:=bA (st:=gJ) l0 c0 k0;have b0:=F0.binds (ps:=["_law_found","_law_due"]) λ_ _ _ _ _ _ us hl=>by obtain⟨u0,u1,rfl⟩:=kD hl;rfl
 have F1:=bA (st:=lX) l1 c1 k1;have b1:=F1.binds (ps:=["self","form","table","view"]) λ_ _ _ _ _ _ us hl=>by obtain⟨u0,u1,u2,u3,rfl⟩:=Ir hl;rfl
 have F2:=bA (st:=mD) l2 c2 k2;have b2:=F2.binds (ps:=["many","table"]) λ_ _ _ _ _ _ us hl=>by obtain⟨u0,u1,rfl⟩:=kD hl;rfl
 have F3:=bA (st:=me) l3 c3 k3;have b3:=F3.binds (ps:=["self","form","table","view"]) λ_ _ _ _ _ _ us hl=>by obtain⟨u0,u1,u2,u3,rfl⟩:=Ir hl;rfl
 have F4:=bA (st:=jY) l4 c4 k4;have b4:=F4.binds (ps:=["many","rows"]) λ_ _ _ _ _ _ us hl=>by obtain⟨u0,u1,rfl⟩:=kD hl;rfl
 have F5:=bA (st:=pJ) l5 c5 k5;have b5:=F5.binds (ps:=["many","rows"]) λ_ _ _ _ _ _ us hl=>by obtain⟨u0,u1,rfl⟩:=kD hl;rfl
 have F6:=bA (st:=lJ) l6 c6 k6;have b6:=F6.binds (ps:=["many","rows","others"]) λ_ _ _ _ _ _ us hl=>by obtain⟨u0,u1,u2,rfl⟩:=zO hl;rfl
 have F7:=bA (st:=ou) l7 c7 k7;have b7:=F7.binds (ps:=["many","rows"]) λ_ _ _ _ _ _ us hl=>by obtain⟨u0,u1,rfl⟩:=kD hl;rfl
 have F8:=bA (st:=jm) l8 c8 k8;have b8:=F8.binds (ps:=["self","form","table","view"]) λ_ _ _ _ _ _ us hl=>by obtain⟨u0,u1,u2,u3,rfl⟩:=Ir hl;rfl
 have F9:=bA (st:=iz) l9 c9 k9;have b9:=F9.binds (ps:=["self","form"]) λ_ _ _ _ _ _ us hl=>by obtain⟨u0,u1,rfl⟩:=kD hl;rfl
 have F10:=bA (st:=oN) l10 c10 k10;have b10:=F10.binds (ps:=["form","place"]) λ_ _ _ _ _ _ us hl=>by obtain⟨u0,u1,rfl⟩:=kD hl;rfl
 have F11:=bA (st:=mE) l11 c11 k11;have b11:=F11.binds (ps:=["form"]) λ_ _ _ _ _ _ us hl=>by obtain⟨u0,rfl⟩:=AH hl;rfl
 have F12:=bA (st:=lU) l12 c12 k12;have b12:=F12.binds (ps:=["form","name"]) λ_ _ _ _ _ _ us hl=>by obtain⟨u0,u1,rfl⟩:=kD hl;rfl
 have F13:=bA (st:=gD) l13 c13 k13;have b13:=F13.binds (ps:=["self","form"]) λ_ _ _ _ _ _ us hl=>by obtain⟨u0,u1,rfl⟩:=kD hl;rfl
 have F14:=bA (st:=fK) l14 c14 k14;have b14:=F14.binds (ps:=["self","form"]) λ_ _ _ _ _ _ us hl=>by obtain⟨u0,u1,rfl⟩:=kD hl;rfl
 have F15:=bA (st:=jv) l15 c15 k15;have b15:=F15.binds (ps:=["self","form"]) λ_ _ _ _ _ _ us hl=>by obtain⟨u0,u1,rfl⟩:=kD hl;rfl
 have F16:=bA (st:=e9) l16 c16 k16;have b16:=F16.binds (ps:=["self","form"]) λ_ _ _ _ _ _ us hl=>by obtain⟨u0,u1,rfl⟩:=kD hl;rfl
 have F17:=bA (st:=mG) l17 c17 k17;have b17:=F17.binds (ps:=["form"]) λ_ _ _ _ _ _ us hl=>by obtain⟨u0,rfl⟩:=AH hl;rfl
 have F18:=bA (st:=jR) l18 c18 k18;have b18:=F18.binds (ps:=["form"]) λ_ _ _ _ _ _ us hl=>by obtain⟨u0,rfl⟩:=AH hl;rfl
 have F19:=bA (st:=mr) l19 c19 k19;have b19:=F19.binds (ps:=["value"]) λ_ _ _ _ _ _ us hl=>by obtain⟨u0,rfl⟩:=AH hl;rfl
 have F20:=bA (st:=fg) l20 c20 k20;have b20:=F20.binds (ps:=["self","form"]) λ_ _ _ _ _ _ us hl=>by obtain⟨u0,u1,rfl⟩:=kD hl;rfl
 have F21:=bA (st:=eG) l21 c21 k21;have b21:=F21.binds (ps:=["self","form"]) λ_ _ _ _ _ _ us hl=>by obtain⟨u0,u1,rfl⟩:=kD hl;rfl
 have F22:=bA (st:=lV) l22 c22 k22;have b22:=F22.binds (ps:=["self","form","table"]) λ_ _ _ _ _ _ us hl=>by obtain⟨u0,u1,u2,rfl⟩:=zO hl;rfl
 have F23:=bA (st:=lM) l23 c23 k23;have b23:=F23.binds (ps:=["self","form","table"]) λ_ _ _ _ _ _ us hl=>by obtain⟨u0,u1,u2,rfl⟩:=zO hl;rfl
 have F24:=bA (st:=jt) l24 c24 k24;have b24:=F24.binds (ps:=["self","form","table"]) λ_ _ _ _ _ _ us hl=>by obtain⟨u0,u1,u2,rfl⟩:=zO hl;rfl
 have F25:=bA (st:=lP) l25 c25 k25;have b25:=F25.binds (ps:=["_law_steps","_law_form_here","_law_table_here"]) λ_ _ _ _ _ _ us hl=>by obtain⟨u0,u1,u2,rfl⟩:=zO hl;rfl
 have F26:=bA (st:=iV) l26 c26 k26;have b26:=F26.binds (ps:=["_law_form_here"]) λ_ _ _ _ _ _ us hl=>by obtain⟨u0,rfl⟩:=AH hl;rfl
 have F27:=bA (st:=j3) l27 c27 k27;have b27:=F27.binds (ps:=["_law_base","_law_k"]) λ_ _ _ _ _ _ us hl=>by obtain⟨u0,u1,rfl⟩:=kD hl;rfl
 have F28:=bA (st:=iD) l28 c28 k28;have b28:=F28.binds (ps:=["_law_many","_law_rows_here"]) λ_ _ _ _ _ _ us hl=>by obtain⟨u0,u1,rfl⟩:=kD hl;rfl
 have F29:=bA (st:=kc) l29 c29 k29;have b29:=F29.binds (ps:=["_law_x"]) λ_ _ _ _ _ _ us hl=>by obtain⟨u0,rfl⟩:=AH hl;rfl
 have F30:=bA (st:=gE) l30 c30 k30;have b30:=F30.binds (ps:=["_law_kind_here","_law_x"]) λ_ _ _ _ _ _ us hl=>by obtain⟨u0,u1,rfl⟩:=kD hl;rfl
 have F31:=bA (st:=jH) l31 c31 k31;have b31:=F31.binds (ps:=["_law_form_here","_law_many","_law_head","_law_tail"]) λ_ _ _ _ _ _ us hl=>by obtain⟨u0,u1,u2,u3,rfl⟩:=Ir hl;rfl
 have F32:=bA (st:=iP) l32 c32 k32;have b32:=F32.binds (ps:=["_law_form_here","_law_x","_law_many"]) λ_ _ _ _ _ _ us hl=>by obtain⟨u0,u1,u2,rfl⟩:=zO hl;rfl
 have F33:=bA (st:=gC) l33 c33 k33;have b33:=F33.binds (ps:=["_law_script","_law_k"]) λ_ _ _ _ _ _ us hl=>by obtain⟨u0,u1,rfl⟩:=kD hl;rfl
 have F34:=bA (st:=jW) l34 c34 k34;have b34:=F34.binds (ps:=["_law_script","_law_k"]) λ_ _ _ _ _ _ us hl=>by obtain⟨u0,u1,rfl⟩:=kD hl;rfl
 have F35:=bA (st:=jo) l35 c35 k35;have b35:=F35.binds (ps:=["_law_form_here","_law_many","_law_script","_law_start","_law_most"]) λ_ _ _ _ _ _ us hl=>by obtain⟨u0,u1,u2,u3,u4,rfl⟩:=Og hl;rfl
 have F36:=bA (st:=jj) l36 c36 k36;have b36:=F36.binds (ps:=["_law_x"]) λ_ _ _ _ _ _ us hl=>by obtain⟨u0,rfl⟩:=AH hl;rfl
 have F37:=bA (st:=iN) l37 c37 k37;have b37:=F37.binds (ps:=["_law_x","_law_base","_law_deep_here"]) λ_ _ _ _ _ _ us hl=>by obtain⟨u0,u1,u2,rfl⟩:=zO hl;rfl
 have F38:=bA (st:=iU) l38 c38 k38;have b38:=F38.binds (ps:=["_law_x","_law_base","_law_start","_law_many","_law_more","_law_deep_here"]) λ_ _ _ _ _ _ us hl=>by obtain⟨u0,u1,u2,u3,u4,u5,rfl⟩:=Ow hl;rfl
 have F39:=bA (st:=eT) l39 c39 k39;have b39:=F39.binds (ps:=["_law_script","_law_fewest"]) λ_ _ _ _ _ _ us hl=>by obtain⟨u0,u1,rfl⟩:=kD hl;rfl
 have F40:=bA (st:=uh) l40 c40 k40;have F41:=bA (st:=eW) l41 c41 k41;have b41:=F41.binds (ps:=["self","name"]) λ_ _ _ _ _ _ us hl=>by obtain⟨u0,u1,rfl⟩:=kD hl;rfl
 have F42:=bA (st:=fP) l42 c42 k42;have b42:=F42.binds (ps:=["self","many","name"]) λ_ _ _ _ _ _ us hl=>by obtain⟨u0,u1,u2,rfl⟩:=zO hl;rfl
 have cl0:yH K Cl0:=⟨p0,q0,r0,s0⟩
 have cl1:yH K Cl1:=⟨p1,q1,r1,s1⟩
 have cl2:yH K Cl2:=⟨p2,q2,r2,s2⟩
 have bZ:nK K "many" ["Nest"]:=by
  intro c hc C hC;simp only[R4,SF,or_false]at hc;rcases hc with rfl
  ·cases ow hC ac0;exact⟨cl0,n0_0⟩
 have dR:nK K "name" ["Unnest"]:=by
  intro c hc C hC;simp only[R4,SF,or_false]at hc;rcases hc with rfl
  ·cases ow hC ac1;exact⟨cl1,n1_0⟩
 have jn:nK K "name" ["Nest"]:=by
  intro c hc C hC;simp only[R4,SF,or_false]at hc;rcases hc with rfl
  ·cases ow hC ac0;exact⟨cl0,n0_1⟩
 have lC:vP K f4 (.ref cL):=⟨_,_,_,_,l4,lc⟩
 refine⟨⟨cL,lh⟩,lt,TU "law" "law" (nY uh) (fw uh) (ax uh) .none kV40 dc40 pm40 an40 cd40 ct40,λs v=>.of_eq rfl,λbase kb _ bm=>?_⟩;have pW:=zQ (P:=l.prog) (w:=w) (base:=base) ac1 ⟨m1,a41,i41,kp1⟩ cl1 (by intro g hg;simp only[R4,SF,or_false]at hg;rcases hg with rfl;exact n1_0) F41 b41 (Ua X G ac1);have x4:=CG (P:=l.prog) (w:=w) (base:=base) ac0 ⟨m0,a42,i42,kp0⟩ cl0 (by intro g hg;simp only[R4,SF,or_false]at hg;rcases hg with rfl|rfl<;>first|exact n0_0|exact n0_1) F42 b42 (Ua X G ac0);have fam:=mS (P:=l.prog) (w:=w) (base:=base) F0 b0 (Ua X G a0) bq uN jb gb aL bP pQ 20;have eF:=fam;have okb_Step_put:=zg (P:=l.prog) (w:=w) (base:=base) (K:=K) (mg:=mg) (f:=f1);have ip:=bu F2 b2 (Ua X G a2) y4 (cz.ok (yK (P:=l.prog) (w:=w) (base:=base) (f:=f2) aL));have okb_Nest_put:=yq (P:=l.prog) (w:=w) (base:=base) (K:=K) (mg:=mg) (f:=f3) ip bZ;have nc:=AA F4 b4 (Ua X G a4) xN (Gu.ok (xJ (P:=l.prog) (w:=w) (base:=base) (f:=f4) aL gB (HL kb lh bm) lC λ_ z=>z));have tZ:=bu F5 b5 (Ua X G a5) D8 (cz.ok (D9 (P:=l.prog) (w:=w) (base:=base) (f:=f5) qS));have o4:=bu F6 b6 (Ua X G a6) yv (cz.ok (zy (P:=l.prog) (w:=w) (base:=base) (f:=f6) tZ nc mw));have gW:=bu F7 b7 (Ua X G a7) AK (cz.ok (AW (P:=l.prog) (w:=w) (base:=base) (f:=f7) qS aL));have okb_Unnest_put:=uX (P:=l.prog) (w:=w) (base:=base) (K:=K) (mg:=mg) (f:=f8) gW o4 bP;have okb_Step_steady:=uE (P:=l.prog) (w:=w) (base:=base) (K:=K) (mg:=mg) (f:=f9);have jw:=bu F10 b10 (Ua X G a10) Aj (cz.ok (Bo (P:=l.prog) (w:=w) (base:=base) (f:=f10) ));have gY:=bu F11 b11 (Ua X G a11) zx (cz.ok (yJ (P:=l.prog) (w:=w) (base:=base) (f:=f11) aL));have ia:=bu F12 b12 (Ua X G a12) yh (cz.ok (zP (P:=l.prog) (w:=w) (base:=base) (f:=f12) gY e8));have okb_Unnest_exact:=sy (P:=l.prog) (w:=w) (base:=base) (K:=K) (mg:=mg) (f:=f13) jw ia dR;have iX:gO l.prog w K mg base 3 "exact" ["self","form"] [("Unnest",(aK bi 2 2))]:=cU (MethAt.mono (cF (c:="Unnest") (m:="exact") ac1 cl1 ⟨a13,i13,k13⟩ F13 b13 mJ (cz.ok okb_Unnest_exact)) (by decide)) aQ (oF);have okb_Unnest_steady:=rh (P:=l.prog) (w:=w) (base:=base) (K:=K) (mg:=mg) (f:=f14) iX;have okb_Step_exact:=vk (P:=l.prog) (w:=w) (base:=base) (K:=K) (mg:=mg) (f:=f15);have okb_Step_view_form:=pZ (P:=l.prog) (w:=w) (base:=base) (K:=K) (mg:=mg) (f:=f16);have iq:=bu F17 b17 (Ua X G a17) yo (cz.ok (zv (P:=l.prog) (w:=w) (base:=base) (f:=f17) aL));have fam:=qf (P:=l.prog) (w:=w) (base:=base) F18 b18 (Ua X G a18) iq eL 20;have jN:=fam;have pD:=bu F19 b19 (Ua X G a19) zz (cz.ok (zA (P:=l.prog) (w:=w) (base:=base) (f:=f19) bq gb jb));have okb_Nest_view_form:=qm (P:=l.prog) (w:=w) (base:=base) (K:=K) (mg:=mg) (f:=f20) pD jN bZ jn bP c_MOST_WITHIN;have okb_Unnest_view_form:=oP (P:=l.prog) (w:=w) (base:=base) (K:=K) (mg:=mg) (f:=f21) jw ia gY dR bP Gd c_MOST_FIELDS;have okb_Step_got:=yj (P:=l.prog) (w:=w) (base:=base) (K:=K) (mg:=mg) (f:=f22);have okb_Nest_got:=za (P:=l.prog) (w:=w) (base:=base) (K:=K) (mg:=mg) (f:=f23) gW bZ aL;have okb_Unnest_got:=uW (P:=l.prog) (w:=w) (base:=base) (K:=K) (mg:=mg) (f:=f24) ip bP;have gx:gO l.prog w K mg base 22 "got" ["self","form","table"] [("Step",(aK ic 3 3)),("Nest",(aK eK 3 3)),("Unnest",(aK cZ 3 3))]:=cU (MethAt.mono (cF (c:="Step") (m:="got") ac2 cl2 ⟨a22,i22,k22⟩ F22 b22 yx (cz.ok okb_Step_got)) (by decide)) aQ (cU (MethAt.mono (cF (c:="Nest") (m:="got") ac0 cl0 ⟨a23,i23,k23⟩ F23 b23 yG (cz.ok okb_Nest_got)) (by decide)) aQ (cU (MethAt.mono (cF (c:="Unnest") (m:="got") ac1 cl1 ⟨a24,i24,k24⟩ F24 b24 uU (cz.ok okb_Unnest_got)) (by decide)) aQ (oF)));have e6:gO l.prog w K mg base 22 "view_form" ["self","form"] [("Step",(aK dA 2 2)),("Nest",(aK bS 2 4)),("Unnest",(aK bH 2 5))]:=cU (MethAt.mono (cF (c:="Step") (m:="view_form") ac2 cl2 ⟨a16,i16,k16⟩ F16 b16 qb (cz.ok okb_Step_view_form)) (by decide)) aQ (cU (MethAt.mono (cF (c:="Nest") (m:="view_form") ac0 cl0 ⟨a20,i20,k20⟩ F20 b20 pK (cz.ok okb_Nest_view_form)) (by decide)) aQ (cU (MethAt.mono (cF (c:="Unnest") (m:="view_form") ac1 cl1 ⟨a21,i21,k21⟩ F21 b21 oR (cz.ok okb_Unnest_view_form)) (by decide)) aQ (oF)));have o5:=bu F25 b25 (Ua X G a25) zX (cz.ok (zb (P:=l.prog) (w:=w) (base:=base) (f:=f25) gx e6));have fam:=oV (P:=l.prog) (w:=w) (base:=base) F26 b26 (Ua X G a26) eL 20;have iK:=fam;have cw:=bu F27 b27 (Ua X G a27) xI (cz.ok (xc (P:=l.prog) (w:=w) (base:=base) (f:=f27) bJ));have bK:=bu F28 b28 (Ua X G a28) tG (cz.ok (uk (P:=l.prog) (w:=w) (base:=base) (f:=f28) aL gB mw));have aE:=bu F29 b29 (Ua X G a29) xU (cz.ok (xE (P:=l.prog) (w:=w) (base:=base) (f:=f29) ));have fam:=mV (P:=l.prog) (w:=w) (base:=base) F30 b30 (Ua X G a30) F31 b31 (Ua X G a31) F32 b32 (Ua X G a32) aE bK bP eL gb aL bJ 20;have gH:=fam.1;have fX:=fam.2.1;have kj:=fam.2.2;have cB:=bu F33 b33 (Ua X G a33) sq (cz.ok (sr (P:=l.prog) (w:=w) (base:=base) (f:=f33) bP));have dB:=bu F34 b34 (Ua X G a34) xg (cz.ok (xt (P:=l.prog) (w:=w) (base:=base) (f:=f34) cB aE));have mq:=bu F35 b35 (Ua X G a35) vp (cz.ok (vA (P:=l.prog) (w:=w) (base:=base) (f:=f35) dB fX aE bK bJ GR eL bP));have cY:=bu F36 b36 (Ua X G a36) vd (cz.ok (vx (P:=l.prog) (w:=w) (base:=base) (f:=f36) bJ bP aL gB mw));have fam:=oY (P:=l.prog) (w:=w) (base:=base) F37 b37 (Ua X G a37) F38 b38 (Ua X G a38) cY aE cw bJ aL 20;have mY:=fam.1;have gq:=fam.2;have gK:=bu F39 b39 (Ua X G a39) o8 (cz.ok (o7 (P:=l.prog) (w:=w) (base:=base) (f:=f39) dB cB gq aE));have iW:gO l.prog w K mg base 23 "exact" ["self","form"] [("Step",(aK cC 2 2)),("Nest",(aK cC 2 2)),("Unnest",(aK bi 2 2))]:=cU (MethAt.mono (cF (c:="Step") (m:="exact") ac2 cl2 ⟨a15_2,i15,k15⟩ F15 b15 oX (cz.ok okb_Step_exact)) (by decide)) aQ (cU (MethAt.mono (cF (c:="Nest") (m:="exact") ac0 cl0 ⟨a15,i15,k15⟩ F15 b15 oX (cz.ok okb_Step_exact)) (by decide)) aQ (cU (MethAt.mono (cF (c:="Unnest") (m:="exact") ac1 cl1 ⟨a13,i13,k13⟩ F13 b13 mJ (cz.ok okb_Unnest_exact)) (by decide)) aQ (oF)));have ib:gO l.prog w K mg base 23 "steady" ["self","form"] [("Step",(aK bU 2 2)),("Nest",(aK bU 2 2)),("Unnest",(aK bX 2 2))]:=cU (MethAt.mono (cF (c:="Step") (m:="steady") ac2 cl2 ⟨a9_2,i9,k9⟩ F9 b9 nw (cz.ok okb_Step_steady)) (by decide)) aQ (cU (MethAt.mono (cF (c:="Nest") (m:="steady") ac0 cl0 ⟨a9,i9,k9⟩ F9 b9 nw (cz.ok okb_Step_steady)) (by decide)) aQ (cU (MethAt.mono (cF (c:="Unnest") (m:="steady") ac1 cl1 ⟨a14,i14,k14⟩ F14 b14 ra (cz.ok okb_Unnest_steady)) (by decide)) aQ (oF)));have jl:gO l.prog w K mg base 23 "put" ["self","form","table","view"] [("Step",(aK il 4 4)),("Nest",(aK d9 4 4)),("Unnest",(aK cV 4 6))]:=cU (MethAt.mono (cF (c:="Step") (m:="put") ac2 cl2 ⟨a1,i1,k1⟩ F1 b1 yW (cz.ok okb_Step_put)) (by decide)) aQ (cU (MethAt.mono (cF (c:="Nest") (m:="put") ac0 cl0 ⟨a3,i3,k3⟩ F3 b3 zU (cz.ok okb_Nest_put)) (by decide)) aQ (cU (MethAt.mono (cF (c:="Unnest") (m:="put") ac1 cl1 ⟨a8,i8,k8⟩ F8 b8 vi (cz.ok okb_Unnest_put)) (by decide)) aQ (oF)));exact J3 (P:=l.prog) (w:=w) (base:=base) F40 gK cB aE dB mq cw iK o5 eF iW ib jl pW x4 bP aL e8 pQ bJ
theorem walk{l:T7}{q:UM}{loose:List Str}{XP:(Str->Option UK)->UP->Prop}{YP:UL->UP->Prop}{d:DefRec}{K:Params->Tu}{T:UN}(hn:l.most=some 63)(hdf:d.params.defaults=[])
  (hY:∀(w:UL)(h:UP),YP w h->(K w.params).In h/\h.get? T=some (T5 #[]))
  (F:∀ (w:UL) (mg:Str->Option UK) (fa:UN) (h:UP),(K w.params).In h->h.Ns UT mg->mg d.name=some (.ref fa) ->
   (∃c,T9 (K w.params) c T=true)/\(K w.params).lookup T=none/\∃fd:Vq,(∀(s:UX)(u:UK),Vr s fd ⟨[u],[]⟩ [("_law_script",u)])/\∀base:UP,(K w.params).In base->base.Ns UT mg->As mg base->jT l.prog w (K w.params) mg base (oW l.prog w) 24 fa fd ["_law_script"] (@El (w8 T ⟨36,34,36,56⟩ ((("sorted_by":Str)++".<locals>.")++"<lambda>")) (K w.params) 1 (aK uM 1 16)))
  (math:∀ns:List Int,ns.length<=63->aK uM 1 16 [.lst (ns.map .int)]=.ok (.bl true)):PySem.W.WalkO q loose XP YP l.row.toRowW d [] (λf vs=>PySem.call f vs):=
 Fg (n:=63) (k:=24) (x:="_law_script") (T:=T) (CX:=λw=>oW l.prog w) (sp:=λw=>@El (w8 T ⟨36,34,36,56⟩ ((("sorted_by":Str)++".<locals>.")++"<lambda>")) (K w.params) 1 (aK uM 1 16)) hn (by decide) hdf ⟨rfl,by decide,by decide⟩ hY F
  (λw H a ns hl hT hS=>⟨[],[.lst (ns.map .int)],rfl,⟨hT,λa h=>nomatch h⟩,by rw[IT];exact bo.mpr ⟨.ref a,[],rfl,cT.mpr ⟨a,_,rfl,hS,wx ns⟩,cI.mpr rfl⟩,by rw[math ns hl];exact λv H' sm d=>⟨mI.mp d,sm⟩⟩) λ_ _ _ _ _ z=>by obtain⟨_,_,_,_,_,_,_,_,_,_,_,_,_,z⟩:=z;exact z
end Tk46
namespace Tk46
open PySem PySem.Spec L2 TG TD T4
local macro_rules|`(‹$x›)=>do if x.raw.isOfKind `num then Lean.Macro.throwUnsupported else `(some (S.val $x))
local macro_rules
 |`(tactic| simp! only[$xs,*])=>`(tactic| simp only[cq,vL,rL,vW,fZ,eJ,ge_0,DR,qF,DU,qZ,n6,qX,qH,C5,CU,C3,Dh,Dz,qG,qR,wA,lx,nU,rj,ox,wU,qK,rE,oh,qO,lj,ro,lr,kN,jB,jy,qw,og,jA,nV,lD,oo,oG,iA,oO,kY,o9,nX,kO,ju,oC,n8,D6,vD,DL,CK,Dm,qE,oJ,qV,oH,nT,Ej,Ei,SW,SY,Q1,Rp,RB,RP,K0,env0,List.replicate,Sj,Q5,Sb,Nat.reduceAdd,Nat.reduceSub,Q0,Rt,rG,qQ,wC,qv,rB,rk,jx,qU,v6,vC,wL,qC,lw,kL,lH,kR,kJ,ly,wc,wM,wQ,wK,vJ,wV,kU,lu,gZ,hX,qt,jD,hU,h7,gX,lK,ng,gQ,gR,lg,lE,oA,nQ,kX,oa,qY,rq,n5,oq,gN,if_true,if_false,SZ,S0,Rz,$xs,*])
theorem gm(j:Int)(h:0<j:=by decide):∀i:Int,cS (.int i) (.int j)=some (.int (i%j)):=λi=>fV (i:=i) h
theorem gd(j:Int)(h:0<j:=by decide)(h':j<10^200:=by decide):∀i:Int,dN (.int i) (.int j)=some (.int (i/j)):=λi=>nA (i:=i) h h'
inductive Kd where
 |num (lo hi:Int)|wrd (ws:List Str)
def Kd.d:Kd->D
 |.num lo hi=>.tup [.str "number",.int lo,.int hi]
 |.wrd ws=>.tup [.str "word",.tup (ws.map .str)]
def Kd.gd:Kd->Prop
 |.num lo hi=>lo<=hi
 |.wrd ws=>ws≠[]/\ws.length<=100
def Kd.b:Kd->Bool
 |.num _ _=>true
 |.wrd _=>false
abbrev KL:=List (Str×Kd)
def kf(p:Str×Kd):D:=.tup [.str p.1,p.2.d]
abbrev fr(k:KL)(r:List (Str×D)):D:=.tup [.tup (k.map kf),.tup (r.map fld)]
def toD(p:Str×Kd):Str×D:=(p.1,p.2.d)
theorem tE(k:KL):k.map kf=(k.map toD).map fld:=by rw[SE];rfl
theorem Lp:(("number":Str)==("number":Str))=true:=by decide +kernel
theorem Ii:(("word":Str)==("word":Str))=true:=by decide +kernel
theorem K1:(("word":Str)==("number":Str))=false:=by decide +kernel
theorem Ku:(("rows":Str)==("number":Str))=false:=by decide +kernel
theorem Jf:(("rows":Str)==("word":Str))=false:=by decide +kernel
def KG:Nat->D->Prop
 |0,d=>∃c:Kd,c.gd/\d=c.d
 |n+1,d=>(∃c:Kd,c.gd/\d=c.d)\/∃(ks:KL)(qs:List (Str×D))(b:Bool),d=.tup [.str "rows",fr ks qs,.bl b]/\1<=ks.length/\ks.length<=8/\(∀p∈ks,p.2.gd)/\qs.length<=8/\∀q∈qs,KG n q.2
theorem Jb(ws:List Str)(w:Str):uZ ws w≠[]:=by
 unfold uZ;split
 ·rename_i h;intro z;rw[z]at h;simp at h
 ·simp
theorem M9(ws:List Str)(h:ws.Nodup)(hl:ws.length<64):∃us:List Str,iG [.lst (ws.map .str)]=some (.lst (us.map .str))/\us.Perm ws:=by
 have pz:∀zs:List D,zs.Perm (ws.map D.str)->∃us:List Str,zs=us.map .str/\us.Perm ws:=λzs p=>by
  have e:zs=(zs.map λz=>match z with|.str w=>w|_=>"").map .str:=by
   rw[SE]
   conv=>lhs;rw[<-Th zs]
   refine RQ λz hz=>?_;obtain⟨w,_,rfl⟩:=List.mem_map.mp (p.mem_iff.mp hz);rfl
  refine⟨_,e,?_⟩;have q:=p.map λz:D=>match z with|.str w=>w|_=>("":Str)
  rw[SE]at q;have e2:ws.map ((λz:D=>match z with|.str w=>w|_=>("":Str))∘D.str)=ws:=by
   conv=>rhs;rw[<-Th ws]
   exact RQ λ_ _=>rfl
  rw[e2]at q;exact q
 have fin:∀key:D->List D,∃us:List Str,some (D.lst (ki key (ws.map .str)))=some (.lst (us.map .str))/\us.Perm ws:=λkey=>by
  obtain⟨us,e,q⟩:=pz _ (ir key (ws.map .str));exact⟨us,by rw[e],q⟩
 show∃us,rS (ws.map .str)=_/\_;unfold rS;by_cases a:Kg (ws.map .str)
 ·rw[if_pos a];exact fin _
 ·have b:ML (ws.map .str):=by
   refine⟨by rw[Q2];exact hl,false,λx hx=>?_,?_⟩
   ·obtain⟨w,_,rfl⟩:=List.mem_map.mp hx;exact .str w .nil
   ·rw[SA];refine h.imp λhne e=>hne ?_;have e:[D.str _]=[D.str _]:=e;injection e with e _;injection e
  rw[if_neg a,if_pos b];exact fin _
theorem tU(x:Int)(h0:0<=x)(h1:x<2147483700):∃c:Kd,aK cW 1 8 [.int x]=.ok c.d/\c.gd:=by
 have g3:=gm 3;have g4:=gm 4;have g26:=gm 26;have d3:=gd 3;have d12:=gd 12;have d78:=gd 78;have d2028:=gd 2028;have p7:sC (.int x) (.int 7)=some (.int (x^7)):=Bl x 7 (by decide) ‹0›;have pb:=MS;have gp:=λi=>fV (i:=i) (show(0:Int)<Jq by omega);rw[kA];unfold cW;by_cases h:x%3<2
 ·have h':decide (x%3<2)=true:=decide_eq_true h;obtain⟨v,hv,e1⟩:=Qx (.int 0) (.int (-3)) (.int (0-x^7%Jq)) (.int (x^7%Jq)) (x/3%4) ‹0› ‹0›;obtain⟨lo,rfl⟩:∃lo:Int,v=.int lo:=by
   simp only[R4,SF,or_false]at hv;rcases hv with rfl|rfl|rfl|rfl<;>exact⟨_,rfl⟩
  obtain⟨w,w0,e2⟩:∃w:Int,0<=w/\aH (.lst [.int 0,.int 1,.int 6,.int Jq]) (.int (x/12%4))=some (.int w):=by
   rcases(show x/12%4=0\/x/12%4=1\/x/12%4=2\/x/12%4=3 by omega)with z|z|z|z<;>rw[z]
   ·exact⟨0,by decide,rfl⟩
   ·exact⟨1,by decide,rfl⟩
   ·exact⟨6,by decide,rfl⟩
   ·exact⟨Jq,by omega,rfl⟩
  refine⟨.num lo (lo+w),?_,by show lo<=lo+w;omega⟩;unfold Kd.d;simp! only[g3,h',p7,Lf,gp,Mm,d3,g4,e1,d12,e2,Ov]
 ·have h':decide (x%3<2)=false:=decide_eq_false h;have LL:(("abcdefghijklmnopqrstuvwxyz":Str)).length=26:=by decide +kernel
  have L0:(("":Str)).length<=1000:=by decide +kernel
  generalize hL:("abcdefghijklmnopqrstuvwxyz":Str)=L at LL;obtain⟨one,ho,e1⟩:=BI L ‹0› (x/3%26) ‹0› ‹0›;obtain⟨oth,hq,e2⟩:=BI L ‹0› (x/78%26) ‹0› ‹0›;have a1:=mP one oth ‹0› ‹0›;have a2:=mP oth one ‹0› ‹0›;have a3:=mP one one ‹0› ‹0›;have m1:=Kr (x:=one) (n:=8) (by decide) (by decide) ‹0›;have m2:=Kr (x:=oth) (n:=3) (by decide) (by decide) ‹0›;have r8:n0 [.int 8]=some (fQ 0 8):=n9 8 (by decide);generalize hW:[D.str "",.str one,.str oth,.str (one++oth),.str (oth++one),.str (mL one 8),.str (one++one),.str (mL oth 3)]=W;have W8:W.length=8:=by rw[<-hW];rfl
  have Ws:∀d∈W,∃w:Str,d=.str w:=by
   rw[<-hW];intro d hd;simp only[R4,SF,or_false]at hd;rcases hd with rfl|rfl|rfl|rfl|rfl|rfl|rfl|rfl<;>exact⟨_,rfl⟩
  obtain⟨T,hT⟩:∃T:cn,T=(aU (jU (jf (af (fC (.int 8)) (aw))) (gN 7) (aU (mO (fB (f2 lI (f2 rY (f2 x5 (f2 dN (ah 0) (fC (.int 2028))) (ah 7)) (fC (.int 1))) (fC (.int 1)))) (pV 6 (f2 aH (ah 5) (ah 7)) (fC (.bl true))) (cM)) (dM [7] cM))) (aU (mO (nE [6] (fB (f2 lI (fL vR (af (ah 6) (aw))) (fC (.int 0))))) (pV 6 (ah 3) (fC (.bl true))) (cM)) (kE 6 (bM (fF (af (fC (.str "word")) (af (fL cP (af (fL iG (af (fL qz (af (ah 6) (aw))) (aw))) (aw))) (aw)))))))):=⟨_,rfl⟩
  have fin:∀ws:List Str,ws.Nodup->ws.length<=10->ws≠[]->∃c:Kd,kE 6 (bM (fF (af (fC (.str "word")) (af (fL cP (af (fL iG (af (fL qz (af (ah 6) (aw))) (aw))) (aw))) (aw))))) K0 [‹.int x›,none,none,‹.str one›,none,‹.lst W›,some (.own (wd ws)),none]=.ok c.d/\c.gd:=λws nd hl wn=>by
   obtain⟨us,ez,pz⟩:=M9 ws nd ‹0›;refine⟨.wrd us,?_,⟨λz=>wn (by rw[z]at pz;exact pz.symm.eq_nil),by rw[pz.length_eq];omega⟩⟩;unfold Kd.d;simp! only[G0,ez,Iw]
  have key:∃c:Kd,T K0 [‹.int x›,none,none,‹.str one›,none,‹.lst W›,some (.own (.dct [] [])),none]=.ok c.d/\c.gd:=by
   rw[hT,iA,ju];simp! only[r8];refine dQ (Q:=λz=>∃c:Kd,z=.ok c.d/\c.gd) (λi ρ=>∃ws:List Str,ws.Nodup/\ws.length<=i/\ρ=[‹.int x›,none,none,‹.str one›,none,‹.lst W›,some (.own (wd ws)),none]) ?_ ⟨[],Rw,QU _,rfl⟩ ?_
   ·rintro i d ρ kk hd ⟨ws,nd,hl,rfl⟩;have hi:=cx hd;rw[dI]at hi;have hdi:d=.int (i:Int):=by
     rw[oE,Rc,RY hi]at hd;cases hd;simp
    subst hdi;obtain⟨w,ew⟩:=Ws (W[i]'‹0›) (Sz _);have ix:aH (.lst W) (.int (i:Int))=some (.str w):=by
     rw[HC,ut ‹0›,ew]
    have sh:=FZ (x/2028) i;cases hb:(Builtin.bitAnd (x/2028/2^i) 1==1)with
    |false=>
     refine⟨_,_,rfl,⟨ws,nd,by omega,rfl⟩,?_⟩;simp! only[d2028,sh,xV,hb]
    |true=>
     refine⟨_,_,rfl,⟨uZ ws w,Cy w nd,by have:=yk ws w;omega,rfl⟩,?_⟩;have pk:=λk:Ks=>Cq (i:=6) (fk:=f2 aH (ah 5) (ah 7)) (fv:=fC (.bl true)) (k:=k) (ρ:=[‹.int x›,none,none,‹.str one›,none,‹.lst W›,some (.own (wd ws)),‹.int (i:Int)›]) (al:=D4 ws) (q:=.inr w) (d:=.str w) (v:=.bl true) rfl (by simp! only[ix]) rfl rfl (by simp;omega);simp! only[d2028,sh,xV,hb,pk,Gc]
   ·rintro ρ' ⟨ws,nd,hl,rfl⟩;rw[dI]at hl;have pt:nE [6] (fB (f2 lI (fL vR (af (ah 6) (aw))) (fC (.int 0)))) [‹.int x›,none,none,‹.str one›,none,‹.lst W›,some (.own (wd ws)),none]=.ok (((ws.length:Int))==0):=by
     simp! only[uj,JQ,IH]
    dsimp only;rw[iA,o9,pt,rL];cases hb:((ws.length:Int)==0)with
    |false=>exact fin ws nd ‹0› λz=>by rw[z]at hb;cases hb
    |true=>
     have pk:=λk:Ks=>Cq (i:=6) (fk:=ah 3) (fv:=fC (.bl true)) (k:=k) (ρ:=[‹.int x›,none,none,‹.str one›,none,‹.lst W›,some (.own (wd ws)),none]) (al:=D4 ws) (q:=.inr one) (d:=.str one) (v:=.bl true) rfl rfl rfl rfl (by simp;omega);rw[if_pos rfl,pk,Gc];exact fin (uZ ws one) (Cy one nd) (by have:=yk ws one;omega) (Jb ws one)
  obtain⟨d,ed,fd⟩:=key;have mW:ku W=some (.lst W):=J0 ‹0›;refine⟨d,?_,fd⟩;rw[<-hT];simp only[K0]at ed;simp! only[hL,g3,h',d3,g26,e1,d78,e2,a1,a2,a3,m1,m2,hW,mW,BR,ed]
theorem BM{b st:Int}{L:List Str}{nm:Str}(h:∀(j:Nat)(w:Str),L[j]?=some w->C0 b (st+(j:Int)) w)(hn:C0 b (st+(L.length:Int)) nm):∀(j:Nat)(w:Str),(L++[nm])[j]?=some w->C0 b (st+(j:Int)) w:=λj w e=>by
 rw[List.getElem?_append]at e;split at e
 ·exact h j w e
 ·rename_i hj
  have:j-L.length=0:=by
   have:=cx e
   simp at this;omega
  rw[this]at e;cases e;rw[show j=L.length by omega];exact hn
theorem B2(dp g:Nat)(hk:∀x b:Int,0<=x->x<2147483700->0<=b->∃d,bf g [.int x,.int b,.int dp]=.ok d/\KG dp d)(x b st:Int)(m r:Nat)(h0:0<=x)(h1:x<2147483700)(hb:0<=b)(hs:0<=st)(hm:m<=8)(hr:r<=8):
  ∃(ks:KL)(qs:List (Str×D)),aZ (g+1) [.int x,.int b,.int st,.int m,.int r,.int dp]=.ok (fr ks qs)/\ks.length=m/\qs.length=r/\(∀p∈ks,p.2.gd)/\(∀q∈qs,KG dp q.2)/\∀(j:Nat)(w:Str),(ks.map (·.1)++qs.map (·.1))[j]?=some w->C0 b (st+(j:Int)) w:=by
 rw[hV,J5];unfold j5;have rn:n0 [.int ((m:Int)+(r:Int))]=some (fQ 0 (m+r)):=by
  rw[show((m:Int)+(r:Int))=((m+r:Nat):Int)by omega];exact n9 (m+r) ‹0›
 obtain⟨T,hT⟩:∃T:cn,T=kE 7 (kE 6 (bM (fF (af (fL cP (af (ah 6) (aw))) (af (fL cP (af (ah 7) (aw))) (aw)))))):=⟨_,rfl⟩
 rw[<-hT];simp! only[MQ,rn];refine dQ (Q:=λz=>∃(ks:KL)(qs:List (Str×D)),z=.ok (fr ks qs)/\ks.length=m/\qs.length=r/\(∀p∈ks,p.2.gd)/\(∀q∈qs,KG dp q.2)/\∀(j:Nat)(w:Str),(ks.map (·.1)++qs.map (·.1))[j]?=some w->C0 b (st+(j:Int)) w)
  (fun i ρ=>∃ (y:Int) (ks:KL) (qs:List (Str×D)),0<=y/\y < 2147483700/\ks.length=min i m/\qs.length=i - m/\(∀ p∈ks,p.2.gd)/\(∀ q∈qs,KG dp q.2)/\(∀ (j:Nat) (w:Str),(ks.map (·.1)++qs.map (·.1))[j]?=some w->C0 b (st+(j:Int)) w) /\
   ρ=[‹.int y›,‹.int b›,‹.int st›,‹.int m›,‹.int r›,‹.int dp›,some (.own (.lst (ks.map kf))),some (.own (.lst (qs.map fld))),none]) ?_ ⟨x,[],[],h0,h1,by simp,by simp,(λ_ h=>nomatch h),(λ_ h=>nomatch h),(λj w h=>by simp at h),rfl⟩ ?_
 ·rintro i d ρ kk hd ⟨y,ps,qs,y0,y1,lp,lq,fp,fq,fn,rfl⟩;have hi:=cx hd;rw[dI]at hi;have hdi:d=.int (i:Int):=by
   rw[oE,Rc,RY hi]at hd;cases hd;simp
  subst hdi;obtain⟨y',y0',y1',ey⟩:=jg y y0 y1;obtain⟨nm,en,nP⟩:=ya b (st+(i:Int)) hb ‹0›;by_cases h:i<m
  ·have h':decide ((i:Int)<(m:Int))=true:=decide_eq_true ‹0›;obtain⟨c,ek,ck⟩:=tU y' y0' ‹0›;refine⟨_,_,rfl,⟨y',ps++[(nm,c)],qs,y0',by omega,by rw[Rh,Rn];omega,by omega,λp hp=>?_,fq,?_,rfl⟩,?_⟩
   ·rcases List.mem_append.mp hp with z|z
    ·exact fp p z
    ·rw[SL]at z;subst z;exact ck
   ·have q0:qs=[]:=List.length_eq_zero_iff.mp ‹0›;subst q0;rw[Rp,Q5]at fn ⊢;rw[RT];exact BM fn (by rw[Q2,lp,SN ‹0›];exact nP)
   ·have ap:ig (ps.map kf) [.tup [.str nm,c.d]]=some ((ps++[(nm,c)]).map kf):=by
     rw[nu (by rw[Q2];omega),RT];rfl
    have sm:=λK:Ks=>nh 6 ig (af (fF (af (fR (aK cu 2 7) (af (ah 1) (af (f2 ce (ah 2) (ah 8)) (aw)))) (af (fR (aK cW 1 8) (af (ah 0) (aw))) (aw)))) (aw)) K [‹.int y'›,‹.int b›,‹.int st›,‹.int m›,‹.int r›,‹.int dp›,some (.own (.lst (ps.map kf))),some (.own (.lst (qs.map fld))),‹.int i›] (xs:=ps.map kf) rfl;generalize (ps++[(nm,c)]).map kf=Y at ap ⊢;simp! only[ey,h',sm,en,ek,Iw,ap]
  ·have h':decide ((i:Int)<(m:Int))=false:=decide_eq_false ‹0›;obtain⟨k,ek,fk⟩:=hk y' b y0' ‹0› hb;refine⟨_,_,rfl,⟨y',ps,qs++[(nm,k)],y0',by omega,by omega,by rw[Rh,Rn];omega,fp,λp hp=>?_,?_,rfl⟩,?_⟩
   ·rcases List.mem_append.mp hp with z|z
    ·exact fq p z
    ·rw[SL]at z;subst z;exact fk
   ·rw[RT,<-R1];exact BM fn (by rw[Rh,Q2,Q2,lp,lq,show min i m+(i-m)=i by omega];exact nP)
   ·have ap:ig (qs.map fld) [.tup [.str nm,k]]=some ((qs++[(nm,k)]).map fld):=by
     rw[nu (by rw[Q2];omega),RT];rfl
    have sm:=λK:Ks=>nh 7 ig (af (fF (af (fR (aK cu 2 7) (af (ah 1) (af (f2 ce (ah 2) (ah 8)) (aw)))) (af (fR (bf g) (af (ah 0) (af (ah 1) (af (ah 5) (aw))))) (aw)))) (aw)) K [‹.int y'›,‹.int b›,‹.int st›,‹.int m›,‹.int r›,‹.int dp›,some (.own (.lst (ps.map kf))),some (.own (.lst (qs.map fld))),‹.int i›] (xs:=qs.map fld) rfl;generalize (qs++[(nm,k)]).map fld=Y at ap ⊢;simp! only[ey,h',sm,en,ek,Iw,ap]
 ·rintro ρ' ⟨y,ps,qs,y0,y1,lp,lq,fp,fq,fn,rfl⟩;rw[dI]at lp lq;refine⟨ps,qs,?_,by omega,by omega,fp,fq,fn⟩;rw[hT];simp! only[Iw]
theorem HW:∀(dp g:Nat),2*dp+1<=g->∀x b:Int,0<=x->x<2147483700->0<=b->∃d,bf g [.int x,.int b,.int dp]=.ok d/\KG dp d:=by
 intro dp
 induction dp with
 |zero=>
  intro g hg x b h0 h1 hb;obtain⟨g,rfl⟩:∃g',g=g'+1:=⟨g-1,by omega⟩
  have d3:=gd 3;obtain⟨c,e,f⟩:=tU (x/3) ‹0› ‹0›;refine⟨c.d,?_,c,f,rfl⟩;rw[fh,pA];unfold iY;have z:(((0:Nat):Int)==0)=true:=rfl;simp! only[z,d3,e]
 |succ dp ih=>
  intro g hg x b h0 h1 hb;obtain⟨g,rfl⟩:∃g',g=g'+1+1:=⟨g-2,by omega⟩
  have g2:=gm 2;have g3:=gm 3;have g12:=gm 12;have d3:=gd 3;have d6:=gd 6;have d18:=gd 18;have d36:=gd 36;have z:(((dp+1:Nat):Int)==0)=false:=by simp;omega
  rw[fh,pA];unfold iY;by_cases h:x%3<2
  ·have h':decide (x%3<2)=true:=decide_eq_true h;obtain⟨c,e,f⟩:=tU (x/3) ‹0› ‹0›;refine⟨c.d,?_,.inl ⟨c,f,rfl⟩⟩;simp! only[z,g3,h',d3,e]
  ·have h':decide (x%3<2)=false:=decide_eq_false h;obtain⟨m,hm,hm8,m1⟩:∃m:Nat,1+x/3%2=(m:Int)/\m<=8/\1<=m:=⟨(1+x/3%2).toNat,by omega,by omega,by omega⟩
   obtain⟨r,hr,hr8⟩:∃m:Nat,x/6%3=(m:Int)/\m<=8:=⟨(x/6%3).toNat,by omega,by omega⟩
   have hd:((dp+1:Nat):Int)-1=(dp:Int):=(by omega);obtain⟨ps,qs,e,l1,l2,F1,F2,_⟩:=B2 dp g (ih g ‹0›) (x/3) b (x/36%12) m r ‹0› ‹0› hb ‹0› hm8 hr8;refine⟨.tup [.str "rows",fr ps qs,.bl (x/18%2==1)],?_,.inr ⟨ps,qs,_,rfl,by omega,by omega,F1,by omega,F2⟩⟩;simp! only[z,g3,h',d3,d36,g12,g2,d6,hm,hr,hd,e,d18,Ov]
theorem Cg(dp:Nat)(hd:dp<=3)(x b st:Int)(m r:Nat)(h0:0<=x)(h1:x<2147483700)(hb:0<=b)(hs:0<=st)(hm:m<=8)(hr:r<=8):
  ∃(ks:KL)(qs:List (Str×D)),aZ 20 [.int x,.int b,.int st,.int m,.int r,.int dp]=.ok (fr ks qs)/\ks.length=m/\qs.length=r/\(∀p∈ks,p.2.gd)/\(∀q∈qs,KG dp q.2)/\∀(j:Nat)(w:Str),(ks.map (·.1)++qs.map (·.1))[j]?=some w->C0 b (st+(j:Int)) w:=
 B2 dp 19 (HW dp 19 ‹0›) x b st m r h0 h1 hb hs hm hr
theorem wN{σ:List Bool}{kl:Nat}(h0:σ≠[])(hl:kl=σ.length)(rows:List (List D))(hs:∀r∈rows,Sh σ (r.take kl))(hn:rows.length<64):∃t:List (List D),aK bQ 2 4 [.int kl,.lst (rows.map .tup)]=.ok (.tup (t.map .tup))/\JL kl t/\(∀r∈t,r∈rows)/\t.length<=rows.length:=by
 obtain⟨T,hT⟩:∃T:cn,T=(kE 2 (bM (fL cP (af (kr [none,some 2] (bT (fL iG (af (fL rg (af (ah 2) (aw))) (aw)))) (gN 0) (dF) (f2 A1 (ah 1) (ah 0))) (aw))))):=⟨_,rfl⟩
 rw[dX];unfold bQ;rw[<-hT];simp! only[BR];refine dQ (Q:=λz=>∃t:List (List D),z=.ok (.tup (t.map .tup))/\JL kl t/\(∀r∈t,r∈rows)/\t.length<=rows.length) (λi ρ=>∃al:List (List Key×D),(al.map (·.1)).Nodup/\al.length<=i/\(∀p∈al,∃r∈rows,p.2=.tup r/\r.take kl=p.1.map bx)/\ρ=[‹.int kl›,‹.lst (rows.map .tup)›,some (.own (dG al)),none]) ?_ ⟨[],Rw,QU _,(λ_ h=>nomatch h),rfl⟩ ?_
 ·rintro i d ρ kk hd ⟨al,nd,ll,hp,rfl⟩;have hi:=cx hd;rw[Q2]at hi;rw[Rc,RK hi]at hd;cases hd;have rm:rows[i]∈rows:=Sz hi;obtain⟨q,eq⟩:=sS (hs _ rm);have ct:cutD rows[i] none (some (kl:Int))=q.map bx:=by rw[tI,eq]
  refine⟨_,_,rfl,⟨i6 al q (.tup rows[i]),IB _ _ nd,by have:=Ft al q (.tup rows[i]);omega,λp h=>?_,rfl⟩,?_⟩
  ·rcases Fs h with z|z
   ·exact hp p z
   ·subst z;exact⟨_,rm,rfl,eq⟩
  ·have pd:=λK:Ks=>Ic (i:=2) (fk:=dJ (ah 3) (cK) (fI (ah 0))) (fv:=ah 3) (k:=K) (ρ:=[‹.int kl›,‹.lst (rows.map .tup)›,some (.own (dG al)),‹.tup rows[i]›]) (al:=al) (q:=q) (v:=.tup rows[i]) rfl (by simp! only[ct]) rfl ‹0›;generalize dG (i6 al q (.tup rows[i]))=Y at pd ⊢;generalize dG al=Z at pd ⊢;simp! only[pd]
 ·rintro ρ' ⟨al,nd,ll,hp,rfl⟩;rw[Q2]at ll;have hsk:∀p∈al,Sh σ (p.1.map bx):=λp h=>by
   obtain⟨r,hr,_,e⟩:=hp p h;rw[<-e];exact hs r hr
  obtain⟨es,ri⟩:=Hr nd hsk h0 ‹0›;have pm:=ir eS (encK al);have lt:=Gh al;generalize ki eS (encK al)=W at es ri pm;have wl:W.length=al.length:=by rw[pm.length_eq,Q2]
  have mem:∀x∈W,∃p∈al,x=.tup (p.1.map bx):=λx hx=>by
   obtain⟨p,h1,h2⟩:=List.mem_map.mp (pm.mem_iff.mp hx);exact⟨p,h1,h2.symm⟩
  obtain⟨vs,v1,v2,v3⟩:=FH (ρ:=[none,‹dG al›]) (g:=gN 0) (C:=dF) (Fe:=f2 A1 (ah 1) (ah 0)) W (λi v=>∃r∈rows,v=.tup r/\W[i]?=some (.tup (r.take kl))) λi d hd=>by
   obtain⟨p,h1,h2⟩:=mem d (Rg hd);obtain⟨r,hr,e1,e2⟩:=hp p h1;have dx:=Ki al p.1;rw[zi nd h1,e1]at dx;refine⟨[‹d›,‹dG al›],.tup r,rfl,rfl,?_,r,hr,rfl,by rw[hd,h2,e2]⟩;subst h2;generalize dG al=Z at dx;simp! only[dx]
  obtain⟨t,rfl⟩:=Cp vs λv hv=>by
   obtain⟨i,hi,ei⟩:=RO hv;obtain⟨r,_,e,_⟩:=v2 i v (by rw[RK hi,ei]);exact⟨r,e⟩
  rw[Q2]at v1;have at_:∀(i:Nat)(h:i<t.length),t[i]∈rows/\W[i]?=some (.tup (t[i].take kl)):=λi h=>by
   obtain⟨r,hr,e,w⟩:=v2 i (.tup t[i]) (by rw[Rc,RK h];rfl);injection e with e;rw[e];exact⟨hr,w⟩
  refine⟨t,?_,?_,λr hr=>?_,by omega⟩
  ·have lc:kr [none,some 2] (bT (fL iG (af (fL rg (af (ah 2) (aw))) (aw)))) (gN 0) (dF) (f2 A1 (ah 1) (ah 0)) [‹.int kl›,‹.lst (rows.map .tup)›,‹dG al›,none]=.ok (.lst (t.map .tup)):=by
    refine eV (ds:=W) ?_ ‹0› v3;generalize dG al=Z at lt;simp! only[lt,es]
   rw[hT];generalize dG al=Z at lc;simp! only[lc]
  ·refine List.pairwise_iff_getElem.mpr λi j hi hj hij=>?_;have a:=(at_ i hi).2;have b:=(at_ j hj).2;rw[RK ‹0›]at a b
   have:=List.pairwise_iff_getElem.mp ri i j ‹0› ‹0› hij
   rw[Option.some.inj a,Option.some.inj b]at this;exact this
  ·obtain⟨i,hi,ei⟩:=RO hr;rw[<-ei];exact(at_ i hi).1
theorem t9(c:Kd)(hg:c.gd)(g:Nat)(x:Int)(h0:0<=x)(h1:x<2147483700):∃v,aA (g+1) [c.d,.int x]=.ok v/\Sh [c.b] [v]:=by
 rw[eU,dX];unfold gF;cases c with
 |num lo hi=>
  have hg:lo<=hi:=hg;have p7:sC (.int x) (.int 7)=some (.int (x^7)):=Bl x 7 (by decide) ‹0›;have gm:=λi=>fV (i:=i) (show(0:Int)<hi-lo+1 by omega);refine⟨.int (lo+x^7%(hi-lo+1)),?_,.int _ .nil⟩;simp! only[Kd.d,Lp,p7,gm]
 |wrd ws=>
  obtain⟨wn,_⟩:=(show ws≠[]/\ws.length<=100 from hg)
  have ul:0<ws.length:=List.length_pos_iff.mpr wn;have q1:=S4 x (show(ws.length:Int)≠0 by omega);have q2:=S5 x (show(0:Int)<(ws.length:Int)by omega);have gm:=λi=>fV (i:=i) (show(0:Int)<(ws.length:Int)by omega);have ix:aH (.tup (ws.map .str)) (.int (x%(ws.length:Int)))=some (.str (ws[(x%(ws.length:Int)).toNat]'‹0›)):=by
   rw[IL,BW,qj q1 q2];rfl
  refine⟨_,?_,.str (ws[(x%(ws.length:Int)).toNat]'‹0›) .nil⟩;simp! only[Kd.d,K1,Ii,Q2,gm,ix]
theorem Fw(n g:Nat)(hv:∀(d:D)(x:Int),KG n d->0<=x->x<2147483700->∃v,aA (g+1) [d,.int x]=.ok v/\AL (2*n) v)(ks:KL)(qs:List (Str×D))(k8:ks.length<=8)(q8:qs.length<=8)(hk:∀p∈ks,p.2.gd)(hq:∀q∈qs,KG n q.2)(mn hd tl:Int)(h0:0<=hd)(h1:hd<2147483700)(t0:0<=tl)(t1:tl<2147483700):
  ∃vs:List D,aI (g+2) [fr ks qs,.int mn,.int hd,.int tl]=.ok (.tup vs)/\vs.length=ks.length+qs.length/\Sh (ks.map (·.2.b)) (vs.take ks.length)/\∀v∈vs,AL (2*n) v:=by
 rw[i7,Bp];unfold lY;have ad:=iS (ks.map kf) (qs.map fld) (by rw[Q2,Q2];omega);have em:ks.map kf++qs.map fld=(ks.map toD++qs).map fld:=by rw[RT,tE]
 rw[em]at ad;have fl:(ks.map toD++qs).length=ks.length+qs.length:=by rw[Rh,Q2]
 obtain⟨T,hT⟩:∃T:cn,T=(kE 4 (bM (fL cP (af (ah 4) (aw))))):=⟨_,rfl⟩
 rw[<-hT];simp! only[MQ,ad];refine dQ (Q:=λz=>∃vs:List D,z=.ok (.tup vs)/\vs.length=ks.length+qs.length/\Sh (ks.map (·.2.b)) (vs.take ks.length)/\∀v∈vs,AL (2*n) v)
  (λi ρ=>∃(y z:Int)(ka va:List D),0<=y/\y<2147483700/\0<=z/\z<2147483700/\Sh ((ks.take i).map (·.2.b)) ka/\va.length=i-ks.length/\(∀v∈va,AL (2*n) v)/\ρ=[‹fr ks qs›,‹.int mn›,‹.int y›,‹.int z›,some (.own (.lst (ka++va))),none,none]) ?_ ⟨hd,tl,[],[],h0,h1,t0,t1,.nil,by simp,(λ_ h=>nomatch h),rfl⟩ ?_
 ·rintro i d ρ kk hd ⟨y,z,ka,va,y0,y1,z0,z1,hka,lva,hva,rfl⟩;have hi:=cx hd;rw[Q2,fl]at hi;rw[Rc,RK ‹0›]at hd;cases hd;have kal:ka.length=min i ks.length:=by rw[hka.length,Q2,Q8]
  obtain⟨y',y0',y1',ey⟩:=jg y y0 y1;obtain⟨z',z0',z1',ez⟩:=jg z z0 z1;have step:∀x:Int,0<=x->x<2147483700->∃v,aA (g+1) [((ks.map toD++qs)[i]'‹0›).2,.int x]=.ok v/\∃ka' va',ka++va++[v]=ka'++va'/\Sh ((ks.take (i+1)).map (·.2.b)) ka'/\va'.length=i+1-ks.length/\∀v∈va',AL (2*n) v:=λx x0 x1=>by
   by_cases h:i<ks.length
   ·have e:(ks.map toD++qs)[i]'‹0›=toD ks[i]:=(by rw[List.getElem_append_left (by rw[Q2];exact h),S3]);obtain⟨v,ev,sv⟩:=t9 ks[i].2 (hk _ (Sz h)) g x x0 x1;have v0:va=[]:=List.length_eq_zero_iff.mp ‹0›;subst v0;refine⟨v,by rw[e];exact ev,ka++[v],[],by simp,?_,by simp;omega,λ_ h=>nomatch h⟩;rw[Ti h,RT];exact Ay hka sv
   ·have e:(ks.map toD++qs)[i]'‹0›=qs[i-ks.length]'‹0›:=(by rw[Tj (by rw[Q2];omega)];simp);obtain⟨v,ev,sv⟩:=hv _ x (hq _ (Sz (show i-ks.length<qs.length by omega))) x0 x1;refine⟨v,by rw[e];exact ev,ka,va++[v],by rw[R1],?_,by rw[Rh,Rn];omega,λw hw=>?_⟩
    ·rw[SK ‹0›]at hka ⊢;exact hka
    ·rcases List.mem_append.mp hw with z|z
     ·exact hva w z
     ·rw[List.mem_singleton.mp z];exact sv
  have gt:gT 2 (kP [5,6]) (fld ((ks.map toD++qs)[i]'‹0›)) [‹fr ks qs›,‹.int mn›,‹.int y›,‹.int z›,some (.own (.lst (ka++va))),none,none]=some [‹fr ks qs›,‹.int mn›,‹.int y›,‹.int z›,some (.own (.lst (ka++va))),‹.str ((ks.map toD++qs)[i]'‹0›).1›,‹((ks.map toD++qs)[i]'‹0›).2›]:=rfl;have alen:(ka++va).length<1000:=by rw[Rh];omega
  generalize (ks.map toD++qs)[i]'‹0›=p at step gt;cases hb:decide (((ka++va).length:Int)<mn)with
  |true=>
   obtain⟨v,ev,ka',va',e1,e2,e3,e4⟩:=step y' y0' ‹0›;refine⟨_,_,gt,⟨y',z,ka',va',y0',by omega,z0,z1,e2,e3,e4,rfl⟩,?_⟩;have ap:ig (ka++va) [v]=some (ka'++va'):=(by rw[nu ‹0›,e1]);have sm:=λK:Ks=>nh 4 ig (af (fR (aA (g+1)) (af (ah 6) (af (ah 2) (aw)))) (aw)) K [‹fr ks qs›,‹.int mn›,‹.int y'›,‹.int z›,some (.own (.lst (ka++va))),‹.str p.1›,‹p.2›] (xs:=ka++va) rfl;generalize ka++va=A at hb ap sm alen;generalize ka'++va'=B at ap;simp! only[uj,JQ,hb,ey,sm,ev,ap]
  |false=>
   obtain⟨v,ev,ka',va',e1,e2,e3,e4⟩:=step z' z0' ‹0›;refine⟨_,_,gt,⟨y,z',ka',va',y0,y1,z0',by omega,e2,e3,e4,rfl⟩,?_⟩;have ap:ig (ka++va) [v]=some (ka'++va'):=(by rw[nu ‹0›,e1]);have sm:=λK:Ks=>nh 4 ig (af (fR (aA (g+1)) (af (ah 6) (af (ah 3) (aw)))) (aw)) K [‹fr ks qs›,‹.int mn›,‹.int y›,‹.int z'›,some (.own (.lst (ka++va))),‹.str p.1›,‹p.2›] (xs:=ka++va) rfl;generalize ka++va=A at hb ap sm alen;generalize ka'++va'=B at ap;simp! only[uj,JQ,hb,ez,sm,ev,ap]
 ·rintro ρ' ⟨y,z,ka,va,y0,y1,z0,z1,hka,lva,hva,rfl⟩;rw[Q2,fl]at hka lva;rw[SK ‹0›]at hka;have kal:ka.length=ks.length:=by rw[hka.length,Q2]
  refine⟨ka++va,?_,by rw[Rh];omega,by rw[<-kal,Tn];exact hka,λv hv=>?_⟩
  ·rw[hT];generalize ka++va=A;simp! only[]
  ·rcases List.mem_append.mp hv with w|w
   ·exact(wy hka v w).of0 _
   ·exact hva v w
theorem HX(n g:Nat)(hv:∀(d:D)(x:Int),KG n d->0<=x->x<2147483700->∃v,aA (g+1) [d,.int x]=.ok v/\AL (2*n) v)(ks:KL)(qs:List (Str×D))(k1:1<=ks.length)(k8:ks.length<=8)(q8:qs.length<=8)(hk:∀p∈ks,p.2.gd)(hq:∀q∈qs,KG n q.2)(x:Int)(m:Nat)(h0:0<=x)(h1:x<2147483700)(hm:m<=3):
  ∃v:D,aN (g+3) [fr ks qs,.int x,.int m]=.ok v/\AL (2*n+2) v:=by
 have rn:=n9 m ‹0›;obtain⟨T,hT⟩:∃T:cn,T=(kE 3 (bM (fR (aK bQ 2 4) (af (fL je (af (f2 aH (ah 0) (fC (.int 0))) (aw))) (af (ah 3) (aw)))))):=⟨_,rfl⟩
 rw[ik,pA];unfold j4;rw[<-hT];simp! only[MQ,rn];refine dQ (Q:=λz=>∃v:D,z=.ok v/\AL (2*n+2) v)
  (λi ρ=>∃(y:Int)(rs:List (List D)),0<=y/\y<2147483700/\rs.length=i/\(∀r∈rs,r.length<=16/\Sh (ks.map (·.2.b)) (r.take ks.length)/\∀v∈r,AL (2*n) v)/\ρ=[‹fr ks qs›,‹.int y›,‹.int m›,some (.own (.lst (rs.map .tup))),none]) ?_ ⟨x,[],h0,h1,rfl,(λ_ h=>nomatch h),rfl⟩ ?_
 ·rintro i d ρ kk hd ⟨y,rs,y0,y1,rl,hr,rfl⟩;have hi:=cx hd;rw[dI]at hi;obtain⟨y',y0',y1',ey⟩:=jg y y0 y1;obtain⟨vs,ev,v1,v2,v3⟩:=Fw n g hv ks qs k8 q8 hk hq 0 0 y' (by decide) (by decide) y0' ‹0›;refine⟨_,_,rfl,⟨y',rs++[vs],y0',by omega,by rw[Rh,Rn,rl],λr h=>?_,rfl⟩,?_⟩
  ·rcases List.mem_append.mp h with z|z
   ·exact hr r z
   ·rw[List.mem_singleton.mp z];exact⟨by omega,v2,v3⟩
  ·have ap:ig (rs.map .tup) [.tup vs]=some ((rs++[vs]).map .tup):=by
    rw[nu (by rw[Q2];omega),RT];rfl
   have sm:=λK:Ks=>nh 3 ig (af (fR (aI (g+2)) (af (ah 0) (af (fC (.int 0)) (af (fC (.int 0)) (af (ah 1) (aw)))))) (aw)) K [‹fr ks qs›,‹.int y'›,‹.int m›,some (.own (.lst (rs.map .tup))),‹d›] (xs:=rs.map .tup) rfl;generalize (rs++[vs]).map D.tup=Y at ap ⊢;generalize rs.map D.tup=Z at ap sm ⊢;simp! only[ey,sm,ev,ap]
 ·rintro ρ' ⟨y,rs,y0,y1,rl,hr,rfl⟩;rw[dI]at rl;obtain⟨t,et,_,tm,tl⟩:=wN (σ:=ks.map (·.2.b)) (kl:=ks.length) (λz=>by have:=congrArg List.length z;rw[Q2,Rt]at this;omega) (by rw[Q2]) rs (λr h=>(hr r h).2.1) ‹0›;refine⟨.tup (t.map .tup),?_,AL.tup (by rw[Q2];omega) λv hv=>?_⟩
  ·rw[hT];simp! only[Q2,et]
  ·obtain⟨r,h1,rfl⟩:=List.mem_map.mp hv;obtain⟨w1,_,w3⟩:=hr r (tm r h1);exact AL.tup ‹0› w3
theorem FY:∀(n g:Nat),3*n+1<=g->∀(d:D)(x:Int),KG n d->0<=x->x<2147483700->∃v,aA g [d,.int x]=.ok v/\AL (2*n) v:=by
 intro n
 induction n with
 |zero=>
  intro g hg d x hd h0 h1;obtain⟨g,rfl⟩:∃g',g=g'+1:=⟨g-1,by omega⟩
  obtain⟨c,cg,rfl⟩:=hd;obtain⟨v,ev,sv⟩:=t9 c cg g x h0 h1;exact⟨v,ev,wy sv v QO⟩
 |succ n ih=>
  intro g hg d x hd h0 h1;obtain⟨g,rfl⟩:∃g',g=g'+3+1:=⟨g-4,by omega⟩
  rcases hd with⟨c,cg,rfl⟩|⟨ks,qs,b,rfl,k1,k8,hk,q8,hq⟩
  ·obtain⟨v,ev,sv⟩:=t9 c cg (g+3) x h0 h1;exact⟨v,ev,(wy sv v QO).of0 _⟩
  ·have d3:=gd 3;have g3:=gm 3;obtain⟨m,hm,em⟩:∃m:Nat,m<=3/\rR [.int (x%3),.int (if b then 1 else 0)]=some (.int (m:Int)):=by
    refine⟨(if(if b then(1:Int)else 0)>x%3 then(if b then(1:Int)else 0)else x%3).toNat,?_,?_⟩
    ·cases b<;>simp<;>split<;>omega
    ·rw[lK];congr 2;cases b<;>simp<;>split<;>omega
   obtain⟨v,ev,av⟩:=HX n g (ih (g+1) ‹0›) ks qs k1 k8 q8 hk hq (x/3) m ‹0› ‹0› hm;refine⟨v,?_,av⟩;rw[eU,dX];unfold gF;simp! only[Ku,Jf,d3,g3,Es,em,ev]
structure Tab(σ:List Bool)(t:List (List D)):Prop where
 sh:∀r∈t,Sh σ (r.take σ.length)
 ri:JL σ.length t
 ln:t.length<64
 rl:∀r∈t,r.length<=16/\σ.length<=r.length
 al:∀r∈t,∀v∈r,AL 6 v
theorem G2(ks:KL)(qs:List (Str×D))(n:Nat)(hn:n<=2)(k1:1<=ks.length)(k8:ks.length<=8)(q8:qs.length<=8)(hk:∀p∈ks,p.2.gd)(hq:∀q∈qs,KG n q.2)(m:Int)(ns:List Int)(hl:ns.length<=63):
  ∃t:List (List D),(Tab (ks.map (·.2.b)) t/\∀r∈t,∀v∈r,AL 4 v)/\aK gA 5 8 [fr ks qs,.int m,.lst (ns.map .int),.int 2,.int 60]=.ok (.tup (t.map .tup)):=by
 have g2:=gm 2;have g4:=gm 4;have d2:=gd 2;have l2:∀a b:D,ku [a,b]=some (.lst [a,b]):=λ_ _=>nr rfl;obtain⟨N,hN,rn⟩:∃N:Nat,N<=60/\∀e1 e2:Int,rR [.int (ns.length:Int),.int 7]=some (.int e1)->yX [.int e1,.int 62]=some (.int e2)->sO [.int 2,.int e2]=some (fQ 2 N):=by
  refine⟨((if(62:Int)<(if(7:Int)>(ns.length:Int)then 7 else(ns.length:Int))then 62 else(if(7:Int)>(ns.length:Int)then 7 else(ns.length:Int)))-2).toNat,?_,λe1 e2 h1 h2=>?_⟩
  ·split<;>split<;>omega
  ·rw[lK]at h1;cases h1;rw[ng]at h2;cases h2;generalize he:(if(62:Int)<(if(7:Int)>(ns.length:Int)then 7 else(ns.length:Int))then 62 else(if(7:Int)>(ns.length:Int)then 7 else(ns.length:Int)))=e;have e2:2<=e/\e<=62:=(by rw[<-he];split<;>split<;>omega);show(if okR 2&&okR e then some (fQ 2 ((e-2).toNat))else none)=_;have o1:okR 2=true:=decide_eq_true ⟨by decide,by decide⟩;have o2:okR e=true:=decide_eq_true ⟨by omega,by omega⟩;rw[o1,o2];rfl
 have mx:=lK (ns.length:Int) 7;have rn:=rn _ _ mx (ng _ _);obtain⟨T,hT⟩:∃T:cn,T=(kE 5 (bM (fR (aK bQ 2 4) (af (fL je (af (f2 aH (ah 0) (fC (.int 0))) (aw))) (af (ah 5) (aw)))))):=⟨_,rfl⟩
 rw[Li];unfold gA;rw[<-hT];have p7:(2:Int)+5=7:=rfl;have p62:(2:Int)+60=62:=rfl;simp! only[MQ,Q2,p7,p62,rn];refine dQ (Q:=λz=>∃t:List (List D),(Tab (ks.map (·.2.b)) t/\∀r∈t,∀v∈r,AL 4 v)/\z=.ok (.tup (t.map .tup)))
  (λi ρ=>∃rs:List (List D),rs.length=i/\(∀r∈rs,r.length=ks.length+qs.length/\Sh (ks.map (·.2.b)) (r.take ks.length)/\∀v∈r,AL 4 v)/\ρ=[‹fr ks qs›,‹.int m›,‹.lst (ns.map .int)›,‹.int 2›,‹.int 60›,some (.own (.lst (rs.map .tup))),none,none]) ?_ ⟨[],rfl,(λ_ h=>nomatch h),rfl⟩ ?_
 ·rintro i d ρ kk hd ⟨rs,rl,hr,rfl⟩;have hi:=cx hd;rw[dI]at hi;have hdi:d=.int ((2+i:Nat):Int):=by
   rw[oE,Rc,RY hi]at hd;cases hd;simp
  subst hdi;obtain⟨x,x0,x1,ex⟩:=xh ns (2+i) ‹0›;obtain⟨y,y0,y1,ey⟩:=jg x x0 ‹0›;obtain⟨h,h0,h1,eh⟩:∃h:Int,0<=h/\h<2147483700/\aH (.lst [.int (x/2%4),.int (x/2)]) (.int (x%2))=some (.int h):=by
   rcases(show x%2=0\/x%2=1 by omega)with z|z<;>rw[z]
   ·exact⟨x/2%4,by omega,by omega,rfl⟩
   ·exact⟨x/2,by omega,by omega,rfl⟩
  obtain⟨vs,ev,v1,v2,v3⟩:=Fw n 18 (FY n 19 ‹0›) ks qs k8 q8 hk hq m h y h0 h1 y0 ‹0›;have ev:aI 20 [fr ks qs,.int m,.int h,.int y]=.ok (.tup vs):=ev;refine⟨_,_,rfl,⟨rs++[vs],by rw[Rh,Rn,rl],λr h=>?_,rfl⟩,?_⟩
  ·rcases List.mem_append.mp h with z|z
   ·exact hr r z
   ·rw[List.mem_singleton.mp z];exact⟨v1,v2,λv hv=>AL.le ‹0› (v3 v hv)⟩
  ·have ap:ig (rs.map .tup) [.tup vs]=some ((rs++[vs]).map .tup):=by
    rw[nu (by rw[Q2];omega),RT];rfl
   have sm:=λK:Ks=>nh 5 ig (af (fR (aI 20) (af (ah 0) (af (ah 1) (af (f2 aH (jM (af (f2 cS (f2 dN (ah 7) (fC (.int 2))) (fC (.int 4))) (af (f2 dN (ah 7) (fC (.int 2))) (aw)))) (f2 cS (ah 7) (fC (.int 2)))) (af (fR (aK bd 1 1) (af (ah 7) (aw))) (aw)))))) (aw)) K [‹fr ks qs›,‹.int m›,‹.lst (ns.map .int)›,‹.int 2›,‹.int 60›,some (.own (.lst (rs.map .tup))),‹.int ((2+i:Nat):Int)›,‹.int x›] (xs:=rs.map .tup) rfl;generalize (rs++[vs]).map D.tup=Y at ap ⊢;generalize rs.map D.tup=Z at ap sm ⊢;simp! only[ex,sm,d2,g4,l2,g2,eh,ey,ev,ap]
 ·rintro ρ' ⟨rs,rl,hr,rfl⟩;rw[dI]at rl;have sl:(ks.map (·.2.b)).length=ks.length:=by rw[Q2]
  obtain⟨t,et,ri,tm,tl⟩:=wN (σ:=ks.map (·.2.b)) (kl:=ks.length) (λz=>by have:=congrArg List.length z;rw[Q2,Rt]at this;omega) sl.symm rs (λr h=>(hr r h).2.1) ‹0›;refine⟨t,⟨⟨λr h=>by rw[sl];exact(hr r (tm r h)).2.1,by rw[sl];exact ri,by omega,λr h=>by have:=(hr r (tm r h)).1;rw[sl];omega,λr h v hv=>AL.le (by decide) ((hr r (tm r h)).2.2 v hv)⟩,λr h=>(hr r (tm r h)).2.2⟩,?_⟩;rw[hT];simp! only[Q2,et]
theorem Fd(ns:List Int)(c1:Int)(e1:aK cD 2 2 [.lst (ns.map .int),.int 1]=.ok (.int c1)):∃(ks:KL)(qs:List (Str×D))(n:Nat),n<=2/\2<=ks.length/\ks.length<=8/\qs.length<=8/\(∀p∈ks,p.2.gd)/\(∀q∈qs,KG n q.2)/\(∀(j:Nat)(w:Str),(ks.map (·.1)++qs.map (·.1))[j]?=some w->C0 (c1*48271%2147483647) (0+(j:Int)) w)/\aK dC 2 7 [.lst (ns.map .int),.int 2]=.ok (fr ks qs):=by
 obtain⟨x,x0,x1,ex⟩:=xh ns 0 ‹0›;have ex:aK cR 2 3 [.lst (ns.map .int),.int 0]=.ok (.int x):=ex;obtain⟨y,y0,y1,ey⟩:=jg x x0 ‹0›;have mm:=λi=>pR (i:=i) (j:=48271) (by decide) (by decide);have gM:=gm 2147483647;have g3:=gm 3;have g4:=gm 4;have g8:=gm 8;have g9:=gm 9;have d8:=gd 8;have d32:=gd 32;have d128:=gd 128;have d1024:=gd 1024;have d4096:=gd 4096;have s52:(5:Int)-2=3:=rfl;obtain⟨b,hb,b0⟩:∃b:Int,c1*48271%2147483647=b/\0<=b:=⟨_,rfl,S4 _ (by decide)⟩
 rw[hb];obtain⟨dp,dp2,ed⟩:∃dp:Nat,dp<=2/\aH (.lst [.int 0,.int 0,.int 1,.int 2]) (.int (x/32%4))=some (.int (dp:Int)):=by
  rcases(show x/32%4=0\/x/32%4=1\/x/32%4=2\/x/32%4=3 by omega)with z|z|z|z<;>rw[z]
  ·exact⟨0,by decide,rfl⟩
  ·exact⟨0,by decide,rfl⟩
  ·exact⟨1,by decide,rfl⟩
  ·exact⟨2,by decide,rfl⟩
 rw[dX];unfold dC;cases h3:(x/128%8==3)with
 |true=>
  obtain⟨ks,qs,ef,l1,l2,f1,f2,fn⟩:=Cg 0 (by decide) y b 0 (8-x/1024%3).toNat (x/4096%9).toNat y0 ‹0› b0 (by decide) ‹0› ‹0›;rw[To ‹0›,To ‹0›]at ef;refine⟨ks,qs,0,by decide,by omega,by omega,by omega,f1,f2,fn,?_⟩;have ef:aZ 20 [.int y,.int b,.int 0,.int (8-x/1024%3),.int (x/4096%9),.int 0]=.ok (fr ks qs):=ef;simp! only[ex,e1,mm,gM,hb,s52,g3,d8,g4,Mm,d32,ed,d128,g8,h3,d1024,d4096,g9,ey,ef]
 |false=>
  obtain⟨ks,qs,ef,l1,l2,f1,f2,fn⟩:=Cg dp ‹0› y b 0 (2+x%3).toNat (x/8%4).toNat y0 ‹0› b0 (by decide) ‹0› ‹0›;rw[To ‹0›,To ‹0›]at ef;refine⟨ks,qs,dp,dp2,by omega,by omega,by omega,f1,f2,fn,?_⟩;simp! only[ex,e1,mm,gM,hb,s52,g3,d8,g4,Mm,d32,ed,d128,g8,h3,ey,ef]
theorem zip_get:∀(xs:List D)(i:Nat)(d:D),(mM xs xs)[i]?=some d->∃x∈xs,d=.tup [x,x]
 |x::xs,0,d,h=>by cases h;exact⟨x,QO,rfl⟩
 |x::xs,i+1,d,h=>by
  obtain⟨y,h1,h2⟩:=zip_get xs i d h;exact⟨y,QP _ h1,h2⟩
theorem uq:∀(n g:Nat)(d:D),n<g->AL n d->aC g [d,d]=.ok (.bl true):=by
 intro n
 induction n with
 |zero=>
  intro g d hg hd;obtain⟨g,rfl⟩:∃g',g=g'+1:=⟨g-1,by omega⟩
  show aK (cA (aC g)) 2 4 [d,d]=_;rw[dX];unfold cA;rcases hd with⟨i,rfl⟩|⟨x,rfl⟩
  ·have t2:iO "str" (.int i)=some (.bl false):=rfl;have t3:iO "int" (.int i)=some (.bl true):=rfl;have t4:iO "bool" (.int i)=some (.bl false):=rfl;simp! only[t2,t3,t4,beq_self_eq_true,RM]
  ·have t2:iO "str" (.str x)=some (.bl true):=rfl;simp! only[t2,beq_self_eq_true,RM]
 |succ n ih=>
  intro g d hg hd;obtain⟨g,rfl⟩:∃g',g=g'+1:=⟨g-1,by omega⟩
  show aK (cA (aC g)) 2 4 [d,d]=_;rw[dX];unfold cA;rcases hd with(⟨i,rfl⟩|⟨x,rfl⟩)|⟨ds,rfl,dl,hds⟩
  ·have t2:iO "str" (.int i)=some (.bl false):=rfl;have t3:iO "int" (.int i)=some (.bl true):=rfl;have t4:iO "bool" (.int i)=some (.bl false):=rfl;simp! only[t2,t3,t4,beq_self_eq_true,RM]
  ·have t2:iO "str" (.str x)=some (.bl true):=rfl;simp! only[t2,beq_self_eq_true,RM]
  ·have t1:iO "tuple" (.tup ds)=some (.bl true):=rfl;have t2:iO "str" (.tup ds)=some (.bl false):=rfl;have t3:iO "int" (.tup ds)=some (.bl false):=rfl;have t4:iO "bool" (.tup ds)=some (.bl false):=rfl;simp! only[t1,t2,t3,t4,beq_self_eq_true,v8];refine dQ (Q:=λz=>z=.ok (.bl true)) (λi ρ=>ρ=[‹.tup ds›,‹.tup ds›,none,none]) ?_ rfl ?_
   ·rintro i d ρ kk hd rfl;obtain⟨x,hx,rfl⟩:=zip_get ds i d hd;have ea:=ih g x ‹0› (hds x hx);refine⟨[‹.tup ds›,‹.tup ds›,‹x›,‹x›],_,rfl,rfl,?_⟩;simp! only[ea]
   ·rintro ρ' rfl;rfl
noncomputable def kq(f:List D):List Key:=(keysOf f).getD []
theorem Mr(q:List Key):kq (q.map bx)=q:=by unfold kq;rw[cO];rfl
theorem wG{σ:List Bool}{f:List D}(h:Sh σ f):(kq f).map bx=f:=by
 obtain⟨q,e⟩:=sS h;rw[e,Mr]
theorem Ai{σ:List Bool}{f f':List D}(h:Sh σ f)(h':Sh σ f')(e:kq f=kq f'):f=f':=by
 rw[<-wG h,e,wG h']
section
open Classical
theorem Ga{σ:List Bool}(k:List D)(v:D)(hk:Sh σ k)(ψ:List D->List D):∀L:List (List D),(∀f∈L,Sh σ f)->L.Nodup->(∀f∈L,(ψ f).length<1000)->(k∉L->ψ k=[])->
  u9 (L.map λf=>(kq f,.lst (ψ f))) (kq k) v=some ((if k∈L then L else L++[k]).map λf=>(kq f,.lst (ψ f++if k=f then[v]else[])))
 |[],_,_,_,h0=>by
  rw[if_neg (by simp)];show some [(kq k,D.lst [v])]=some [(kq k,.lst (ψ k++if k=k then[v]else[]))];rw[h0 (by simp),if_pos rfl];rfl
 |f::L,hL,nd,hl,h0=>by
  obtain⟨n1,n2⟩:=List.nodup_cons.mp nd;show(if kq f=kq k then _ else _)=_;by_cases h:f=k
  ·subst h;rw[if_pos rfl,if_pos QO];show(if small ((ψ f).length+1)then some ((kq f,D.lst (ψ f++[v]))::L.map λf=>(kq f,.lst (ψ f)))else none)=_;have hl0:=hl f QO;rw[if_pos (show small ((ψ f).length+1)=true from decide_eq_true ‹0›),Q1,if_pos rfl];congr 2;refine RQ λx hx=>?_;rw[if_neg (λz=>n1 (by rw[z];exact hx)),Q5]
  ·rw[if_neg (λz=>h (Ai (hL f QO) hk z))];have ih:=Ga k v hk ψ L (λx hx=>hL x (QP _ hx)) n2 (λx hx=>hl x (QP _ hx)) (λz=>h0 λy=>by
    rcases List.mem_cons.mp y with y|y
    ·exact h y.symm
    ·exact z y)
   rw[show u9 (List.map (λf=>(kq f,D.lst (ψ f))) L) (kq k) v=_ from ih];have em:k∈f::L↔k∈L:=by
    rw[R4];exact⟨λz=>z.resolve_left λy=>h y.symm,.inr⟩
   by_cases hm:k∈L
   ·rw[if_pos hm,if_pos (em.mpr hm),Q1,if_neg (λz=>h z.symm),Q5];rfl
   ·rw[if_neg hm,if_neg (λz=>hm (em.mp z)),RB,Q1,if_neg (λz=>h z.symm),Q5];rfl
theorem x9:∀(ps al:List (List Key×D)),((al++ps).map (·.1)).Nodup->ps.foldl (λal p=>i6 al p.1 p.2) al=al++ps
 |[],al,_=>by rw[Q5];rfl
 |p::ps,al,h=>by
  rw[Sr];have e:i6 al p.1 p.2=al++[p]:=by
   unfold i6;rw[if_neg];intro z;obtain⟨a,ha,e⟩:=List.any_eq_true.mp z;rw[RT,Q1]at h;exact(List.nodup_append.mp h).2.2 a.1 (List.mem_map.mpr ⟨a,ha,rfl⟩) p.1 QO (of_decide_eq_true e)
  rw[e,x9 ps (al++[p]) (by rw[R1];exact h),R1];rfl
theorem uz:∀ps:List (List Key×D),i5 (ps.map lm)=some ps
 |[]=>rfl
 |p::ps=>by
  show(zm (lm p)).bind (λq=>(i5 (ps.map lm)).map (q::·))=_;rw[uz ps];show((jS (.tup (p.1.map bx))).map _).bind _=_;rw[p6];rfl
end
section
open Classical
noncomputable def jr(m:Nat)(t:List (List D))(f:List D):List D:=f++[.tup ((gp m t f).map .tup)]
noncomputable def vw(m:Nat)(t:List (List D)):D:=.tup ((fs m t).map λf=>.tup (jr m t f))
theorem xj(m:Nat)(t:List (List D))(f:List D):(gp m t f).length<=t.length:=by
 unfold gp;rw[Q2];exact List.length_filter_le _ _
section
variable{σ:List Bool}{t:List (List D)}{m:Nat}
theorem Tab.fsh(T:Tab σ t)(hm:m<=σ.length):∀r∈t,Sh (σ.take m) (r.take m):=λr h=>by
 have:=sK m (T.sh r h)
 rw[S7,SN hm]at this;exact this
theorem zW(s:List (List D))(h:∀r∈s,Sh (σ.take m) (r.take m)):∀f∈fs m s,Sh (σ.take m) f:=λf hf=>by
 obtain⟨r,hr,rfl⟩:=(lW m).mp hf;exact h r hr
theorem Cd(T:Tab σ t)(f:List D)(h:f∈fs m t):f.length<=16:=by
 obtain⟨r,hr,rfl⟩:=(lW m).mp h
 have:=(T.rl r hr).1
 rw[Q8];omega
theorem J6(T:Tab σ t)(hm:m<=σ.length)(f:List D)(h:f∈fs m t):f.length=m:=by
 obtain⟨r,hr,rfl⟩:=(lW m).mp h
 have:=(T.rl r hr).2
 rw[Q8];omega
theorem Tab.sub{s:List (List D)}(T:Tab σ t)(h:s.Sublist t):Tab σ s:=
 ⟨λr hr=>T.sh r (h.subset hr),T.ri.sublist h,R0 h.length_le T.ln,λr hr=>T.rl r (h.subset hr),λr hr=>T.al r (h.subset hr)⟩
theorem zk{i:Nat}(h:i<t.length):t.take (i+1)=t.take i++[t[i]]:=Ti h
theorem Iq(L:List (List D))(nd:L.Nodup)(h:∀f∈L,Sh (σ.take m) f)(v:List D->D):((L.map λf=>(kq f,v f)).map (·.1)).Nodup:=by
 rw[SE];refine List.pairwise_map.mpr (List.Pairwise.imp_of_mem (λ{a b} ha hb ne e=>ne ?_) nd);exact Ai (h a ha) (h b hb) e
theorem rJ(T:Tab σ t)(hm:m<=σ.length):aK fW 2 4 [.int m,vw m t]=.ok (.tup (t.map .tup)):=by
 have fl:=mi m t;have tl:=T.ln;have fi:=Iu m rfl T.sh hm T.ri;unfold flat at fi;rw[dX];unfold fW;unfold vw;simp! only[MQ];refine dQ (Q:=λz=>z=.ok (.tup (t.map .tup))) (λi ρ=>ρ=[‹.int m›,‹vw m t›,some (.own (.lst ((((fs m t).take i).flatMap λf=>(gp m t f).map (f++·)).map .tup))),none]) ?_ rfl ?_
 ·rintro i d ρ kk hd rfl;have hi:=cx hd;rw[Q2]at hi;rw[Rc,RK hi]at hd;cases hd;obtain⟨f,ef⟩:∃f,f=(fs m t)[i]:=⟨_,rfl⟩
  have fm:f∈fs m t:=by rw[ef];exact Sz hi
  rw[<-ef];have fml:=J6 T hm f fm;have f16:=Cd T f fm;have ix:aH (.tup (jr m t f)) (.int m)=some (.tup ((gp m t f).map .tup)):=by
   unfold jr;rw[IL,qj (QW _) (by rw[Rh,Rn];omega)];congr 1;rw[Tj (by show f.length<=m;omega)];exact List.getElem_singleton _
  have ct:cutD (jr m t f) none (some (m:Int))=f:=by
   rw[tI,<-fml];unfold jr;rw[Tn]
  have gl:=xj m t f;have gw:∀w∈gp m t f,w.length<=16:=λw hw=>by
   unfold gp at hw;obtain⟨r,hr,rfl⟩:=List.mem_map.mp hw
   have:=(T.rl r (List.mem_filter.mp hr).1).1
   rw[Rj];omega
  generalize hA:((((fs m t).take i).flatMap λf=>(gp m t f).map (f++·)).map D.tup)=A;have al:A.length<=t.length:=by
   rw[<-hA,Q2]
   conv=>rhs;rw[<-fi,<-Tg i (fs m t),Td,Rh]
   omega
  have lc:kr [none,some 3,some 0] (bT (f2 aH (ah 3) (ah 0))) (gN 0) (dF) (f2 ce (dJ (ah 1) (cK) (fI (ah 2))) (ah 0)) [‹.int m›,‹vw m t›,some (.own (.lst A)),‹.tup (jr m t f)›]=.ok (.lst (((gp m t f).map (f++·)).map .tup)):=by
   refine eV (ds:=(gp m t f).map .tup) (by simp! only[ix]) (by rw[Q2];omega) ?_
   have:=jk (ρ:=inB [none,some 3,some 0] [‹.int m›,‹vw m t›,some (.own (.lst A)),‹.tup (jr m t f)›]) (g:=gN 0) (C:=dF) (Fe:=f2 ce (dJ (ah 1) (cK) (fI (ah 2))) (ah 0)) D.tup (λw=>.tup (f++w)) (gp m t f) λw hw=>by
    have ad:=iS f w (by have:=gw w hw;omega);refine⟨[‹.tup w›,‹.tup (jr m t f)›,‹.int m›],rfl,rfl,?_⟩;simp! only[ct,ad]
   rw[this,SE];rfl
  refine⟨_,_,rfl,rfl,?_⟩;have e1:(((fs m t).take (i+1)).flatMap λf=>(gp m t f).map (f++·)).map D.tup=A++((gp m t f).map (f++·)).map .tup:=by
   rw[Ti hi,<-ef,Td,RT,hA,Te]
  rw[e1];have ex:∀K:Ks,Fx 2 (kr [none,some 3,some 0] (bT (f2 aH (ah 3) (ah 0))) (gN 0) (dF) (f2 ce (dJ (ah 1) (cK) (fI (ah 2))) (ah 0))) K [‹.int m›,‹vw m t›,some (.own (.lst A)),‹.tup (jr m t f)›]=K.nx [‹.int m›,‹vw m t›,some (.own (.lst (A++((gp m t f).map (f++·)).map .tup))),‹.tup (jr m t f)›]:=λK=>by
   show tq _ K _ _=_;rw[lc,rL];show(if small _ then _ else _)=_;rw[if_pos (dE (by rw[Q2,Q2];omega))];rfl
  generalize A++((gp m t f).map (f++·)).map .tup=Y at ex ⊢;simp! only[ex]
 ·rintro ρ' rfl;rw[Q2,RW,fi];simp! only[]
theorem ua(T:Tab σ t)(hm:m<=σ.length):aK fA 2 4 [.int m,.tup (t.map .tup)]=.ok (oQ ((fs m t).map λf=>(kq f,.tup ((gp m t f).map .tup)))):=by
 have fsh:=T.fsh hm;have fl:=mi m t;have tl:=T.ln;have fsL:=zW t fsh;obtain⟨TT,hT⟩:∃TT:cn,TT=(vM 2 (bM (fL tM (af (kr [none,none] (jp (ah 2)) (gT 2 (kP [0,1])) (dF) (fF (af (ah 0) (af (fL cP (af (ah 1) (aw))) (aw))))) (aw))))):=⟨_,rfl⟩
 rw[dX];unfold fA;rw[<-hT];have nn:∀K:Ks,zM 2 K [‹.int m›,‹.tup (t.map .tup)›,none,none]=K.nx [‹.int m›,‹.tup (t.map .tup)›,some (.nest (dG [])),none]:=λK=>rfl;simp! only[nn];refine dQ (Q:=λz=>z=.ok (oQ ((fs m t).map λf=>(kq f,.tup ((gp m t f).map .tup))))) (λi ρ=>ρ=[‹.int m›,‹.tup (t.map .tup)›,some (.nest (dG ((fs m (t.take i)).map λf=>(kq f,.lst ((gp m (t.take i) f).map .tup))))),none]) ?_ rfl ?_
 ·rintro i d ρ kk hd rfl;have hi:=cx hd;rw[Q2]at hi;rw[Rc,RK hi]at hd;cases hd;have rm:t[i]∈t:=Sz hi;have fi:=mi m (t.take i);rw[Q8]at fi;have gi:=Ga (σ:=σ.take m) (t[i].take m) (.tup (t[i].drop m)) (fsh _ rm) (λf=>(gp m (t.take i) f).map .tup) (fs m (t.take i)) (zW _ λr hr=>fsh r (Tp hr)) (Gv m _) (λf _=>by
   have:=xj m (t.take i) f
   rw[Q8]at this;rw[Q2];omega) (λz=>by
    unfold gp;rw[List.filter_eq_nil_iff.mpr]
    ·rfl
    ·intro x hx y;exact z ((lW m).mpr ⟨x,hx,by simpa using y⟩))
  have ge:∀f,((gp m (t.take i) f).map D.tup++if t[i].take m=f then[.tup (t[i].drop m)]else[])=(gp m (t.take (i+1)) f).map .tup:=λf=>by
   rw[zk hi,sQ,RT];by_cases h:t[i].take m=f
   ·rw[if_pos h,if_pos h];rfl
   ·rw[if_neg h,if_neg h];rfl
  have fe:fs m (t.take (i+1))=if t[i].take m∈fs m (t.take i)then fs m (t.take i)else fs m (t.take i)++[t[i].take m]:=by
   rw[zk hi,oK];rfl
  rw[<-fe]at gi;simp only[ge]at gi;refine⟨_,_,rfl,rfl,?_⟩;have gr:∀K:Ks,Eh 2 (dJ (ah 3) (cK) (fI (ah 0))) (dJ (ah 3) (fI (ah 0)) (cK)) K [‹.int m›,‹.tup (t.map .tup)›,some (.nest (dG ((fs m (t.take i)).map λf=>(kq f,.lst ((gp m (t.take i) f).map .tup))))),‹.tup t[i]›]=K.nx [‹.int m›,‹.tup (t.map .tup)›,some (.nest (dG ((fs m (t.take (i+1))).map λf=>(kq f,.lst ((gp m (t.take (i+1)) f).map .tup))))),‹.tup t[i]›]:=λK=>by
   generalize hal:((fs m (t.take i)).map λf=>(kq f,D.lst ((gp m (t.take i) f).map .tup)))=al at gi;have all:al.length<=t.length:=(by rw[<-hal,Q2];omega);have g2:yC (encK al) (al.map (·.2)) (.tup (t[i].take m)) (.tup (t[i].drop m))=some ((fs m (t.take (i+1))).map λf=>(kq f,.lst ((gp m (t.take (i+1)) f).map .tup))):=by
    unfold yC;rw[kW];show(jS (.tup (t[i].take m))).bind _=_
    have:t[i].take m=(kq (t[i].take m)).map bx:=(wG (fsh _ rm)).symm
    rw[this,p6];show(if small al.length then _ else _)=_;rw[if_pos (dE ‹0›)];exact gi
   have k1:dJ (ah 3) (cK) (fI (ah 0)) [‹.int m›,‹.tup (t.map .tup)›,some (.nest (dG al)),‹.tup t[i]›]=.ok (.tup (t[i].take m)):=by
    generalize dG al=Z;simp! only[tI]
   have k2:dJ (ah 3) (fI (ah 0)) (cK) [‹.int m›,‹.tup (t.map .tup)›,some (.nest (dG al)),‹.tup t[i]›]=.ok (.tup (t[i].drop m)):=by
    generalize dG al=Z;simp! only[yM]
   show(((Ad _).bind λq=>(Ad _).bind λv=>rO (yC (encK al) (al.map (·.2)) q v)).bind _)=_;rw[k1,k2,fZ,cq,fZ,cq,g2,eJ,cq];rfl
  generalize dG ((fs m (t.take (i+1))).map λf=>(kq f,.lst ((gp m (t.take (i+1)) f).map .tup)))=Y at gr ⊢;generalize dG ((fs m (t.take i)).map λf=>(kq f,.lst ((gp m (t.take i) f).map .tup)))=Z at gr ⊢;simp! only[gr]
 ·rintro ρ' rfl;rw[Q2,RW,hT];generalize hal:((fs m t).map λf=>(kq f,D.lst ((gp m t f).map .tup)))=al;have all:al.length<=t.length:=by rw[<-hal,Q2];omega
  have fz:∀(F:cn)(K:Ks),vM 2 F K [‹.int m›,‹.tup (t.map .tup)›,some (.nest (dG al)),none]=F K [‹.int m›,‹.tup (t.map .tup)›,‹oQ al›,none]:=λF K=>by
   show F K (match kI (encK al) (al.map (·.2))with|some al=>setV 2 (oQ al) _|none=>_)=_;rw[kW];rfl
  have knd:=Iq (m:=m) (σ:=σ) (fs m t) (Gv m t) fsL (λf=>.tup ((gp m t f).map .tup));have pr:=uz ((fs m t).map λf=>(kq f,D.tup ((gp m t f).map .tup)));have df:tM [.lst (((fs m t).map λf=>(kq f,D.tup ((gp m t f).map .tup))).map lm)]=some (oQ ((fs m t).map λf=>(kq f,.tup ((gp m t f).map .tup)))):=by
   show(i5 _).bind _=_;rw[pr];show(if small _ then _ else _)=_;rw[if_pos (dE (by rw[Q2];omega))]
   have:=x9 ((fs m t).map λf=>(kq f,D.tup ((gp m t f).map .tup))) [] knd
   unfold ww;rw[this];rfl
  have it:=uA al;have lc:kr [none,none] (jp (ah 2)) (gT 2 (kP [0,1])) (dF) (fF (af (ah 0) (af (fL cP (af (ah 1) (aw))) (aw)))) [‹.int m›,‹.tup (t.map .tup)›,‹oQ al›,none]=.ok (.lst (((fs m t).map λf=>(kq f,D.tup ((gp m t f).map .tup))).map lm)):=by
   refine eV (ds:=al.map lm) ?_ (by rw[Q2];omega) ?_
   ·show((ah 2 _).bind _)=_;generalize oQ al=Z at it;simp! only[it]
   ·rw[<-hal,SE,SE];refine jk _ _ (fs m t) λf hf=>?_;refine⟨[‹.tup ((kq f).map bx)›,‹.lst ((gp m t f).map .tup)›],rfl,rfl,?_⟩;simp! only[Iw];rfl
  generalize oQ al=Z at lc fz;generalize dG al=Z0 at fz ⊢;generalize oQ ((fs m t).map λf=>(kq f,D.tup ((gp m t f).map .tup)))=Y at df ⊢;simp! only[fz,lc,df]
theorem Kn(T:Tab σ t)(hm:m<=σ.length)(o f:D)(ho:mC "many" ["Nest"] o=some (.int m)):aK eK 3 3 [o,f,.tup (t.map .tup)]=.ok (vw m t):=by
 have gi:=ua T hm;have fl:=mi m t;have tl:=T.ln;have fsL:=zW t (T.fsh hm);rw[pA];unfold eK;have it:=uA ((fs m t).map λf=>(kq f,D.tup ((gp m t f).map .tup)));have lc:kr [none,none] (jp (fR (aK fA 2 4) (af (f1 (mC "many" ["Nest"]) (ah 0)) (af (ah 2) (aw))))) (gT 2 (kP [0,1])) (dF) (f2 ce (ah 0) (fF (af (ah 1) (aw)))) [‹o›,‹f›,‹.tup (t.map .tup)›]=.ok (.lst ((fs m t).map λf=>.tup (jr m t f))):=by
  refine eV (ds:=((fs m t).map λf=>(kq f,D.tup ((gp m t f).map .tup))).map lm) ?_ (by rw[Q2,Q2];omega) ?_
  ·show(Except.bind _ _)=_;generalize oQ ((fs m t).map λf=>(kq f,D.tup ((gp m t f).map .tup)))=Z at gi it;simp! only[ho,gi,it]
  ·rw[SE];refine jk _ _ (fs m t) λf hf=>?_;have ad:ce (.tup ((kq f).map bx)) (.tup [.tup ((gp m t f).map .tup)])=some (.tup (jr m t f)):=by
    have:=Cd T f hf
    rw[wG (fsL f hf)];exact iS f _ (by rw[Rn];omega)
   refine⟨[‹.tup ((kq f).map bx)›,‹.tup ((gp m t f).map .tup)›],rfl,rfl,?_⟩;simp! only[OW,ad]
 unfold vw;simp! only[lc]
theorem HI(T:Tab σ t)(hm:m<=σ.length)(o f b:D)(ho:mC "many" ["Nest"] o=some (.int m)):aK d9 4 4 [o,f,b,vw m t]=.ok (.tup (t.map .tup)):=by
 have ui:=rJ T hm;rw[Bp];unfold d9;simp! only[ho,ui]
theorem Tab.ALt(T:Tab σ t):AL 8 (.tup (t.map .tup)):=by
 have:=T.ln
 refine AL.tup (by rw[Q2];omega) λv hv=>?_;obtain⟨r,hr,rfl⟩:=List.mem_map.mp hv
 have:=(T.rl r hr).1
 exact AL.tup ‹0› (T.al r hr)
theorem Dr{ρ:aq}{C:aq->R Bool}(t:List (List D))(o:Nat)(hC:∀(i:Nat)(r:List D),∃ρ1 b,gT 2 (kP [0,1]) (.tup [.int i,.tup r]) ρ=some ρ1/\C ρ1=.ok b/\ah 1 ρ1=.ok (.tup r)):∃s:List (List D),s.Sublist t/\Ab ρ (gT 2 (kP [0,1])) C (ah 1) (gL o (t.map .tup))=.ok (s.map .tup):=by
 induction t generalizing o with
 |nil=>exact⟨[],List.Sublist.refl _,rfl⟩
 |cons r t ih=>
  obtain⟨s,h1,h2⟩:=ih (o+1);obtain⟨ρ1,b,e1,e2,e3⟩:=hC o r;show∃s,_/\Ab ρ _ C (ah 1) (D.tup [.int o,.tup r]::gL (o+1) (t.map .tup))=_;rw[kT,e1,eJ,cq,e2,fZ,cq,h2];cases b with
  |false=>exact⟨s,h1.cons _,rfl⟩
  |true=>
   refine⟨r::s,h1.cons₂ _,?_⟩;rw[if_pos rfl,e3,fZ,cq,cq];rfl
end
end
def AB:Nat->D->Prop
 |0,d=>(∃i,d=.int i)\/(∃x,d=.str x)\/∃b,d=.bl b
 |n+1,d=>((∃i,d=.int i)\/(∃x,d=.str x)\/∃b,d=.bl b)\/∃ds,d=.tup ds/\ds.length<=1000/\∀x∈ds,AB n x
theorem AB.of0{d:D}(h:AB 0 d):∀n,AB n d
 |0=>h
 |_+1=>.inl h
theorem AB.up:∀{n:Nat}{d:D},AB n d->AB (n+1) d
 |0,_,h=>.inl h
 |n+1,_,h=>by
  rcases h with h|⟨ds,e,l,f⟩
  ·exact .inl h
  ·exact .inr ⟨ds,e,l,λx hx=>AB.up (f x hx)⟩
theorem AB.le{n m:Nat}(h:n<=m){d:D}(hd:AB n d):AB m d:=by
  induction m with
  | zero => have : n = 0 := by omega
            subst this;exact hd
  |succ m ih=>
    by_cases e:n=m+1
    ·subst e;exact hd
    ·exact AB.up (ih ‹0›)
theorem AB.tup{n:Nat}{ds:List D}(l:ds.length<=1000)(h:∀x∈ds,AB n x):AB (n+1) (.tup ds):=.inr ⟨ds,rfl,l,h⟩
theorem AB.str{n:Nat}(x:Str):AB n (.str x):=AB.of0 (.inr (.inl ⟨x,rfl⟩)) n
theorem AB.int{n:Nat}(i:Int):AB n (.int i):=AB.of0 (.inl ⟨i,rfl⟩) n
theorem AB.bl{n:Nat}(b:Bool):AB n (.bl b):=AB.of0 (.inr (.inr ⟨b,rfl⟩)) n
theorem tX(g:Nat)(d:D)(h:AB 0 d):aC (g+1) [d,d]=.ok (.bl true):=by
 show aK (cA (aC g)) 2 4 [d,d]=_;rw[dX];unfold cA;rcases h with⟨i,rfl⟩|⟨x,rfl⟩|⟨b,rfl⟩
 ·have t2:iO "str" (.int i)=some (.bl false):=rfl;have t3:iO "int" (.int i)=some (.bl true):=rfl;have t4:iO "bool" (.int i)=some (.bl false):=rfl;simp! only[t2,t3,t4,beq_self_eq_true,RM]
 ·have t2:iO "str" (.str x)=some (.bl true):=rfl;simp! only[t2,beq_self_eq_true,RM]
 ·have t2:iO "str" (.bl b)=some (.bl false):=rfl;have t4:iO "bool" (.bl b)=some (.bl true):=rfl;simp! only[t2,t4,beq_self_eq_true,RM]
theorem G7:∀(n g:Nat)(d:D),n<g->AB n d->aC g [d,d]=.ok (.bl true):=by
 intro n
 induction n with
 |zero=>
  intro g d hg hd;obtain⟨g,rfl⟩:∃g',g=g'+1:=⟨g-1,by omega⟩
  exact tX g d hd
 |succ n ih=>
  intro g d hg hd;obtain⟨g,rfl⟩:∃g',g=g'+1:=⟨g-1,by omega⟩
  rcases hd with h|⟨ds,rfl,dl,hds⟩
  ·exact tX g d h
  ·show aK (cA (aC g)) 2 4 [.tup ds,.tup ds]=_;rw[dX];unfold cA;have t1:iO "tuple" (.tup ds)=some (.bl true):=rfl;have t2:iO "str" (.tup ds)=some (.bl false):=rfl;have t3:iO "int" (.tup ds)=some (.bl false):=rfl;have t4:iO "bool" (.tup ds)=some (.bl false):=rfl;simp! only[t1,t2,t3,t4,beq_self_eq_true,v8];refine dQ (Q:=λz=>z=.ok (.bl true)) (λi ρ=>ρ=[‹.tup ds›,‹.tup ds›,none,none]) ?_ rfl ?_
   ·rintro i d ρ kk hd rfl;obtain⟨x,hx,rfl⟩:=zip_get ds i d hd;have ea:=ih g x ‹0› (hds x hx);refine⟨[‹.tup ds›,‹.tup ds›,‹x›,‹x›],_,rfl,rfl,?_⟩;simp! only[ea]
   ·rintro ρ' rfl;rfl
theorem Ce(c:Kd)(h:c.gd):AB 2 c.d:=by
 cases c with
 |num lo hi=>
  exact AB.tup (by simp) λx hx=>by
   rcases List.mem_cons.mp hx with rfl|hx
   ·exact AB.str _
   ·rcases List.mem_cons.mp hx with rfl|hx
    ·exact AB.int _
    ·rw[List.mem_singleton.mp hx];exact AB.int _
 |wrd ws=>
  have hl:ws.length<=100:=h.2;exact AB.tup (by simp) λx hx=>by
   rcases List.mem_cons.mp hx with rfl|hx
   ·exact AB.str _
   ·rw[List.mem_singleton.mp hx];exact AB.tup (by rw[Q2];omega) λy hy=>by
     obtain⟨w,_,rfl⟩:=List.mem_map.mp hy;exact AB.str _
theorem xL{n:Nat}{a b:D}(ha:AB n a)(hb:AB n b):AB (n+1) (.tup [a,b]):=AB.tup (by simp) λx hx=>by
 rcases List.mem_cons.mp hx with rfl|hx
 ·exact ha
 ·rw[List.mem_singleton.mp hx];exact hb
theorem sL{n:Nat}{L:List D}(hl:L.length<=1000)(h:∀d∈L,∃(w:Str)(k:D),d=.tup [.str w,k]/\AB n k):AB (n+2) (.tup L):=AB.tup hl λx hx=>by
 obtain⟨w,k,rfl,hk⟩:=h x hx;exact xL (AB.str _) hk
theorem Ca{n:Nat}{f:D}(b:Bool)(hf:AB n f):AB (n+1) (.tup [.str "rows",f,.bl b]):=AB.tup (by simp) λx hx=>by
 rcases List.mem_cons.mp hx with rfl|hx
 ·exact AB.str _
 ·rcases List.mem_cons.mp hx with rfl|hx
  ·exact hf
  ·rw[List.mem_singleton.mp hx];exact AB.bl _
theorem Fi{n:Nat}(ks:KL)(qs:List (Str×D))(k8:ks.length<=8)(q8:qs.length<=8)(hk:∀p∈ks,p.2.gd)(hq:∀q∈qs,AB (2+n) q.2):AB (5+n) (fr ks qs):=by
 have e:5+n=(2+n+2)+1:=by omega
 rw[e];refine xL (sL (by rw[Q2];omega) λd hd=>?_) (sL (by rw[Q2];omega) λd hd=>?_)
 ·obtain⟨p,hp,rfl⟩:=List.mem_map.mp hd;exact⟨p.1,p.2.d,rfl,AB.le ‹0› (Ce p.2 (hk p hp))⟩
 ·obtain⟨p,hp,rfl⟩:=List.mem_map.mp hd;exact⟨p.1,p.2,rfl,hq p hp⟩
theorem GD:∀(n:Nat)(d:D),KG n d->AB (2+4*n) d
 |0,d,h=>by
  obtain⟨c,hc,rfl⟩:=h;exact Ce c hc
 |n+1,d,h=>by
  rcases h with⟨c,hc,rfl⟩|⟨ks,qs,b,rfl,_,k8,hk,q8,hq⟩
  ·exact AB.le ‹0› (Ce c hc)
  ·have:=Ca b (Fi (n:=4*n) ks qs k8 q8 hk λq hq'=>GD n _ (hq q hq'))
   exact AB.le ‹0› this
theorem Ag{ρ:aq}{g:GF}{C:aq->R Bool}{Fe:FX}(P:D->Prop):∀ds:List D,(∀d∈ds,∃ρ1 b,g d ρ=some ρ1/\C ρ1=.ok b/\(b=true->∃v,Fe ρ1=.ok v/\P v))->∃vs:List D,(∀v∈vs,P v)/\Ab ρ g C Fe ds=.ok vs
 |[],_=>⟨[],(λ_ h=>nomatch h),rfl⟩
 |d::ds,h=>by
  obtain⟨ρ1,b,e1,e2,e3⟩:=h d QO;obtain⟨vs,v1,v2⟩:=Ag P ds λx hx=>h x (QP _ hx);rw[kT,e1,eJ,cq,e2,fZ,cq,v2];cases b with
  |false=>exact⟨vs,v1,rfl⟩
  |true=>
   obtain⟨v,ev,pv⟩:=e3 rfl;refine⟨v::vs,λx hx=>?_,by rw[if_pos rfl,ev,fZ,cq,cq]⟩;rcases List.mem_cons.mp hx with rfl|hx
   ·exact pv
   ·exact v1 x hx
theorem BV{n:Int}:∀(vs:List Int)(a:Int),0<=a->a<=n->(∀v∈vs,0<v/\v<=n)->0<=vs.foldl mx a/\vs.foldl mx a<=n
 |[],a,h0,h1,_=>⟨h0,h1⟩
 |v::vs,a,h0,h1,h=>by
  rw[Sr]
  have:=h v QO
  exact BV vs _ (by unfold mx;split<;>omega) (by unfold mx;split<;>omega) λw hw=>h w (QP _ hw)
theorem ints_of(n:Int):∀vs:List D,(∀v∈vs,∃z:Int,v=.int z/\0<z/\z<=n)->∃zs:List Int,vs=zs.map .int/\∀z∈zs,0<z/\z<=n
 |[],_=>⟨[],rfl,λ_ h=>nomatch h⟩
 |v::vs,h=>by
  obtain⟨z,e,hz⟩:=h v QO;obtain⟨zs,ez,hs⟩:=ints_of n vs λx hx=>h x (QP _ hx);exact⟨z::zs,by rw[e,ez];rfl,λx hx=>by
   rcases List.mem_cons.mp hx with rfl|hx
   ·exact hz
   ·exact hs x hx⟩
theorem BP(c:Kd):∃x:Str,aH c.d (.int 0)=some (.str x)/\(x==("rows":Str))=false:=by
 cases c with
 |num lo hi=>exact⟨"number",rfl,Kk⟩
 |wrd ws=>exact⟨"word",rfl,Ib⟩
theorem Gf:∀(n g:Nat),n+1<=g->∀(ks:KL)(qs:List (Str×D)),ks.length<=8->qs.length<=8->(∀q∈qs,KG n q.2)->∃d:Int,0<=d/\d<=n/\bw g [fr ks qs]=.ok (.int d):=by
 intro n
 induction n with
 |zero=>
  intro g hg ks qs k8 q8 hq;obtain⟨g,rfl⟩:∃g',g=g'+1:=⟨g-1,by omega⟩
  have ko:=Fa (ks.map toD) qs (by rw[Q2];exact k8) q8;have ko:aK eB 1 1 [fr ks qs]=.ok (.tup ((ks.map toD++qs).map (·.2))):=by
   unfold fr;rw[tE];exact ko
  obtain⟨vs,v1,v2⟩:=Ag (ρ:=[none]) (g:=gN 0) (C:=fB (f2 lI (f2 aH (ah 0) (fC (.int 0))) (fC (.str "rows")))) (Fe:=f2 ce (fC (.int 1)) (fR (bw g) (af (f2 aH (ah 0) (fC (.int 1))) (aw)))) (λ_=>False) ((ks.map toD++qs).map (·.2)) λd hd=>by
   obtain⟨p,hp,rfl⟩:=List.mem_map.mp hd;obtain⟨c,ec⟩:∃c:Kd,p.2=c.d:=by
    rcases List.mem_append.mp hp with z|z
    ·obtain⟨k,_,rfl⟩:=List.mem_map.mp z;exact⟨k.2,rfl⟩
    ·obtain⟨c,_,e⟩:=hq p z;exact⟨c,e⟩
   obtain⟨x,i1,i2⟩:=BP c;rw[ec];exact⟨[‹c.d›],false,rfl,by simp! only[i1,i2],λz=>by cases z⟩
  have vs0:vs=[]:=List.eq_nil_iff_forall_not_mem.mpr λv hv=>v1 v hv;subst vs0;refine⟨0,by decide,by decide,?_⟩;rw[fN,kA];unfold jK;have f0:kr [none] (bT (fR (aK eB 1 1) (af (ah 0) (aw)))) (gN 0) (fB (f2 lI (f2 aH (ah 0) (fC (.int 0))) (fC (.str "rows")))) (f2 ce (fC (.int 1)) (fR (bw g) (af (f2 aH (ah 0) (fC (.int 1))) (aw)))) [‹fr ks qs›]=.ok (.lst []):=
   eV (ds:=(ks.map toD++qs).map λp:Str×D=>p.2) (by simp! only[ko]) (by rw[Q2,Rh,Q2];omega) v2
  have gm:rQ 0 (.lst [])=some (.int 0):=rfl;simp! only[f0,gm]
 |succ n ih=>
  intro g hg ks qs k8 q8 hq;obtain⟨g,rfl⟩:∃g',g=g'+1:=⟨g-1,by omega⟩
  have ko:=Fa (ks.map toD) qs (by rw[Q2];exact k8) q8;have ko:aK eB 1 1 [fr ks qs]=.ok (.tup ((ks.map toD++qs).map (·.2))):=by
   unfold fr;rw[tE];exact ko
  obtain⟨vs,v1,v2⟩:=Ag (ρ:=[none]) (g:=gN 0) (C:=fB (f2 lI (f2 aH (ah 0) (fC (.int 0))) (fC (.str "rows")))) (Fe:=f2 ce (fC (.int 1)) (fR (bw g) (af (f2 aH (ah 0) (fC (.int 1))) (aw)))) (λv=>∃z:Int,v=.int z/\0<z/\z<=((n+1:Nat):Int)) ((ks.map toD++qs).map (·.2)) λd hd=>by
   obtain⟨p,hp,rfl⟩:=List.mem_map.mp hd;have pc:(∃c:Kd,p.2=c.d)\/∃(ks:KL)(qs:List (Str×D))(b:Bool),p.2=.tup [.str "rows",fr ks qs,.bl b]/\ks.length<=8/\qs.length<=8/\∀q∈qs,KG n q.2:=by
    rcases List.mem_append.mp hp with z|z
    ·obtain⟨k,_,rfl⟩:=List.mem_map.mp z;exact .inl ⟨k.2,rfl⟩
    ·rcases hq p z with⟨c,_,e⟩|⟨ks,qs,b,e,_,k8,_,q8,hq⟩
     ·exact .inl ⟨c,e⟩
     ·exact .inr ⟨ks,qs,b,e,k8,q8,hq⟩
   rcases pc with⟨c,ec⟩|⟨ks',qs',b,ec,k8',q8',hq'⟩
   ·obtain⟨x,i1,i2⟩:=BP c;rw[ec];exact⟨[‹c.d›],false,rfl,by simp! only[i1,i2],λz=>by cases z⟩
   ·obtain⟨d,d0,d1,ed⟩:=ih g ‹0› ks' qs' k8' q8' hq';rw[ec];exact⟨[‹.tup [.str "rows",fr ks' qs',.bl b]›],true,rfl,by simp! only[BEq.rfl],λ_=>⟨.int (1+d),by simp! only[ed],1+d,rfl,by omega,by omega⟩⟩
  obtain⟨zs,rfl,hz⟩:=ints_of _ vs v1;obtain⟨f0,f1⟩:=BV zs 0 (by decide) ‹0› hz;refine⟨zs.foldl mx 0,f0,f1,?_⟩;rw[fN,kA];unfold jK;have f0:kr [none] (bT (fR (aK eB 1 1) (af (ah 0) (aw)))) (gN 0) (fB (f2 lI (f2 aH (ah 0) (fC (.int 0))) (fC (.str "rows")))) (f2 ce (fC (.int 1)) (fR (bw g) (af (f2 aH (ah 0) (fC (.int 1))) (aw)))) [‹fr ks qs›]=.ok (.lst (zs.map .int)):=
   eV (ds:=(ks.map toD++qs).map λp:Str×D=>p.2) (by simp! only[ko]) (by rw[Q2,Rh,Q2];omega) v2
  have gm:rQ 0 (.lst (zs.map .int))=some (.int (zs.foldl mx 0)):=by
   unfold rQ;simp only[y6];show some (D.int _)=_;rw[Fz _ λv hv=>(hz v hv).1]
  simp! only[f0,gm]
abbrev nst(m:Nat)(nm:Str):D:=.obj "Nest" ["many","name"] [.int m,.str nm]
theorem Kz(m:Nat)(nm:Str):mC "many" ["Nest"] (nst m nm)=some (.int m):=by rfl
theorem PL(m:Nat)(nm:Str):mC "name" ["Nest"] (nst m nm)=some (.str nm):=by rfl
abbrev vf(ks:KL)(qs:List (Str×D))(m:Nat)(nm:Str):D:=.tup [.tup ((ks.take m).map kf),.tup [.tup [.str nm,.tup [.str "rows",.tup [.tup ((ks.drop m).map kf),.tup (qs.map fld)],.bl true]]]]
theorem Mb(ks:KL)(qs:List (Str×D))(m:Nat)(nm:Str)(n:Nat)(hn:n<=2)(k8:ks.length<=8)(q8:qs.length<=8)(hk:∀p∈ks,p.2.gd)(hq:∀q∈qs,KG n q.2):AB 17 (vf ks qs m nm):=by
 have i1:=Fi (n:=4*n) (ks.drop m) qs (by rw[Rj];omega) q8 (λp h=>hk p (Tq h)) λq h=>GD n _ (hq q h);have i2:=Ca true i1;refine AB.le (n:=(5+4*n+1+2)+1) ‹0› (xL (sL (by rw[Q2,Q8];omega) λd hd=>?_) (sL (by simp) λd hd=>?_))
 ·obtain⟨p,hp,rfl⟩:=List.mem_map.mp hd;exact⟨p.1,p.2.d,rfl,AB.le ‹0› (Ce p.2 (hk p (Tp hp)))⟩
 ·rw[List.mem_singleton.mp hd];exact⟨nm,_,rfl,i2⟩
theorem Jd(ks:KL)(qs:List (Str×D))(m:Nat)(nm:Str)(n:Nat)(hn:n<=2)(m1:1<=m)(m2:m<ks.length)(k8:ks.length<=8)(q8:qs.length<=8)(hq:∀q∈qs,KG n q.2)(hnm:nm∉(ks.take m).map (·.1)):aK bS 2 4 [nst m nm,fr ks qs]=.ok (vf ks qs m nm):=by
 obtain⟨d,d0,d1,ed⟩:=Gf n 20 ‹0› (ks.drop m) qs (by rw[Rj];omega) q8 hq;have ed:bw 20 [.tup [.tup ((ks.drop m).map kf),.tup (qs.map fld)]]=.ok (.int d):=ed;have wh:aK jE 1 1 [.int m]=.ok (.bl true):=by
  have t3:iO "int" (.int m)=some (.bl true):=rfl;have t4:iO "bool" (.int m)=some (.bl false):=rfl;rw[kA];unfold jE;simp! only[t3,t4,RM]
 have c1:decide ((1:Int)<=(m:Int))=true:=decide_eq_true ‹0›;have c2:decide ((m:Int)<(ks.length:Int))=true:=decide_eq_true ‹0›;have ct:cutD (ks.map kf) none (some (m:Int))=(ks.take m).map kf:=by rw[tI,Tr]
 have cf:cutD (ks.map kf) (some (m:Int)) none=(ks.drop m).map kf:=by rw[yM,List.map_drop]
 have dg:decide (d>=3)=false:=decide_eq_false ‹0›;have lc:∀a3,kr [none] (bT (ah 2)) (gN 0) (dF) (f2 aH (ah 0) (fC (.int 0))) [‹nst m nm›,‹fr ks qs›,‹.tup ((ks.take m).map kf)›,a3]=.ok (.lst (((ks.take m).map (·.1)).map .str)):=λa3=>by
  refine eV (ds:=(ks.take m).map kf) (by simp! only[]) (by rw[Q2,Q8];omega) ?_;rw[SE];refine jk kf _ (ks.take m) λp hp=>⟨[‹kf p›],rfl,rfl,?_⟩
  have:aH (kf p) (.int 0)=some (.str p.1):=rfl
  simp! only[this];rfl
 have inn:JI (.str nm) (.lst (((ks.take m).map (·.1)).map .str))=some (.bl false):=by
  rw[Ih];congr 2;cases h:((ks.take m).map (·.1)).contains nm with
  |false=>rfl
  |true=>exact absurd (List.contains_iff_mem.mp h) hnm
 have fm:=Kz m nm;have fn:=PL m nm;rw[dX];unfold bS;generalize (((ks.take m).map (·.1)).map D.str)=A at lc inn;generalize nst m nm=O at lc fm fn;simp! only[fm,fn,wh,Q2,c1,c2,ct,cf,lc,inn,Iw,OW,Ov,ed,dg,RM]
section
open Classical
variable{σ τ:List Bool}{t:List (List D)}{m:Nat}
theorem Fc{T:List (List D)}(hs:∀r∈T,Sh τ (r.take m))(h:JL m T):T.Pairwise λa b=>a.take m≠b.take m:=
 List.Pairwise.imp_of_mem (λ{a b} ha hb e z=>by rw[z,lR (hs b hb)]at e;cases e) h
structure So(τ:List Bool)(m:Nat)(L:List (List D)):Prop where
 t0:τ≠[]
 hm:m=τ.length
 sh:∀r∈L,Sh τ (r.take m)
 pw:L.Pairwise λa b=>a.take m≠b.take m
 ln:L.length<64
theorem So.prog{L T:List (List D)}(h:So τ m L)(r:JL m T)(p:T.Perm L):aK iM 2 2 [.int m,.lst (L.map .tup)]=.ok (.tup (T.map .tup)):=by
 have k:Mp m (L.map .tup):=⟨by rw[Q2];exact h.ln,τ,h.t0,λx hx=>by
  obtain⟨r,hr,rfl⟩:=List.mem_map.mp hx;exact⟨r,rfl,h.sh r hr⟩,List.pairwise_map.mpr h.pw⟩
 have so:ki (vo m) (L.map .tup)=T.map .tup:=by
  refine zD (σ:=τ) (λx hx=>?_) ?_ ?_ (p.map _)
  ·obtain⟨r,hr,rfl⟩:=List.mem_map.mp hx;exact h.sh r hr
  ·exact List.pairwise_map.mpr h.pw
  ·exact List.pairwise_map.mpr r
 have e:rA (.lst (L.map .tup)) (.int m)=some (.lst (T.map .tup)):=by
  show(if(0:Int)<=(m:Int)then tT ((m:Int)).toNat (L.map .tup)else none)=_;rw[if_pos ‹0›,Ri];unfold tT;rw[if_pos k,so]
 rw[dX];unfold iM;simp! only[e]
noncomputable def Nn(m:Nat)(s:List (List D)):List (List D):=(fs m s).map (jr m s)
theorem yF(m:Nat)(s:List (List D)):vw m s=.tup ((Nn m s).map .tup):=by unfold vw Nn;rw[SE];rfl
noncomputable def Qe(m:Nat)(r:List D):Bool:=decide (r[m]?=some (.tup []))
theorem Cr{f:List D}(h:f.length=m)(s:List (List D)):(jr m s f)[m]?=some (.tup ((gp m s f).map .tup)):=by
 unfold jr;rw[Q9 ‹0›,show m-f.length=0 by omega];rfl
theorem vZ{f:List D}(h:f.length=m)(s:List (List D)):(jr m s f).take m=f:=by
 unfold jr;rw[<-h,Tn]
section
variable{s:List (List D)}
theorem yi(T:Tab σ s)(hm:m<=σ.length){r:List D}(h:r∈Nn m s):∃f∈fs m s,f.length=m/\Sh (σ.take m) f/\r=jr m s f/\gp m s f≠[]:=by
 obtain⟨f,hf,rfl⟩:=List.mem_map.mp h;refine⟨f,hf,J6 T hm f hf,zW s (T.fsh hm) f hf,rfl,λz=>?_⟩;obtain⟨r,hr,e⟩:=(lW m).mp hf;unfold gp at z
 have:=List.map_eq_nil_iff.mp z
 exact List.filter_eq_nil_iff.mp this r hr (decide_eq_true e)
theorem Jg(T:Tab σ s)(hm:m<=σ.length){r:List D}(h:r∈Nn m s):Qe m r=false:=by
 obtain⟨f,hf,fl,_,rfl,g0⟩:=yi T hm h;refine decide_eq_false λz=>?_;rw[Cr fl]at z;injection z with z;injection z with z;exact g0 (List.map_eq_nil_iff.mp z)
theorem Il(T:Tab σ s)(hm:m<=σ.length){r:List D}(h:r∈Nn m s):Sh (σ.take m) (r.take m):=by
 obtain⟨f,hf,fl,sh,rfl,g0⟩:=yi T hm h;rw[vZ fl];exact sh
theorem Ld(T:Tab σ s)(hm:m<=σ.length):(Nn m s).map (λr=>r.take m)=fs m s:=by
 unfold Nn;rw[SE]
 conv=>rhs;rw[<-Th (fs m s)]
 exact RQ λf hf=>vZ (J6 T hm f hf) s
theorem HK(T:Tab σ s)(hm:m<=σ.length):JL m (Nn m s):=by
 have h:=(Gm m rfl T.sh hm T.ri).1;rw[<-Ld T hm]at h;exact List.pairwise_map.mp h
theorem JP(T:Tab σ s)(hm:m<=σ.length)(m8:m<=8)(h4:∀r∈s,∀v∈r,AL 4 v):Tab (σ.take m) (Nn m s):=by
 have ml:(σ.take m).length=m:=by rw[Q8];omega
 refine⟨λr h=>by rw[ml];exact Il T hm h,by rw[ml];exact HK T hm,?_,λr h=>?_,λr h v hv=>?_⟩
 ·have:=mi m s
  have:=T.ln
  unfold Nn;rw[Q2];omega
 ·obtain⟨f,hf,fl,_,rfl,_⟩:=yi T hm h;unfold jr;rw[Rh,Rn,ml];omega
 ·obtain⟨f,hf,fl,fs',rfl,_⟩:=yi T hm h;unfold jr at hv;rcases List.mem_append.mp hv with z|z
  ·exact(wy fs' v z).of0 _
  ·rw[List.mem_singleton.mp z];have gl:=xj m s f;have tl:=T.ln;refine AL.tup (by rw[Q2];omega) λu hu=>?_;obtain⟨g,hg,rfl⟩:=List.mem_map.mp hu;unfold gp at hg;obtain⟨r,hr,rfl⟩:=List.mem_map.mp hg;have hr:=(List.mem_filter.mp hr).1
   have:=(T.rl r hr).1
   exact AL.tup (by rw[Rj];omega) λx hx=>h4 r hr x (Tq hx)
end
theorem K3(xs:List D):Cv [.lst xs]=some (.lst xs):=nr rfl
theorem O0{r:List D}{m:Nat}{d:D}(h:r[m]?=some d):aH (.tup r) (.int m)=some d:=by
 have hl:=cx h;rw[IL,qj (QW _) ‹0›];rw[RK hl]at h;exact h
theorem Ka{w:List D}(h:rM w=true):lI (.tup w) (.tup [])=some (.bl (decide (w=[]))):=by
 have e:lI (.tup w) (.tup [])=if(pl (.tup w)&&pl (.tup []))&&(iT 8 (.tup w)||iT 8 (.tup []))then some (.bl (pyEq (.tup w) (.tup [])))else none:=rfl
 have d:iT 8 (.tup [])=true:=rfl;have p:pl (.tup ([]:List D))=true:=rfl;rw[e,eA,h,d,p,Bool.or_true,RM,RM,if_pos rfl];cases w with
 |nil=>rw[decide_eq_true rfl,pyEq];rfl
 |cons a w=>rw[decide_eq_false (by simp),pyEq];rfl
section
variable{s v:List (List D)}
theorem HU(T:Tab σ s)(V:Tab σ v)(m1:1<=m)(hm:m<=σ.length)(o f0:D)(kk:List D)(f1:D)(hk:kk.length=m)(hf:f0=.tup [.tup kk,f1]):
  aK cV 4 6 [o,f0,.tup ((Nn m s).map .tup),.tup (v.map .tup)]=.ok (.tup ((Nn m v).map .tup)):=by
 have nl0:(Nn m v).length<64:=by
  have:=mi m v
  have:=V.ln
  unfold Nn;rw[Q2];omega
 have sp:=(show So (σ.take m) m (Nn m v)from⟨λz=>by have:=congrArg List.length z;rw[Q8,Rt]at this;omega,by rw[Q8];omega,λr h=>Il V hm h,Fc (λr h=>Il V hm h) (HK V hm),nl0⟩).prog (HK V hm) (List.Perm.refl _);have gi:=ua V hm;have fl:=mi m v;have tl:=V.ln;have fsL:=zW v (V.fsh hm);have it:=uA ((fs m v).map λf=>(kq f,D.tup ((gp m v f).map .tup)));have nl:(Nn m v).length<=63:=by omega
 have lc1:∀tb a5,kr [none,none] (jp (fR (aK fA 2 4) (af (ah 4) (af (ah 3) (aw))))) (gT 2 (kP [0,1])) (dF) (f2 ce (ah 0) (fF (af (ah 1) (aw)))) [‹o›,‹f0›,‹tb›,‹.tup (v.map .tup)›,‹.int m›,a5]=.ok (.lst ((Nn m v).map .tup)):=λtb a5=>by
  refine eV (ds:=((fs m v).map λf=>(kq f,D.tup ((gp m v f).map .tup))).map lm) ?_ (by rw[Q2,Q2];omega) ?_
  ·show(Except.bind _ _)=_;generalize oQ ((fs m v).map λf=>(kq f,D.tup ((gp m v f).map .tup)))=Z at gi it;simp! only[gi,it]
  ·unfold Nn;rw[SE,SE];refine jk _ _ (fs m v) λf hf=>?_;have ad:ce (.tup ((kq f).map bx)) (.tup [.tup ((gp m v f).map .tup)])=some (.tup (jr m v f)):=by
    have:=Cd V f hf
    rw[wG (fsL f hf)];exact iS f _ (by rw[Rn];omega)
   refine⟨[‹.tup ((kq f).map bx)›,‹.tup ((gp m v f).map .tup)›],rfl,rfl,?_⟩;simp! only[OW,ad];rfl
 have vr:∀r∈Nn m v,Sh (σ.take m) (r.take m):=λr h=>Il V hm h;have f2':kr [none,some 0] (bT (ah 1)) (gN 0) (dF) (fF (af (dJ (ah 0) (cK) (fI (ah 1))) (af (ah 0) (aw)))) [‹.int m›,‹.lst ((Nn m v).map .tup)›]=.ok (.lst (((Nn m v).map λr=>(kq (r.take m),D.tup r)).map lm)):=by
  refine eV (ds:=(Nn m v).map .tup) (by simp! only[]) (by rw[Q2];omega) ?_;rw[SE];refine jk D.tup _ (Nn m v) λr hr=>⟨[‹.tup r›,‹.int m›],rfl,rfl,?_⟩
  simp! only[tI,Iw];show _=Except.ok (D.tup [.tup ((kq (r.take m)).map bx),.tup r]);rw[wG (vr r hr)]
 have knd:(((Nn m v).map λr=>(kq (r.take m),D.tup r)).map (·.1)).Nodup:=by
  rw[SE];refine List.pairwise_map.mpr (List.Pairwise.imp_of_mem (λ{a b} ha hb ne e=>ne ?_) (Fc vr (HK V hm)));exact Ai (vr a ha) (vr b hb) e
 have gd:xG [.lst (((Nn m v).map λr=>(kq (r.take m),D.tup r)).map lm)]=some (dG ((Nn m v).map λr=>(kq (r.take m),D.tup r))):=by
  show(i5 _).bind _=_;rw[uz];show(if small _ then _ else _)=_;rw[if_pos (dE (by rw[Q2];omega))];unfold ww;rw[x9 _ [] knd];rfl
 have bk:aK ni 2 2 [.int m,.lst ((Nn m v).map .tup)]=.ok (dG ((Nn m v).map λr=>(kq (r.take m),D.tup r))):=by
  rw[dX];unfold ni;generalize dG ((Nn m v).map λr=>(kq (r.take m),D.tup r))=Z at gd;simp! only[f2',gd]
 have st:aK jI 3 4 [.int m,.lst ((Nn m v).map .tup),.lst []]=.ok (.tup ((Nn m v).map .tup)):=by
  generalize dG ((Nn m v).map λr=>(kq (r.take m),D.tup r))=Z at bk;have lc3:kr [none,some 0,some 3] (bT (ah 2)) (gN 0) (fB (f2 xx (dJ (ah 0) (cK) (fI (ah 1))) (ah 2))) (ah 0) [‹.int m›,‹.lst ((Nn m v).map .tup)›,‹.lst []›,‹Z›]=.ok (.lst []):=rfl;have ad:=ED ((Nn m v).map .tup) [] (by rw[Q2,Rt];omega);rw[Q5]at ad;rw[pA];unfold jI;simp! only[bk,lc3,K3,ad,sp]
 have lc2:∀a3,kr [none,some 4] (bT (ah 2)) (gN 0) (fB (f2 lI (f2 aH (ah 0) (ah 1)) (fF (aw)))) (ah 0) [‹o›,‹f0›,‹.tup ((Nn m s).map .tup)›,a3,‹.int m›,‹.lst ((Nn m v).map .tup)›]=.ok (.lst []):=λa3=>by
  refine eV (ds:=(Nn m s).map .tup) (by simp! only[]) (by
   have:=mi m s
   have:=T.ln
   unfold Nn;rw[Q2,Q2];omega) ?_
  have:=BL (ρ:=[none,‹.int m›]) (g:=gN 0) (C:=fB (f2 lI (f2 aH (ah 0) (ah 1)) (fF (aw)))) (Fe:=ah 0) D.tup (Qe m) D.tup (Nn m s) λr hr=>by
   obtain⟨f,hf,fl,_,e,g0⟩:=yi T hm hr;have at_:=Cr fl s;have ix:=O0 at_;have eq:=Ka (w:=(gp m s f).map .tup) (xq λx hx=>by
    obtain⟨w,hw,rfl⟩:=List.mem_map.mp hx;unfold gp at hw;obtain⟨r,hr,rfl⟩:=List.mem_map.mp hw;rw[eA];exact xq λy hy=>JM (T.al r (List.mem_filter.mp hr).1 y (Tq hy)))
   rw[Jg T hm hr];rw[decide_eq_false λz=>g0 (List.map_eq_nil_iff.mp z)]at eq;subst e;refine⟨[‹.tup (jr m s f)›,‹.int m›],rfl,?_,λz=>by cases z⟩;generalize (gp m s f).map D.tup=W at ix eq;simp! only[ix,QB,eq]
  rw[List.filter_eq_nil_iff.mpr λr h=>by rw[Jg T hm h];simp]at this;exact this
 rw[Bp];unfold cV;subst hf;simp! only[hk,lc1,lc2,st]
theorem Hi(T:Tab σ s)(hm:m<=σ.length)(o f0:D)(kk:List D)(f1:D)(hk:kk.length=m)(hf:f0=.tup [.tup kk,f1]):aK cZ 3 3 [o,f0,.tup ((Nn m s).map .tup)]=.ok (.tup (s.map .tup)):=by
 have u:=rJ T hm;rw[yF]at u;rw[pA];unfold cZ;subst hf;simp! only[hk,u]
end
end
abbrev sA(nm:Str):D:=.obj "Unnest" ["name"] [.str nm]
abbrev pf(ks is:KL)(jq:List (Str×D))(nm:Str)(sm:Bool):D:=.tup [.tup (ks.map kf),.tup [.tup [.str nm,.tup [.str "rows",fr is jq,.bl sm]]]]
theorem PH:(["name"]:List Str).contains "exact"=false:=by decide +kernel
theorem Jl(ks is:KL)(jq:List (Str×D))(nm:Str)(b:Bool)(k8:ks.length<=8)(nd:(ks.map (·.1)++[nm]).Nodup):aK eX 2 4 [pf ks is jq nm b,.str nm]=.ok (.int ks.length)/\aK gf 2 2 [pf ks is jq nm b,.int ks.length]=.ok (.tup [.str "rows",fr is jq,.bl b]):=by
 have em:ks.map kf++[D.tup [.str nm,.tup [.str "rows",fr is jq,.bl b]]]=(ks.map toD++[(nm,D.tup [.str "rows",fr is jq,.bl b])]).map fld:=by rw[RT,tE];rfl
 have pl:(ks.map toD++[(nm,D.tup [.str "rows",fr is jq,.bl b])]).length<=100:=by rw[Rh,Q2,Rn];omega
 have hi:(ks.map toD++[(nm,D.tup [.str "rows",fr is jq,.bl b])])[ks.length]?=some (nm,.tup [.str "rows",fr is jq,.bl b]):=by
  rw[Q9 (by rw[Q2];exact QU _),Q2,Si];rfl
 exact⟨A3 _ _ _ pl em (by
  rw[RT,SE];exact nd) ks.length nm _ hi,CH _ _ _ pl em ks.length nm _ hi⟩
theorem zJ(ks is:KL)(jq:List (Str×D))(nm:Str)(b:Bool)(k8:ks.length<=8)(nd:(ks.map (·.1)++[nm]).Nodup):aK bi 2 2 [sA nm,pf ks is jq nm b]=.ok (.bl b):=by
 obtain⟨pp,kp'⟩:=Jl ks is jq nm b k8 nd;have fn:mC "name" ["Unnest"] (sA nm)=some (.str nm):=by rfl
 rw[dX];unfold bi;simp! only[fn,pp,kp']
theorem DZ(ks is:KL)(jq:List (Str×D))(nm:Str)(b:Bool)(k8:ks.length<=8)(nd:(ks.map (·.1)++[nm]).Nodup):aK bX 2 2 [sA nm,pf ks is jq nm b]=.ok (.bl b):=by
 have ei:=zJ ks is jq nm b k8 nd;have m1:∀(fas:aq->R (List D))(ρ:aq),ah 0 ρ=.ok (sA nm)->dS "exact" [("Unnest",(aK bi 2 2))] (ah 0) fas ρ=(fas ρ).bind λas=>(aK bi 2 2) (sA nm::as):=λfas ρ h=>by
  unfold dS;rw[h,cq]
  have:List.lookup ("Unnest":Str) [(("Unnest":Str),(aK bi 2 2))]=some (aK bi 2 2):=by
   rw[Rx,BEq.rfl]
  simp only[this,PH];rfl
 rw[dX];unfold bX;simp! only[m1,ei]
theorem GZ(ks is:KL)(jq:List (Str×D))(nm:Str)(b:Bool)(k8:ks.length+is.length<=8)(j8:is.length+jq.length<=100)(nd:(ks.map (·.1)++[nm]).Nodup)(dj:∀w∈ks.map (·.1),w∉is.map (·.1)++jq.map (·.1)):aK bH 2 5 [sA nm,pf ks is jq nm b]=.ok (fr (ks++is) jq):=by
 obtain⟨pp,kp'⟩:=Jl ks is jq nm b ‹0› nd;have fn:mC "name" ["Unnest"] (sA nm)=some (.str nm):=by rfl
 have em2:is.map kf++jq.map fld=(is.map toD++jq).map fld:=by rw[RT,tE]
 have no:=uC (is.map kf) (jq.map fld) (is.map toD++jq) (by rw[Rh,Q2];omega) em2;have e3:(is.map toD++jq).map (λp=>D.str p.1)=(is.map (·.1)++jq.map (·.1)).map .str:=by
  rw[RT,RT,SE,SE,SE];rfl
 rw[e3]at no;have no:aK eE 1 1 [fr is jq]=.ok (.tup ((is.map (·.1)++jq.map (·.1)).map .str)):=no;have lc:∀a2,kr [none,some 4] (bT (ah 3)) (gN 0) (dF) (f2 JI (f2 aH (ah 0) (fC (.int 0))) (fR (aK eE 1 1) (af (ah 1) (aw)))) [‹sA nm›,‹pf ks is jq nm b›,a2,‹.tup (ks.map kf)›,‹fr is jq›]=.ok (.lst ((ks.map λ_=>false).map .bl)):=λa2=>by
  refine eV (ds:=ks.map kf) (by simp! only[]) (by rw[Q2];omega) ?_;rw[SE];refine jk kf _ ks λp hp=>⟨[‹kf p›,‹fr is jq›],rfl,rfl,?_⟩
  have i0:aH (kf p) (.int 0)=some (.str p.1):=rfl;have ii:JI (.str p.1) (.tup ((is.map (·.1)++jq.map (·.1)).map .str))=some (.bl false):=by
   rw[B1];congr 2;cases h:(is.map (·.1)++jq.map (·.1)).contains p.1 with
   |false=>rfl
   |true=>exact absurd (List.contains_iff_mem.mp h) (dj _ (List.mem_map.mpr ⟨p,hp,rfl⟩))
  simp! only[i0,no,ii];rfl
 have an:CQ [.lst ((ks.map λ_=>false).map .bl)]=some (.bl false):=by
  rw[HZ];congr 2;cases h:(ks.map λ_=>false).any id with
  |false=>rfl
  |true=>
   obtain⟨x,hx,ex⟩:=List.any_eq_true.mp h;obtain⟨_,_,rfl⟩:=List.mem_map.mp hx;cases ex
 have ad:=iS (ks.map kf) (is.map kf) (by rw[Q2,Q2];omega);rw[<-RT]at ad;have rr:(!(("rows":Str)==("rows":Str)))=false:=by decide +kernel
 have z1:(!(((1:Nat):Int)==1))=false:=rfl;have g8:decide (((ks.length:Int)+(is.length:Int))>8)=false:=decide_eq_false ‹0›;rw[dX];unfold bH;simp! only[fn,pp,kp',rr,z1,lc,an,Q2,g8,ad,Iw]
theorem HR:∀(n g:Nat),n+1<=g->∀(ks:KL)(qs:List (Str×D)),qs.length<=8->(∀q∈qs,KG n q.2)->∃d:Int,0<=d/\bE g [fr ks qs]=.ok (.int d)/\(d<1->∀q∈qs,KG 0 q.2)/\(d<2->∀q∈qs,KG 1 q.2):=by
 intro n
 induction n with
 |zero=>
  intro g hg ks qs q8 hq;obtain⟨g,rfl⟩:∃g',g=g'+1:=⟨g-1,by omega⟩
  refine⟨0,by decide,?_,λ_=>hq,λ_ q h=>.inl (hq q h)⟩;rw[fu,kA];unfold iH;simp! only[];refine dQ (Q:=λz=>z=.ok (.int 0)) (λi ρ=>ρ=[‹fr ks qs›,‹.int 0›,none,none]) ?_ rfl ?_
  ·rintro i d ρ kk hd rfl;have hi:=cx hd;rw[Q2]at hi;rw[Rc,RK hi]at hd;cases hd;obtain⟨c,_,ec⟩:=hq _ (Sz hi);obtain⟨x,i1,i2⟩:=BP c;generalize qs[i]=q at ec;rw[<-ec]at i1;refine⟨[‹fr ks qs›,‹.int 0›,‹.str q.1›,‹q.2›],_,rfl,rfl,?_⟩;simp! only[i1,i2]
  ·rintro ρ' rfl;rfl
 |succ n ih=>
  intro g hg ks qs q8 hq;obtain⟨g,rfl⟩:∃g',g=g'+1:=⟨g-1,by omega⟩
  rw[fu,kA];unfold iH;simp! only[];refine dQ (Q:=λz=>∃d:Int,0<=d/\z=.ok (.int d)/\(d<1->∀q∈qs,KG 0 q.2)/\(d<2->∀q∈qs,KG 1 q.2)) (λi ρ=>∃a:Int,0<=a/\(a<1->∀q∈qs.take i,KG 0 q.2)/\(a<2->∀q∈qs.take i,KG 1 q.2)/\ρ=[‹fr ks qs›,‹.int a›,none,none]) ?_ ⟨0,by decide,(λ_ q h=>by rw[RC]at h;cases h),(λ_ q h=>by rw[RC]at h;cases h),rfl⟩ ?_
  ·rintro i d ρ kk hd ⟨a,a0,a1,a2,rfl⟩;have hi:=cx hd;rw[Q2]at hi;rw[Rc,RK hi]at hd;cases hd;have hk:=hq _ (Sz hi);have tk:∀q,q∈qs.take (i+1)->q∈qs.take i\/q=qs[i]:=λq h=>by
    rw[Ti hi]at h;rcases List.mem_append.mp h with z|z
    ·exact .inl z
    ·exact .inr (List.mem_singleton.mp z)
   generalize qs[i]=q at hk tk;rcases hk with⟨c,cg,ec⟩|⟨ks',qs',b,ec,k1',k8',hk',q8',hq'⟩
   ·obtain⟨x,i1,i2⟩:=BP c;rw[<-ec]at i1;have k0:KG 0 q.2:=⟨c,cg,ec⟩
    refine⟨[‹fr ks qs›,‹.int a›,‹.str q.1›,‹q.2›],_,rfl,⟨a,a0,λz p h=>?_,λz p h=>?_,rfl⟩,?_⟩
    ·rcases tk p h with y|y
     ·exact a1 z p y
     ·rw[y];exact k0
    ·rcases tk p h with y|y
     ·exact a2 z p y
     ·rw[y];exact .inl k0
    ·simp! only[i1,i2]
   ·obtain⟨d',d0,ed,e1,e2⟩:=ih g ‹0› ks' qs' q8' hq';have i0:aH q.2 (.int 0)=some (.str "rows"):=(by rw[ec];rfl);have i1:aH q.2 (.int 1)=some (fr ks' qs'):=(by rw[ec];rfl);refine⟨[‹fr ks qs›,‹.int a›,‹.str q.1›,‹q.2›],_,rfl,⟨if 1+d'>a then 1+d' else a,by split<;>omega,λz=>?_,λz p h=>?_,rfl⟩,?_⟩
    ·exfalso;split at z<;>omega
    ·have z1:a<2/\d'<1:=(by split at z<;>omega);rcases tk p h with y|y
     ·exact a2 z1.1 p y
     ·rw[y];exact .inr ⟨ks',qs',b,ec,k1',k8',hk',q8',e1 z1.2⟩
    ·generalize fr ks' qs'=f' at i1 ed;simp! only[i0,BEq.rfl,i1,ed]
  ·rintro ρ' ⟨a,a0,a1,a2,rfl⟩;rw[Q2,RW]at a1 a2;exact⟨a,a0,rfl,a1,a2⟩
theorem Fq:∀{xs:List D},(∀x∈xs,lf x=true)->Jh xs=true
 |[],_=>by unfold Jh;rfl
 |x::xs,h=>by
  unfold Jh;rw[h x QO,Fq λy hy=>h y (QP _ hy)];rfl
theorem zC:∀{n:Nat}{d:D},AB n d->lf d=true
 |0,_,h=>by rcases h with⟨i,rfl⟩|⟨x,rfl⟩|⟨b,rfl⟩<;>(unfold lf;rfl)
 |n+1,_,h=>by
  rcases h with(⟨i,rfl⟩|⟨x,rfl⟩|⟨b,rfl⟩)|⟨ds,rfl,_,f⟩
  ·unfold lf;rfl
  ·unfold lf;rfl
  ·unfold lf;rfl
  ·unfold lf;exact Fq λx hx=>zC (f x hx)
theorem Ep:∀{n:Nat}{d:D},AL n d->AB n d
 |0,_,h=>by rcases h with h|h;exact .inl h;exact .inr (.inl h)
 |n+1,_,h=>by
  rcases h with(h|h)|⟨ds,e,l,f⟩
  ·exact .inl (.inl h)
  ·exact .inl (.inr (.inl h))
  ·exact .inr ⟨ds,e,l,λx hx=>Ep (f x hx)⟩
theorem M7{m:Nat}{nm w:Str}{g1 g2 g3:List D->R D}{fo:FX}{fas:aq->R (List D)}{ρ:aq}{as:List D}(h:fo ρ=.ok (nst m nm))(ha:fas ρ=.ok as)(hm:(["many","name"]:List Str).contains w=false):dS w [("Step",g1),("Nest",g2),("Unnest",g3)] fo fas ρ=g2 (nst m nm::as):=by
 unfold dS;rw[h,cq];have h1:(("Nest":Str)==("Step":Str))=false:=by decide +kernel
 have:List.lookup ("Nest":Str) [(("Step":Str),g1),(("Nest":Str),g2),(("Unnest":Str),g3)]=some g2:=by
  rw[Rx,h1,Rx,BEq.rfl]
 simp only[this,hm,ha,cq];rfl
theorem Mx{nm w:Str}{g1 g2 g3:List D->R D}{fo:FX}{fas:aq->R (List D)}{ρ:aq}{as:List D}(h:fo ρ=.ok (sA nm))(ha:fas ρ=.ok as)(hm:(["name"]:List Str).contains w=false):dS w [("Step",g1),("Nest",g2),("Unnest",g3)] fo fas ρ=g3 (sA nm::as):=by
 unfold dS;rw[h,cq];have h1:(("Unnest":Str)==("Step":Str))=false:=by decide +kernel
 have h2:(("Unnest":Str)==("Nest":Str))=false:=by decide +kernel
 have:List.lookup ("Unnest":Str) [(("Step":Str),g1),(("Nest":Str),g2),(("Unnest":Str),g3)]=some g3:=by
  rw[Rx,h1,Rx,h2,Rx,BEq.rfl]
 simp only[this,hm,ha,cq];rfl
structure Lr(o F T V F' T' V':D):Prop where
 gt:∀(fo:FX)(fas:aq->R (List D))(ρ:aq),fo ρ=.ok o->fas ρ=.ok [F,T]->dS "got" [("Step",(aK ic 3 3)),("Nest",(aK eK 3 3)),("Unnest",(aK cZ 3 3))] fo fas ρ=.ok T'
 vf:∀(fo:FX)(fas:aq->R (List D))(ρ:aq),fo ρ=.ok o->fas ρ=.ok [F]->dS "view_form" [("Step",(aK dA 2 2)),("Nest",(aK bS 2 4)),("Unnest",(aK bH 2 5))] fo fas ρ=.ok F'
 ex:∀(fo:FX)(fas:aq->R (List D))(ρ:aq),fo ρ=.ok o->fas ρ=.ok [F]->dS "exact" [("Step",(aK cC 2 2)),("Nest",(aK cC 2 2)),("Unnest",(aK bi 2 2))] fo fas ρ=.ok (.bl true)
 st:∀(fo:FX)(fas:aq->R (List D))(ρ:aq),fo ρ=.ok o->fas ρ=.ok [F]->dS "steady" [("Step",(aK bU 2 2)),("Nest",(aK bU 2 2)),("Unnest",(aK bX 2 2))] fo fas ρ=.ok (.bl true)
 pt:∀(fo:FX)(fas:aq->R (List D))(ρ:aq),fo ρ=.ok o->fas ρ=.ok [F,T,V']->dS "put" [("Step",(aK il 4 4)),("Nest",(aK d9 4 4)),("Unnest",(aK cV 4 6))] fo fas ρ=.ok V
 lt:lf T'=true
 lF:lf F'=true
theorem Md{m:Nat}{nm:Str}{F T V F' T' V':D}(gt:aK eK 3 3 [nst m nm,F,T]=.ok T')(vf:aK bS 2 4 [nst m nm,F]=.ok F')(pt:aK d9 4 4 [nst m nm,F,T,V']=.ok V)(lt:lf T'=true)(lF:lf F'=true):Lr (nst m nm) F T V F' T' V':=
 ⟨λ_ _ _ h a=>by rw[M7 h a (by decide +kernel)];exact gt,λ_ _ _ h a=>by rw[M7 h a (by decide +kernel)];exact vf,λ_ _ _ h a=>by rw[M7 h a (by decide +kernel)];rfl,λ_ _ _ h a=>by rw[M7 h a (by decide +kernel)];rfl,λ_ _ _ h a=>by rw[M7 h a (by decide +kernel)];exact pt,lt,lF⟩
theorem LX{nm:Str}{F T V F' T' V':D}(gt:aK cZ 3 3 [sA nm,F,T]=.ok T')(vf:aK bH 2 5 [sA nm,F]=.ok F')(ex:aK bi 2 2 [sA nm,F]=.ok (.bl true))(st:aK bX 2 2 [sA nm,F]=.ok (.bl true))(pt:aK cV 4 6 [sA nm,F,T,V']=.ok V)(lt:lf T'=true)(lF:lf F'=true):Lr (sA nm) F T V F' T' V':=
 ⟨λ_ _ _ h a=>by rw[Mx h a (by decide +kernel)];exact gt,λ_ _ _ h a=>by rw[Mx h a (by decide +kernel)];exact vf,λ_ _ _ h a=>by rw[Mx h a (by decide +kernel)];exact ex,λ_ _ _ h a=>by rw[Mx h a (by decide +kernel)];exact st,λ_ _ _ h a=>by rw[Mx h a (by decide +kernel)];exact pt,lt,lF⟩
abbrev rm(F:Nat->D)(k:Nat):List D:=(List.range k).map F
theorem JX(F:Nat->D)(k:Nat):rm F (k+1)=rm F k++[F k]:=by
 unfold rm;rw[List.range_succ,RT];rfl
theorem Jr(F:Nat->D){k i:Nat}(h:i<k):aH (.lst (rm F k)) (.int i)=some (F i):=by
 rw[HC,CL];unfold rm;rw[Rc,RY h];rfl
theorem sR(F:Nat->D)(k:Nat):aH (.lst (rm F (k+1))) (.int (-1))=some (F k):=by
 rw[JX,HC,Hl]
section
variable{S:List D}{F T V:Nat->D}
theorem KR(h:∀i o,S[i]?=some o->Lr o (F i) (T i) (V i) (F (i+1)) (T (i+1)) (V (i+1)))(sl:S.length<=4):aK hJ 3 6 [.lst S,F 0,T 0]=.ok (.tup [.lst (rm F (S.length+1)),.lst (rm T (S.length+1))]):=by
 have Qq:∀a:D,ku [a]=some (.lst [a]):=λ_=>nr rfl;rw[pA];unfold hJ;simp! only[Qq];refine dQ (Q:=λz=>z=.ok (.tup [.lst (rm F (S.length+1)),.lst (rm T (S.length+1))])) (λi ρ=>ρ=[‹.lst S›,none,none,some (.own (.lst (rm F (i+1)))),some (.own (.lst (rm T (i+1)))),none]) ?_ rfl ?_
 ·rintro i o ρ kk hd rfl;have hi:=cx hd;have st:=h i o hd;have lF:=sR F i;have lT:=sR T i;have al:(rm F (i+1)).length<100/\(rm T (i+1)).length<100:=by
   unfold rm;rw[Q2,RV,Q2,RV];omega
  have ap1:ig (rm T (i+1)) [T (i+1)]=some (rm T (i+1+1)):=by rw[nu ‹0›,<-JX]
  have ap2:ig (rm F (i+1)) [F (i+1)]=some (rm F (i+1+1)):=by rw[nu ‹0›,<-JX]
  generalize rm F (i+1)=A at lF ap2 al;generalize rm T (i+1)=B at lT ap1 al;generalize rm F (i+1+1)=A' at ap2;generalize rm T (i+1+1)=B' at ap1;have pk1:tP [3,4] (dS "got" [("Step",(aK ic 3 3)),("Nest",(aK eK 3 3)),("Unnest",(aK cZ 3 3))] (ah 5) (af (f2 aH (ah 3) (mK (fC (.int 1)))) (af (f2 aH (ah 4) (mK (fC (.int 1)))) (aw)))) [‹.lst S›,none,none,some (.own (.lst A)),some (.own (.lst B)),‹o›]=.ok (T (i+1)):=by
   show(Ad (dS _ _ _ _ [‹.lst S›,none,none,‹.lst A›,‹.lst B›,‹o›])).bind _=_;rw[st.gt _ _ _ rfl (by simp! only[lF,lT]),fZ,cq,if_pos st.lt]
  have pk2:tP [3] (dS "view_form" [("Step",(aK dA 2 2)),("Nest",(aK bS 2 4)),("Unnest",(aK bH 2 5))] (ah 5) (af (f2 aH (ah 3) (mK (fC (.int 1)))) (aw))) [‹.lst S›,none,none,some (.own (.lst A)),some (.own (.lst B')),‹o›]=.ok (F (i+1)):=by
   show(Ad (dS _ _ _ _ [‹.lst S›,none,none,‹.lst A›,some (.own (.lst B')),‹o›])).bind _=_;rw[st.vf _ _ _ rfl (by simp! only[lF]),fZ,cq,if_pos st.lF]
  have sm1:=λ(f:aq->R (List D))(K:Ks)=>nh 4 ig f K [‹.lst S›,none,none,some (.own (.lst A)),some (.own (.lst B)),‹o›] (xs:=B) rfl;have sm2:=λ(f:aq->R (List D))(K:Ks)=>nh 3 ig f K [‹.lst S›,none,none,some (.own (.lst A)),some (.own (.lst B')),‹o›] (xs:=A) rfl;refine⟨_,_,rfl,rfl,?_⟩;simp! only[sm1,pk1,ap1,sm2,pk2,ap2]
 ·rintro ρ' rfl;generalize rm F (S.length+1)=A;generalize rm T (S.length+1)=B;simp! only[Iw]
theorem FK:∀(xs ys:List D)(i:Nat)(d:D),(mM xs ys)[i]?=some d->∃x y,xs[i]?=some x/\ys[i]?=some y/\d=.tup [x,y]
 |x::xs,y::ys,0,d,h=>by cases h;exact⟨x,y,rfl,rfl,rfl⟩
 |x::xs,y::ys,i+1,d,h=>FK xs ys i d h
 |[],_,i,d,h=>by simp[mM]at h
 |_::_,[],i,d,h=>by simp[mM]at h
theorem IZ(f:FX)(g:GF)(k:Ks)(ρ:aq):EC f g k ρ=tq (f ρ) k ρ λd=>(rO (g d ρ)).bind k.nx:=nr rfl
theorem Ec(f:aq->R (List D))(ρ:aq):qg f ρ=(f ρ).bind λds=>rO (sF ds):=nr rfl
theorem Ig:∃G:cn,G=(aU (EC (fR (aK hJ 3 6) (af (ah 9) (af (ah 1) (af (ah 6) (aw))))) (gT 2 (kP [10,11]))) (aU (mO (Ek (tS (fT (fR (aC 20) (af (f2 aH (ah 10) (mK (fC (.int 1)))) (af (ah 1) (aw)))))) (tS (fT (fR (aC 20) (af (f2 aH (ah 11) (mK (fC (.int 1)))) (af (ah 6) (aw))))))) (bM (fC (.bl false))) (cM)) (dM [0,1,2,3,4,5,6,8] (aU (jU (Dd (af (ah 9) (af (ah 10) (aw)))) (gT 2 (kP [12,13])) (aU (mO (Ek (fB (f2 lN (dS "exact" [("Step",(aK cC 2 2)),("Nest",(aK cC 2 2)),("Unnest",(aK bi 2 2))] (ah 12) (af (ah 13) (aw))) (fC (.bl true)))) (fB (f2 lN (dS "steady" [("Step",(aK bU 2 2)),("Nest",(aK bU 2 2)),("Unnest",(aK bX 2 2))] (ah 12) (af (ah 13) (aw))) (fC (.bl true))))) (bM (fC (.bl false))) (cM)) (dM [12,13] cM))) (aU (cy 14 (ah 7)) (dM [0,1,2,3,4,5,6,8,12,13] (aU (jU (qg (af (f2 vz (fL je (af (ah 9) (aw))) (fC (.int 1))) (af (mK (fC (.int 1))) (af (mK (fC (.int 1))) (aw))))) (gN 15) (aU (cy 14 (dS "put" [("Step",(aK il 4 4)),("Nest",(aK d9 4 4)),("Unnest",(aK cV 4 6))] (f2 aH (ah 9) (ah 15)) (af (f2 aH (ah 10) (ah 15)) (af (f2 aH (ah 11) (ah 15)) (af (ah 14) (aw)))))) (dM [15] cM))) (bM (fR (aC 20) (af (ah 14) (af (ah 7) (aw))))))))))))/\∀(S:List D)(F T V:Nat->D)(a0 a2 a3 a4 a5 a8:Option TG.S),(∀i o,S[i]?=some o->Lr o (F i) (T i) (V i) (F (i+1)) (T (i+1)) (V (i+1)))->S.length<=4->1<=S.length->aC 20 [F S.length,F 0]=.ok (.bl true)->aC 20 [T S.length,T 0]=.ok (.bl true)->aC 20 [V 0,V S.length]=.ok (.bl true)->
  G K0 [a0,‹F 0›,a2,a3,a4,a5,‹T 0›,‹V S.length›,a8,‹.lst S›,none,none,none,none,none,none]=.ok (.bl true):=by
 refine⟨_,rfl,λS F T V a0 a2 a3 a4 a5 a8 h sl s1 aF aT aV=>?_⟩;have wo:=KR h sl;have lF:=sR F S.length;have lT:=sR T S.length;have zp:AJ [.lst S,.lst (rm F (S.length+1))]=some (mM S (rm F (S.length+1))):=nr rfl;have hF:∀i,i<S.length+1->aH (.lst (rm F (S.length+1))) (.int i)=some (F i):=λi hi=>Jr F hi;have hT:∀i,i<S.length+1->aH (.lst (rm T (S.length+1))) (.int i)=some (T i):=λi hi=>Jr T hi;have rF:∀i:Nat,i<S.length->(rm F (S.length+1))[i]?=some (F i):=λi hi=>by
  unfold rm;rw[Rc,RY ‹0›];rfl
 have gr:sF [.int ((S.length:Int)-1),.int (-1),.int (-1)]=some (rV ((S.length:Int)-1) S.length):=by
  show(if decide ((-1:Int)=-1)&&(okR ((S.length:Int)-1)&&okR (-1))then some (rV ((S.length:Int)-1) ((S.length:Int)-1-(-1)).toNat)else none)=_;have o1:okR ((S.length:Int)-1)=true:=decide_eq_true ⟨by omega,by omega⟩;have o2:okR (-1)=true:=decide_eq_true ⟨by decide,by decide⟩;rw[o1,o2,show((S.length:Int)-1-(-1)).toNat=S.length by omega];rfl
 have un:∀(A B:D) ρ,gT 2 (kP [10,11]) (.tup [A,B]) ρ=some (setV 11 B (setV 10 A ρ)):=λ_ _ _=>rfl;have it:lN (.bl true) (.bl true)=some (.bl false):=rfl;generalize rm F (S.length+1)=Fl at wo lF zp hF rF;generalize rm T (S.length+1)=Tl at wo lT hT;simp! only[IZ,wo,un,lF,lT,aF,aT,zp];refine dQ (Q:=λz=>z=.ok (.bl true)) (λi ρ=>ρ=[none,none,none,none,none,none,none,‹V S.length›,none,‹.lst S›,‹.lst Fl›,‹.lst Tl›,none,none,none,none]) ?_ rfl ?_
 ·rintro i d ρ kk hd rfl;obtain⟨o,f,ho,hf,rfl⟩:=FK _ _ _ _ hd;have st:=h i o ho;rw[rF i (cx ho)]at hf;cases hf;have e1:=st.ex (ah 12) (af (ah 13) (aw)) [none,none,none,none,none,none,none,‹V S.length›,none,‹.lst S›,‹.lst Fl›,‹.lst Tl›,‹o›,‹F i›,none,none] rfl rfl;have e2:=st.st (ah 12) (af (ah 13) (aw)) [none,none,none,none,none,none,none,‹V S.length›,none,‹.lst S›,‹.lst Fl›,‹.lst Tl›,‹o›,‹F i›,none,none] rfl rfl;refine⟨[none,none,none,none,none,none,none,‹V S.length›,none,‹.lst S›,‹.lst Fl›,‹.lst Tl›,‹o›,‹F i›,none,none],_,rfl,rfl,?_⟩;simp! only[e1,e2,it]
 ·rintro ρ' rfl;simp! only[Ec,gr];refine dQ (Q:=λz=>z=.ok (.bl true)) (λi ρ=>i<=S.length/\ρ=[none,none,none,none,none,none,none,‹V S.length›,none,‹.lst S›,‹.lst Fl›,‹.lst Tl›,none,none,‹V (S.length-i)›,none]) ?_ ⟨Q4 _,rfl⟩ ?_
  ·rintro i d ρ kk hd ⟨hi0,rfl⟩;have hi:=cx hd;rw[qP]at hi;have hdi:d=.int ((S.length-1-i:Nat):Int):=by
    unfold rV at hd;rw[Rc,RY hi]at hd;cases hd;show D.int _=D.int _;congr 1;omega
   subst hdi;obtain⟨j,ej⟩:∃j,j=S.length-1-i:=⟨_,rfl⟩
   have hj:j<S.length:=(by omega);have e1:S.length-i=j+1:=(by omega);have e2:S.length-(i+1)=j:=(by omega);rw[<-ej,e1];have ho:S[j]?=some S[j]:=RK hj;have st:=h j _ ho;have i9:aH (.lst S) (.int j)=some S[j]:=(by rw[HC,CL,ho]);have fj:=hF j ‹0›;have tj:=hT j ‹0›;have pe:=st.pt (f2 aH (ah 9) (ah 15)) (af (f2 aH (ah 10) (ah 15)) (af (f2 aH (ah 11) (ah 15)) (af (ah 14) (aw)))) [none,none,none,none,none,none,none,‹V S.length›,none,‹.lst S›,‹.lst Fl›,‹.lst Tl›,none,none,‹V (j+1)›,‹.int j›] (by simp! only[i9]) (by simp! only[fj,tj]);refine⟨[none,none,none,none,none,none,none,‹V S.length›,none,‹.lst S›,‹.lst Fl›,‹.lst Tl›,none,none,‹V (j+1)›,‹.int j›],_,rfl,⟨by omega,rfl⟩,?_⟩;rw[e2];simp! only[pe]
  ·rintro ρ' ⟨_,rfl⟩;rw[qP,Si];simp! only[aV]
end
section
open Classical
variable{σ:List Bool}{t:List (List D)}{m:Nat}
theorem Tab.ALv(T:Tab σ t)(m:Nat):AL 10 (vw m t):=by
 have:=T.ln
 have fl:=mi m t;refine AL.tup (by rw[Q2];omega) λv hv=>?_;obtain⟨f,hf,rfl⟩:=List.mem_map.mp hv;have f16:=Cd T f hf;refine AL.tup (by unfold jr;rw[Rh,Rn];omega) λw hw=>?_;unfold jr at hw;rcases List.mem_append.mp hw with z|z
 ·obtain⟨r,hr,rfl⟩:=(lW m).mp hf;exact AL.le (by decide) (T.al r hr w (Tp z))
 ·rw[List.mem_singleton.mp z];have gl:=xj m t f;refine AL.tup (by rw[Q2];omega) λu hu=>?_;obtain⟨g,hg,rfl⟩:=List.mem_map.mp hu;unfold gp at hg;obtain⟨r,hr,rfl⟩:=List.mem_map.mp hg;have hr:=(List.mem_filter.mp hr).1
  have:=(T.rl r hr).1
  exact AL.tup (by rw[Rj];omega) λx hx=>T.al r hr x (Tq hx)
end
theorem HN(z:Int)(i n:Nat):x5 (.int z) (.int ((i:Int)%(n:Int)))=some (.int (z/2^(i%n))):=by
 rw[<-Int.natCast_emod];exact FZ z (i%n)
theorem BG{t:List (List D)}(tl:t.length<64)(y d g:Int)(hd:0<d)(hd':d<10^200)(hg:0<g):∃s:List (List D),s.Sublist t/\∀a0 a1 a2 a4 a6 a7 a8 a9 a10 a11 a12 a13 a14 a15:Option S,kr [none,none,some 3] (fS (af (ah 5) (aw))) (gT 2 (kP [0,1])) (fB (f2 lI (f2 rY (f2 x5 (f2 dN (ah 2) (fC (.int d))) (f2 cS (ah 0) (fC (.int g)))) (fC (.int 1))) (fC (.int 1)))) (ah 1) [a0,a1,a2,‹.int y›,a4,‹.tup (t.map .tup)›,a6,a7,a8,a9,a10,a11,a12,a13,a14,a15]=.ok (.lst (s.map .tup)):=by
 obtain⟨n,rfl⟩:=Int.eq_ofNat_of_zero_le (Int.le_of_lt hg);have gg:=λi=>fV (i:=i) hg;have dd:=λi=>nA (i:=i) hd hd';obtain⟨s,b,c⟩:=Dr (ρ:=[none,none,‹.int y›]) (C:=fB (f2 lI (f2 rY (f2 x5 (f2 dN (ah 2) (fC (.int d))) (f2 cS (ah 0) (fC (.int n)))) (fC (.int 1))) (fC (.int 1)))) t 0 λi r=>⟨[‹.int i›,‹.tup r›,‹.int y›],_,rfl,by simp! only[gg,dd,HN,xV];rfl,rfl⟩
 exact⟨s,b,λ_ _ _ _ _ _ _ _ _ _ _ _ _ _=>eV (ds:=gL 0 (t.map .tup)) (by simp! only[vX]) (by rw[lQ,Q2];omega) c⟩
theorem sZ(c:Str)(a b:Str)(fas:aq->R (List D))(ρ:aq):fNew c [a,b] fas ρ=(fas ρ).bind λas=>if as.length=2 then .ok (.obj c [a,b] as)else un:=nr rfl
theorem sN(c:Str)(a:Str)(fas:aq->R (List D))(ρ:aq):fNew c [a] fas ρ=(fas ρ).bind λas=>if as.length=1 then .ok (.obj c [a] as)else un:=nr rfl
theorem Js{A B:List Str}(h:(A++B).Nodup):∀w∈A,w∉B:=λw a b=>(List.nodup_append.mp h).2.2 w a w b rfl
theorem GI{σ:List Bool}{t v:List (List D)}(T:Tab σ t)(V:Tab σ v)(ks:KL)(qs:List (Str×D))(m:Nat)(nm:Str)(n:Nat)(hn:n<=2)(m1:1<=m)(m2:m<ks.length)(sl:σ.length=ks.length)(k8:ks.length<=8)(q8:qs.length<=8)(hk:∀p∈ks,p.2.gd)(hq:∀q∈qs,KG n q.2)(nd:((ks.take m).map (·.1)++[nm]).Nodup)(dj:(ks.map (·.1)++qs.map (·.1)).Nodup)(lF:lf (fr ks qs)=true):
  Lr (nst m nm) (fr ks qs) (.tup (t.map .tup)) (.tup (v.map .tup)) (vf ks qs m nm) (vw m t) (vw m v)/\Lr (sA nm) (vf ks qs m nm) (vw m t) (vw m v) (fr ks qs) (.tup (t.map .tup)) (.tup (v.map .tup)):=by
 have hm:m<=σ.length:=by omega
 have tl:(ks.take m).length=m:=by rw[Q8];omega
 have kl:((ks.take m).map kf).length=m:=by rw[Q2,tl]
 have dj':∀w∈(ks.take m).map (·.1),w∉(ks.drop m).map (·.1)++qs.map (·.1):=Js (by
  rw[<-R1,<-RT,Tg];exact dj)
 have uv:=GZ (ks.take m) (ks.drop m) qs nm true (by rw[Q8,Rj];omega) (by rw[Rj];omega) nd dj';rw[Tg]at uv;have ug:=Hi T hm (sA nm) (vf ks qs m nm) ((ks.take m).map kf) _ kl rfl;have up:=HU T V m1 hm (sA nm) (vf ks qs m nm) ((ks.take m).map kf) _ kl rfl;rw[<-yF]at ug up;rw[<-yF]at up;have lt:lf (.tup (t.map .tup))=true:=zC (Ep T.ALt);exact⟨Md (Kn T hm (nst m nm) _ (Kz m nm)) (Jd ks qs m nm n hn m1 m2 k8 q8 hq λz=>Js nd nm z QO) (HI V hm (nst m nm) _ _ (Kz m nm)) (zC (Ep (T.ALv m))) (zC (Mb ks qs m nm n hn k8 q8 hk hq)),
  LX ug uv (zJ _ _ _ _ _ ‹0› nd) (DZ _ _ _ _ _ ‹0› nd) up lt lF⟩
theorem math(ns:List Int)(hl:ns.length<=63):aK uM 1 16 [.lst (ns.map .int)]=.ok (.bl true):=by
 obtain⟨c1,e1⟩:=TD.NF ns 1 (by decide);obtain⟨ks,qs,n,hn,k2,k8,q8,hk,hq,fn,ed⟩:=Fd ns c1 e1;obtain⟨x,x0,x1,ex⟩:=xh ns 2 (by decide);have ex:aK cR 2 3 [.lst (ns.map .int),.int 2]=.ok (.int x):=ex;obtain⟨y,y0,y1,ey⟩:=jg x x0 ‹0›;have gk:=λi=>fV (i:=i) (show(0:Int)<(ks.length:Int)-1 by omega);have q0:=S4 y (show(ks.length:Int)-1≠0 by omega);have q1:=S5 y (show(0:Int)<(ks.length:Int)-1 by omega);obtain⟨m,hm,em⟩:∃m:Nat,(1<=m/\m<ks.length)/\(1:Int)+y%((ks.length:Int)-1)=m:=⟨(1+y%((ks.length:Int)-1)).toNat,by omega,by omega⟩
 obtain⟨t0,⟨T0,h4⟩,et⟩:=G2 ks qs n hn ‹0› k8 q8 hk hq m ns hl;have sl:(ks.map (·.2.b)).length=ks.length:=by rw[Q2]
 have sk:(ks.map (·.2.b)).take m=(ks.take m).map (·.2.b):=by rw[Tr]
 generalize ks.map (·.2.b)=σ at T0 sl sk;obtain⟨t,bt,lt⟩:=BG T0.ln y 3 20 (by decide) (by decide) (by decide);obtain⟨v,bv,lv⟩:=BG T0.ln y 5 19 (by decide) (by decide) (by decide);have T:=T0.sub bt;have V:=T0.sub bv;have g2:=gm 2;have g3:=gm 3;have gM:=gm 2147483647;have mm:=λi=>pR (i:=i) (j:=48271) (by decide) (by decide);have d64:=gd 64;have d256:=gd 256;have d1024:=gd 1024;have d2048:=gd 2048;have M3:∀a b:D,ku [a,b]=some (.lst [a,b]):=λ_ _=>nr rfl;have b0:=S4 (c1*48271) (show(2147483647:Int)≠0 by decide);obtain⟨nm0,en0,nP0⟩:=ya (c1*48271%2147483647) (17+y/64%3) b0 ‹0›;obtain⟨nm1,en1,nP1⟩:=ya (c1*48271%2147483647) (20+y/256%3) b0 ‹0›;have Ll:(ks.map (·.1)++qs.map (·.1)).length<=16:=by rw[Rh,Q2,Q2];omega
 have nin:∀(w:Str)(k:Int),C0 (c1*48271%2147483647) k w->16<=k->k<24->w∉ks.map (·.1)++qs.map (·.1):=λw k hw k0 k1 z=>by
  obtain⟨i,hi,ei⟩:=RO z;have a:=fn i w (by rw[RK hi,ei])
  have:=xl ‹0› ‹0› ‹0› ‹0› a hw
  omega
 have D1:(ks.map (·.1)++qs.map (·.1)).Nodup:=List.pairwise_iff_getElem.mpr λi j hi hj hij e=>by
  have a:=fn i _ (RK hi);have b:=fn j _ (RK hj);rw[e]at a
  have:=xl ‹0› ‹0› ‹0› ‹0› a b
  omega
 have D0:(ks.map (·.1)++qs.map (·.1)++[nm0,nm1]).Nodup:=List.nodup_append.mpr ⟨D1,List.nodup_cons.mpr ⟨λz=>by
  rw[List.mem_singleton.mp z]at nP0
  have:=xl ‹0› ‹0› ‹0› ‹0› nP0 nP1
  omega,by simp⟩,λa ha b hb e=>by
   subst e;rcases List.mem_cons.mp hb with z|z
   ·rw[z]at ha;exact nin nm0 _ nP0 ‹0› ‹0› ha
   ·rw[List.mem_singleton.mp z]at ha;exact nin nm1 _ nP1 ‹0› ‹0› ha⟩
 have tsub:((ks.take m).map (·.1)).Sublist (ks.map (·.1)++qs.map (·.1)):=by
  rw[Tr];exact(Rf _ _).trans (List.sublist_append_left _ _)
 have nd0:((ks.take m).map (·.1)++[nm0]).Nodup:=D0.sublist (tsub.append (List.Sublist.cons₂ _ (List.nil_sublist _)));have fa0:=Fi (n:=4*n) ks qs k8 q8 hk λq h=>GD n _ (hq q h);have lF0:=zC fa0;have aF:=G7 (5+4*n) 20 _ ‹0› fa0;have aT:=uq 8 20 _ (by decide) T.ALt;have aV:=uq 8 20 _ (by decide) V.ALt;obtain⟨s0,s1⟩:=GI T V ks qs m nm0 n hn hm.1 hm.2 sl k8 q8 hk hq nd0 D1 lF0;obtain⟨d,d0,dd,_,dk⟩:=HR n 20 ‹0› ks qs q8 hq;obtain⟨RR,hR,LR⟩:=Ig;have two:=LR [nst m nm0,sA nm0] (λi=>match i with|1=>vf ks qs m nm0|_=>fr ks qs) (λi=>match i with|1=>vw m t|_=>.tup (t.map .tup)) (λi=>match i with|1=>vw m v|_=>.tup (v.map .tup)) (‹.lst (ns.map .int)›) (‹.int (c1*48271%2147483647)›) (‹.int y›) (‹.int m›) (‹.tup (t0.map .tup)›) (‹.lst [.str nm0,.str nm1]›) (λi o ho=>by
  rcases i with _|_|i
  ·cases ho;exact s0
  ·cases ho;exact s1
  ·cases ho) (by simp) (by simp) aF aT aV
 have two:RR K0 [‹.lst (ns.map .int)›,‹fr ks qs›,‹.int (c1*48271%2147483647)›,‹.int y›,‹.int m›,‹.tup (t0.map .tup)›,‹.tup (t.map .tup)›,‹.tup (v.map .tup)›,‹.lst [.str nm0,.str nm1]›,‹.lst [nst m nm0,sA nm0]›,none,none,none,none,none,none]=.ok (.bl true):=two;rw[kA];unfold uM;rw[<-hR];cases hb1:decide ((m:Int)>1)with
 |false=>
  simp! only[ed,e1,mm,gM,ex,ey,Q2,gk,em,et,lt,lv,d64,g3,en0,d256,en1,M3,sZ,sN,hb1];exact two
 |true=>
  have mg1:1<m:=by have:=of_decide_eq_true hb1;omega
  cases hb2:decide (d<2)with
  |false=>
   simp! only[ed,e1,mm,gM,ex,ey,Q2,gk,em,et,lt,lv,d64,g3,en0,d256,en1,M3,sZ,sN,hb1,dd,hb2];exact two
  |true=>
   cases hb3:(y/1024%2==1)with
   |false=>
    simp! only[ed,e1,mm,gM,ex,ey,Q2,gk,em,et,lt,lv,d64,g3,en0,d256,en1,M3,sZ,sN,hb1,dd,hb2,d1024,g2,hb3];exact two
   |true=>
    have hq1:=dk (of_decide_eq_true hb2);have gm1:=λi=>fV (i:=i) (show(0:Int)<(m:Int)-1 by omega);have r0:=S4 (y/2048) (show(m:Int)-1≠0 by omega);have r1:=S5 (y/2048) (show(0:Int)<(m:Int)-1 by omega);obtain⟨m',hm',em'⟩:∃m':Nat,(1<=m'/\m'<m)/\(1:Int)+y/2048%((m:Int)-1)=m':=⟨(1+y/2048%((m:Int)-1)).toNat,by omega,by omega⟩
    have kl:(ks.take m).length=m:=(by rw[Q8];omega);have T1:=JP T (m:=m) ‹0› ‹0› λr h=>h4 r (bt.subset h);have V1:=JP V (m:=m) ‹0› ‹0› λr h=>h4 r (bv.subset h);have hk1:∀p∈ks.take m,p.2.gd:=λp h=>hk p (Tp h);have hk0:∀q∈[(nm0,D.tup [.str "rows",fr (ks.drop m) qs,.bl true])],KG 2 q.2:=λq h=>by
     rw[List.mem_singleton.mp h];exact .inr ⟨ks.drop m,qs,true,rfl,by rw[Rj];omega,by rw[Rj];omega,λp h=>hk p (Tq h),q8,hq1⟩
    have nd1:(((ks.take m).take m').map (·.1)++[nm1]).Nodup:=D0.sublist (List.Sublist.append (List.Sublist.trans (by rw[Tr];exact Rf _ _) tsub) (List.Sublist.cons _ (List.Sublist.refl _)));obtain⟨s2,s3⟩:=GI T1 V1 (ks.take m) [(nm0,D.tup [.str "rows",fr (ks.drop m) qs,.bl true])] m' nm1 2 (by decide) hm'.1 ‹0› (by rw[sk,Q2]) ‹0› (by simp) hk1 hk0 nd1 nd0 s0.lF;rw[<-yF,<-yF]at s2 s3;have Mm:∀a b c d:D,ku [a,b,c,d]=some (.lst [a,b,c,d]):=λ_ _ _ _=>nr rfl;have four:=LR [nst m nm0,nst m' nm1,sA nm1,sA nm0] (λi=>match i with|1=>vf ks qs m nm0|2=>vf (ks.take m) [(nm0,D.tup [.str "rows",fr (ks.drop m) qs,.bl true])] m' nm1|3=>vf ks qs m nm0|_=>fr ks qs) (λi=>match i with|1=>vw m t|2=>vw m' (Nn m t)|3=>vw m t|_=>.tup (t.map .tup)) (λi=>match i with|1=>vw m v|2=>vw m' (Nn m v)|3=>vw m v|_=>.tup (v.map .tup)) (‹.lst (ns.map .int)›) (‹.int (c1*48271%2147483647)›) (‹.int y›) (‹.int m›) (‹.tup (t0.map .tup)›) (‹.lst [.str nm0,.str nm1]›) (λi o ho=>by
     rcases i with _|_|_|_|i
     ·cases ho;exact s0
     ·cases ho;exact s2
     ·cases ho;exact s3
     ·cases ho;exact s1
     ·cases ho) (by simp) (by simp) aF aT aV
    have four:RR K0 [‹.lst (ns.map .int)›,‹fr ks qs›,‹.int (c1*48271%2147483647)›,‹.int y›,‹.int m›,‹.tup (t0.map .tup)›,‹.tup (t.map .tup)›,‹.tup (v.map .tup)›,‹.lst [.str nm0,.str nm1]›,‹.lst [nst m nm0,nst m' nm1,sA nm1,sA nm0]›,none,none,none,none,none,none]=.ok (.bl true):=four;simp! only[ed,e1,mm,gM,ex,ey,Q2,gk,em,et,lt,lv,d64,g3,en0,d256,en1,M3,sZ,sN,hb1,dd,hb2,d1024,g2,hb3,d2048,gm1,em',Mm];exact four
end Tk46
open PySem PySem.W PyProof.Rows
theorem PySem.W.Fast.tw5028205720825256207 : True := trivial
theorem PySem.W.Fast.tw1814062649218615205 : True := trivial
theorem PySem.W.Fast.tw5771163950605086343 : True := trivial
theorem PySem.W.Fast.tw3398084790261267044 : True := trivial
theorem PySem.W.Fast.tw11893526819864940551 : True := trivial
theorem PySem.W.Fast.tw6086782285768377608 : True := trivial
theorem PySem.W.Fast.tw3264499256251971401 : True := trivial
theorem PySem.W.Fast.tw13251639589416520013 : True := trivial
theorem PySem.W.Fast.tw13450983112165173047 : True := trivial
theorem PySem.W.Fast.tw2600308987651203787 : True := trivial
theorem PySem.W.Fast.tw7077996049167606285 : True := trivial
theorem PySem.W.Fast.tw8072411258301996677 : True := trivial
theorem PySem.W.Fast.tw14572502820008015388 : True := trivial
theorem PySem.W.Fast.tw2934498293093781125 : True := trivial
theorem PySem.W.Fast.tw8341108171342548888 : True := trivial
theorem PySem.W.Fast.tw5044340928388134599 : True := trivial
theorem PySem.W.Fast.tw8121077288932959960 : True := trivial
theorem PySem.W.Fast.tw1445596108302334432 : True := trivial
theorem PySem.W.Fast.tw15522293721982320861 : True := trivial
theorem PySem.W.Fast.tw3986891310830745389 : True := trivial
theorem PySem.W.Fast.tw16283264664282654626 : True := trivial
theorem PySem.W.Fast.tw5197055875182233066 : True := trivial
theorem PySem.W.Fast.tw8513054367735255140 : True := trivial
theorem PySem.W.Fast.tw8926908984300719747 : True := trivial
theorem PySem.W.Fast.tw5138625864657504836 : True := trivial
theorem PySem.W.Fast.tw10341615956545605061 : True := trivial
theorem PySem.W.Fast.tw13497470197084305590 : True := trivial
theorem PySem.W.Fast.tw2721613692605103173 : True := trivial
theorem PySem.W.Fast.tw253074823898542054 : True := trivial
theorem PySem.W.Fast.tw11288894968459146725 : True := trivial
theorem PySem.W.Fast.tw12516842759458104096 : True := trivial
theorem PySem.W.Fast.tw9448428004545623957 : True := trivial
theorem PySem.W.Fast.tw9624630834484704108 : True := trivial
theorem PySem.W.Fast.tw1065941041248764315 : True := trivial
theorem PySem.W.Fast.tw12415410259582853682 : True := trivial
theorem PySem.W.Fast.tw15935267514672095824 : True := trivial
theorem PySem.W.Fast.tw8355771998402510313 : True := trivial
theorem PySem.W.Fast.tw9144655788059686511 : True := trivial
theorem PySem.W.Fast.tw7972983021285534177 : True := trivial
theorem PySem.W.Fast.tw8018688483090676562 : True := trivial
theorem PySem.W.Fast.tw3574759719595299440 : True := trivial
theorem PySem.W.Fast.tw15504043935360615170 : True := trivial
theorem PySem.W.Fast.tw2444017397471987332 : True := trivial
theorem PySem.W.Fast.tw7354289119706398695 : True := trivial
theorem PySem.W.Fast.tw17147181583589452198 : True := trivial
theorem PySem.W.Fast.tw1926209788784279985 : True := trivial
theorem PySem.W.Fast.tw7492988021138612955 : True := trivial
theorem PySem.W.Fast.tw1987862216485465632 : True := trivial
theorem PySem.W.Fast.tw9199696421124684671 : True := trivial
theorem PySem.W.Fast.tw11934559091713481449 : True := trivial
theorem PySem.W.Fast.tw7331645693973138618 : True := trivial
theorem PySem.W.Fast.tw9447833256080377295 : True := trivial
theorem PySem.W.Fast.tw6265266024064246978 : True := trivial
theorem PySem.W.Fast.tw12085657165308547062 : True := trivial
theorem PySem.W.Fast.tw1023282993758447234 : True := trivial
theorem PySem.W.Fast.tw11330654636209631330 : True := trivial
theorem PySem.W.Fast.tw17298732458632718768 : True := trivial
theorem PySem.W.Fast.tw6948638816646917451 : True := trivial
theorem PySem.W.Fast.tw10649922428007238877 : True := trivial
theorem PySem.W.Fast.tw6155461650248288094 : True := trivial
theorem PySem.W.Fast.tw6923777220986604954 : True := trivial
theorem PySem.W.Fast.tw15164224237668772407 : True := trivial
theorem PySem.W.Fast.tw2203136879175700554 : True := trivial
theorem PySem.W.Fast.tw7902414697261972196 : True := trivial
theorem PySem.W.Fast.tw4173412335700453849 : True := trivial
theorem PySem.W.Fast.tw17411223064495177898 : True := trivial
theorem PySem.W.Fast.tw15136651089923549859 : True := trivial
theorem PySem.W.Fast.tw10259406771081508148 : True := trivial
theorem PySem.W.Fast.tw7861016492658384025 : True := trivial
theorem PySem.W.Fast.tw6994860426083927902 : True := trivial
theorem PySem.W.Fast.tw241091354398400115 : True := trivial
theorem PySem.W.Fast.tw4651392468331353894 : True := trivial
theorem PySem.W.Fast.tw4806099094965570952 : True := trivial
theorem PySem.W.Fast.tw83740410452153572 : True := trivial
theorem PySem.W.Fast.tw7033847586809097831 : True := trivial
theorem PySem.W.Fast.tw10567239276480206967 : True := trivial
theorem PySem.W.Fast.tw14495258154672389646 : True := trivial
theorem PySem.W.Fast.tw10830462387477966684 : True := trivial
theorem PySem.W.Fast.tw9400080436178162880 : True := trivial
theorem PySem.W.Fast.tw9481692045476540567 : True := trivial
theorem PySem.W.Fast.tw13235761964035276430 : True := trivial
theorem PySem.W.Fast.tw12843192164200109457 : True := trivial
theorem PySem.W.Fast.tw3279927768383645849 : True := trivial
theorem PySem.W.Fast.tw14764393958097499743 : True := trivial
theorem PySem.W.Fast.tw543490383207753305 : True := trivial
theorem PySem.W.Fast.tw16181402849133187479 : True := trivial
theorem PySem.W.Fast.tw5963922077212692314 : True := trivial
theorem PySem.W.Fast.tw3955048677310984715 : True := trivial
theorem PySem.W.Fast.tw18337563333824985308 : True := trivial
theorem PySem.W.Fast.tw16718274777372372022 : True := trivial
theorem PySem.W.Fast.tw13938334593571589108 : True := trivial
theorem PySem.W.Fast.tw5455589961324537007 : True := trivial
theorem PySem.W.Fast.tw16901039573433216682 : True := trivial
theorem PySem.W.Fast.tw6515745524522690655 : True := trivial
theorem PySem.W.Fast.tw8542952273421968324 : True := trivial
theorem PySem.W.Fast.tw1983666328181490299 : True := trivial
theorem PySem.W.Fast.tw16742128328520583837 : True := trivial
theorem PySem.W.Fast.tw6081920968555207897 : True := trivial
theorem PySem.W.Fast.tw1561080556569836179 : True := trivial
theorem PySem.W.Fast.tw14986343895055810337 : True := trivial
theorem PySem.W.Fast.tw8142721767097820213 : True := trivial
theorem PySem.W.Fast.tw10179226920811607513 : True := trivial
set_option maxRecDepth 100000 in
set_option maxHeartbeats 0 in
theorem PySem.Challenge.cw_twoglass_k46_whole_nested_and_back_holds : PySem.Challenge.rw_twoglass_k46_whole_nested_and_back.Holds := by
  w_on; o_law; k_head; (case hw => w_witness2)
  k_fill
  refine Tk46.walk (l := PySem.Challenge.rw_twoglass_k46_whole_nested_and_back) rfl rfl (fun w h Y => ⟨PySem.W.km_in_of Y, PySem.W.km_tabs_of Y _ (List.Mem.head _)⟩) ?F Tk46.math
  case F =>
    intro w mg fa h KX G hmg
    refine' Tk46.all_mk KX G hmg ?ac0 ?ac1 ?ac2 ?a0 ?l0 ?c0 ?k0 ?a1 ?i1 ?l1 ?c1 ?k1 ?a2 ?l2 ?c2 ?k2 ?a3 ?i3 ?l3 ?c3 ?k3 ?a4 ?l4 ?c4 ?k4 ?a5 ?l5 ?c5 ?k5 ?a6 ?l6 ?c6 ?k6 ?a7 ?l7 ?c7 ?k7 ?a8 ?i8 ?l8 ?c8 ?k8 ?a9 ?a9_2 ?i9 ?l9 ?c9 ?k9 ?a10 ?l10 ?c10 ?k10 ?a11 ?l11 ?c11 ?k11 ?a12 ?l12 ?c12 ?k12 ?a13 ?i13 ?l13 ?c13 ?k13 ?a14 ?i14 ?l14 ?c14 ?k14 ?a15 ?a15_2 ?i15 ?l15 ?c15 ?k15 ?a16 ?i16 ?l16 ?c16 ?k16 ?a17 ?l17 ?c17 ?k17 ?a18 ?l18 ?c18 ?k18 ?a19 ?l19 ?c19 ?k19 ?a20 ?i20 ?l20 ?c20 ?k20 ?a21 ?i21 ?l21 ?c21 ?k21 ?a22 ?i22 ?l22 ?c22 ?k22 ?a23 ?i23 ?l23 ?c23 ?k23 ?a24 ?i24 ?l24 ?c24 ?k24 ?a25 ?l25 ?c25 ?k25 ?a26 ?l26 ?c26 ?k26 ?a27 ?l27 ?c27 ?k27 ?a28 ?l28 ?c28 ?k28 ?a29 ?l29 ?c29 ?k29 ?a30 ?l30 ?c30 ?k30 ?a31 ?l31 ?c31 ?k31 ?a32 ?l32 ?c32 ?k32 ?a33 ?l33 ?c33 ?k33 ?a34 ?l34 ?c34 ?k34 ?a35 ?l35 ?c35 ?k35 ?a36 ?l36 ?c36 ?k36 ?a37 ?l37 ?c37 ?k37 ?a38 ?l38 ?c38 ?k38 ?a39 ?l39 ?c39 ?k39 ?a40 ?l40 ?c40 ?k40 ?a41 ?i41 ?l41 ?c41 ?k41 ?a42 ?i42 ?l42 ?c42 ?k42 ?p0 ?q0 ?r0 ?s0 ?n0_0 ?n0_1 ?m0 ?kp0 ?p1 ?q1 ?r1 ?s1 ?n1_0 ?m1 ?kp1 ?p2 ?q2 ?r2 ?s2 ?z0 ?z1 ?z2 ?z3 ?z4 ?z5 ?z6 ?z7 ?z8 ?z9 ?z10 ?z11 ?z12 ?z13 ?z14 ?e0 ?e1 ?lc ?lh ?lt
    case ac0|ac1|ac2|a0|l0|c0|k0|a1|i1|l1|c1|k1|a2|l2|c2|k2|a3|i3|l3|c3|k3|a4|l4|c4|k4|a5|l5|c5|k5|a6|l6|c6|k6|a7|l7|c7|k7|a8|i8|l8|c8|k8|a9|a9_2|i9|l9|c9|k9|a10|l10|c10|k10|a11|l11|c11|k11|a12|l12|c12|k12|a13|i13|l13|c13|k13|a14|i14|l14|c14|k14|a15|a15_2|i15|l15|c15|k15|a16|i16|l16|c16|k16|a17|l17|c17|k17|a18|l18|c18|k18|a19|l19|c19|k19|a20|i20|l20|c20|k20|a21|i21|l21|c21|k21|a22|i22|l22|c22|k22|a23|i23|l23|c23|k23|a24|i24|l24|c24|k24|a25|l25|c25|k25|a26|l26|c26|k26|a27|l27|c27|k27|a28|l28|c28|k28|a29|l29|c29|k29|a30|l30|c30|k30|a31|l31|c31|k31|a32|l32|c32|k32|a33|l33|c33|k33|a34|l34|c34|k34|a35|l35|c35|k35|a36|l36|c36|k36|a37|l37|c37|k37|a38|l38|c38|k38|a39|l39|c39|k39|a40|l40|c40|k40|a41|i41|l41|c41|k41|a42|i42|l42|c42|k42|p0|q0|r0|s0|n0_0|n0_1|m0|kp0|p1|q1|r1|s1|n1_0|m1|kp1|p2|q2|r2|s2|z0|z1|z2|z3|z4|z5|z6|z7|z8|z9|z10|z11|z12|z13|z14|e0|e1 => first|delta TX.Lk;k_is|k_is
    case lc => rfl
    case lh|lt => kernel_rfl
