import PyProof.Rows.All
import KE.KDictOf
import KE.KDictSum
import KE.KLam
import KE.KNestM
import KE.KSortTup
import KE.KTreeD
import KE.KTryMore
import Wide.FinOn
import PySem.Challenge.RW_twoglass_k14_whole_changes_add_up
set_option Elab.async false
set_option linter.all false
set_option maxRecDepth 100000
section
open PySem PySem.W PyProof.Rows
namespace PySem.W.Fast
theorem tw13288413241221369503:True:=⟨⟩
theorem tw4161447984027285769:True:=⟨⟩
theorem tw8594603628039931914:True:=⟨⟩
theorem tw161274854549828929:True:=⟨⟩
theorem tw16684273776370923827:True:=⟨⟩
theorem tw5581421674180785692:True:=⟨⟩
theorem tw17824401698616454593:True:=⟨⟩
theorem tw7557902659685352973:True:=⟨⟩
theorem tw5754226939426166777:True:=⟨⟩
theorem tw2213949833408497706:True:=⟨⟩
theorem tw4067571078186274079:True:=⟨⟩
theorem tw774980130479043068:True:=⟨⟩
theorem tw16306511296715017561:True:=⟨⟩
theorem tw10211138424334340570:True:=⟨⟩
theorem tw7264698674764214262:True:=⟨⟩
theorem tw4137900369917395510:True:=⟨⟩
theorem tw3695997667451718581:True:=⟨⟩
theorem tw16601285046668498289:True:=⟨⟩
theorem tw9833121863726559854:True:=⟨⟩
theorem tw14490318647765290141:True:=⟨⟩
theorem tw18428187120896475720:True:=⟨⟩
theorem tw1379556850149028808:True:=⟨⟩
theorem tw7730350991946124615:True:=⟨⟩
theorem tw10491261558453010799:True:=⟨⟩
theorem tw8727566164907299480:True:=⟨⟩
theorem tw15482196047977971732:True:=⟨⟩
theorem tw8007173769387091092:True:=⟨⟩
theorem tw11410737905752936864:True:=⟨⟩
theorem tw9731806311355736228:True:=⟨⟩
theorem tw5752947619837495364:True:=⟨⟩
theorem tw16751239584348805981:True:=⟨⟩
theorem tw13007037588452343950:True:=⟨⟩
theorem tw14243380798615574277:True:=⟨⟩
theorem tw11281732569921369299:True:=⟨⟩
theorem tw9795260281059019532:True:=⟨⟩
theorem tw13010544492343094311:True:=⟨⟩
theorem tw8598261956687951962:True:=⟨⟩
theorem tw4428899807616972058:True:=⟨⟩
theorem tw8615493261306498145:True:=⟨⟩
theorem tw1765941161920636006:True:=⟨⟩
theorem tw7004519253071269003:True:=⟨⟩
theorem tw10266094326354913884:True:=⟨⟩
theorem tw7454444793689797349:True:=⟨⟩
theorem tw3490139412150520396:True:=⟨⟩
theorem tw5058305970785582442:True:=⟨⟩
theorem tw9723381340160346249:True:=⟨⟩
theorem tw6605828226493926:True:=⟨⟩
theorem tw16790168472432079862:True:=⟨⟩
theorem tw6011049843928002604:True:=⟨⟩
theorem tw15439701472792602802:True:=⟨⟩
theorem tw10577762865484145118:True:=⟨⟩
theorem tw12477720450741165248:True:=⟨⟩
theorem tw6508045230034891159:True:=⟨⟩
theorem tw13863380811293720625:True:=⟨⟩
theorem tw1344126417379826460:True:=⟨⟩
theorem tw18641343966857629:True:=⟨⟩
theorem tw9093155174630157978:True:=⟨⟩
theorem tw375292534798482989:True:=⟨⟩
theorem tw9626776925676766927:True:=⟨⟩
theorem tw13474392847644696310:True:=⟨⟩
theorem tw641735626998023148:True:=⟨⟩
theorem tw10473102362815343410:True:=⟨⟩
theorem tw3539861773366979159:True:=⟨⟩
theorem tw7886440963759672362:True:=⟨⟩
theorem tw13985494080963462801:True:=⟨⟩
theorem tw18201779567223929909:True:=⟨⟩
theorem tw17138187216604626276:True:=⟨⟩
theorem tw12100707218878715805:True:=⟨⟩
theorem tw10454937564026788444:True:=⟨⟩
theorem tw5730647687207601853:True:=⟨⟩
theorem tw4950649406667582676:True:=⟨⟩
theorem tw9575379205500943524:True:=⟨⟩
theorem tw6481033624830870575:True:=⟨⟩
theorem tw8589855648808828287:True:=⟨⟩
end PySem.W.Fast
set_option maxHeartbeats 0 in
open_top hd14 for PySem.Challenge.rw_twoglass_k14_whole_changes_add_up
end
local macro_rules|`(tactic|omega)=>`(tactic|first|lia|omega (config:={}))
open List renaming take_nil→JT,drop_nil→JU,filterMap_cons→J1,mem_cons_self→J3,mem_cons_of_mem→J4,mem_append_left→J5,getElem?_set_self→J6,getElem?_set_ne→J7,mem_append_right→Kb,append_nil→Kc,of_mem_zip→Kd,length_take→Ke,getElem?_append_right→Kf,getElem?_replicate→Kg,getElem?_append_left→Kh,getElem?_map→Ki,take_sublist→Kj,mem_of_getElem?→Kk,length_append→Kl,length_map→Km,length_replicate→Kn,size_toArray→Ko,length_drop→Kq,length_singleton→Ku,map_nil→Kv,map_cons→Kw,find?_cons→Ky,any_cons→Kz,length_cons→KA,length_nil→KC,nodup_nil→KI,lookup_cons→KJ,cons_append→KP,take_zero→KQ,take_succ_cons→KR,drop_zero→KS,drop_succ_cons→KU,all_cons→KW,getElem?_eq_getElem→KY,nil_append→K4,map_congr_left→K8,map_append→K9,getElem?_drop→La,length_range→Lb,getElem?_range→Le,length_set→Lf,drop_eq_getElem_cons→Lg,append_assoc→Li,drop_length→Lj,zip_nil_right→Ln,zip_cons_cons→Lp,not_lt_nil→Lq,nil_lt_cons→Lr,cons_lt_cons_iff→Lv,filter_cons_of_pos→Lw,filter_cons_of_neg→Lx,getElem_mem→Ly,take_of_length_le→LD,getElem_of_mem→LI,getElem_take→LJ,drop_drop→LK,take_append_drop→LL,drop_of_length_le→LN,mem_of_mem_drop→LO,reverse_append→LR,reverse_perm→LW,mem_of_mem_take→LX,zipIdx_cons→LY,foldl_cons→LZ,length_eq_zero_iff→L0,drop_left→L1,drop_sublist→L3,getElem?_take→L4,getElem_drop→L5,flatten_cons→L6,take_left→L9,ext_getElem?→Mb,nodup_range→Md,pairwise_map→Mf,getD_eq_getElem?_getD→Mg,map_map→Mh,toList_toArray→Mi,getElem?_eq_none→Ml,mem_singleton→Mm,mem_cons→Mo,not_mem_nil→Mp,find?_cons_of_pos→Mq,find?_cons_of_neg→Mr,getElem?_cons_zero→Ms,getElem?_cons_succ→Mt,eraseIdx_eq_take_drop_succ→Mu,map_take→Mv,map_drop→Mw,filter_sublist→Mx,length_filter_le→Mz,perm_ext_iff_of_nodup→MF,mem_map→MG,length_eraseIdx_of_lt→MJ,getElem?_toArray→MK,any_eq_true→ML,set_cons_zero→MM,set_cons_succ→MN,replicate_zero→MO,mem_of_find?_eq_some→MR
open Int renaming toNat_natCast→Kp,emod_lt_of_pos→MD,lt_trans→MP
open Nat renaming lt_of_lt_of_le→JV,lt_irrefl→JW,ne_of_lt→JX,le_trans→JY,le_of_lt→JZ,ne_of_gt→J9,le_refl→Ka,le_of_not_lt→Kx,lt_trans→KG,zero_le→KH,lt_succ_of_lt→KN,le_succ→KO,min_self→KZ,sub_zero→Lc,le_of_eq→Ld,lt_of_le_of_lt→Lh,add_sub_cancel_left→LQ,min_eq_left→LU,zero_add→LV,add_assoc→L7,eq_zero_or_pos→L8,not_lt_zero→Mj,lt_or_ge→Mk,succ_pos→MA,le_of_lt_succ→MB,mod_lt→MC,sub_self→ME,le_succ_of_le→MH,lt_succ_self→MI,succ_le_succ→MQ
open Bool renaming false_ne_true→J8,and_eq_true→Kr,false_eq_true→KL,and_true→K1,and_false→K2,or_eq_true→K3,not_false→Lz,not_true→LA,not_eq_true'→LC
open Option renaming getD_none→Kt,isNone_none→My
open PySem renaming Value→NN,NameKind→NP,Addr→NQ,Expr→NR,Stmt→NS,Shared→NT,World→NU,Program→NV,Paired→NW,Heap→NX,sizeLine→NY,mainGlobals→N1,builtinsNs→N2,bootBuiltins→N3,Around→N4,Scope→N5,Model→N6,wpAny→N7,starEach→N8,wpAny_mono→N9,wpAny_Name→Oa,CmpOp→Oc,compareOp→Od,behindInMarks→Oe,wpAny_execs_nil→Of,PassesOwn→Og,wpAny_passesOwn→Oh,wpAny_pure→Oi,wpAny_bind→Oj,wpAny_load→Ol,wpAny_pyIter_list→Om,foldedSetIterable→Oo,binaryOp→Oq,sizeLine_eq→Ot,recursionLimit→Ou,cLine→Ov,FuncData→Ow,BindsTo→Ox,codeAny→Oy,Arguments→Oz,wpAny_Call_Name_kw→OA,concat_meets→OB,noFill_tuple_add→OC,seq_tuple_add→OD,IsPart→OG,wpAny_field→OH,wpAny_holding→OI,wpAny_callSpecial?_slot→OJ,wpAny_call_entry→OL,wpAny_typeOf→OM,wpAny_newObj_type→OO,evalPart_none→OQ,attributeBase→OT,keywordEach→OU,Keyword→OV,codeAny_mono→OW,tupleKind_room_in1→OX,wpAny_specialOf→OY,call_meetsIn→OZ,wpAny_standAt→O0,wpAny_comprehension_free→O1,wpAny_rule→O2,wpAny_getItem_str_slice→O3,post_val_or_str→O5,wpAny_attempt→Pp,wpAny_newList→Px,wpAny_collect_seq→Py,typeLookup_type→PB,builtinLookup_eq_fast→PD,wpAny_isInstance→PF,codeAny_builtin→PH,plainId_quiet→PJ,wpAny_notOrdered_dict→PK,DictEntry→PL,wpAny_pyIter_slot→PN,wpAny_dictEntries→PP,wpAny_dictEpoch→PQ,wpAny_typeNameOfWhole_keyiter→PR,wpAny_typeNameOf_keyiter→PV,wpAny_fieldsOf→PX,wpAny_setField→PY,wpAny_of_eq→PZ,wpAny_handled→P0,isSubtype_stop→P1,wpAny_missedRemoval_other→P2,wpAny_typeNameOfWhole_valiter→P4,wpAny_typeNameOf_valiter→P5,wpAny_isOneOf_valiter→P6,SetTable→P7,wpAny_setState_of→P8,wpAny_askSetting→P9,isSubtype_type→Qa,wpAny_setEntries_of→Qb,wpAny_ite_split→Qc
open PySem.W renaming methodObj→MS,Frag→MT,findIn→MU,keepIn→MV,cellsFrom_some→MX,fnOf→MY,codeIn→MZ,nsIn→M0,BoolBack→M3,tabObj→M4,OpenLaw→M5,mg_of→M6,codeHdIn→M7,kas_rev→O6,kas_cmp→Pk,kas_item→Pl,kas_ask→Pr,kla_obj→Pz
open PySem.Heap renaming lt_size→M8,get?_none_of_le→M9,SameBut→Nc,get?_push_of_some→Nf,get?_push_size→Ng,get?_update_other→Nh,size_push→Ni,FlyingW→Nj,get?_push_ne→Nk,size_update→Nm,get?_update_ne→Nn,get?_update_self→Np,ExtBut→Nq
open PyProof.Rows renaming callWith_type1→Nr,callWith_builtin1→Nt,slot_tuple_getitem→Nu,envOfC→Nv,IsTup→Nw,boot_dict→Nx,IsTup→NZ,Subscript_→OS,Keyed→O7,SortSt→O8,wpS_bind→O9,wpS_mono→Pa,wpS_forRange→Pb,wpS_pure→Ph,SortKind→Pj,wpS_get→Pm,wpS_lift→Pn,wpS_modify→Pq,listUpdate_at→Pt,get?_update_seq→Pu,seqEpoch_at→Pw
open PySem.F renaming slot_tuple_add→Ny,entry_tuple_add→Nz,args_tuple_add_2→NA,slot_dict_get→NB,entry_dict_get→NC,args_dict_get_2→ND,args_dict_get_3→NE,plainAttrs_dict→NF,type_dict_get→NI,plain_list_iadd→NK,plain_extend_loop→NM
set_option maxHeartbeats 1000000
local macro_rules | `(‹0›)=>`(by omega)
set_option hygiene false
local macro_rules|`(`o)=>`(by omega)|`(`g)=>`((model prog w))|`(`h)=>`(Inv X pins σ H s)|`(`i)=>`((model X.prog X.w))|`(`j)=>`(((bQ prog w).hash k))
set_option hygiene true
namespace L2
open PySem PySem.Spec PyProof.Rows
noncomputable abbrev dS:=List (Option Nat)
noncomputable abbrev bS:=Str->Option NN
noncomputable abbrev mG:=List (Str×NP)
noncomputable abbrev aL:=List (NQ×Obj)
noncomputable abbrev jN:=List (Str×NQ)
noncomputable abbrev bj:=List NR
noncomputable abbrev cH:=List NS
noncomputable abbrev aE:=List NN
noncomputable abbrev gx:=Option NN
noncomputable abbrev bb:=List Bool
noncomputable abbrev ak:=List NQ
noncomputable abbrev b9:=Option Int
noncomputable abbrev cw:=Array NN
noncomputable abbrev aR:=List Nat
noncomputable abbrev az:=NN->NT->Prop
noncomputable abbrev bn:=NT->Prop
noncomputable abbrev aH:=List Str
noncomputable abbrev Key:=Sum Int Str
noncomputable abbrev ay:=List Key
noncomputable def om:Key->NN->Bool
 |.inl k,v=>Value.isInt k v
 |.inr x,v=>Value.isStrOf x v
noncomputable def HK(w:NU):Key->Int
 |.inl k=>hashInt k
 |.inr x=>hashStr w x
theorem bM:∀{k:Key}{v:NN},om k v=true->(∃i t,k=Sum.inl i/\v=Value.int i t)\/(∃x t,k=Sum.inr x/\v=Value.str x t)
 |.inl i,v,h=>by
  obtain⟨t,e⟩:=Value.isInt_shape (k:=i) (v:=v) h;exact .inl ⟨i,t,rfl,e⟩
 |.inr x,v,h=>by
  obtain⟨t,e⟩:=Value.isStrOf_shape (x:=x) (v:=v) h;exact .inr ⟨x,t,rfl,e⟩
theorem v5(i:Int)(t:Tok):om (.inl i) (.int i t)=true:=by simp[om,Value.isInt]
theorem wF(x:Str)(t:Tok):om (.inr x) (.str x t)=true:=by simp[om,Value.isStrOf]
theorem DK(a b:Int):decide ((Sum.inl a:Key)=Sum.inl b)=(a==b):=by
 by_cases e:a=b
 ·subst e;simp
 ·have h:¬(Sum.inl a:Key)=Sum.inl b:=λq=>e (Sum.inl.inj q);rw[decide_eq_false h];exact(beq_eq_false_iff_ne.mpr e).symm
theorem Ec(a b:Str):decide ((Sum.inr a:Key)=Sum.inr b)=decide (a=b):=by
 by_cases e:a=b
 ·subst e;simp
 ·have h:¬(Sum.inr a:Key)=Sum.inr b:=λq=>e (Sum.inr.inj q);rw[decide_eq_false h,decide_eq_false e]
theorem Fl(a:Int)(b:Str):decide ((Sum.inl a:Key)=Sum.inr b)=false:=decide_eq_false (λq=>nomatch q)
theorem Dz(a:Str)(b:Int):decide ((Sum.inr a:Key)=Sum.inl b)=false:=decide_eq_false (λq=>nomatch q)
noncomputable def aN(prog:NV)(w:NU):PySem.KeyKind prog w Key where
 is:=om
 hash:=HK w
 inj:=λv a b ha hb=>by
  rcases bM ha with⟨i,t,rfl,rfl⟩|⟨x,t,rfl,rfl⟩
  ·rcases bM hb with⟨j,u,rfl,e⟩|⟨y,u,rfl,e⟩
   ·injection e with e1 _;rw[e1]
   ·exact nomatch e
  ·rcases bM hb with⟨j,u,rfl,e⟩|⟨y,u,rfl,e⟩
   ·exact nomatch e
   ·injection e with e1 _;rw[e1]
 byValue:=λk v h=>by
  rcases bM h with⟨i,t,rfl,rfl⟩|⟨x,t,rfl,rfl⟩<;>rfl
 pyHash:=λhv h=>by
  rcases bM hv with⟨i,t,rfl,rfl⟩|⟨x,t,rfl,rfl⟩
  ·exact wpAny_pyHash_int h
  ·exact wpAny_pyHash_str h
 eqBool:=λhu hv h=>by
  rcases bM hu with⟨i,t,rfl,rfl⟩|⟨x,t,rfl,rfl⟩
  ·rcases bM hv with⟨j,u,rfl,rfl⟩|⟨y,u,rfl,rfl⟩
   ·rw[DK]at h;exact wpAny_eqBool_int h
   ·rw[Fl]at h;exact SeqAt.EqAt.int_str i t y u _ _ _ _ h
  ·rcases bM hv with⟨j,u,rfl,rfl⟩|⟨y,u,rfl,rfl⟩
   ·rw[Dz]at h;exact SeqAt.EqAt.str_int x t j u _ _ _ _ h
   ·rw[Ec]at h;exact wpAny_eqBool_str h
 «strs»:=λk x t v h=>by
  rcases bM h with⟨i,u,rfl,e⟩|⟨y,u,rfl,e⟩
  ·exact nomatch e
  ·injection e with e1 _;subst e1;cases v<;>rfl
theorem rN(prog:NV)(w:NU)(i:Int)(t:Tok):(aN prog w).is (.inl i) (.int i t)=true:=v5 i t
theorem rE(prog:NV)(w:NU)(x:Str)(t:Tok):(aN prog w).is (.inr x) (.str x t)=true:=wF x t
inductive V where
 |non|bl (b:Bool)|int (i:Int)|str (x:Str)|byt (b:Array UInt8)|flt (b:UInt64)|ref (a:NQ)|ty (n:String)
 deriving DecidableEq
noncomputable abbrev aG:=List V
noncomputable def RelV:V->NN->Prop
 |.non,u=>u=Value.none
 |.bl b,u=>u=Value.bool b
 |.int i,u=>∃t,u=Value.int i t
 |.str x,u=>∃t,u=Value.str x t
 |.byt b,u=>∃t,u=Value.bytes b t
 |.flt b,u=>∃t,u=Value.float b t
 |.ref a,u=>u=Value.ref a
 |.ty n,u=>u=Value.type n
noncomputable abbrev Vals:aG->aE->Prop:=NW RelV
theorem Vals.length{xs:aG}{us:aE}(r:Vals xs us):xs.length=us.length:=Paired.length r
theorem Vals.get:∀{xs:aG}{us:aE}{i:Nat}{x:V},Vals xs us->xs[i]?=some x->∃u,us[i]?=some u/\RelV x u
 |_,_,_,_,.nil,e=>by simp at e
 |_,_,0,_,.cons r _,e=>by simp at e;subst e;exact⟨_,rfl,r⟩
 |_,_,i+1,x,.cons _ t,e=>by
  obtain⟨u,h1,h2⟩:=Vals.get (i:=i) (x:=x) t (by simpa using e);exact⟨u,by simpa using h1,h2⟩
theorem Vals.append{xs ys:aG}{us ws:aE}(h:Vals xs us)(s:Vals ys ws):Vals (xs++ys) (us++ws):=by
 induction h with
 |nil=>exact s
 |cons r _ ih=>exact .cons r ih
theorem Vals.take{xs:aG}{us:aE}(n:Nat)(h:Vals xs us):Vals (xs.take n) (us.take n):=by
 induction h generalizing n with
 |nil=>rw[JT,JT];exact .nil
 |cons r _ ih=>
  cases n with
  |zero=>exact .nil
  |succ n=>exact .cons r (ih n)
theorem Vals.drop{xs:aG}{us:aE}(n:Nat)(h:Vals xs us):Vals (xs.drop n) (us.drop n):=by
 induction h generalizing n with
 |nil=>rw[JU,JU];exact .nil
 |cons r t ih=>
  cases n with
  |zero=>exact .cons r t
  |succ n=>exact ih n
noncomputable def qe:Option V->gx->Prop
 |some v,some u=>RelV v u
 |none,none=>True
 |_,_=>False
noncomputable def KV{κ:Type}:List (κ×V)->List (κ×NN)->Prop:=NW λ(p:κ×V)(q:κ×NN)=>p.1=q.1/\RelV p.2 q.2
noncomputable def kV:Key->V
 |.inl i=>.int i
 |.inr x=>.str x
inductive HO where
  |lst (xs:aG)
  |tup (xs:aG)
  |dK (kvs:List (Key×V))|dT (kvs:List (List Key×V))
  |set (S:Int->Bool) (n:Nat)
  |ins (C dx:NQ) (fs:List (Str×V))
  |own (x:NQ)
  |xd (fs:List (Str×V))
  |met (f x:NQ)
  |rng (lo hi:Int)
  |frz (o:Obj) (u:HO)
  |tbl (ps:cw)
  |ext (φ:(NQ->Prop)->NX->Prop)
noncomputable abbrev Hp:=NQ->Option HO
noncomputable def upd(H:Hp)(a:NQ)(o:HO):Hp:=λb=>if b=a then some o else H b
theorem aq{H:Hp}{a:NQ}{o:HO}:upd H a o a=some o:=by unfold upd;rw[if_pos rfl]
theorem ao{H:Hp}{a b:NQ}{o:HO}(h:b≠a):upd H a o b=H b:=by unfold upd;rw[if_neg h]
theorem yu{H:Hp}{a b:NQ}{o u:HO}(h:H a=some o)(h':H b=some u)(d:o≠u):a≠b:=by
 intro e;subst e;rw[h]at h';exact d (Option.some.inj h')
theorem aI{H:Hp}{a b:NQ}{o:HO}(h:H a=some o)(h':H b=none):a≠b:=by
 intro e;subst e;rw[h]at h';cases h'
section
variable(P:NV)(w:NU)
noncomputable def bA(H:Hp)(h:NX)(a:NQ):HO->Prop
 |.lst xs=>xs.length<=NY/\∃(its:aE)(n:Nat),Vals xs its/\h.get? a=some {cls:=.type "list",data:=.seq its.toArray n}
 |.tup xs=>xs.length<=NY/\∃its:aE,Vals xs its/\NZ h a its.toArray
 |.dK kvs=>kvs.length<=NY/\(a==sysModules)=false/\∃vs,KV kvs vs/\h.DictOf (aN P w) a vs
 |.dT kvs=>kvs.length<=NY/\(a==sysModules)=false/\∃xs:List (List Key×NQ×NN),
   NW (λ(p:List Key×V)(q:List Key×NQ×NN)=>p.1=q.1/\H q.2.1=some (.tup (p.1.map kV))/\RelV p.2 q.2.2) kvs xs/\
   ∃o es ep,h.get? a=some o/\o.ExactDict/\o.data=.dict es ep/\es.toList=xs.map (entryOfKey (tupleKind (aN P w)))/\(xs.map (·.1)).Nodup
 |.set S n=>h.SetOf (intKind P w) a S n
 |.ins C dx fs=>H dx=some (.own a)/\fs.length<=1000/\dx≠a/\h.get? a=some (PySem.W.instObj C dx)/\
   ∃mA,h.Ns1 dx mA/\(∀f,qe (fs.lookup f) (mA f))/\PySem.Within mA (fs.map (·.1))
 |.own _=>∃o,h.get? a=some o
 |.xd fs=>∃mA,h.Ns1 a mA/\∀f,qe (fs.lookup f) (mA f)
 |.rng lo hi=>∃t u v,h.get? a=some {cls:=.type "range",data:=.fields #[.int lo t,.int hi u,.int 1 v]}
 |.frz o u=>h.get? a=some o/\bA H h a u
 |.tbl ps=>h.get? a=some {cls:=.none,data:=.fields ps}
 |.met f x=>h.get? a=some (MS (.ref f) (.ref x))
 |.ext φ=>φ (λb=>H b=some (.own a)) h/\(∃o,h.get? a=some o)/\∀(S1 S2:NQ->Prop)(h1 h2:NX),φ S1 h1->(∀b,S1 b->S2 b)->(∀b o,(b=a\/S1 b)->h1.get? b=some o->h2.get? b=some o)->φ S2 h2
noncomputable def jS(H:Hp)(h:NX):Prop:=∀a o,H a=some o->bA P w H h a o
end
section
variable{P:NV}{w:NU}{H H':Hp}{h h':NX}{a:NQ}{o:HO}
theorem bA.lt(x:bA P w H h a o):a<h.objs.size:=by
 cases o with
 |lst xs=>obtain⟨_,_,_,_,e⟩:=x;exact M8 e
 |tup xs=>obtain⟨_,_,_,p⟩:=x;exact p.lt
 |dK kvs=>obtain⟨_,_,_,_,o,_,_,e,_⟩:=x;exact M8 e
 |dT kvs=>obtain⟨_,_,_,_,o,_,_,e,_⟩:=x;exact M8 e
 |set S n=>obtain⟨o,_,_,_,e,_⟩:=x;exact M8 e
 |ins C dx fs=>obtain⟨_,_,_,e,_⟩:=x;exact M8 e
 |own y=>obtain⟨_,e⟩:=x;exact M8 e
 |xd fs=>obtain⟨_,⟨_,_,_,e,_⟩,_⟩:=x;exact M8 e
 |rng lo hi=>obtain⟨_,_,_,e⟩:=x;exact M8 e
 |frz ob u=>obtain⟨e,_⟩:=x;exact M8 e
 |tbl ps=>exact M8 (show h.get? a=some _ from x)
 |met f y=>exact M8 (show h.get? a=some _ from x)
 |ext φ=>obtain⟨_,⟨_,e⟩,_⟩:=x;exact M8 e
theorem Paired.mapP{α β:Type}{F G:α->β->Prop}{l₁:List α}{l₂:List β}(h:NW F l₁ l₂)(f:∀a b,F a b->G a b):NW G l₁ l₂:=by
 induction h with
 |nil=>exact .nil
 |cons r _ ih=>exact .cons (f _ _ r) ih
theorem bA.stay(x:bA P w H h a o)(k:∀b u,(b=a\/H b=some (.own a))->h.get? b=some u->h'.get? b=some u)
  (ho:∀b,H b=some (.own a)->H' b=some (.own a)) (ht:∀b xs,H b=some (.tup xs)->H' b=some (.tup xs)):bA P w H' h' a o:=by
 induction o with
 |lst xs=>obtain⟨z,its,n,r,e⟩:=x;exact⟨z,its,n,r,k _ _ (.inl rfl) e⟩
 |tup xs=>obtain⟨z,its,r,ob,e,c⟩:=x;exact⟨z,its,r,ob,k _ _ (.inl rfl) e,c⟩
 |dK kvs=>obtain⟨z,y,vs,r,ob,es,ep,e,c⟩:=x;exact⟨z,y,vs,r,ob,es,ep,k _ _ (.inl rfl) e,c⟩
 |dT kvs=>
  obtain⟨z,y,xs,r,ob,es,ep,e,c⟩:=x;exact⟨z,y,xs,Paired.mapP r λp q z=>⟨z.1,ht _ _ z.2.1,z.2.2⟩,ob,es,ep,k _ _ (.inl rfl) e,c⟩
 |set S n=>obtain⟨ob,es,ep,t,e,c⟩:=x;exact⟨ob,es,ep,t,k _ _ (.inl rfl) e,c⟩
 |ins C dx fs=>
  obtain⟨d,z,ne,e,mA,⟨od,es,ep,e2,c⟩,r⟩:=x;exact⟨ho _ d,z,ne,k _ _ (.inl rfl) e,mA,⟨od,es,ep,k _ _ (.inr d) e2,c⟩,r⟩
 |own y=>obtain⟨ob,e⟩:=x;exact⟨ob,k _ _ (.inl rfl) e⟩
 |xd fs=>obtain⟨mA,⟨od,es,ep,e,c⟩,r⟩:=x;exact⟨mA,⟨od,es,ep,k _ _ (.inl rfl) e,c⟩,r⟩
 |rng lo hi=>obtain⟨t,u,v,e⟩:=x;exact⟨t,u,v,k _ _ (.inl rfl) e⟩
 |frz ob u ih=>obtain⟨e,q⟩:=x;exact⟨k _ _ (.inl rfl) e,ih q⟩
 |tbl ps=>
  have e:h.get? a=some {cls:=.none,data:=.fields ps}:=x;show h'.get? a=some {cls:=.none,data:=.fields ps};exact k a _ (.inl rfl) e
 |met f y=>
  have e:h.get? a=some (MS (.ref f) (.ref y)):=x;show h'.get? a=some (MS (.ref f) (.ref y));exact k a _ (.inl rfl) e
 |ext φ=>obtain⟨p,⟨o,e⟩,st⟩:=x;exact⟨st _ _ _ _ p ho k,⟨o,k _ _ (.inl rfl) e⟩,st⟩
theorem jS.lt(x:jS P w H h)(e:H a=some o):a<h.objs.size:=(x a o e).lt
theorem jS.fresh(x:jS P w H h)(e:h.objs.size<=a):H a=none:=by
 cases q:H a with
 |none=>rfl
 |some u=>exact absurd (JV (x.lt q) e) (JW _)
theorem jS.kept(x:jS P w H h)(k:∀b u,h.get? b=some u->h'.get? b=some u):jS P w H h':=λa o e=>
 (x a o e).stay (λb u _ q=>k b u q) (λ_ q=>q) λ_ _ q=>q
theorem jS.laid(x:jS P w H h)(k:∀b u,h.get? b=some u->h'.get? b=some u)(hp:h.objs.size<=a)(new:bA P w (upd H a o) h' a o):jS P w (upd H a o) h':=λb u e=>by
 have hn:=x.fresh hp;by_cases hb:b=a
 ·subst hb;rw[aq]at e;cases e;exact new
 ·rw[ao hb]at e;exact(x b u e).stay (λc v _ q=>k c v q) (λc q=>by rw[ao (aI q hn)];exact q) λc xs q=>by rw[ao (aI q hn)];exact q
end
noncomputable def Rd(H:Hp)(a:NQ)(u:HO):Prop:=H a=some u\/∃o,H a=some (.frz o u)
theorem Rd.ok{P:NV}{w:NU}{H:Hp}{h:NX}{a:NQ}{u:HO}(r:Rd H a u)(x:jS P w H h):bA P w H h a u:=by
 rcases r with r|⟨o,r⟩
 ·exact x a u r
 ·obtain⟨_,q⟩:=x a _ r;exact q
noncomputable def Hj:Option HO->Prop
 |some (.lst _)=>True
 |some (.dK _)=>True
 |some (.dT _)=>True
 |some (.set _ _)=>True
 |some (.ins _ _ _)=>True
 |some (.ext _)=>True
 |_=>False
section
variable{P:NV}{w:NU}{H:Hp}{h h':NX}{x e:NQ}{o':HO}
theorem jS.write(ok:jS P w H h)(mu:Hj (H x))(he:e=x\/H e=some (.own x))(k:∀b u,b≠e->h.get? b=some u->h'.get? b=some u)(heo:∃u,h'.get? e=some u)
  (new:bA P w (upd H x o') h' x o'):jS P w (upd H x o') h':=λb u q=>by
 have nown:∀c y,H c=some (.own y)->c≠x:=λc y r z=>by subst z;rw[r]at mu;exact mu
 have ntup:∀c xs,H c=some (.tup xs)->c≠x:=λc xs r z=>by subst z;rw[r]at mu;exact mu
 by_cases hb:b=x
 ·subst hb;rw[aq]at q;cases q;exact new
 ·rw[ao hb]at q;by_cases hbe:b=e
  ·have q':H b=some (.own x):=by
    rcases he with z|z
    ·exact absurd (hbe.trans z) hb
    ·rw[hbe];exact z
   rw[q]at q';cases q';obtain⟨v,hv⟩:=heo;exact⟨v,by rw[hbe];exact hv⟩
  ·refine(ok b u q).stay (λc v hc r=>k c v ?_ r) (λc r=>by rw[ao (nown c b r)];exact r) λc xs r=>by rw[ao (ntup c xs r)];exact r
   rcases hc with rfl|hc
   ·exact hbe
   ·rintro rfl;rcases he with z|z
    ·exact nown c b hc z
    ·rw[hc]at z;cases z;exact hb rfl
end
structure Un(fs ex:ak)(H H':Hp)(h h':NX):Prop where
 keep:∀b o,h.get? b=some o->H b=none->b∉fs->b∉ex->h'.get? b=some o
 slot:∀b o,h.get? b=some o->H b=none->b∈fs->b∉ex->∃sl,h'.get? b=some {o with slots:=sl}
 free:∀b o,h.get? b=some o->H b=none->b∉ex->H' b=none
 there:∀b o,h.get? b=some o->b∉ex->∃o',h'.get? b=some o'
 tups:∀b xs,H b=some (.tup xs)->H' b=some (.tup xs)
 frzs:∀b o u,H b=some (.frz o u)->H' b=some (.frz o u)
 tbls:∀b ps,H b=some (.tbl ps)->∃more,H' b=some (.tbl (ps++more))
section
variable{fs fs' ex ex':ak}{H H1 H2:Hp}{h h1 h2 h':NX}{a x e:NQ}{o:HO}
theorem Un.any(u:Un fs ex H H1 h h1){b:NQ}{ob:Obj}(q:h.get? b=some ob)(n:H b=none)(hx:b∉ex):∃sl,h1.get? b=some {ob with slots:=sl}:=by
 by_cases hb:b∈fs
 ·exact u.slot b ob q n hb hx
 ·exact⟨ob.slots,u.keep b ob q n hb hx⟩
theorem Un.kept(k:∀b u,h.get? b=some u->h'.get? b=some u):Un fs ex H H h h':=
 ⟨λb ob q _ _ _=>k b ob q,λb ob q _ _ _=>⟨ob.slots,k b ob q⟩,λ_ _ _ n _=>n,λb ob q _=>⟨ob,k b ob q⟩,λ_ _ q=>q,λ_ _ _ q=>q,λ_ ps q=>⟨#[],by rw[q];simp⟩⟩
theorem Un.refl:Un fs ex H H h h:=Un.kept λ_ _ q=>q
theorem Un.laid(k:∀b u,h.get? b=some u->h'.get? b=some u)(hp:h.objs.size<=a)(hn:H a=none):Un fs ex H (upd H a o) h h' where
 keep:=λb u q _ _ _=>k b u q
 slot:=λb u q _ _ _=>⟨u.slots,k b u q⟩
 free:=λb u q n _=>by rw[ao (JX (JV (M8 q) hp))];exact n
 there:=λb u q _=>⟨u,k b u q⟩
 tups:=λb xs q=>by rw[ao (aI q hn)];exact q
 frzs:=λb u xs q=>by rw[ao (aI q hn)];exact q
 tbls:=λb ps q=>⟨#[],by rw[ao (aI q hn),q];simp⟩
theorem Un.write(mu:Hj (H x))(he:e=x\/H e=some (.own x))(k:∀b u,b≠e->h.get? b=some u->h'.get? b=some u)(heo:∃u,h'.get? e=some u):Un fs ex H (upd H x o) h h':=by
 have hx:∀b,H b=none->b≠x:=λb n z=>by subst z;rw[n]at mu;exact mu
 have hb:∀b,H b=none->b≠e:=λb n z=>by
  subst z;rcases he with r|r
  ·exact hx b n r
  ·rw[n]at r;cases r
 have hm:∀b u,H b=some u->¬Hj (some u)->b≠x:=λb u q nm z=>by subst z;rw[q]at mu;exact nm mu
 refine⟨λb u q n _ _=>k b u (hb b n) q,λb u q n _ _=>⟨u.slots,k b u (hb b n) q⟩,λb u q n _=>by rw[ao (hx b n)];exact n,λb u q _=>?_,
  λb xs q=>by rw[ao (hm b _ q λz=>z)];exact q,λb u xs q=>by rw[ao (hm b _ q λz=>z)];exact q,λb ps q=>⟨#[],by rw[ao (hm b _ q λz=>z),q];simp⟩⟩
 by_cases hbe:b=e
 ·subst hbe;exact heo
 ·exact⟨u,k b u hbe q⟩
end
noncomputable def Hr(h:NX)(H:Hp):ak:=(List.range h.objs.size).filter λa=>(H a).isSome
noncomputable def qo(h:NX)(H:Hp):NX:=PySem.W.hideAll h (Hr h H)
theorem wg(h:NX)(H:Hp):(qo h H).objs.size=h.objs.size:=PySem.W.hideAll_size _ _
theorem nu{h:NX}{H:Hp}{b:NQ}{o:Obj}(e:h.get? b=some o)(n:H b=none):(qo h H).get? b=some o:=
 PySem.W.hideAll_get _ e λhm=>by
  have q:(H b).isSome=true:=(List.mem_filter.mp hm).2;rw[n]at q;simp at q
theorem Ck{h:NX}{H:Hp}{b:NQ}{o:Obj}(e:(qo h H).get? b=some o):h.get? b=some o/\H b=none:=by
 have e':h.get? b=some o:=PySem.W.of_hideAll (Hr h H) e;refine⟨e',?_⟩;cases q:H b with
 |none=>rfl
 |some x=>
  have hm:b∈Hr h H:=List.mem_filter.mpr ⟨List.mem_range.mpr (M8 e'),by simp[q]⟩;have z:(qo h H).get? b=none:=PySem.W.hideAll_none (Hr h H) hm;rw[z]at e;cases e
noncomputable def Cy(g h:NX)(L:NQ):aL:=(List.range h.objs.size).filterMap λa=>if a=L\/(g.get? a).isSome=true then none else(h.get? a).map λo=>(a,o)
noncomputable def rest(g h:NX)(L d:NQ):aL:=(Cy g h L).filter λp=>decide (p.1≠d)
structure Mod(K:MT)(mg:bS)(base:NX):Prop where
 kin:K.In base
 glob:base.Ns N1 mg
 blt:∃mb,base.Ns N2 mb/\∀x:Str,x≠"__name__"->mb x=N3 x
 nolimit:base.NoLimit
structure Cx where
 prog:NV
 w:NU
 K:MT
 mg:bS
 base:NX
 A:N4
 N:aH
 s₀:NT
 H₀:Hp
 env:Env
 outer:List Env
 stack:List Env
 ex:ak
 fn:Str->Bool
 calm:Bool
 pn:aL
 xe:az
noncomputable def frs(l:List Env):ak:=l.filterMap (·.frame)
noncomputable abbrev Cx.fs(X:Cx):ak:=frs X.outer
noncomputable def Eo(sc:N5)(x:Str):Prop:=sc.names.lookup x=some .local\/sc.names.lookup x=some .cell\/sc.names.lookup x=some .free
noncomputable def Loc(sc:N5)(x:Str):Prop:=sc.names.lookup x=some .local\/sc.names.lookup x=some .cell
noncomputable def Look(env:Env)(h:NX)(m:bS)(x:Str)(u:NN):Prop:=
 (env.kindOf x=some .local/\m x=some u)\/((env.kindOf x=some .cell\/env.kindOf x=some .free)/\∃c,env.cells.lookup x=some c/\h.IsCell c (some u))
structure Cx.Ok(X:Cx):Prop where
 mod:Mod X.K X.mg X.base
 kind:X.env.scope.kind=.function
 glob:X.env.globals=N1
 blt:X.env.builtins=N2
 above:X.s₀.heap.objs.size<=X.env.locals
 inj:∀x y c,X.env.cells.lookup x=some c->X.env.cells.lookup y=some c->x=y
 has:∀x,(X.env.kindOf x=some .cell\/X.env.kindOf x=some .free)->∃c,X.env.cells.lookup x=some c
 cab:∀x c,X.fn x=true->X.env.cells.lookup x=some c->X.s₀.heap.objs.size<=c
 hd:X.calm=true->X.A.handled=none
 frames:X.A.frames=some X.stack
 stk:X.stack=X.outer\/(X.stack=X.env::X.outer/\X.env.frame=some X.env.locals)
 exf:∀b∈X.ex,b≠X.env.locals/\∀x c,X.env.cells.lookup x=some c->c≠b
 bs:∀b o,X.base.get? b=some o->X.s₀.heap.get? b=some o/\X.H₀ b=none
 bsz:X.base.objs.size<=X.s₀.heap.objs.size
 noex:∀b o,X.base.get? b=some o->b∉X.ex
 exfs:∀b∈X.ex,b∉X.fs
 funs:X.s₀.heap.FunFrames X.base X.outer
 frf:∀b∈X.fs,X.H₀ b=none
structure Inv(X:Cx)(pins:aL)(σ:List (Option V))(H:Hp)(s:NT):Prop where
 ok:X.Ok
 os:s.os=X.s₀.os
 bare:AllBare s.gens
 base:Un X.fs X.ex X.H₀ H X.s₀.heap s.heap
 loc:∃m,s.heap.Ns X.env.locals m/\∀(i:Nat)(x:Str)(v:V),X.N[i]?=some x->σ[i]?=some (some v)->Eo X.env.scope x->∃u,RelV v u/\Look X.env s.heap m x u
 cell:∀x c,X.env.cells.lookup x=some c->∃v,s.heap.IsCell c v
 free:H X.env.locals=none
 freeC:∀x c,X.env.cells.lookup x=some c->H c=none
 pin:∀p∈X.pn++pins,s.heap.get? p.1=some p.2/\H p.1=none/\p.1≠X.env.locals/\p.1∉X.fs/\∀v,p.2.data≠.cell v
 hok:jS X.prog X.w H s.heap
 len:σ.length=X.N.length
section
variable{X:Cx}{pins:aL}{σ:List (Option V)}{H H':Hp}{s:NT}{h':NX}
theorem Cx.Ok.nofr(ok:X.Ok){b:NQ}{o:Obj}(e:X.base.get? b=some o):b∉X.fs:=λhb=>by
 have:=(ok.funs.mem hb).1
 rw[e]at this;cases this
theorem Inv.bs(I:`h):∀b o,X.base.get? b=some o->s.heap.get? b=some o/\H b=none:=λb o e=>
 ⟨I.base.keep b o (I.ok.bs b o e).1 (I.ok.bs b o e).2 (I.ok.nofr e) (I.ok.noex b o e),I.base.free b o (I.ok.bs b o e).1 (I.ok.bs b o e).2 (I.ok.noex b o e)⟩
theorem Inv.bk(I:`h):∀b o,X.base.get? b=some o->s.heap.get? b=some o:=λb o e=>(I.bs b o e).1
theorem Inv.mod(I:`h):Mod X.K X.mg X.base:=I.ok.mod
theorem Inv.kIn(I:`h):X.K.In s.heap:=I.ok.mod.kin.keeps I.bk
theorem Inv.nolimit(I:`h):s.heap.NoLimit:=I.ok.mod.nolimit.keeps I.bk
theorem Inv.lt(I:`h):X.env.locals<s.heap.objs.size:=let ⟨_,hn,_⟩:=I.loc;hn.lt
theorem Inv.sz(I:`h):X.s₀.heap.objs.size<=s.heap.objs.size:=JY I.ok.above (JZ I.lt)
theorem Inv.nofs(I:`h){a:NQ}(h:s.heap.objs.size<=a):a∉X.fs:=λhb=>by
 obtain⟨_,o,ho,_⟩:=I.ok.funs.mem hb;exact absurd (JV (M8 ho) (JY I.sz h)) (JW _)
theorem Inv.cne(I:`h):∀x c,X.env.cells.lookup x=some c->c≠X.env.locals:=λx c e z=>by
 obtain⟨v,o,ho,hd⟩:=I.cell x c e;obtain⟨m,⟨o',es,ep,ho',hd',_⟩,_⟩:=I.loc;rw[z,ho']at ho;cases ho;rw[hd']at hd;cases hd
theorem Inv.funs(I:`h):s.heap.FunFrames X.base X.outer:=by
 have all:∀(l:List Env),(∀b∈frs l,b∈X.fs)->X.s₀.heap.FunFrames X.base l->s.heap.FunFrames X.base l:=by
  intro l
  induction l with
  |nil=>intro _ _;trivial
  |cons env r ih=>
   intro hs hl;obtain⟨hk,⟨L,o,hf,hn,ho,hd⟩,hr⟩:=hl;have hL:L∈X.fs:=hs L (by unfold frs;rw[J1,hf];exact J3);obtain⟨sl,e⟩:=I.base.slot L o ho (I.ok.frf L hL) hL λz=>I.ok.exfs L z hL;exact⟨hk,⟨L,_,hf,hn,e,hd⟩,ih (λb hb=>hs b (by unfold frs;rw[J1,hf];exact J4 _ hb)) hr⟩
 exact all X.outer (λ_ hb=>hb) I.ok.funs
theorem Inv.stack(I:`h):s.heap.FunFrames X.base X.stack:=by
 rcases I.ok.stk with e|⟨e,hf⟩
 ·rw[e];exact I.funs
 ·rw[e];obtain⟨m,hn,_⟩:=I.loc;refine .cons (by rw[I.ok.kind];decide) hf hn ?_ I.funs;exact M9 (JY I.ok.bsz I.ok.above)
theorem Inv.stkSub(I:`h):∀b∈frs X.stack,b∈X.env.locals::X.fs:=λb hb=>by
 rcases I.ok.stk with e|⟨e,hf⟩
 ·rw[e]at hb;exact J4 _ hb
 ·rw[e]at hb;unfold frs at hb;rw[J1,hf]at hb;exact hb
theorem Inv.stkFree(I:`h):∀b∈frs X.stack,H b=none:=λb hb=>by
 rcases List.mem_cons.mp (I.stkSub b hb)with e|hb
 ·rw[e];exact I.free
 ·obtain⟨_,o,ho,_⟩:=I.ok.funs.mem hb;exact I.base.free b o ho (I.ok.frf b hb) λz=>I.ok.exfs b z hb
theorem Inv.step{g':Array GenState}{t':Nat}{d':Drawn}{ch:ak}(I:`h)
  (hch:∀b∈ch,(b∈X.ex\/X.s₀.heap.objs.size<=b)/\b≠X.env.locals/\(∀x c,X.env.cells.lookup x=some c->c≠b)/\∀p∈X.pn++pins,p.1≠b)
  (keep:∀b o,b≠X.env.locals->b∉X.fs->b∉ch->s.heap.get? b=some o->H b=none->h'.get? b=some o)
  (slot:∀b o,b≠X.env.locals->b∈X.fs->b∉ch->s.heap.get? b=some o->H b=none->∃sl,h'.get? b=some {o with slots:=sl}) (free:∀b o,b∉ch->s.heap.get? b=some o->H b=none->H' b=none)
  (there:∀b o,b∉ch->s.heap.get? b=some o->∃o',h'.get? b=some o')
  (tups:∀b xs,H b=some (.tup xs)->H' b=some (.tup xs)) (frzs:∀b o u,H b=some (.frz o u)->H' b=some (.frz o u)) (tbls:∀b ps,H b=some (.tbl ps)->∃more,H' b=some (.tbl (ps++more)))
  (ns:∀m,s.heap.Ns X.env.locals m->h'.Ns X.env.locals m) (hok:jS X.prog X.w H' h') (hg:AllBare g'):
  Inv X pins σ H' {s with heap:=h',gens:=g',drawn:=d',toks:=t'}:=by
 have neL:∀b o,X.s₀.heap.get? b=some o->b≠X.env.locals:=λb o e=>JX (JV (M8 e) I.ok.above);have neC:∀b o,X.s₀.heap.get? b=some o->b∉X.ex->b∉ch:=λb o e hx hb=>by
  rcases(hch b hb).1 with z|z
  ·exact hx z
  ·exact absurd (JV (M8 e) z) (JW _)
 have cellK:∀x c,X.env.cells.lookup x=some c->∀v,s.heap.IsCell c v->h'.IsCell c v:=λx c e v zq=>zq.elim λo zq=>zq.elim λho hd=>by
  have nch:c∉ch:=λz=>(hch c z).2.2.1 x c e rfl;by_cases hc:c∈X.fs
  ·obtain⟨sl,q⟩:=slot c o (I.cne x c e) hc nch ho (I.freeC x c e);exact⟨_,q,hd⟩
  ·exact⟨o,keep c o (I.cne x c e) hc nch ho (I.freeC x c e),hd⟩
 refine⟨I.ok,I.os,hg,⟨λb o e n hb hx=>?_,λb o e n hb hx=>?_,λb o e n hx=>?_,λb o e hx=>?_,λb xs e=>tups b xs (I.base.tups b xs e),λb o xs e=>frzs b o xs (I.base.frzs b o xs e),λb ps e=>?_⟩,?_,λx c e=>?_,?_,λx c e=>?_,λp hp=>?_,hok,I.len⟩
 ·exact keep b o (neL b o e) hb (neC b o e hx) (I.base.keep b o e n hb hx) (I.base.free b o e n hx)
 ·obtain⟨sl,e1⟩:=I.base.slot b o e n hb hx;obtain⟨sl',e2⟩:=slot b _ (neL b o e) hb (neC b o e hx) e1 (I.base.free b o e n hx);exact⟨sl',e2⟩
 ·obtain⟨o',e1⟩:=I.base.there b o e hx;exact free b o' (neC b o e hx) e1 (I.base.free b o e n hx)
 ·obtain⟨o',e1⟩:=I.base.there b o e hx;exact there b o' (neC b o e hx) e1
 ·obtain⟨m1,e1⟩:=I.base.tbls b ps e;obtain⟨m2,e2⟩:=tbls b _ e1;exact⟨m1++m2,by rw[e2,Array.append_assoc]⟩
 ·obtain⟨m,hn,hl⟩:=I.loc;refine⟨m,ns m hn,λi x v e1 e2 e3=>?_⟩;obtain⟨u,r,l⟩:=hl i x v e1 e2 e3;refine⟨u,r,?_⟩;rcases l with l|⟨k,c,e,z⟩
  ·exact .inl l
  ·exact .inr ⟨k,c,e,cellK x c e _ z⟩
 ·obtain⟨v,z⟩:=I.cell x c e;exact⟨v,cellK x c e v z⟩
 ·obtain⟨m,⟨o,_,_,ho,_⟩,_⟩:=I.loc;exact free _ o (λz=>(hch _ z).2.1 rfl) ho I.free
 ·obtain⟨v,o,ho,hd⟩:=I.cell x c e;exact free c o (λz=>(hch c z).2.2.1 x c e rfl) ho (I.freeC x c e)
 ·obtain⟨e,n,ne,nf,d⟩:=I.pin p hp;have nch:p.1∉ch:=λz=>(hch p.1 z).2.2.2 p hp rfl;exact⟨keep p.1 p.2 ne nf nch e n,free p.1 p.2 nch e n,ne,nf,d⟩
theorem Inv.un{t':Nat}(I:`h)(u:Un X.fs [] H H' s.heap h')(hok:jS X.prog X.w H' h'):Inv X pins σ H' {s with heap:=h',toks:=t'}:=by
 obtain⟨m,⟨o,es,ep,ho,r⟩,_⟩:=id I.loc;obtain⟨sl,hL⟩:=u.any ho I.free (by simp);exact I.step (g':=s.gens) (d':=s.drawn) (ch:=[]) (λ_ z=>nomatch z) (λb o _ hb _ e n=>u.keep b o e n hb (by simp)) (λb o _ hb _ e n=>u.slot b o e n hb (by simp)) (λb o _ e n=>u.free b o e n (by simp)) (λb o _ e=>u.there b o e (by simp)) u.tups u.frzs u.tbls (λm' hm=>by
  obtain⟨o',es',ep',ho',r'⟩:=hm;rw[ho]at ho';cases ho';exact⟨_,es',ep',hL,r'⟩) hok I.bare
theorem Inv.call{g':Array GenState}{t':Nat}{d':Drawn}{ch:ak}(I:`h)(u:Un (frs X.stack) ch H H' s.heap h')(hok:jS X.prog X.w H' h')(hg:AllBare g')
  (hch:∀b∈ch,(b∈X.ex\/X.s₀.heap.objs.size<=b)/\b≠X.env.locals/\(∀x c,X.env.cells.lookup x=some c->c≠b)/\∀p∈X.pn++pins,p.1≠b):
  Inv X pins σ H' {s with heap:=h',gens:=g',drawn:=d',toks:=t'}:=by
 obtain⟨m,⟨o,es,ep,ho,r⟩,_⟩:=id I.loc;obtain⟨sl,hL⟩:=u.any ho I.free λz=>(hch _ z).2.1 rfl;exact I.step (ch:=ch) hch (λb o hL hb hc e n=>u.keep b o e n (λz=>(List.mem_cons.mp (I.stkSub b z)).elim hL hb) hc) (λb o _ _ hc e n=>u.any e n hc) (λb o hc e n=>u.free b o e n hc) (λb o hc e=>u.there b o e hc) u.tups u.frzs u.tbls (λm' hm=>by
  obtain⟨o',es',ep',ho',r'⟩:=hm;rw[ho]at ho';cases ho';exact⟨_,es',ep',hL,r'⟩) hok hg
theorem Inv.turned{t':Nat}{it:NQ}(I:`h)(k:∀b o,b≠it->s.heap.get? b=some o->h'.get? b=some o)(hn:H it=none)(hL:it≠X.env.locals)
  (h1:it∈X.ex\/X.s₀.heap.objs.size<=it) (h2:∀x c,X.env.cells.lookup x=some c->c≠it) (h3:∀p∈X.pn++pins,p.1≠it):Inv X pins σ H {s with heap:=h',toks:=t'}:=by
 have nit:∀b u,H b=some u->b≠it:=λb u e z=>by rw[z,hn]at e;cases e
 refine I.step (g':=s.gens) (d':=s.drawn) (ch:=[it]) (λb hb=>?_) (λb o _ _ hc e _=>k b o (λz=>hc (by simp[z])) e) (λb o _ _ hc e _=>⟨o.slots,k b o (λz=>hc (by simp[z])) e⟩) (λ_ _ _ _ n=>n)
  (λb o hc e=>⟨o,k b o (λz=>hc (by simp[z])) e⟩) (λ_ _ e=>e) (λ_ _ _ e=>e) (λb ps e=>⟨#[],by rw[e];simp⟩) (λm hm=>?_) (λb u e=>?_) I.bare
 ·have e:b=it:=by simpa using hb
  subst e;exact⟨h1,hL,h2,h3⟩
 ·obtain⟨o,es,ep,ho,r⟩:=hm;exact⟨o,es,ep,k _ o (Ne.symm hL) ho,r⟩
 ·refine(I.hok b u e).stay (λc v hc q=>k c v ?_ q) (λ_ q=>q) λ_ _ q=>q;rcases hc with z|z
  ·rw[z];exact nit b u e
  ·exact nit c _ z
theorem Inv.tok(I:`h)(t:Nat):Inv X pins σ H {s with toks:=t}:=I.un (h':=s.heap) (t':=t) Un.refl I.hok
theorem Inv.kept{t':Nat}(I:`h)(k:∀b u,s.heap.get? b=some u->h'.get? b=some u):Inv X pins σ H {s with heap:=h',toks:=t'}:=I.un (Un.kept k) (I.hok.kept k)
theorem Inv.laid{a:NQ}{o:HO}{t':Nat}(I:`h)(k:∀b u,s.heap.get? b=some u->h'.get? b=some u)(hp:s.heap.objs.size<=a)(new:bA X.prog X.w (upd H a o) h' a o):
  Inv X pins σ (upd H a o) {s with heap:=h',toks:=t'}:=I.un (Un.laid k hp (I.hok.fresh hp)) (I.hok.laid k hp new)
theorem Inv.write{x e:NQ}{o:HO}{t':Nat}(I:`h)(mu:Hj (H x))(he:e=x\/H e=some (.own x))(k:∀b u,b≠e->s.heap.get? b=some u->h'.get? b=some u)(heo:∃u,h'.get? e=some u)
  (new:bA X.prog X.w (upd H x o) h' x o):Inv X pins σ (upd H x o) {s with heap:=h',toks:=t'}:=I.un (Un.write mu he k heo) (I.hok.write mu he k heo new)
theorem Inv.pins_of{pins':aL}(I:`h)(h:∀p∈pins',s.heap.get? p.1=some p.2/\H p.1=none/\p.1≠X.env.locals/\p.1∉X.fs/\∀v,p.2.data≠.cell v):Inv X pins' σ H s:=
 ⟨I.ok,I.os,I.bare,I.base,I.loc,I.cell,I.free,I.freeC,λp hp=>(List.mem_append.mp hp).elim (λz=>I.pin p (J5 _ z)) (h p),I.hok,I.len⟩
theorem ra{N:aH}(hN:N.Nodup){i j:Nat}{x:Str}(a:N[i]?=some x)(b:N[j]?=some x):i=j:=by
 obtain⟨h1,e1⟩:=List.getElem?_eq_some_iff.mp a;obtain⟨h2,e2⟩:=List.getElem?_eq_some_iff.mp b;exact(List.getElem_inj hN).mp (e1.trans e2.symm)
theorem pp{M:N6}{A:N4}{E:az}{i:Nat}{x:Str}{v:V}{u:NN}{Q:Unit->bn}(I:`h)(hN:X.N.Nodup)(hi:X.N[i]?=some x)(hx:Loc X.env.scope x)(r:RelV v u)
  (h:∀s',Inv X pins (σ.set i (some v)) H s'->(∃a,Nc a s.heap s'.heap/\(a=X.env.locals\/X.env.cells.lookup x=some a))->Q () s') (hf:X.fn x=true\/X.env.scope.names.lookup x=some .local:=by first|exact .inl rfl|exact .inr rfl|assumption):N7 M A (storeName X.env x u) Q E s:=by
 obtain⟨m,hn,hl⟩:=id I.loc;have hcls:(X.env.scope.kind==.class||(X.env.scope.kind==.module&&X.env.locals !=X.env.globals))=false:=by rw[I.ok.kind];rfl
 have hiσ:i<σ.length:=by rw[I.len];exact(List.getElem?_eq_some_iff.mp hi).1
 have cne:=I.cne;have tracked:∀{a:NQ}{h':NX},(∃o,s.heap.get? a=some o/\H a=none)->Nc a s.heap h'->jS X.prog X.w H h':=λ{a h'} ha hs b ob e=>by
  obtain⟨_,_,hfree⟩:=ha;refine(I.hok b ob e).stay (λc w' hc q=>(hs.2 c ?_).trans q) (λ_ q=>q) λ_ _ q=>q;rintro rfl;rcases hc with rfl|hc
  ·rw[hfree]at e;cases e
  ·rw[hfree]at hc;cases hc
 rcases hx with hk|hk
 ·refine wpAny_storeName_local hk hn (λh' hn' hs=>?_) hcls;obtain⟨oL,_,_,hoL,_⟩:=id hn;refine h _ ⟨I.ok,I.os,I.bare,⟨λb o e n hb hx=>?_,λb o e n hb hx=>?_,I.base.free,λb o e hx=>?_,I.base.tups,I.base.frzs,I.base.tbls⟩,⟨_,hn',λj y v' e1 e2 e3=>?_⟩,λy c e=>?_,I.free,I.freeC,λp hp=>?_,tracked ⟨oL,hoL,I.free⟩ hs,by simpa using I.len⟩ ⟨_,hs,.inl rfl⟩
  ·exact(hs.2 b (JX (JV (M8 e) I.ok.above))).trans (I.base.keep b o e n hb hx)
  ·obtain⟨sl,e1⟩:=I.base.slot b o e n hb hx;exact⟨sl,(hs.2 b (JX (JV (M8 e) I.ok.above))).trans e1⟩
  ·obtain⟨o',e1⟩:=I.base.there b o e hx;exact⟨o',(hs.2 b (JX (JV (M8 e) I.ok.above))).trans e1⟩
  ·by_cases hj:j=i
   ·subst hj;rw[hi]at e1;cases e1;rw[J6 hiσ]at e2;cases e2;exact⟨u,r,.inl ⟨hk,by simp⟩⟩
   ·rw[J7 (Ne.symm hj)]at e2;obtain⟨u',r',q⟩:=hl j y v' e1 e2 e3;refine⟨u',r',?_⟩;rcases q with⟨k,e⟩|⟨k,c,e,z⟩
    ·refine .inl ⟨k,?_⟩
     have:y≠x:=λe=>hj (ra hN e1 (e ▸ hi))
     simp[this,e]
    ·exact .inr ⟨k,c,e,z.sameBut hs (cne y c e)⟩
  ·obtain⟨w',z⟩:=I.cell y c e;exact⟨w',z.sameBut hs (cne y c e)⟩
  ·obtain⟨e,n,ne,nf,d⟩:=I.pin p hp;exact⟨(hs.2 p.1 ne).trans e,n,ne,nf,d⟩
 ·have hfn:X.fn x=true:=by
   rcases hf with z|z
   ·exact z
   ·rw[z]at hk;cases hk
  obtain⟨c,hc⟩:=I.ok.has x (.inl hk);obtain⟨w',z⟩:=I.cell x c hc;refine wpAny_storeName_cell I.ok.kind hk hc z (λh' hc' hs=>?_);obtain⟨oc,hoc,hocd⟩:=id z;refine h {s with heap:=h'} ⟨I.ok,I.os,I.bare,⟨λb o e n hb hx=>?_,λb o e n hb hx=>?_,I.base.free,λb o e hx=>?_,I.base.tups,I.base.frzs,I.base.tbls⟩,⟨m,hn.sameBut hs (Ne.symm (cne x c hc)),λj y v' e1 e2 e3=>?_⟩,λy c' e=>?_,I.free,I.freeC,λp hp=>?_,tracked ⟨oc,hoc,I.freeC x c hc⟩ hs,by simpa using I.len⟩ ⟨c,hs,.inr hc⟩
  ·exact(hs.2 b (JX (JV (M8 e) (I.ok.cab x c hfn hc)))).trans (I.base.keep b o e n hb hx)
  ·obtain⟨sl,e1⟩:=I.base.slot b o e n hb hx;exact⟨sl,(hs.2 b (JX (JV (M8 e) (I.ok.cab x c hfn hc)))).trans e1⟩
  ·obtain⟨o',e1⟩:=I.base.there b o e hx;exact⟨o',(hs.2 b (JX (JV (M8 e) (I.ok.cab x c hfn hc)))).trans e1⟩
  ·by_cases hj:j=i
   ·subst hj;rw[hi]at e1;cases e1;rw[J6 hiσ]at e2;cases e2;exact⟨u,r,.inr ⟨.inl hk,c,hc,hc'⟩⟩
   ·rw[J7 (Ne.symm hj)]at e2;obtain⟨u',r',q⟩:=hl j y v' e1 e2 e3;refine⟨u',r',?_⟩;rcases q with q|⟨k,c',e,z'⟩
    ·exact .inl q
    ·refine .inr ⟨k,c',e,z'.sameBut hs ?_⟩;rintro rfl;exact hj (ra hN e1 (I.ok.inj _ _ _ e hc ▸ hi))
  ·by_cases hcc:c'=c
   ·subst hcc;exact⟨_,hc'⟩
   ·obtain⟨w2,z2⟩:=I.cell y c' e;exact⟨w2,z2.sameBut hs hcc⟩
  ·obtain⟨e,n,ne,nf,d⟩:=I.pin p hp;refine⟨(hs.2 p.1 ?_).trans e,n,ne,nf,d⟩;intro q;rw[q,hoc]at e;have q':oc=p.2:=Option.some.inj e;exact d w' (by rw[<-q'];exact hocd)
theorem qR{M:N6}{A:N4}{E:az}{i:Nat}{x:Str}{v:V}{u:NN}{Q:Unit->bn}(I:`h)(hN:X.N.Nodup)(hi:X.N[i]?=some x)(hx:Loc X.env.scope x)(r:RelV v u)
  (h:∀s',Inv X pins (σ.set i (some v)) H s'->Q () s') (hf:X.fn x=true\/X.env.scope.names.lookup x=some .local:=by first|exact .inl rfl|exact .inr rfl|assumption):N7 M A (storeName X.env x u) Q E s:=
 pp I hN hi hx r (λs' I' _=>h s' I') hf
theorem Inv.call'{s':NT}{ch:ak}(I:`h)(ho:s'.os=s.os)(u:Un (frs X.stack) ch H H' s.heap s'.heap)(hok:jS X.prog X.w H' s'.heap)(hg:AllBare s'.gens)
  (hch:∀b∈ch,(b∈X.ex\/X.s₀.heap.objs.size<=b)/\b≠X.env.locals/\(∀x c,X.env.cells.lookup x=some c->c≠b)/\∀p∈X.pn++pins,p.1≠b):Inv X pins σ H' s':=by
 obtain⟨h',g',d',t',o'⟩:=s';have e:o'=s.os:=ho;subst e;exact I.call (g':=g') (t':=t') (d':=d') u hok hg hch
end
noncomputable abbrev XK:=NN->Option NQ->Hp->Prop
noncomputable abbrev St:=List (Option V)
noncomputable abbrev VK:=V->Hp->Prop
noncomputable abbrev TE:=St->Hp->VK->Prop
noncomputable abbrev TT:=St->Hp->(Bool->Hp->Prop)->Prop
noncomputable abbrev TA:=St->Hp->(aG->Hp->Prop)->Prop
structure Ends where
 nx:St->Hp->Prop
 rt:VK
 bk:St->Hp->Prop:=λ_ _=>False
 ct:St->Hp->Prop:=λ_ _=>False
noncomputable abbrev TS:=Ends->St->Hp->Prop
noncomputable def EP(X:Cx)(pins:aL)(σ:St)(Q:VK)(u:NN)(s':NT):Prop:=∃v H',Inv X pins σ H' s'/\RelV v u/\Q v H'
noncomputable def TP(X:Cx)(pins:aL)(σ:St)(Q:Bool->Hp->Prop)(b:Bool)(s':NT):Prop:=∃H',Inv X pins σ H' s'/\Q b H'
noncomputable def AP(X:Cx)(pins:aL)(σ:St)(Q:aG->Hp->Prop)(us:aE)(s':NT):Prop:=∃vs H',Inv X pins σ H' s'/\Vals vs us/\Q vs H'
noncomputable def SP(X:Cx)(pins:aL)(D:Ends)(f:Flow)(s':NT):Prop:=
 match f with
 |.next=>∃σ' H',Inv X pins σ' H' s'/\D.nx σ' H'
 |.brk=>∃σ' H',Inv X pins σ' H' s'/\D.bk σ' H'
 |.cont=>∃σ' H',Inv X pins σ' H' s'/\D.ct σ' H'
 |.ret u=>∃v σ' H',Inv X pins σ' H' s'/\RelV v u/\D.rt v H'
noncomputable def PE(X:Cx)(e:NR)(t:TE):Prop:=
 ∀(pins:aL)(s:NT)(σ:St)(H:Hp)(Q:VK),Inv X pins σ H s->t σ H Q->N7 `i X.A (eval e X.env) (EP X pins σ Q) X.xe s
noncomputable def PT(X:Cx)(e:NR)(t:TT):Prop:=
 ∀(pins:aL)(s:NT)(σ:St)(H:Hp)(Q:Bool->Hp->Prop),Inv X pins σ H s->t σ H Q->N7 `i X.A (isTrue e X.env (eval e X.env)) (TP X pins σ Q) X.xe s
noncomputable def PW(X:Cx)(e:NR)(t:TT):Prop:=
 ∀(whole:Sem NN)(pins:aL)(s:NT)(σ:St)(H:Hp)(Q:Bool->Hp->Prop),Inv X pins σ H s->t σ H Q->N7 `i X.A (isTrue e X.env whole) (TP X pins σ Q) X.xe s
theorem PW.pt{X:Cx}{e:NR}{t:TT}(h:PW X e t):PT X e t:=h _
noncomputable def PA(X:Cx)(es:bj)(t:TA):Prop:=
 ∀(pos:Pos)(pins:aL)(s:NT)(σ:St)(H:Hp)(Q:aG->Hp->Prop),Inv X pins σ H s->t σ H Q->N7 `i X.A (spliced (backTo pos (N8 es X.env))) (AP X pins σ Q) X.xe s
noncomputable def PS(X:Cx)(st:NS)(t:TS):Prop:=
 ∀(pins:aL)(s:NT)(σ:St)(H:Hp)(D:Ends),Inv X pins σ H s->t D σ H->N7 `i X.A (exec st X.env) (SP X pins D) X.xe s
noncomputable def uf(X:Cx)(st:cH)(t:TS):Prop:=
 ∀(pins:aL)(s:NT)(σ:St)(H:Hp)(D:Ends),Inv X pins σ H s->t D σ H->N7 `i X.A (execs st X.env) (SP X pins D) X.xe s
theorem cD{α:Type}{t:Sem α}{Q Q':α->bn}{M:N6}{A:N4}{E:az}{s:NT}(h:N7 M A t Q E s)(hQ:∀a s,Q a s->Q' a s):N7 M A t Q' E s:=N9 h hQ λ_ _ x=>x
section
variable{X:Cx}
noncomputable def EL(i:Nat):TE:=λσ H Q=>∃v,σ[i]?=some (some v)/\Q v H
noncomputable def tC(v:V):TE:=λ_ H Q=>Q v H
theorem Eg{i:Nat}{x:Str}{pos:Pos}(hN:X.N[i]?=some x)(hv:Eo X.env.scope x)(hd:(x==("__debug__":Str))=false:=by decide)(hcd:(x==("__classdict__":Str))=false:=by decide):PE X (.Name x pos) (EL i):=by
 intro pins s σ H Q I h;obtain⟨v,e,h⟩:=h;obtain⟨m,hn,hl⟩:=I.loc;obtain⟨u,r,l⟩:=hl i x v hN e hv;have fin:EP X pins σ Q u s:=⟨v,H,I,r,h⟩
 rcases l with⟨hk,hm⟩|⟨hk,c,hc,hcell⟩
 ·exact Oa (wpAny_loadName_local I.ok.kind hk hn hm fin) hd
 ·rcases hk with hk|hk
  ·exact Oa (wpAny_loadName_cell I.ok.kind hk hc hcell fin) hd
  ·exact Oa (wpAny_loadName_free I.ok.kind hk hc hcell fin hcd) hd
theorem DM{i j pos}:PE X (.Constant (.int i) j pos) (tC (.int i)):=λ_ _ _ H _ I h=>wpAny_Constant_int ⟨.int i,H,I.tok _,⟨_,rfl⟩,h⟩
theorem GR{b j pos}:PE X (.Constant (.bool b) j pos) (tC (.bl b)):=λ_ _ _ H _ I h=>Constant_bool ⟨.bl b,H,I,rfl,h⟩
theorem E6{j pos}:PE X (.Constant .none j pos) (tC .non):=λ_ _ _ H _ I h=>Constant_none ⟨.non,H,I,rfl,h⟩
theorem Fy{x j pos}:PE X (.Constant (.str x) j pos) (tC (.str x)):=λ_ _ _ H _ I h=>Calls.Constant_str ⟨.str x,H,I.tok _,⟨_,rfl⟩,h⟩
noncomputable def Gl(X:Cx)(x:Str):Prop:=X.env.kindOf x=some .globalImplicit
theorem AH{E:az}{pins:aL}{s:NT}{σ:St}{H:Hp}{x:Str}{u:NN}{pos:Pos}{Q:az}(I:`h)(hg:Gl X x)(hm:X.mg x=some u)(h:Q u s)
  (hd:(x==("__debug__":Str))=false:=by decide):N7 `i X.A (eval (.Name x pos) X.env) Q E s:=
 Calls.Name_function_global I.ok.kind hg (Calls.loadGlobal_global (by rw[I.ok.glob];exact I.mod.glob.keeps I.bk) hm h) hd
theorem kq{E:az}{pins:aL}{s:NT}{σ:St}{H:Hp}{x:Str}{u:NN}{pos:Pos}{Q:az}(I:`h)(hg:Gl X x)(hm:X.mg x=none)(hv:N3 x=some u)(h:Q u s)
  (hn:x≠"__name__":=by decide) (hd:(x==("__debug__":Str))=false:=by decide):N7 `i X.A (eval (.Name x pos) X.env) Q E s:=by
 obtain⟨mb,h1,h2⟩:=I.mod.blt;exact Calls.Name_function_global I.ok.kind hg (Calls.loadGlobal_builtin (by rw[I.ok.glob];exact I.mod.glob.keeps I.bk) hm (by rw[I.ok.blt];exact h1.keeps I.bk) ((h2 x hn).trans hv) h) hd
variable{a b:NR}{ta tb:TE}{pos:Pos}
noncomputable def PC(X:Cx)(op:Oc)(a b:NR)(t:TE):Prop:=
 ∀(pins:aL)(s:NT)(σ:St)(H:Hp)(Q:VK),Inv X pins σ H s->t σ H Q->
  N7 `i X.A (eval a X.env) (λv s₁=>N7 `i X.A (eval b X.env) (λu s₂=>N7 `i X.A (Od op v u) (EP X pins σ Q) X.xe s₂) X.xe s₁) X.xe s
theorem rJ(b:NR){op:Oc}(h:op≠.In)(h2:op≠.NotIn):Oe op b=false:=by
 have e1:(op==CmpOp.In)=false:=by cases op<;>first|rfl|exact absurd rfl h
 have e2:(op==CmpOp.NotIn)=false:=by cases op<;>first|rfl|exact absurd rfl h2
 cases b<;>simp[Oe,e1,e2]
noncomputable def He(ta:TE):TE:=λσ H Q=>ta σ H λx H1=>Q (.bl (!decide (x=.non))) H1
theorem RelV.none_iff{x:V}{v:NN}(r:RelV x v):(v==Value.none)=decide (x=.non):=by
 cases x with
 |non=>cases r;rfl
 |bl _=>cases r;rfl
 |int _=>obtain⟨t,rfl⟩:=r;rfl
 |str _=>obtain⟨t,rfl⟩:=r;rfl
 |byt _=>obtain⟨t,rfl⟩:=r;rfl
 |flt _=>obtain⟨t,rfl⟩:=r;rfl
 |ref _=>cases r;rfl
 |ty _=>cases r;rfl
theorem vM{j pos'}(ha:PE X a ta):PC X .IsNot a (.Constant .none j pos') (He ta):=by
 intro pins s σ H Q I h;refine cD (ha pins s σ H _ I h) λv s1 zq=>zq.elim λx zq=>zq.elim λH1 zq=>zq.elim λI1 zq=>zq.elim λr1 q1=>?_;exact Constant_none (isnot_none_gen ⟨.bl _,H1,I1,by rw[r1.none_iff];rfl,q1⟩)
noncomputable def tB(t:TE):TT:=λσ H Q=>t σ H λx H1=>∃c,x=.bl c/\Q c H1
theorem DX{op:Oc}{t:TE}(h:PC X op a b t)(h1:Oe op b=false:=by first|exact rJ _ (by decide) (by decide)|rfl):PE X (.Compare a [op] [b] pos) t:=λpins s σ H Q I hw=>wpAny_Compare1 (h pins s σ H Q I hw) h1
theorem Ep{op:Oc}{t:TE}(h:PC X op a b t)(h1:Oe op b=false:=by first|exact rJ _ (by decide) (by decide)|rfl):PT X (.Compare a [op] [b] pos) (tB t):=by
 intro pins s σ H Q I hw;refine wpAny_isTrue_Compare1 (cD (h pins s σ H _ I hw) λv s1 h1=>cD h1 λu s2 h2=>cD h2 λc s3 zq=>zq.elim λx zq=>zq.elim λH1 zq=>zq.elim λI1 zq=>zq.elim λr1 q1=>?_) h1;obtain⟨d,rfl,q⟩:=q1;cases r1;exact wpAny_truthy_bool ⟨H1,I1,q⟩
variable{tA tB':TT}{rest:bj}
noncomputable def JO(t u:TT):TT:=λσ H Q=>t σ H λc H1=>if c=true then Q true H1 else u σ H1 Q
theorem FD(ha:PT X a tA):PW X (.BoolOp .Or [a] pos) tA:=by
 intro wh pins s σ H Q I h;refine isTrue_or (cD (ha pins s σ H Q I h) λc s1 e=>?_);cases c with
 |false=>exact isTrue_or_nil e
 |true=>exact e
theorem GY(ha:PT X a tA)(hb:PW X (.BoolOp .Or (b::rest) pos) tB'):PW X (.BoolOp .Or (a::b::rest) pos) (JO tA tB'):=by
 intro wh pins s σ H Q I h;refine isTrue_or (cD (ha pins s σ H _ I h) λc s1 zq=>zq.elim λH1 zq=>zq.elim λI1 q1=>?_);cases c with
 |true=>exact⟨H1,I1,q1⟩
 |false=>exact hb wh pins s1 σ H1 Q I1 q1
end
noncomputable def lu(K:MT)(H:Hp)(a:NQ)(xs:aG):Prop:=
 Rd H a (.lst xs) \/
  ∃(o:Obj)(its:cw)(n:Nat),K.lookup a=some o/\o.cls=.type "list"/\o.dict=none/\o.data=.seq its n/\its.size<=NY/\Vals xs its.toList
noncomputable def pV(K:MT)(H:Hp)(a:NQ)(xs:aG):Prop:=
 Rd H a (.tup xs) \/
  ∃(o:Obj)(its:cw)(n:Nat),K.lookup a=some o/\o.cls=.type "tuple"/\o.data=.seq its n/\its.size<=NY/\Vals xs its.toList
noncomputable def HI:NN->Option V
 |.none=>some .non
 |.bool b=>some (.bl b)
 |.int i _=>some (.int i)
 |.str x _=>some (.str x)
 |.bytes b _=>some (.byt b)
 |.float b _=>some (.flt b)
 |.ref a=>some (.ref a)
 |.type n=>some (.ty n)
 |_=>none
theorem RelV.abs{x:V}{u:NN}(r:RelV x u):HI u=some x:=by
 cases x with
 |non=>cases r;rfl
 |bl _=>cases r;rfl
 |int _=>obtain⟨t,rfl⟩:=r;rfl
 |str _=>obtain⟨t,rfl⟩:=r;rfl
 |byt _=>obtain⟨t,rfl⟩:=r;rfl
 |flt _=>obtain⟨t,rfl⟩:=r;rfl
 |ref _=>cases r;rfl
 |ty _=>cases r;rfl
theorem RelV.inj{x y:V}{u:NN}(r:RelV x u)(q:RelV y u):x=y:=Option.some.inj (r.abs.symm.trans q.abs)
theorem Vals.inj{xs ys:aG}{us:aE}(h:Vals xs us)(h':Vals ys us):xs=ys:=by
 induction h generalizing ys with
 |nil=>cases h';rfl
 |cons r _ ih=>
  cases h' with|cons r' t'=>
  rw[RelV.inj r r',ih t']
section
variable{X:Cx}{pins:aL}{σ:St}{H:Hp}{s:NT}{a:NQ}{xs ys:aG}
theorem lu.of{K:MT}(h:H a=some (.lst xs)):lu K H a xs:=.inl (.inl h)
theorem pV.of{K:MT}(h:H a=some (.tup xs)):pV K H a xs:=.inl (.inl h)
theorem Inv.list(I:`h)(h:lu X.K H a xs):∃its:aE,Vals xs its/\PlainL s.heap a its.toArray/\xs.length<=NY:=by
 rcases h with h|⟨o,its,n,hk,hc,hd,hs,hz,r⟩
 ·obtain⟨z,its,n,r,e⟩:=h.ok I.hok;exact⟨its,r,⟨_,n,e,rfl,rfl,rfl⟩,z⟩
 ·refine⟨its.toList,r,⟨o,n,I.kIn a o hk,hc,hd,by simpa using hs⟩,?_⟩;have e:=r.length;simp only[Array.length_toList]at e;omega
theorem Inv.tuple(I:`h)(h:pV X.K H a xs):∃its:aE,Vals xs its/\NZ s.heap a its.toArray/\xs.length<=NY:=by
 rcases h with h|⟨o,its,n,hk,hc,hs,hz,r⟩
 ·obtain⟨z,its,r,p⟩:=h.ok I.hok;exact⟨its,r,p,z⟩
 ·refine⟨its.toList,r,⟨o,I.kIn a o hk,hc,n,by simpa using hs⟩,?_⟩;have e:=r.length;simp only[Array.length_toList]at e;omega
theorem Inv.list_inj(I:`h)(h:lu X.K H a xs)(h':lu X.K H a ys):xs=ys:=by
 obtain⟨its,r,⟨o,n,e,_,_,d⟩,_⟩:=I.list h;obtain⟨its',r',⟨o',n',e',_,_,d'⟩,_⟩:=I.list h';rw[e]at e';cases e';rw[d]at d';injection d' with d1 _
 have:its=its':=by simpa using congrArg Array.toList d1
 subst this;exact r.inj r'
theorem Inv.tuple_inj(I:`h)(h:pV X.K H a xs)(h':pV X.K H a ys):xs=ys:=by
 obtain⟨its,r,⟨o,e,_,n,d⟩,_⟩:=I.tuple h;obtain⟨its',r',⟨o',e',_,n',d'⟩,_⟩:=I.tuple h';rw[e]at e';cases e';rw[d]at d';injection d' with d1 _
 have:its=its':=by simpa using congrArg Array.toList d1
 subst this;exact r.inj r'
end
section
variable{X:Cx}{st:NS}{rest:cH}{t u:TS}{e:NR}{te:TE}{pos:Pos}
noncomputable def zJ:TS:=λD σ H=>D.nx σ H
noncomputable def IK(t u:TS):TS:=λD σ H=>t {D with nx:=u D} σ H
theorem Bc:uf X [] zJ:=λ_ _ σ H _ I h=>Of ⟨σ,H,I,h⟩
theorem yf(h1:PS X st t)(h2:uf X rest u):uf X (st::rest) (IK t u):=by
 intro pins s σ H D I h;refine wpAny_execs_cons (cD (h1 pins s σ H {D with nx:=u D} I h) λf s1 q=>?_);cases f with
 |next=>
  obtain⟨σ',H',I',q⟩:=q;exact h2 pins s1 σ' H' D I' q
 |ret v=>exact q
 |brk=>exact q
 |cont=>exact q
theorem vv(h1:PS X st t):uf X [st] t:=by
 intro pins s σ H D I h;refine wpAny_execs_cons (cD (h1 pins s σ H D I h) λf s1 q=>?_);cases f with
 |next=>exact Of q
 |ret v=>exact q
 |brk=>exact q
 |cont=>exact q
theorem CG:PS X (.Pass pos) zJ:=λ_ _ σ H _ I h=>wpAny_Pass ⟨σ,H,I,h⟩
theorem Inv.quiet{pins:aL}{σ:St}{H:Hp}{s:NT}(I:`h):interactive X.env=false:=by simp[interactive,I.ok.kind]
theorem Ez{x j pos pos'}:PS X (.Expr (.Constant (.str x) j pos) pos') zJ:=λ_ s σ H _ I h=>wpAny_Expr (Calls.Constant_str (show SP X _ _ .next {s with toks:=s.toks+1}from⟨σ,H,I.tok _,h⟩)) I.quiet
noncomputable def GD(te:TE):TS:=λD σ H=>te σ H λ_ H1=>D.nx σ H1
theorem AD(he:PE X e te)(hs:swapsWith e none pos.line X.env=pure false:=by rfl):PS X (.Expr e pos) (GD te):=by
 intro pins s σ H D I h;exact wpAny_Expr_any (cD (he pins s σ H _ I h) λv s1 zq=>zq.elim λx zq=>zq.elim λH1 zq=>zq.elim λI1 zq=>zq.elim λr1 q1=>⟨σ,H1,I1,q1⟩) I.quiet hs
noncomputable def IC(te:TE):TS:=λD σ H=>te σ H D.rt
theorem Af(he:PE X e te):PS X (.Return (some e) pos) (IC te):=by
 intro pins s σ H D I h;exact wpAny_Return_some (cD (he pins s σ H _ I h) λv s1 zq=>zq.elim λx zq=>zq.elim λH1 zq=>zq.elim λI1 zq=>zq.elim λr1 q1=>⟨x,σ,H1,I1,r1,q1⟩)
noncomputable def IQ(c:TT)(t u:TS):TS:=λD σ H=>c σ H λb H1=>if b=true then t D σ H1 else u D σ H1
theorem Ga{c:NR}{a b:cH}{tc:TT}(hc:PT X c tc)(ha:uf X a t)(hb:uf X b u):PS X (.If c a b pos) (IQ tc t u):=by
 intro pins s σ H D I h;refine wpAny_If (cD (hc pins s σ H _ I h) λd s1 zq=>zq.elim λH1 zq=>zq.elim λI1 q1=>?_);cases d with
 |true=>exact ha pins s1 σ H1 D I1 q1
 |false=>exact hb pins s1 σ H1 D I1 q1
end
noncomputable abbrev TG:=V->St->Hp->(St->Hp->Prop)->Prop
noncomputable abbrev CW:=List V->St->Hp->(St->Hp->Prop)->Prop
noncomputable def PG(X:Cx)(target:NR)(t:TG):Prop:=
 ∀(pins:aL)(s:NT)(σ:St)(H:Hp)(v:V)(u:NN)(Q:St->Hp->Prop),Inv X pins σ H s->RelV v u->t v σ H Q->
  N7 `i X.A (assign target X.env u) (λ_ s'=>∃σ' H',Inv X pins σ' H' s'/\Q σ' H') X.xe s
noncomputable def GB(X:Cx)(ts:bj)(t:CW):Prop:=
 ∀(pins:aL)(s:NT)(σ:St)(H:Hp)(vs:aG)(us:aE)(Q:St->Hp->Prop),Inv X pins σ H s->Vals vs us->t vs σ H Q->
  N7 `i X.A (assignInOrder ((assignEach ts X.env).map (·.2)) us) (λ_ s'=>∃σ' H',Inv X pins σ' H' s'/\Q σ' H') X.xe s
section
variable{X:Cx}{pos:Pos}
noncomputable def oP(i:Nat):TG:=λv σ H Q=>Q (σ.set i (some v)) H
theorem CP{i:Nat}{x:Str}(hN:X.N.Nodup)(hi:X.N[i]?=some x)(hx:Loc X.env.scope x)(hf:X.fn x=true\/X.env.scope.names.lookup x=some .local:=by first|exact .inl rfl|exact .inr rfl|assumption):PG X (.Name x pos) (oP i):=by
 intro pins s σ H v u Q I r h;exact wpAny_assign_Name (qR I hN hi hx r (λs' I'=>⟨_,H,I',h⟩) hf)
noncomputable def Ih:CW:=λvs σ H Q=>vs=[]/\Q σ H
noncomputable def Gp(t:TG)(u:CW):CW:=λvs σ H Q=>∃v r,vs=v::r/\t v σ H λσ' H'=>u r σ' H' Q
theorem B5:GB X [] Ih:=by
 intro pins s σ H vs us Q I r h;obtain⟨e,h⟩:=h;subst e;cases r;exact assignInOrder_nil ⟨σ,H,I,h⟩
theorem zc{e:NR}{es:bj}{t:TG}{u:CW}(h1:PG X e t)(h2:GB X es u)
  (hs:(assignEach (e::es) X.env).map (·.2)=assign e X.env::(assignEach es X.env).map (·.2):=by rfl):GB X (e::es) (Gp t u):=by
 intro pins s σ H vs us Q I r h;obtain⟨v,vr,e1,h⟩:=h;subst e1;cases r with
 |cons r rr=>
  rw[hs];refine assignInOrder_cons (cD (h1 pins s σ H _ _ _ I r h) λ_ s1 zq=>zq.elim λσ1 zq=>zq.elim λH1 zq=>zq.elim λI1 q1=>?_);exact h2 pins s1 σ1 H1 _ _ Q I1 rr q1
noncomputable def IB(K:MT)(n:Nat)(t:CW):TG:=λv σ H Q=>∃a xs,v=.ref a/\pV K H a xs/\xs.length=n/\t xs σ H Q
theorem Fa{es:bj}{k:Nat}{t:CW}{n:Nat}(hc:X.calm=true)(h:GB X es t)
  (hn:(assignEach es X.env).length=n:=by rfl) (hst:(assignEach es X.env).findIdx? (·.1)=none:=by rfl):PG X (.Tuple es k pos) (IB X.K n t):=by
 intro pins s σ H v u Q I r hw;obtain⟨a,xs,e1,hq,hl,hw⟩:=hw;subst e1;cases r;obtain⟨its,rv,ht,hz⟩:=I.tuple hq;refine assign_Tuple_tuple (I.ok.hd hc) ht (by simp[hn,<-hl,rv.length]) hst λh' hx=>?_;have I1:Inv X pins σ H {s with heap:=h'}:=I.kept (t':=s.toks) λb o e=>hx b o (JX (M8 e)) e;exact h pins _ σ H xs _ Q I1 (by simpa using rv) hw
noncomputable def BJ(te:TE)(g:TG):TS:=λD σ H=>te σ H λx H1=>g x σ H1 D.nx
theorem z6{i:Nat}{x:Str}{e:NR}{te:TE}{pos':Pos}(hN:X.N.Nodup)(hi:X.N[i]?=some x)(hx:Loc X.env.scope x)(he:PE X e te)(hs:swapsWith e (some (.Name x pos')) pos.line X.env=pure false:=by rfl)(hf:X.fn x=true\/X.env.scope.names.lookup x=some .local:=by first|exact .inl rfl|exact .inr rfl|assumption):
  PS X (.Assign [.Name x pos'] e pos) (BJ te (oP i)):=by
 intro pins s σ H D I h;refine wpAny_Assign_Name (cD (he pins s σ H _ I h) λv s1 zq=>zq.elim λy zq=>zq.elim λH1 zq=>zq.elim λI1 zq=>zq.elim λr1 q1=>?_) hs;exact qR I1 hN hi hx r1 (λs2 I2=>⟨_,H1,I2,q1⟩) hf
end
section
variable{X:Cx}{pos:Pos}
noncomputable def ER(c:TT)(tb:TS):TS:=λD σ H=>∃W:Nat->St->Hp->Prop,(∃m,W m σ H)/\∀m σ H,W m σ H->
 c σ H λb H1=>if b=true then∃N:St->Hp->Prop,(∀σ' H',N σ' H'->∃m',m'<m/\W m' σ' H')/\tb {D with nx:=N,ct:=N,bk:=D.nx} σ H1 else D.nx σ H1
theorem xX{c:NR}{body:cH}{tc:TT}{tb:TS}(hp:Og `i X.A X.env X.xe)(hc:PT X c tc)(hb:uf X body tb):PS X (.While c body [] pos) (ER tc tb):=by
 intro pins s σ H D I h;obtain⟨W,⟨m0,w0⟩,turn⟩:=h;refine wpAny_While (codeAny_whileLoop (λn s'=>∃σ' H',Inv X pins σ' H' s'/\W n σ' H') ?_ m0 ⟨σ,H,I,w0⟩);rintro n s1 ⟨σ1,H1,I1,w1⟩;refine Oh hp (cD (hc pins s1 σ1 H1 _ I1 (turn n σ1 H1 w1)) λb s2 zq=>zq.elim λH2 zq=>zq.elim λI2 q2=>?_);cases b with
 |true=>
  obtain⟨N,hN,q2⟩:=q2;rw[if_pos rfl];refine Oh hp (cD (hb pins s2 σ1 H2 _ I2 q2) λf s3 q3=>?_);cases f with
  |next=>
   obtain⟨σ3,H3,I3,n3⟩:=q3;obtain⟨m',hm,w3⟩:=hN σ3 H3 n3;exact⟨m',hm,σ3,H3,I3,w3⟩
  |cont=>
   obtain⟨σ3,H3,I3,n3⟩:=q3;obtain⟨m',hm,w3⟩:=hN σ3 H3 n3;exact⟨m',hm,σ3,H3,I3,w3⟩
  |brk=>exact q3
  |ret v=>exact q3
 |false=>
  rw[if_neg J8];exact Of ⟨σ1,H2,I2,q2⟩
end
structure It where
 go:Nat->Hp->Prop
 yld:Nat->Hp->V->Hp->Prop
 stop:Nat->Hp->Prop
noncomputable def pQ(X:Cx)(pins:aL)(H:Hp)(b:NQ):Prop:=
 H b=none/\b≠X.env.locals/\b∉X.fs/\(b∈X.ex\/X.s₀.heap.objs.size<=b)/\(∀x c,X.env.cells.lookup x=some c->c≠b)/\∀p∈X.pn++pins,p.1≠b
theorem Inv.fpOk{X:Cx}{pins:aL}{σ:St}{H H':Hp}{s:NT}{b:NQ}(I:`h)(hb:s.heap.objs.size<=b)(hn:H' b=none):pQ X pins H' b:=by
 refine⟨hn,J9 (JV I.lt hb),I.nofs hb,.inr (JY I.sz hb),λx c e z=>?_,λp hp z=>?_⟩
 ·obtain⟨v,q⟩:=I.cell x c e;exact absurd (JV q.lt (by rw[z];exact hb)) (JW _)
 ·exact absurd (JV (M8 (I.pin p hp).1) (by rw[z];exact hb)) (JW _)
structure Turn(P:NV)(w:NU)(K:MT)(tg:NR)(J:It)(fp:ak)(it:NQ)(tn:Nat->NX->Prop):Prop where
 mem:it∈fp
 obj:∀i h,tn i h->∀b∈fp,∃o,h.get? b=some o/\∀v,o.data≠.cell v
 keep:∀i h h',tn i h->(∀b∈fp,∀o,h.get? b=some o->h'.get? b=some o)->tn i h'
 item:∀(X:Cx),X.prog=P->X.w=w->X.K=K->X.calm=true->∀(i:Nat)(pins:aL)(s:NT)(σ:St)(H:Hp)(E:az),Inv X pins σ H s->(∀b∈fp,pQ X pins H b)->tn i s.heap->J.go i H->
  N7 (model P w) X.A (pyNext (.ref it)) (λr s1=>∃u,r=some u/\
   N7 (model P w) X.A (letOwnedTupleGo tg (.ref it) u) (λ_ s2=>∃x H',Inv X pins σ H' s2/\RelV x u/\J.yld i H x H'/\tn (i+1) s2.heap/\∀b∈fp,H' b=none) E s1) E s
 done:∀(X:Cx),X.prog=P->X.w=w->X.K=K->X.calm=true->∀(i:Nat)(pins:aL)(s:NT)(σ:St)(H:Hp)(E:az),Inv X pins σ H s->(∀b∈fp,pQ X pins H b)->tn i s.heap->J.stop i H->
  N7 (model P w) X.A (pyNext (.ref it)) (λr s1=>r=none/\Inv X pins σ H s1) E s
 self:∀(A:N4)(i:Nat)(s:NT)(Q:az)(E:az),tn i s.heap->Q (.ref it) s->N7 (model P w) A (pyIter (.ref it)) Q E s
noncomputable abbrev TI:=St->Hp->(It->Hp->Prop)->Prop
noncomputable def PIE(X:Cx)(pins:aL)(σ:St)(tg:NR)(R:It->Hp->Prop)(itv:NN)(s2:NT):Prop:=
 ∃(it:NQ)(fp:ak)(tn:Nat->NX->Prop)(J:It)(H':Hp),itv=.ref it/\Inv X pins σ H' s2/\Turn X.prog X.w X.K tg J fp it tn/\tn 0 s2.heap/\(∀b∈fp,pQ X pins H' b)/\R J H'
noncomputable def PI(X:Cx)(tg iter:NR)(wi:TI):Prop:=
 ∀(pins:aL)(s:NT)(σ:St)(H:Hp)(R:It->Hp->Prop),Inv X pins σ H s->wi σ H R->
  N7 `i X.A (eval iter X.env) (λv s1=>N7 `i X.A (pyIter v) (PIE X pins σ tg R) X.xe s1) X.xe s
theorem uL{M:N6}{A:N4}{E:az}{s:NT}{tg:NR}{it:NQ}{u:NN}{o:Obj}{n:String}{vs:cw}{Q:Unit->bn}(ho:s.heap.get? it=some o)(hc:o.cls=.type n)(hd:o.data=.fields vs)
    (hn:["enumerate","zip","dict_itemiterator","dict_reverseitemiterator","odict_iterator","itertools.zip_longest","itertools.pairwise"].contains n=false) (hQ:Q () s):N7 M A (letOwnedTupleGo tg (.ref it) u) Q E s:=by
  unfold letOwnedTupleGo;cases tg<;>first
    |exact Oi hQ
    | (cases u <;> first
        |exact Oi hQ
        | (refine Oj (Ol ho ?_)
           rw[hc,hd];show N7 M A (if(["enumerate","zip","dict_itemiterator","dict_reverseitemiterator","odict_iterator","itertools.zip_longest","itertools.pairwise"].contains n&&vs[0]?==some (rawInt _))=true then _ else _) Q E s;rw[if_neg (by intro h;rw[hn,Bool.false_and]at h;cases h)];exact Oi hQ))
noncomputable def HH(K:MT)(a:NQ):It:=
 ⟨λi H=>∃xs x,lu K H a xs/\xs[i]?=some x,λi H x H'=>H'=H/\∀xs,lu K H a xs->xs[i]?=some x,λi H=>∃xs,lu K H a xs/\xs.length<=i⟩
noncomputable def Ii(K:MT)(a:NQ):It:=
 ⟨λi H=>∃xs x,pV K H a xs/\xs[i]?=some x,λi H x H'=>H'=H/\∀xs,pV K H a xs->xs[i]?=some x,λi H=>∃xs,pV K H a xs/\xs.length<=i⟩
noncomputable def HE(lo:Int)(n:Nat):It:=⟨λi _=>i<n,λi H x H'=>H'=H/\x=.int (lo+i),λi _=>n<=i⟩
theorem vP{P:NV}{w:NU}{K:MT}{tg:NR}(a it:NQ):Turn P w K tg (HH K a) [it] it (λi h=>h.IsListIter it a i)where
 mem:=by simp
 obj:=λi h st b hb=>by
  have e:b=it:=by simpa using hb
  subst e;obtain⟨o,e,c,d⟩:=st;exact⟨o,e,λv z=>by rw[d]at z;cases z⟩
 keep:=λi h h' st k=>st.at λo e=>k it (by simp) o e
 item:=by
  intro X hP hw hK hc i pins s σ H E I hf st hg;subst hP hw hK;obtain⟨xs,x,hq,hx⟩:=hg;obtain⟨its,rv,p,hz⟩:=I.list hq;obtain⟨u,hu,ru⟩:=rv.get hx;obtain⟨f0,f1,f2,f3,f4,f5⟩:=hf it (by simp);refine wpAny_pyNext_list_item st p.isList (x:=u) (by simpa using hu) λh' st' sb=>?_;have I1:Inv X pins σ H {s with heap:=h'}:=I.turned (t':=s.toks) (λb o hb e=>(sb.2 b hb).trans e) f0 f1 f3 f4 f5;obtain⟨o,e,c,d⟩:=id st';exact⟨u,rfl,uL (s:={s with heap:=h'}) e c d (by decide) ⟨x,H,I1,ru,⟨rfl,λys hy=>by rw[I.list_inj hy hq];exact hx⟩,st',λb hb=>(hf b hb).1⟩⟩
 done:=by
  intro X hP hw hK hc i pins s σ H E I hf st hg;subst hP hw hK;obtain⟨xs,hq,hx⟩:=hg;obtain⟨its,rv,p,hz⟩:=I.list hq;obtain⟨f0,f1,f2,f3,f4,f5⟩:=hf it (by simp);have hl:=rv.length;exact wpAny_pyNext_list_end (I.ok.hd hc) st p.isList (by simp;omega) λh' eb=>⟨rfl,I.turned (t':=s.toks) (λb o hb e=>eb b o hb e) f0 f1 f3 f4 f5⟩
 self:=λ_ _ _ _ _ st h=>wpAny_pyIter_listiter st h
theorem tH{P:NV}{w:NU}{K:MT}{tg:NR}(a it:NQ):Turn P w K tg (Ii K a) [it] it (λi h=>h.IsTupleIter it a i)where
 mem:=by simp
 obj:=λi h st b hb=>by
  have e:b=it:=by simpa using hb
  subst e;obtain⟨o,e,c,d⟩:=st;exact⟨o,e,λv z=>by rw[d]at z;cases z⟩
 keep:=λi h h' st k=>st.at λo e=>k it (by simp) o e
 item:=by
  intro X hP hw hK hc i pins s σ H E I hf st hg;subst hP hw hK;obtain⟨xs,x,hq,hx⟩:=hg;obtain⟨its,rv,p,hz⟩:=I.tuple hq;obtain⟨u,hu,ru⟩:=rv.get hx;obtain⟨f0,f1,f2,f3,f4,f5⟩:=hf it (by simp);refine wpAny_pyNext_tuple_item st (show s.heap.IsTuple a its.toArray from p) (x:=u) (by simpa using hu) λh' st' sb=>?_;have I1:Inv X pins σ H {s with heap:=h'}:=I.turned (t':=s.toks) (λb o hb e=>(sb.2 b hb).trans e) f0 f1 f3 f4 f5;obtain⟨o,e,c,d⟩:=id st';exact⟨u,rfl,uL (s:={s with heap:=h'}) e c d (by decide) ⟨x,H,I1,ru,⟨rfl,λys hy=>by rw[I.tuple_inj hy hq];exact hx⟩,st',λb hb=>(hf b hb).1⟩⟩
 done:=by
  intro X hP hw hK hc i pins s σ H E I hf st hg;subst hP hw hK;obtain⟨xs,hq,hx⟩:=hg;obtain⟨its,rv,p,hz⟩:=I.tuple hq;obtain⟨f0,f1,f2,f3,f4,f5⟩:=hf it (by simp);have hl:=rv.length;exact wpAny_pyNext_tuple_end (I.ok.hd hc) st (show s.heap.IsTuple a its.toArray from p) (by simp;omega) λh' eb=>⟨rfl,I.turned (t':=s.toks) (λb o hb e=>eb b o hb e) f0 f1 f3 f4 f5⟩
 self:=λ_ _ _ _ _ st h=>wpAny_pyIter_tupleiter st h
theorem tM{P:NV}{w:NU}{K:MT}{tg:NR}(it:NQ)(lo:Int)(n:Nat):Turn P w K tg (HE lo n) [it] it (λi h=>IsRangeIter h it (lo+(i:Nat)*1) ((n:Int)-(i:Nat)) 1)where
 mem:=by simp
 obj:=λi h st b hb=>by
  have e:b=it:=by simpa using hb
  subst e;exact⟨_,st,λv z=>by
   have z':Data.fields _=Data.cell v:=z;cases z'⟩
 keep:=λi h h' st k=>k it (by simp) _ st
 item:=by
  intro X hP hw hK hc i pins s σ H E I hf st hg;subst hP hw hK;obtain⟨f0,f1,f2,f3,f4,f5⟩:=hf it (by simp);have W:=Walks.range (prog:=X.prog) (w:=X.w) (I.ok.hd hc) it lo 1 n;refine W.item i s _ _ hg st λv h' tk hv st' kk=>?_;obtain⟨t,rfl⟩:=hv;have I1:Inv X pins σ H {s with heap:=h',toks:=tk}:=I.turned (λb o hb e=>kk b o (by simpa using hb) e) f0 f1 f3 f4 f5;refine⟨_,rfl,uL (s:={s with heap:=h',toks:=tk}) (n:="range_iterator") st' rfl rfl (by decide) ⟨.int (lo+i),H,I1,⟨t,?_⟩,⟨rfl,rfl⟩,st',λb hb=>(hf b hb).1⟩⟩;rw[Int.mul_one]
 done:=by
  intro X hP hw hK hc i pins s σ H E I hf st hg;subst hP hw hK;obtain⟨f0,f1,f2,f3,f4,f5⟩:=hf it (by simp);exact wpAny_pyNext_range_end (I.ok.hd hc) st (by have:n<=i:=hg;omega) λh' eb=>⟨rfl,I.turned (t':=s.toks) (λb o hb e=>eb b o hb e) f0 f1 f3 f4 f5⟩
 self:=λ_ _ _ _ _ st h=>wpAny_pyIter_rangeiter st h
section
variable{X:Cx}{tg:NR}
noncomputable def GH(K:MT)(tl:TE):TI:=λσ H R=>tl σ H λx H1=>∃a,x=.ref a/\(∃xs,lu K H1 a xs)/\R (HH K a) H1
noncomputable def Ia(K:MT)(tl:TE):TI:=λσ H R=>tl σ H λx H1=>∃a,x=.ref a/\(∃xs,pV K H1 a xs)/\R (Ii K a) H1
theorem uD{l:NR}{tl:TE}(hl:PE X l tl):PI X tg l (GH X.K tl):=by
 intro pins s σ H R I h;refine cD (hl pins s σ H _ I h) λv s1 zq=>zq.elim λx zq=>zq.elim λH1 zq=>zq.elim λI1 zq=>zq.elim λr1 q1=>?_;obtain⟨a,e,⟨xs,hq⟩,q⟩:=q1;subst e;cases r1;obtain⟨its,rv,p,hz⟩:=I1.list hq;refine Om p.isList ?_;refine⟨s1.heap.objs.size,[s1.heap.objs.size],_,_,H1,rfl,I1.kept (t':=s1.toks) λb o e=>Nf _ e,vP a _,⟨_,Ng _ rfl,rfl,rfl⟩,λb hb=>?_,q⟩;have e:b=s1.heap.objs.size:=by simpa using hb
 subst e;exact I1.fpOk (Ka _) (I1.hok.fresh (Ka _))
theorem E8{l:NR}{tl:TE}(hl:PE X l tl):PI X tg l (Ia X.K tl):=by
 intro pins s σ H R I h;refine cD (hl pins s σ H _ I h) λv s1 zq=>zq.elim λx zq=>zq.elim λH1 zq=>zq.elim λI1 zq=>zq.elim λr1 q1=>?_;obtain⟨a,e,⟨xs,hq⟩,q⟩:=q1;subst e;cases r1;obtain⟨its,rv,p,hz⟩:=I1.tuple hq;refine wpAny_pyIter_tuple (show s1.heap.IsTuple a its.toArray from p) ?_;refine⟨s1.heap.objs.size,[s1.heap.objs.size],_,_,H1,rfl,I1.kept (t':=s1.toks) λb o e=>Nf _ e,tH a _,⟨_,Ng _ rfl,rfl,rfl⟩,λb hb=>?_,q⟩;have e:b=s1.heap.objs.size:=by simpa using hb
 subst e;exact I1.fpOk (Ka _) (I1.hok.fresh (Ka _))
theorem yF{pins:aL}{σ:St}{H:Hp}{s:NT}{R:It->Hp->Prop}{E:az}{lo hi:Int}{t u v:Tok}{tk:Nat}(I:`h)(h1:-(2^62)<=lo)(h2:lo<2^62)(h3:-(2^62)<=hi)(h4:hi<2^62)
  (q:R (HE lo (hi-lo).toNat) H):N7 `i X.A (pyIter (.ref s.heap.objs.size)) (PIE X pins σ tg R) E {s with heap:=s.heap.push {cls:=.type "range",data:=.fields #[.int lo t,.int hi u,.int 1 v]},toks:=tk}:=by
 refine wpAny_pyIter_range (IsRange.new ..) (small_one h1 h2 h3 h4) ?_;have I1:Inv X pins σ H {s with heap:=s.heap.push {cls:=.type "range",data:=.fields #[.int lo t,.int hi u,.int 1 v]},toks:=tk}:=I.kept λb o e=>Nf _ e;refine⟨(s.heap.push {cls:=.type "range",data:=.fields #[.int lo t,.int hi u,.int 1 v]}).objs.size,[(s.heap.push {cls:=.type "range",data:=.fields #[.int lo t,.int hi u,.int 1 v]}).objs.size],_,_,H,rfl,
  I1.kept (t':=tk) λb o e=>Nf _ e,tM _ lo (hi-lo).toNat,?_,λb hb=>?_,q⟩
 ·have e1:lo+((0:Nat):Int)*1=lo:=by simp
  have e2:(((hi-lo).toNat:Nat):Int)-((0:Nat):Int)=Builtin.Range.rangeSize lo hi 1:=by rw[rangeSize_one];split<;>omega
  show IsRangeIter _ _ (lo+((0:Nat):Int)*1) ((((hi-lo).toNat:Nat):Int)-((0:Nat):Int)) 1;rw[e1,e2];exact Ng _ rfl
 ·have e:b=(s.heap.push {cls:=.type "range",data:=.fields #[.int lo t,.int hi u,.int 1 v]}).objs.size:=by simpa using hb
  subst e;exact I1.fpOk (Ka _) (I1.hok.fresh (Ka _))
noncomputable def GL(ta:TA):TI:=λσ H R=>ta σ H λvs H1=>∃j:Int,vs=[.int j]/\-(2^62)<=j/\j<2^62/\R (HE 0 j.toNat) H1
theorem xB{a:NR}{ta:TA}{p pos:Pos}(hg:Gl X "range")(hm:X.mg "range"=none)(ha:PA X [a] ta)(hs:N8 [a] X.env=[(false,eval a X.env)]:=by rfl):PI X tg (.Call (.Name "range" p) [a] [] pos) (GL ta):=by
 intro pins s σ H R I h;refine Call_ (kq I hg hm boot_range (Nr (cD (ha pos pins s σ H _ I h) λus s1 zq=>zq.elim λvs zq=>zq.elim λH1 zq=>zq.elim λI1 zq=>zq.elim λr1 q1=>?_) hs rfl));obtain⟨j,e,q1,q2,q⟩:=q1;subst e;cases r1 with
 |cons r rr=>
  cases rr;obtain⟨t,rfl⟩:=r;exact call_range_1 (yF I1 `o `o q1 q2 (by simpa using q))
noncomputable def Iz(wi:TI)(g:TG)(tb:TS):TS:=λD σ H=>wi σ H λJ H1=>∃W:Nat->Nat->St->Hp->Prop,(∃m,W 0 m σ H1)/\∀i m σ H,W i m σ H->
 (J.stop i H/\D.nx σ H)\/(J.go i H/\∃N:St->Hp->Prop,(∀σ' H',N σ' H'->∃m',m'<m/\W (i+1) m' σ' H')/\∀x H',J.yld i H x H'->g x σ H' λσ2 H2=>tb {D with nx:=N,ct:=N,bk:=D.nx} σ2 H2)
noncomputable def mN(fp:ak)(h:NX):aL:=fp.filterMap λb=>(h.get? b).map λo=>(b,o)
theorem gf{fp:ak}{h:NX}{b:NQ}{o:Obj}(hb:b∈fp)(e:h.get? b=some o):(b,o)∈mN fp h:=List.mem_filterMap.mpr ⟨b,hb,by rw[e];rfl⟩
theorem xk{fp:ak}{h:NX}{p:NQ×Obj}(hp:p∈mN fp h):p.1∈fp/\h.get? p.1=some p.2:=by
 obtain⟨b,hb,e⟩:=List.mem_filterMap.mp hp;cases q:h.get? b with
 |none=>rw[q]at e;cases e
 |some o=>
  rw[q]at e;have e':(b,o)=p:=Option.some.inj e;subst e';exact⟨hb,q⟩
theorem Inv.pinned{pins:aL}{σ:St}{H:Hp}{s:NT}{fp:ak}(I:`h)(hf:∀b∈fp,pQ X pins H b)(ho:∀b∈fp,∃o,s.heap.get? b=some o/\∀v,o.data≠.cell v):Inv X (pins++mN fp s.heap) σ H s:=
 I.pins_of λp hp=>(List.mem_append.mp hp).elim (λz=>I.pin p (Kb _ z)) λz=>by
  obtain⟨hb,e⟩:=xk z;obtain⟨f0,f1,f2,_⟩:=hf p.1 hb;obtain⟨o,e',d⟩:=ho p.1 hb;rw[e]at e';cases e';exact⟨e,f0,f1,f2,d⟩
theorem Inv.unpinned{pins pl:aL}{σ:St}{H:Hp}{s:NT}(I:Inv X (pins++pl) σ H s):Inv X pins σ H s:=I.pins_of λp hp=>I.pin p (Kb _ (J5 _ hp))
theorem Ef{iter:NR}{body:cH}{wi:TI}{g:TG}{tb:TS}{pos:Pos}(hp:Og `i X.A X.env X.xe)(hc:X.calm=true)(hi:PI X tg iter wi)(hg:PG X tg g)(hb:uf X body tb)
  (hs:∀x,Oo iter X.env x=pure x:=by intro _;rfl):PS X (.For tg iter body [] pos) (Iz wi g tb):=by
 intro pins s σ H D I h;refine wpAny_For (cD (hi pins s σ H _ I h) λv s1 h1=>cD h1 λitv s2 h2=>?_) hs;obtain⟨it,fp,tn,J,H2,e,I2,T,st2,f2,W,⟨m0,w0⟩,turn⟩:=h2;subst e;have stat:∀{H':Hp},(∀b∈fp,H' b=none)->∀b∈fp,pQ X pins H' b:=λhn b hb=>⟨hn b hb,(f2 b hb).2⟩
 refine codeAny_forLoop_any (λn s'=>∃i σ' H',Inv X pins σ' H' s'/\tn i s'.heap/\(∀b∈fp,H' b=none)/\W i n σ' H') ?_ m0 ⟨0,σ,H2,I2,st2,λb hb=>(f2 b hb).1,w0⟩;rintro n s3 ⟨i,σ3,H3,I3,st3,fr3,w3⟩;rcases turn i n σ3 H3 w3 with⟨stop,qn⟩|⟨go,N,hN,step⟩
 ·refine Oh hp (cD (T.done X rfl rfl rfl hc i pins s3 σ3 H3 X.xe I3 (stat fr3) st3 stop) λr s4 zq=>zq.elim λhr I4=>?_);subst hr;exact Of ⟨σ3,H3,I4,qn⟩
 ·refine Oh hp (cD (T.item X rfl rfl rfl hc i pins s3 σ3 H3 X.xe I3 (stat fr3) st3 go) λr s4 zq=>zq.elim λu zq=>zq.elim λhr h4=>?_);subst hr;refine Oh hp (cD h4 λ_ s5 zq=>zq.elim λx zq=>zq.elim λH5 zq=>zq.elim λI5 zq=>zq.elim λr5 zq=>zq.elim λy5 zq=>zq.elim λst5 fr5=>?_);have I5':=I5.pinned (stat fr5) (T.obj _ _ st5);refine Oh hp (cD (hg _ s5 σ3 H5 x u _ I5' r5 (step x H5 y5)) λ_ s6 zq=>zq.elim λσ6 zq=>zq.elim λH6 zq=>zq.elim λI6 q6=>?_);refine Oh hp (cD (hb _ s6 σ6 H6 _ I6 q6) λf s7 q7=>?_);have again:∀{σ7:St}{H7:Hp},Inv X (pins++mN fp s5.heap) σ7 H7 s7->N σ7 H7->∃m,m<n/\∃i σ' H',Inv X pins σ' H' s7/\tn i s7.heap/\(∀b∈fp,H' b=none)/\W i m σ' H':=λ{σ7 H7} I7 n7=>by
   obtain⟨m',hm,w7⟩:=hN σ7 H7 n7;refine⟨m',hm,i+1,σ7,H7,I7.unpinned,T.keep _ _ _ st5 λb hb o e=>(I7.pin (b,o) (Kb _ (Kb _ (gf hb e)))).1,λb hb=>?_,w7⟩;obtain⟨o,e,d⟩:=T.obj _ _ st5 b hb;exact(I7.pin (b,o) (Kb _ (Kb _ (gf hb e)))).2.1
  cases f with
  |next=>obtain⟨σ7,H7,I7,n7⟩:=q7;exact again I7 n7
  |cont=>obtain⟨σ7,H7,I7,n7⟩:=q7;exact again I7 n7
  |brk=>obtain⟨σ7,H7,I7,q7⟩:=q7;exact⟨σ7,H7,I7.unpinned,q7⟩
  |ret v=>obtain⟨x7,σ7,H7,I7,r7,q7⟩:=q7;exact⟨x7,σ7,H7,I7.unpinned,r7,q7⟩
end
noncomputable abbrev R2:=V->V->Hp->VK->Prop
noncomputable def kf(X:Cx)(f:NN->NN->Sem NN)(r:R2):Prop:=
 ∀(pins:aL)(s:NT)(σ:St)(H:Hp)(x y:V)(v u:NN)(Q:VK),Inv X pins σ H s->RelV x v->RelV y u->r x y H Q->
  N7 `i X.A (f v u) (EP X pins σ Q) X.xe s
noncomputable def Ik(X:Cx)(f:NN->Sem NN)(r:V->Hp->VK->Prop):Prop:=
 ∀(pins:aL)(s:NT)(σ:St)(H:Hp)(x:V)(v:NN)(Q:VK),Inv X pins σ H s->RelV x v->r x H Q->
  N7 `i X.A (f v) (EP X pins σ Q) X.xe s
noncomputable def eV(X:Cx)(f:NN)(r:aG->Hp->VK->Prop):Prop:=
 ∀(pins:aL)(s:NT)(σ:St)(H:Hp)(xs:aG)(us:aE)(Q:VK),Inv X pins σ H s->Vals xs us->r xs H Q->
  N7 `i X.A (call f us) (EP X pins σ Q) X.xe s
noncomputable def GK(r:R2)(ta tb:TE):TE:=λσ H Q=>ta σ H λx H1=>tb σ H1 λy H2=>r x y H2 Q
noncomputable def Jd(r:V->Hp->VK->Prop)(ta:TE):TE:=λσ H Q=>ta σ H λx H1=>r x H1 Q
noncomputable def rI(C:Int->Int->Prop)(g:Int->Int->V):R2:=λx y H Q=>∃i j,x=.int i/\y=.int j/\C i j/\Q (g i j) H
noncomputable def Az(g:Int->Int->V):R2:=λx y H Q=>∃i j,x=.int i/\y=.int j/\Q (g i j) H
noncomputable def rU(g:Int->V):V->Hp->VK->Prop:=λx H Q=>∃i,x=.int i/\Q (g i) H
section
variable{X:Cx}{a b c:NR}{ta tb tc:TE}{pos:Pos}
theorem EV(ha:PE X a ta)(hb:PE X b tb){pins:aL}{s:NT}{σ:St}{H:Hp}{R:V->V->Hp->Prop}(I:`h)
  (h:ta σ H λx H1=>tb σ H1 λy H2=>R x y H2) {Q:az} {f:NN->NN->Sem NN}
  (hf:∀v u s2 x y H2,Inv X pins σ H2 s2->RelV x v->RelV y u->R x y H2->N7 `i X.A (f v u) Q X.xe s2):
  N7 `i X.A (eval a X.env) (λv s₁=>N7 `i X.A (eval b X.env) (λu s₂=>N7 `i X.A (f v u) Q X.xe s₂) X.xe s₁) X.xe s:=by
 refine cD (ha pins s σ H _ I h) λv s1 zq=>zq.elim λx zq=>zq.elim λH1 zq=>zq.elim λI1 zq=>zq.elim λr1 q1=>?_;refine cD (hb pins s1 σ H1 _ I1 q1) λu s2 zq=>zq.elim λy zq=>zq.elim λH2 zq=>zq.elim λI2 zq=>zq.elim λr2 q2=>?_;exact hf v u s2 x y H2 I2 r1 r2 q2
theorem GN{op:Operator}{r:R2}(ho:kf X (Oq op) r)(ha:PE X a ta)(hb:PE X b tb):PE X (.BinOp a op b pos) (GK r ta tb):=by
 intro pins s σ H Q I h;exact wpAny_BinOp (EV ha hb I h λv u s2 x y H2 I2 rx ry q=>ho pins s2 σ H2 x y v u Q I2 rx ry q)
theorem Gr{op:UnaryOp}{r:V->Hp->VK->Prop}(ho:Ik X (unaryOp op) r)(ha:PE X a ta):PE X (.UnaryOp op a pos) (Jd r ta):=by
 intro pins s σ H Q I h;exact UnaryOp_ (cD (ha pins s σ H _ I h) λv s1 zq=>zq.elim λx zq=>zq.elim λH1 zq=>zq.elim λI1 zq=>zq.elim λr1 q1=>ho pins s1 σ H1 x v Q I1 r1 q1)
theorem Hz{f:NN->NN->Sem NN}{C:Int->Int->Prop}{g:Int->Int->Int}
  (rule:∀(i j:Int)(t u:Tok)(s:NT)(Q:az)(E:az),C i j->Q (.int (g i j) s.toks) {s with toks:=s.toks+1}->N7 `i X.A (f (.int i t) (.int j u)) Q E s):
  kf X f (rI C λi j=>.int (g i j)):=by
 intro pins s σ H x y v u Q I rx ry h;obtain⟨i,j,rfl,rfl,hc,q⟩:=h;obtain⟨t,rfl⟩:=rx;obtain⟨t',rfl⟩:=ry;exact rule i j t t' s _ _ hc ⟨.int (g i j),H,I.tok _,⟨_,rfl⟩,q⟩
theorem Gy{f:NN->NN->Sem NN}{g:Int->Int->Int}
  (rule:∀(i j:Int)(t u:Tok)(s:NT)(Q:az)(E:az),Q (.int (g i j) s.toks) {s with toks:=s.toks+1}->N7 `i X.A (f (.int i t) (.int j u)) Q E s):
  kf X f (Az λi j=>.int (g i j)):=by
 intro pins s σ H x y v u Q I rx ry h;obtain⟨i,j,rfl,rfl,q⟩:=h;obtain⟨t,rfl⟩:=rx;obtain⟨t',rfl⟩:=ry;exact rule i j t t' s _ _ ⟨.int (g i j),H,I.tok _,⟨_,rfl⟩,q⟩
theorem F3{f:NN->NN->Sem NN}{g:Int->Int->Bool}
  (rule:∀(i j:Int)(t u:Tok)(s:NT)(Q:az)(E:az),Q (.bool (g i j)) s->N7 `i X.A (f (.int i t) (.int j u)) Q E s):
  kf X f (Az λi j=>.bl (g i j)):=by
 intro pins s σ H x y v u Q I rx ry h;obtain⟨i,j,rfl,rfl,q⟩:=h;obtain⟨t,rfl⟩:=rx;obtain⟨t',rfl⟩:=ry;exact rule i j t t' s _ _ ⟨.bl (g i j),H,I,rfl,q⟩
noncomputable def Gi(i j:Int):Prop:=0<=j/\j<=1000000/\i.natAbs<2^64
noncomputable def Fv(i j:Int):Prop:=(-(2^64)<i/\i<2^64)\/(-(2^64)<j/\j<2^64)
theorem Fv.ok{i j:Int}(h:Fv i j):IntMulOk i j:=by
 rcases h with⟨h1,h2⟩|⟨h1,h2⟩
 ·exact .of_left (intBits_le_64 h1 h2)
 ·exact .of_right (intBits_le_64 h1 h2)
theorem Dt:kf X (Oq .Add) (Az λi j=>.int (i+j)):=Gy λ_ _ _ _ _ _ _ q=>add_int q
theorem Dx:kf X (Oq .Sub) (Az λi j=>.int (i-j)):=Gy λ_ _ _ _ _ _ _ q=>sub_int q
theorem Fm:kf X (Oq .Mult) (rI Fv λi j=>.int (i*j)):=Hz λ_ _ _ _ _ _ _ hc q=>mul_int q hc.ok
theorem E5:kf X (Oq .Mod) (rI (λ_ j=>0<j) λi j=>.int (i%j)):=Hz λi j _ _ _ _ _ hc q=>by
 have h1:(0:Int)<j:=hc;exact mod_int' `o (by rw[Int.fmod_eq_emod_of_nonneg i `o];exact q)
theorem FL:kf X (Oq .Pow) (rI Gi λi j=>.int (i^j.toNat)):=Hz λ_ _ _ _ _ _ _ hc q=>pow_int_small hc.1 hc.2.1 hc.2.2 q
theorem Jy{f:NN->Sem NN}{g:Int->Int}
  (rule:∀(i:Int)(t:Tok)(s:NT)(Q:az)(E:az),Q (.int (g i) s.toks) {s with toks:=s.toks+1}->N7 `i X.A (f (.int i t)) Q E s):
  Ik X f (rU λi=>.int (g i)):=by
 intro pins s σ H x v Q I rx h;obtain⟨i,rfl,q⟩:=h;obtain⟨t,rfl⟩:=rx;exact rule i t s _ _ ⟨.int (g i),H,I.tok _,⟨_,rfl⟩,q⟩
theorem Fs:Ik X (unaryOp .USub) (rU λi=>.int (-i)):=Jy λ_ _ _ _ _ q=>neg_int q
end
section
variable{X:Cx}{a b c:NR}{ta tb tc:TE}{pos:Pos}
theorem yn{pins:aL}{σ:St}{H:Hp}{s:NT}{Q:VK}{k k':Bool}(I:`h)(q:Q (.bl k) H)(e:k=k'):EP X pins σ Q (.bool k') s:=by
 subst e;exact⟨.bl k,H,I,rfl,q⟩
theorem F9:kf X (Od .Lt) (Az λi j=>.bl (decide (i<j))):=F3 λ_ _ _ _ _ _ _ q=>lt_int q
theorem Dn:kf X (Od .Gt) (Az λi j=>.bl (decide (j<i))):=F3 λ_ _ _ _ _ _ _ q=>gt_int q
theorem xA:kf X (Od .Lt) (λx y H Q=>∃i j,x=.str i/\y=.str j/\Q (.bl (decide (i.cps.toList<j.cps.toList))) H):=by
 intro pins s σ H x y v u Q I rx ry h;obtain⟨i,j,rfl,rfl,q⟩:=h;obtain⟨t,rfl⟩:=rx;obtain⟨t',rfl⟩:=ry;exact lt_str (yn I q rfl)
theorem gP(b:NR){op:Oc}(h:op≠.In:=by decide)(h2:op≠.NotIn:=by decide):Oe op b=false:=by
 have e1:(op==CmpOp.In)=false:=by cases op<;>first|rfl|exact absurd rfl h
 have e2:(op==CmpOp.NotIn)=false:=by cases op<;>first|rfl|exact absurd rfl h2
 cases b<;>simp[Oe,e1,e2]
theorem AG{op:Oc}{r:R2}(ho:kf X (Od op) r)(ha:PE X a ta)(hb:PE X b tb)(hm:Oe op b=false):PE X (.Compare a [op] [b] pos) (GK r ta tb):=by
 intro pins s σ H Q I h;exact wpAny_Compare1 (EV ha hb I h λv u s2 x y H2 I2 rx ry q=>ho pins s2 σ H2 x y v u Q I2 rx ry q) hm
noncomputable def C6(t:TE):TT:=λσ H Q=>t σ H λx H'=>∃k,x=.bl k/\Q k H'
theorem B4{op:Oc}{r:R2}(ho:kf X (Od op) r)(ha:PE X a ta)(hb:PE X b tb)(hm:Oe op b=false):PT X (.Compare a [op] [b] pos) (C6 (GK r ta tb)):=by
 intro pins s σ H Q I h;refine wpAny_isTrue_Compare1 (cD (ha pins s σ H _ I h) λv s1 zq=>zq.elim λx zq=>zq.elim λH1 zq=>zq.elim λI1 zq=>zq.elim λr1 q1=>cD (hb pins s1 σ H1 _ I1 q1) λu s2 zq=>zq.elim λy zq=>zq.elim λH2 zq=>zq.elim λI2 zq=>zq.elim λr2 q2=>
  cD (ho pins s2 σ H2 x y v u _ I2 r1 r2 q2) λc s3 zq=>zq.elim λz zq=>zq.elim λH3 zq=>zq.elim λI3 zq=>zq.elim λr3 zq=>zq.elim λk zq=>zq.elim λe q3=>?_) hm
 subst e;cases r3;exact wpAny_truthy_bool ⟨H3,I3,q3⟩
theorem nA:(NY:Nat)<2^63:=by rw[Ot];decide
theorem ug:kf X (Oq .Add) (λx y H Q=>∃i j,x=.str i/\y=.str j/\i.length+j.length<=NY/\Q (.str (i++j)) H):=by
 intro pins s σ H x y v u Q I rx ry h;obtain⟨i,j,rfl,rfl,hz,q⟩:=h;obtain⟨t,rfl⟩:=rx;obtain⟨t',rfl⟩:=ry;exact add_str (λt' tk=>⟨.str (i++j),H,I.tok _,⟨_,rfl⟩,q⟩) hz
theorem vals1{x:V}{us:aE}(r:Vals [x] us):∃u,us=[u]/\RelV x u:=by
 cases r with
 |cons r1 r2=>cases r2;exact⟨_,rfl,r1⟩
theorem vals2{x y:V}{us:aE}(r:Vals [x,y] us):∃u w',us=[u,w']/\RelV x u/\RelV y w':=by
 cases r with
 |cons r1 r2=>
  cases r2 with
  |cons r3 r4=>cases r4;exact⟨_,_,rfl,r1,r3⟩
end
section
variable{prog:NV}{w:NU}{A:N4}{E:az}{s:NT}{K:MT}{x dx C f:NQ}{mA:bS}{name:Str}{v:NN}
end
theorem qe.some_of{v:V}{o:gx}(r:qe (some v) o):∃u,o=some u/\RelV v u:=by
 cases o with
 |none=>exact(show False from r).elim
 |some u=>exact⟨u,rfl,r⟩
structure HL(K:MT)(C:NQ):Prop where
 pg:PySem.W.plainGet K C Str.empty=true
 hd:PySem.W.hasDictIn K C=true
 po:PySem.W.plainOver K C=true
 sa:MU K (.ref C) "__setattr__"=some (some (.builtin "object.__setattr__"))
structure Meth(K:MT)(C:NQ)(m:Str)(f:NQ):Prop where
 at_:MU K (.ref C) m=some (some (.ref f))
 fn:PySem.W.isFn K (.ref f)=true
 kp:MV K (.ref f)=true
section
variable{X:Cx}{pins:aL}{σ:St}{H:Hp}{s:NT}{a C dx:NQ}{fs:List (Str×V)}{f:Str}{v:V}{A:N4}{E:az}
end
structure eO(k:Nat)(A:N4):Prop where
 hd:A.handled=none
 dp:A.depth+3*k+5<Ou
 un:A.units+16*k+200<Ov
theorem eO.mono{j k:Nat}{A:N4}(r:eO k A)(h:j<=k):eO j A:=⟨r.hd,by have:=r.dp;omega,by have:=r.un;omega⟩
theorem eO.deeper{k:Nat}{A:N4}(r:eO (k+1) A)(env:Env):eO k (A.deeper env):=
 ⟨r.hd,by have:=r.dp;show A.depth+1+3*k+5<_;omega,by have:=r.un;show A.units+3+16*k+200<_;omega⟩
theorem eO.depth{k:Nat}{A:N4}(r:eO k A):A.depth<Ou:=by have:=r.dp;omega
theorem eO.units{k:Nat}{A:N4}(r:eO k A):A.units+64<Ov:=by have:=r.un;omega
noncomputable def IL:TA:=λ_ H Q=>Q [] H
noncomputable def G9(ta:TE)(tr:TA):TA:=λσ H Q=>ta σ H λx H1=>tr σ H1 λxs H2=>Q (x::xs) H2
section
variable{X:Cx}{e:NR}{es:bj}{te:TE}{t:TA}{pos:Pos}
theorem sZ:PA X [] IL:=λ_ _ _ _ H Q I h=>Calls.spliced_nil ⟨[],H,I,.nil,h⟩
theorem pE(ha:PE X e te)(hr:PA X es t)(hs:N8 (e::es) X.env=(false,eval e X.env)::N8 es X.env:=by rfl):PA X (e::es) (G9 te t):=by
 intro pos pins s σ H Q I h;rw[hs];show N7 _ _ (spliced ((false,eval e X.env)::backTo pos (N8 es X.env))) _ _ s;refine Calls.spliced_cons (cD (ha pins s σ H _ I h) λu s1 zq=>zq.elim λx zq=>zq.elim λH1 zq=>zq.elim λI1 zq=>zq.elim λr1 q1=>?_);exact cD (hr pos pins s1 σ H1 _ I1 q1) λus s2 zq=>zq.elim λxs zq=>zq.elim λH2 zq=>zq.elim λI2 zq=>zq.elim λr2 q2=>⟨x::xs,H2,I2,.cons r1 r2,q2⟩
noncomputable def IG(t:TA):TE:=λσ H Q=>t σ H λxs H1=>xs.length<=NY/\∀p,H1 p=none->Q (.ref p) (upd H1 p (.tup xs))
noncomputable def HS(t:TA):TE:=λσ H Q=>t σ H λxs H1=>xs.length<=NY/\∀p,H1 p=none->Q (.ref p) (upd H1 p (.lst xs))
theorem EJ{x1}(h:PA X es t):PE X (.Tuple es x1 pos) (IG t):=by
 intro pins s σ H Q I hq;refine wpAny_Tuple_spliced (cD (h pos pins s σ H _ I hq) λus s1 zq=>zq.elim λxs zq=>zq.elim λH1 zq=>zq.elim λI1 zq=>zq.elim λr zq=>zq.elim λz q=>⟨by rw[<-r.length];exact z,?_⟩);have hf:H1 s1.heap.objs.size=none:=I1.hok.fresh (Ka _);refine⟨.ref s1.heap.objs.size,upd H1 s1.heap.objs.size (.tup xs),I1.laid (t':=s1.toks) (λb u e=>Nf _ e) (Ka _) ?_,rfl,q _ hf⟩;exact⟨z,us,r,⟨_,Ng _ rfl,rfl,_,rfl⟩⟩
theorem yO(h:PA X es t):PE X (.List es pos) (HS t):=by
 intro pins s σ H Q I hq;refine wpAny_List_spliced (cD (h pos pins s σ H _ I hq) λus s1 zq=>zq.elim λxs zq=>zq.elim λH1 zq=>zq.elim λI1 zq=>zq.elim λr zq=>zq.elim λz q=>⟨by rw[<-r.length];exact z,?_⟩);have hf:H1 s1.heap.objs.size=none:=I1.hok.fresh (Ka _);refine⟨.ref s1.heap.objs.size,upd H1 s1.heap.objs.size (.lst xs),I1.laid (t':=s1.toks) (λb u e=>Nf _ e) (Ka _) ?_,rfl,q _ hf⟩;exact⟨z,us,0,r,Ng _ rfl⟩
end
noncomputable abbrev Sp:=List V->Hp->VK->XK->Prop
noncomputable abbrev yC:=List Env->Hp->NT->XK->az
structure BO(P:NV)(w:NU)(K:MT)(mg:bS)(base:NX)(A:N4)(outer:List Env)(s:NT)(H:Hp):Prop where
 frames:A.frames=some outer
 mod:Mod K mg base
 bs:∀b o,base.get? b=some o->s.heap.get? b=some o/\H b=none
 bsz:base.objs.size<=s.heap.objs.size
 funs:s.heap.FunFrames base outer
 frf:∀b∈frs outer,H b=none
 hok:jS P w H s.heap
 bare:AllBare s.gens
noncomputable def CE(outer:List Env)(P:NV)(w:NU)(H:Hp)(s:NT)(Q:VK)(u:NN)(s':NT):Prop:=
 ∃v H',s'.os=s.os/\AllBare s'.gens/\Un (frs outer) [] H H' s.heap s'.heap/\jS P w H' s'.heap/\RelV v u/\Q v H'
noncomputable def CR(CX:yC)(outer:List Env)(P:NV)(w:NU)(H:Hp)(s:NT)(Q:VK)(E:XK)(r:Result)(s':NT):Prop:=
 match r with
 |.ok (.ret u)=>CE outer P w H s Q u s'
 |.ok _=>False
 |.error e=>CX outer H s E e s'
structure iY(P:NV)(w:NU)(K:MT)(mg:bS)(base:NX)(CX:yC)(k:Nat)(f:NQ)(fd:Ow)(ps:aH)(sp:Sp):Prop where
 len:∀vs H Q E,sp vs H Q E->vs.length=ps.length
 run:∀(A:N4)(outer:List Env)(s:NT)(H:Hp)(args:Args)(us:aE)(vs:aG)(Q:VK)(E:XK),eO k A->BO P w K mg base A outer s H->Ox s fd args (ps.zip us)->Vals vs us->sp vs H Q E->
  Oy (model P w) A (.call (.ref f) args) (CR CX outer P w H s Q E) s
section
variable{X:Cx}{pins:aL}{σ:St}{H:Hp}{s s':NT}
theorem Inv.env0(I:`h):BO X.prog X.w X.K X.mg X.base X.A X.stack s H:=
 ⟨I.ok.frames,I.ok.mod,I.bs,JY I.ok.bsz I.sz,I.stack,I.stkFree,I.hok,I.bare⟩
theorem Inv.after{Q:VK}{u:NN}(I:`h)(h:CE X.stack X.prog X.w H s Q u s'):EP X pins σ Q u s':=by
 obtain⟨v,H',os,bare,un,hok,r,q⟩:=h;obtain⟨hh,g,d,t,os'⟩:=s';obtain rfl:os'=s.os:=os;exact⟨v,H',I.call (h':=hh) (g':=g) (d':=d) (t':=t) (ch:=[]) un hok bare (λb z=>absurd z (by simp)),r,q⟩
end
noncomputable def Binds(K:MT)(fd:Ow)(ps:aH)(ds:aE):Prop:=
 ∀(s:NT)(us:aE),K.In s.heap->(us++ds).length=ps.length->Ox s fd ⟨us,[]⟩ (ps.zip (us++ds))
theorem Binds.all{K:MT}{fd:Ow}{ps:aH}(h:∀us:aE,us.length=ps.length->bindArgs fd ⟨us,[]⟩=pure (ps.zip us)):Binds K fd ps []:=λs us _ hl=>by
 rw[Kc]at hl ⊢;exact .of_eq (h us hl)
section
variable{X:Cx}{CX:yC}{k:Nat}{f C:NQ}{fd:Ow}{ps:aH}{sp:Sp}{dvs:aG}{ds:aE}{E:XK}{x m:Str}{p pos apos:Pos}{e o:NR}{es:bj}{ta:TE}{t:TA}
end
structure cu(N P:aH)(sc:N5):Prop where
 kind:sc.kind=.function
 co:sc.isCoroutine=false
 gen:sc.isGenerator=false
 nd:N.Nodup
 pre:N.take P.length=P
 par:∀x∈P,sc.names.lookup x=some .local\/sc.names.lookup x=some .cell
 nofree:∀y∈sc.names,y.2≠.free
theorem o0{kindOf:Str->Option NP}{x:Str}:∀{binds:List (Str×NN)}{m:bS},(∀v,(x,v)∉binds)->bindL kindOf binds m x=m x
 |[],_,_=>rfl
 |(n,v)::r,m,h=>by
  unfold bindL;rw[o0 λw hw=>h w (J4 _ hw)];split
  ·have:x≠n:=(by rintro rfl;exact h v J3);simp[this]
  ·rfl
theorem o7{kindOf:Str->Option NP}{x:Str}:∀{binds:List (Str×NN)}{m:bS},(∀v,(x,v)∉binds)->bindC kindOf binds m x=m x
 |[],_,_=>rfl
 |(n,v)::r,m,h=>by
  unfold bindC;rw[o7 λw hw=>h w (J4 _ hw)];split
  ·rfl
  ·have:x≠n:=(by rintro rfl;exact h v J3);simp[this]
theorem nV{kindOf:Str->Option NP}{x:Str}{v:NN}:∀{P:aH}{vs:aE}{i:Nat}{m:bS},P.Nodup->P[i]?=some x->vs[i]?=some v->kindOf x=some .local->
  bindL kindOf (P.zip vs) m x=some v
 |[],_,_,_,_,h,_,_=>by simp at h
 |_::_,[],_,_,_,_,h,_=>by simp at h
 |p::P,w::vs,0,m,nd,h1,h2,hk=>by
  simp at h1 h2;subst h1;subst h2;show bindL kindOf ((p,w)::P.zip vs) m p=_;unfold bindL;rw[o0 λv hv=>(List.nodup_cons.mp nd).1 (Kd hv).1,if_pos hk];simp
 |p::P,w::vs,i+1,m,nd,h1,h2,hk=>by
  show bindL kindOf ((p,w)::P.zip vs) m x=_;unfold bindL;exact nV (i:=i) (List.nodup_cons.mp nd).2 (by simpa using h1) (by simpa using h2) hk
theorem pc{kindOf:Str->Option NP}{x:Str}{v:NN}:∀{P:aH}{vs:aE}{i:Nat}{m:bS},P.Nodup->P[i]?=some x->vs[i]?=some v->kindOf x≠some .local->
  bindC kindOf (P.zip vs) m x=some v
 |[],_,_,_,_,h,_,_=>by simp at h
 |_::_,[],_,_,_,_,h,_=>by simp at h
 |p::P,w::vs,0,m,nd,h1,h2,hk=>by
  simp at h1 h2;subst h1;subst h2;show bindC kindOf ((p,w)::P.zip vs) m p=_;unfold bindC;rw[o7 λv hv=>(List.nodup_cons.mp nd).1 (Kd hv).1,if_neg hk];simp
 |p::P,w::vs,i+1,m,nd,h1,h2,hk=>by
  show bindC kindOf ((p,w)::P.zip vs) m x=_;unfold bindC;exact pc (i:=i) (List.nodup_cons.mp nd).2 (by simpa using h1) (by simpa using h2) hk
noncomputable def start(N:aH)(vs:aG):St:=vs.map some++List.replicate (N.length-vs.length) none
noncomputable def dW(CX:yC)(P:NV)(w:NU)(K:MT)(mg:bS)(base:NX)(N:aH)(qual:Str)(scope:N5)(f:NQ)(cd:NN)(A:N4)(outer:List Env)(s:NT)(H:Hp)(E:XK):Cx where
 prog:=P
 w:=w
 K:=K
 mg:=mg
 base:=base
 A:=A.deeper (envOfC qual scope s.heap.objs.size f cd)
 N:=N
 s₀:=s
 H₀:=H
 env:=envOfC qual scope s.heap.objs.size f cd
 outer:=outer
 stack:=envOfC qual scope s.heap.objs.size f cd::outer
 ex:=[]
 calm:=true
 fn:=λ_=>true
 pn:=[]
 xe:=λe s'=>N7 (model P w) (A.deeper (envOfC qual scope s.heap.objs.size f cd)) (leaving (envOfC qual scope s.heap.objs.size f cd) e) (λ_ s''=>CX outer H s E e s'') (λe' s''=>CX outer H s E e' s'') s'
theorem qS{sc:N5}{n:Nat}{x:Str}(h:sc.names.lookup x=some .cell):∃c,(cellsFrom n sc.names []).lookup x=some c:=by
 have q:=MX sc.names n [] (.inl h);exact Option.isSome_iff_exists.mp q
theorem wW{CX:yC}{P:NV}{w:NU}{K:MT}{mg:bS}{base:NX}{N ps:aH}{qual:Str}{scope:N5}{f:NQ}{cd:NN}{A:N4}{outer:List Env}{s s1:NT}{H:Hp}{E:XK}{us:aE}{vs:aG}
  (S:cu N ps scope) (hd:A.handled=none) (e0:BO P w K mg base A outer s H) (hl:vs.length=ps.length) (r:Vals vs us)
  (x:InCallC s s.heap.objs.size (bindL (envOfC qual scope s.heap.objs.size f cd).kindOf (ps.zip us) λ_=>none) (cellsFrom (s.heap.objs.size+1) scope.names []) (bindC (envOfC qual scope s.heap.objs.size f cd).kindOf (ps.zip us) λ_=>none) s1):
  Inv (dW CX P w K mg base N qual scope f cd A outer s H E) [] (start N vs) H s1:=by
 have hpl:ps.length<=N.length:=by have:=congrArg List.length S.pre;rw[Ke]at this;omega
 obtain⟨h1,tk,rfl,hk⟩:=x.done;have noA:∀b:NQ,b∉(dW CX P w K mg base N qual scope f cd A outer s H E).ex:=λb z=>absurd (show b∈([]:ak)from z) (by simp);refine⟨⟨e0.mod,S.kind,rfl,rfl,Ka _,λy z c h1 h2=>?_,λy hy=>?_,λy c _ h=>?_,λ_=>hd,Around.frames_deeper e0.frames,.inr ⟨rfl,rfl⟩,λb z=>absurd z (noA b),e0.bs,e0.bsz,λb _ _=>noA b,λb z=>absurd z (noA b),e0.funs,e0.frf⟩,
  rfl,e0.bare,Un.kept hk,⟨_,x.toInCall.ns,λi y v h1 h2 h3=>?_⟩,λy c h=>⟨_,x.cell y c h⟩,e0.hok.fresh (Ka _),λy c h=>?_,λp hp=>absurd (show p∈([]:aL)from hp) (by simp),e0.hok.kept hk,?_⟩
 ·exact name_of_addr x.apart (PySem.mem_of_lookup h1) (PySem.mem_of_lookup h2)
 ·have hy:scope.names.lookup y=some .cell\/scope.names.lookup y=some .free:=hy;rcases hy with hy|hy
  ·exact qS hy
  ·exact absurd rfl (S.nofree _ (PySem.mem_of_lookup hy))
 ·exact JZ (x.above y c (PySem.mem_of_lookup h))
 ·have hi:i<vs.length:=by
   unfold start at h2;by_cases hi:i<vs.length
   ·exact hi
   ·rw[Kf (by simpa using hi)]at h2;rw[Kg]at h2;split at h2<;>cases h2
  have ha:vs[i]?=some v:=by
   unfold start at h2;rw[Kh (by simpa using hi),Ki]at h2;cases e:vs[i]? with
   |none=>rw[e]at h2;cases h2
   |some a=>rw[e]at h2;cases h2;rfl
  obtain⟨u,hu,rv⟩:=r.get ha;have hp:ps[i]?=some y:=by
   rw[<-S.pre,List.getElem?_take_of_lt `o];exact h1
  have ndP:ps.Nodup:=by rw[<-S.pre];exact S.nd.sublist (Kj _ _)
  refine⟨u,rv,?_⟩;rcases S.par y (Kk hp)with k|k
  ·exact .inl ⟨k,nV ndP hp hu k⟩
  ·obtain⟨c,e⟩:=qS (n:=s.heap.objs.size+1) k;refine .inr ⟨.inl k,c,e,?_⟩;have q:=x.cell y c e;rw[pc ndP hp hu (by show scope.names.lookup y≠_;rw[k];decide)]at q;exact q
 ·exact e0.hok.fresh (JZ (x.above y c (PySem.mem_of_lookup h)))
 ·unfold start;show _=N.length;rw[Kl,Km,Kn];omega
theorem Dq{CX:yC}{P:NV}{w:NU}{K:MT}{mg:bS}{base:NX}{k:Nat}{f:NQ}{name qual:Str}{params:Oz}{body:cH}{scope:N5}{dV kV doc pm cdv ct oc:NN}{an od:Option NQ}
  {osl:Array gx} {N ps:aH} {sp:Sp} (lk:K.lookup f=some ⟨oc,od,.func (MY name qual params body scope dV kV doc pm an cdv ct),osl⟩) (hcd:MZ K cdv qual=true) (S:cu N ps scope)
  (len:∀vs H Q E,sp vs H Q E->vs.length=ps.length)
  (hbody:∀ (A:N4) (outer:List Env) (s:NT) (H:Hp) (vs:aG) (Q:VK) (E:XK),eO k (A.deeper (envOfC qual scope s.heap.objs.size f cdv))->sp vs H Q E ->
   ∃t,uf (dW CX P w K mg base N qual scope f cdv A outer s H E) body t/\t {nx:=λ_ H'=>Q .non H',rt:=Q} (start N vs) H):
  iY P w K mg base CX (k+1) f (MY name qual params body scope dV kV doc pm an cdv ct) ps sp:=by
 refine⟨len,λA outer s H args us vs Q E hr e0 hb r hsp=>?_⟩;have hl:=len _ _ _ _ hsp;have KX:K.In s.heap:=e0.mod.kin.keeps λb o e=>(e0.bs b o e).1;have lim:s.heap.NoLimit:=e0.mod.nolimit.keeps λb o e=>(e0.bs b o e).1;have hkind:∀y∈ps.zip us,scope.names.lookup y.1=some .local\/(scope.names.lookup y.1=some .cell/\((cellsFrom (s.heap.objs.size+1) scope.names []).lookup y.1).isSome=true):=λ⟨n,v⟩ hy=>by
  rcases S.par n (Kd hy).1 with q|q
  ·exact .inl q
  ·exact .inr ⟨q,MX _ _ _ (.inl q)⟩
 refine codeAny_call_function hr.depth (KX _ _ lk) rfl S.co S.gen rfl (PySem.W.codeRec_of KX hcd) (hb _ _ _ _ ?_);refine wpAny_newFunctionEnv_cells S.kind hkind λenv he s1 x=>?_;subst he;refine⟨lim.keeps x.toInCall.keep,codeAny_func ?_⟩;obtain⟨t,ht,hq⟩:=hbody A outer s H vs Q E (hr.deeper _) hsp;have I:Inv (dW CX P w K mg base N qual scope f cdv A outer s H E) [] (start N vs) H s1:=wW S hr.hd e0 hl r x;refine N9 (ht [] s1 (start N vs) H _ I hq) (λfl s' hs=>?_) λe s' hs=>hs;have fin:∀{σ':St}{H':Hp}{v:V}{u:NN},Inv (dW CX P w K mg base N qual scope f cdv A outer s H E) [] σ' H' s'->RelV v u->Q v H'->CE outer P w H s Q u s':=
  λ{σ' H' v u} J rv q=>⟨v,H',J.os,J.bare,J.base,J.hok,rv,q⟩
 cases fl with
 |ret u=>
  obtain⟨v,σ',H',J,rv,q⟩:=hs;exact fin J rv q
 |next=>
  obtain⟨σ',H',J,q⟩:=hs;exact fin (v:=V.non) (u:=Value.none) J rfl q
 |brk=>
  obtain⟨_,_,_,q⟩:=hs;exact False.elim q
 |cont=>
  obtain⟨_,_,_,q⟩:=hs;exact False.elim q
section
variable{X:Cx}{x:Str}{p pos:Pos}{e:NR}{es:bj}{t:TA}{id T:String}{r:aG->Hp->VK->Prop}
noncomputable def HU(r:aG->Hp->VK->Prop)(t:TA):TE:=λσ H Q=>t σ H λvs H1=>r vs H1 Q
theorem za(hc:eV X (.builtin id) r)(hg:Gl X x)(hm:X.mg x=none)(hv:N3 x=some (.builtin id))(ha:PA X (e::es) t)(hn:x≠"__name__":=by decide)(hdb:(x==("__debug__":Str))=false:=by decide)
  (he:N8 (e::es) X.env=(false,eval e X.env)::N8 es X.env:=by rfl) (hpl:(backTo pos (N8 es X.env)).any (·.1)=false:=by rfl):PE X (.Call (.Name x p) (e::es) [] pos) (HU r t):=by
 intro pins s σ H Q I h;refine OA (kq I hg hm hv ?_ hn hdb);exact Nt (cD (ha pos pins s σ H _ I h) λus s1 zq=>zq.elim λvs zq=>zq.elim λH1 zq=>zq.elim λI1 zq=>zq.elim λr1 q1=>hc pins s1 σ H1 vs us Q I1 r1 q1) he hpl
theorem oV(hc:eV X (.type T) r)(hg:Gl X x)(hm:X.mg x=none)(hv:N3 x=some (.type T))(ha:PA X (e::es) t)(hn:x≠"__name__":=by decide)(hdb:(x==("__debug__":Str))=false:=by decide)
  (he:N8 (e::es) X.env=(false,eval e X.env)::N8 es X.env:=by rfl) (hpl:(backTo pos (N8 es X.env)).any (·.1)=false:=by rfl):PE X (.Call (.Name x p) (e::es) [] pos) (HU r t):=by
 intro pins s σ H Q I h;refine OA (kq I hg hm hv ?_ hn hdb);exact Nr (cD (ha pos pins s σ H _ I h) λus s1 zq=>zq.elim λvs zq=>zq.elim λH1 zq=>zq.elim λI1 zq=>zq.elim λr1 q1=>hc pins s1 σ H1 vs us Q I1 r1 q1) he hpl
end
end L2
namespace HT
open PySem PyProof.Rows
theorem Gn(A:N4)(s:NT)(a:Int)(t:Tok)(c:Int)(u:Tok)(prog:NV)(w:NU)(E:NN->NT->Prop)(Q:NN->NT->Prop)(h:Q (.bool (decide (a<c))) s):
  N7 `g A (richCompare .Lt (.int a t) (.int c u)) Q E s:=
 (PyProof.Rows.lt_int h:N7 `g A (Od .Lt (.int a t) (.int c u)) Q E s)
section
open PySem.SeqAt
open PySem.AutoSeq1 (wpAny_loadPart')
open PySem.MeetsSeq PySem.MeetsSeq2 PySem.MeetsSeq3
end
section
variable{prog:NV}{w:NU}{A:N4}{E:NN->NT->Prop}{s:NT}
theorem HB{t b:NQ}{vs ws:List NN}{Q:NN->NT->Prop}(ht:NZ s.heap t vs.toArray)(hb:NZ s.heap b ws.toArray)(hv:vs≠[])
  (h1:ws=[]->Q (.ref t) s) (h2:ws≠[]->Q (.ref s.heap.objs.size) {s with heap:=s.heap.push {cls:=.type "tuple",data:=.seq (vs++ws).toArray}})
  (hsz:vs.length+ws.length<=NY):N7 `g A (Oq .Add (.ref t) (.ref b)) Q E s:=by
 obtain⟨⟨cls,dd,data,sl⟩,ho,hc,n,hd⟩:=id ht;obtain⟨⟨cls2,dd2,data2,sl2⟩,ho2,hc2,n2,hd2⟩:=id hb;simp only at hc hd hc2 hd2;subst hc hd hc2 hd2;have e:vs.toArray++ws.toArray=(vs++ws).toArray:=by simp
 by_cases hw:ws=[]
 ·exact OB ⟨_,ho,rfl⟩ ⟨_,ho2,rfl⟩ OC OD Ny Nz (NA _ _)
   (tuple_addW1 t b vs.toArray ws.toArray n n2 dd dd2 sl sl2 (by simpa using hv) (by simp[hw])) ⟨ho,ho2,h1 hw⟩
 ·refine OB ⟨_,ho,rfl⟩ ⟨_,ho2,rfl⟩ OC OD Ny Nz (NA _ _)
   (tuple_addW2 t b vs.toArray ws.toArray n n2 dd dd2 sl sl2 (by simpa using hv) (by simpa using hw) (by rw[Ko,Ko];exact hsz)) ⟨ho,ho2,?_⟩
  rw[e];exact h2 hw
noncomputable def sIx(n d:Nat):Option Int->Nat
 |none=>d
 |some v=>if v<0 then(v+(n:Int)).toNat else min v.toNat n
theorem Ge(n d:Nat):sIx n d none=d:=rfl
theorem Ho(n d k:Nat):sIx n d (some (k:Int))=min k n:=by
 show(if(k:Int)<0 then((k:Int)+(n:Int)).toNat else min (k:Int).toNat n)=min k n;rw[if_neg `o,Kp]
theorem DQ(n d:Nat)(hd:d<=n)(o:Option Int):sIx n d o<=n:=by
 cases o with
 |none=>exact hd
 |some v=>
  show(if v<0 then(v+(n:Int)).toNat else min v.toNat n)<=n;by_cases hv:v<0
  ·rw[if_pos hv];omega
  ·rw[if_neg hv];exact Nat.min_le_right _ _
theorem u9(v:Int)(n d:Nat):(if v<0 then max (v+(n:Int)) 0 else min v (n:Int))=((sIx n d (some v):Nat):Int):=by
 show(if v<0 then max (v+(n:Int)) 0 else min v (n:Int))=(((if v<0 then(v+(n:Int)).toNat else min v.toNat n):Nat):Int)
 by_cases hv:v<0
 ·simp only[if_pos hv];omega
 ·simp only[if_neg hv];omega
theorem sO(lo hi:Option Int)(n:Nat):Builtin.Slice.sliceAdjust lo hi 1 (n:Int)=(((sIx n 0 lo:Nat):Int),((sIx n n hi:Nat):Int)):=by
 have h1:¬((1:Int)<0):=by omega
 unfold Builtin.Slice.sliceAdjust;simp only[h1,if_false];refine Prod.ext ?_ ?_
 ·cases lo with
  |none=>rfl
  |some v=>exact u9 v n 0
 ·cases hi with
  |none=>rfl
  |some v=>exact u9 v n n
theorem tZ(i j:Nat):Builtin.Slice.slicePlaces (i:Int) (j:Int) 1=j-i:=by
 unfold Builtin.Slice.slicePlaces;have h1:(1:Int)>0:=by omega
 simp only[h1,if_true,Int.ediv_one];split<;>omega
theorem mO{v:NN}{o:Option Int}{Q:Option Int->NT->Prop}(p:OG v o)(h:Q o s):N7 `g A (Builtin.Slice.slicePartIndex v) Q E s:=by
 cases p with
 |none=>exact slicePart_none h
 |int i t=>exact slicePart_int h
theorem kF{sl:NQ}{vl vu:NN}{lo hi:Option Int}{n:Nat}{Q:Int×Int×Nat->NT->Prop}(hs:s.heap.IsSliceOf sl vl vu .none)(pl:OG vl lo)(pu:OG vu hi)
  (h:Q (((sIx n 0 lo:Nat):Int),1,sIx n n hi-sIx n 0 lo) s):N7 `g A (Builtin.Slice.sliceApplied (.ref sl) (pure (n:Int))) Q E s:=by
 obtain⟨os,hos,hcs,hds⟩:=id hs;unfold Builtin.Slice.sliceApplied Builtin.Slice.sliceFields;refine Oj (Oj (OH hos hds (x:=vl) rfl (Oj (OH hos hds (x:=vu) rfl (Oj (OH hos hds (x:=.none) rfl (Oi ?_)))))));refine Oj (slicePart_none ?_);show N7 _ _ (if((1:Int)==0)=true then _ else _) _ _ s;rw[if_neg (by decide)];refine Oj (mO pl (Oj (mO pu (Oj (Oi ?_)))));show N7 _ _ (match Builtin.Slice.sliceAdjust lo hi 1 (n:Int)with|(lo,hi)=>pure (lo,(1:Int),Builtin.Slice.slicePlaces lo hi 1)) _ _ s;rw[sO lo hi n];show N7 _ _ (pure (((sIx n 0 lo:Nat):Int),(1:Int),Builtin.Slice.slicePlaces ((sIx n 0 lo:Nat):Int) ((sIx n n hi:Nat):Int) 1)) _ _ s;rw[tZ];exact Oi h
theorem zh(xs:Array NN)(i k:Nat):((List.range k).filterMap λ(m:Nat)=>xs[((i:Int)+(m:Int)*1).toNat]?).toArray=((xs.toList.drop i).take k).toArray:=by
 have e:(λ(m:Nat)=>xs[((i:Int)+(m:Int)*1).toNat]?)=λm=>xs[i+m]?:=by
  funext m
  have:((i:Int)+(m:Int)*1).toNat=i+m:=by omega
  rw[this]
 rw[e]
 have:=pick_run xs i k
 rw[List.filterMap_map]at this;have e2:((λx=>xs[x]?)∘λx=>i+x)=λm=>xs[i+m]?:=rfl;rw[e2]at this;rw[this]
theorem vg{t sl:NQ}{items:Array NN}{vl vu:NN}{lo hi:Option Int}{Q:NN->NT->Prop}(ht:NZ s.heap t items)(hs:s.heap.IsSliceOf sl vl vu .none)(pl:OG vl lo)(pu:OG vu hi)
  (hw:¬(sIx items.size 0 lo=0/\sIx items.size items.size hi=items.size))
  (h:Q (.ref s.heap.objs.size) {s with heap:=s.heap.push {cls:=.type "tuple",data:=.seq ((items.toList.drop (sIx items.size 0 lo)).take (sIx items.size items.size hi-sIx items.size 0 lo)).toArray}})
  (hsz:items.size<=NY):N7 `g A (getItem (.ref t) (.ref sl)) Q E s:=by
 have htake:sizeOk (.seq ((items.toList.drop (sIx items.size 0 lo)).take (sIx items.size items.size hi-sIx items.size 0 lo)).toArray):=by
  show((items.toList.drop (sIx items.size 0 lo)).take (sIx items.size items.size hi-sIx items.size 0 lo)).toArray.size<=NY;rw[Ko,Ke,Kq,Array.length_toList];omega
 have hj:sIx items.size items.size hi<=items.size:=DQ _ _ (Ka _) hi;obtain⟨os,hos,hcs,hds⟩:=id hs;have hTs:s.TypeIs (.ref sl) "slice":=⟨os,hos,hcs⟩
 unfold getItem
 try with_reducible refine OI ?_
 first|refine Oj (Oi ?_)|skip
 refine Oj (wpAny_sequenceKey ht.typeIs (by decide) ?_);refine Oj (OJ (name:=Str.ofString "__getitem__") ht.typeIs Nu
  (OL Nu ht.typeIs entry_tuple_getitem ?_ (args_tuple_getitem _ _)))
 show N7 _ _ (Builtin.Tuple.tupleItemsOf (.ref t) >>= _) _ _ s;refine Oj (tupleItemsOf_ ht ?_);refine Oj (OM hTs ?_);rw[if_pos (by decide)];refine Oj (kF hs pl pu ?_);have hno:¬((((sIx items.size 0 lo:Nat):Int)==0&&(1:Int)==1&&(sIx items.size items.size hi-sIx items.size 0 lo)==items.size)=true):=by
  intro q;rw[Kr,Kr]at q;have q1:((sIx items.size 0 lo:Nat):Int)=0:=eq_of_beq q.1.1;have q2:sIx items.size items.size hi-sIx items.size 0 lo=items.size:=eq_of_beq q.2;exact hw ⟨by omega,by omega⟩
 show N7 _ _ (if(((sIx items.size 0 lo:Nat):Int)==0&&(1:Int)==1&&(sIx items.size items.size hi-sIx items.size 0 lo)==items.size)=true then _ else _) _ _ s;rw[if_neg hno,zh]
 first
  |exact Oj (m:=Builtin.Tuple.tupleExact _) (OO (Oi ⟨_,rfl,Oi h⟩) htake)
  |exact Oj (m:=Builtin.Tuple.tupleExact _) (OO (Oj (Oi (Oi ⟨_,rfl,Oi h⟩))) htake)
  |exact Oj (Oj (m:=Builtin.Tuple.tupleExact _) (OO (Oi (Oi ⟨_,rfl,Oi h⟩)) htake))
  |exact Oj (Oj (m:=Builtin.Tuple.tupleExact _) (OO (Oi ⟨_,rfl,Oi h⟩) htake))
end
end HT
namespace L2
open PySem PySem.Spec PyProof.Rows
noncomputable abbrev TO:=St->Hp->(b9->Hp->Prop)->Prop
noncomputable def PO(X:Cx)(e:Option NR)(t:TO):Prop:=
 ∀(pins:aL)(s:NT)(σ:St)(H:Hp)(Q:b9->Hp->Prop),Inv X pins σ H s->t σ H Q->
  N7 `i X.A (evalPart e X.env) (λu s'=>∃o H',Inv X pins σ H' s'/\OG u o/\Q o H') X.xe s
noncomputable def Bv:TO:=λ_ H Q=>Q none H
noncomputable def FV(t:TE):TO:=λσ H Q=>t σ H λx H1=>∃i,x=.int i/\Q (some i) H1
section
variable{X:Cx}{e:NR}{te:TE}{lo hi:Option NR}{tl th:TO}{pos p2:Pos}
theorem BC:PO X none Bv:=by
 intro pins s σ H Q I h;rw[OQ];exact Oi ⟨none,H,I,.none,h⟩
theorem Ci(h:PE X e te):PO X (some e) (FV te):=by
 intro pins s σ H Q I hw;rw[evalPart_some];refine cD (h pins s σ H _ I hw) λu s1 zq=>zq.elim λx zq=>zq.elim λH1 zq=>zq.elim λI1 zq=>zq.elim λr1 q1=>?_;obtain⟨i,rfl,q⟩:=q1;obtain⟨t,rfl⟩:=r1;exact⟨some i,H1,I1,.int i t,q⟩
noncomputable def HC(X:Cx)(r:V->b9->b9->Hp->VK->Prop):Prop:=
 ∀(pins:aL)(s:NT)(σ:St)(H:Hp)(x:V)(v vl vu:NN)(lo hi:b9)(sl:NQ)(Q:VK),Inv X pins σ H s->RelV x v->s.heap.IsSliceOf sl vl vu .none->OG vl lo->OG vu hi->r x lo hi H Q->
  ∃T id,typeLookup (.type T) "__getitem__"=pure (some (.builtin id))/\s.TypeIs v T/\N7 `i X.A (getItem v (.ref sl)) (EP X pins σ Q) X.xe s
noncomputable def Jp(r:V->b9->b9->Hp->VK->Prop)(te:TE)(tl th:TO):TE:=λσ H Q=>te σ H λx H1=>tl σ H1 λl H2=>th σ H2 λu H3=>r x l u H3 Q
theorem zy{r:V->b9->b9->Hp->VK->Prop}(hr:HC X r)(he:PE X e te)(hl:PO X lo tl)(hu:PO X hi th):PE X (.Subscript e (.Slice lo hi none p2) pos) (Jp r te tl th):=by
 intro pins s σ H Q I h;refine OS (cD (he pins s σ H _ I h) λv s1 zq=>zq.elim λx zq=>zq.elim λH1 zq=>zq.elim λI1 zq=>zq.elim λr1 q1=>?_);refine wpAny_Slice (cD (hl pins s1 σ H1 _ I1 q1) λvl s2 zq=>zq.elim λl zq=>zq.elim λH2 zq=>zq.elim λI2 zq=>zq.elim λpl q2=>cD (hu pins s2 σ H2 _ I2 q2) λvu s3 zq=>zq.elim λu zq=>zq.elim λH3 zq=>zq.elim λI3 zq=>zq.elim λpu q3=>?_);rw[OQ];refine Oi ?_;have I4:Inv X pins σ H3 {s3 with heap:=s3.heap.push {cls:=.type "slice",data:=.fields #[vl,vu,.none]}}:=I3.kept (t':=s3.toks) λb ob q=>Nf _ q;obtain⟨T,id,hT,ht,hg⟩:=hr pins {s3 with heap:=s3.heap.push {cls:=.type "slice",data:=.fields #[vl,vu,.none]}} σ H3 x v vl vu l u s3.heap.objs.size Q I4 r1 (Heap.IsSliceOf.new ..) pl pu q3;show N7 `i X.A (subscriptTail e (.Slice lo hi none p2) v (.ref s3.heap.objs.size)) (EP X pins σ Q) X.xe {s3 with heap:=s3.heap.push {cls:=.type "slice",data:=.fields #[vl,vu,.none]}};exact tail_any (ops:=[.ref s3.heap.objs.size,v]) ht hT hg (by with_unfolding_all rfl)
noncomputable def rh(xs:aG)(lo hi:b9):aG:=(xs.drop (HT.sIx xs.length 0 lo)).take (HT.sIx xs.length xs.length hi-HT.sIx xs.length 0 lo)
theorem lj(xs:aG)(lo hi:b9):(rh xs lo hi).length<=xs.length:=by
 unfold rh;rw[Ke,Kq];omega
noncomputable def Im(K:MT):V->b9->b9->Hp->VK->Prop:=λx lo hi H Q=>∃a xs,x=.ref a/\pV K H a xs/\
 ¬(HT.sIx xs.length 0 lo=0/\HT.sIx xs.length xs.length hi=xs.length)/\∀p,H p=none->Q (.ref p) (upd H p (.tup (rh xs lo hi)))
theorem DN:HC X (Im X.K):=by
 intro pins s σ H x v vl vu lo hi sl Q I rx hs pl pu h;obtain⟨a,xs,rfl,hx,hw,q⟩:=h;cases rx;obtain⟨its,r,ht,hz⟩:=I.tuple hx;have hlen:its.toArray.size=xs.length:=by rw[Ko];exact r.length.symm
 refine⟨"tuple",_,PyProof.Rows.slot_tuple_getitem.lookup,ht.typeIs,?_⟩;refine HT.vg ht hs pl pu (by rw[hlen];exact hw) ?_ (by rw[hlen];exact hz);rw[hlen];refine⟨.ref s.heap.objs.size,_,I.laid (t':=s.toks) (o:=.tup (rh xs lo hi)) (λb ob q=>Nf _ q) (Ka _) ?_,rfl,q _ (I.hok.fresh (Ka _))⟩;exact⟨JY (lj xs lo hi) hz,_,(r.drop (HT.sIx xs.length 0 lo)).take (HT.sIx xs.length xs.length hi-HT.sIx xs.length 0 lo),IsTup.new _ _⟩
noncomputable def Gb(K:MT):R2:=λx y H Q=>∃a b xs ys,x=.ref a/\y=.ref b/\pV K H a xs/\pV K H b ys/\xs≠[]/\xs.length+ys.length<=NY/\
 (ys=[]->Q (.ref a) H)/\(ys≠[]->∀p,H p=none->Q (.ref p) (upd H p (.tup (xs++ys))))
theorem Vals.nil_iff{xs:aG}{us:aE}(r:Vals xs us):us=[]↔xs=[]:=by
 cases r with
 |nil=>simp
 |cons _ _=>simp
theorem AQ:kf X (Oq .Add) (Gb X.K):=by
 intro pins s σ H x y v u Q I rx ry h;obtain⟨a,b,xs,ys,rfl,rfl,ha,hb,hx,hz,q1,q2⟩:=h;cases rx;cases ry;obtain⟨its,r1,p1,_⟩:=I.tuple ha;obtain⟨its2,r2,p2,_⟩:=I.tuple hb;refine HT.HB p1 p2 (λz=>hx (r1.nil_iff.mp z)) (λz=>⟨.ref a,H,I,rfl,q1 (r2.nil_iff.mp z)⟩) (λz=>?_) (by rw[<-r1.length,<-r2.length];exact hz);refine⟨.ref s.heap.objs.size,_,I.laid (t':=s.toks) (o:=.tup (xs++ys)) (λb ob q=>Nf _ q) (Ka _) ?_,rfl,q2 (λw=>z (r2.nil_iff.mpr w)) _ (I.hok.fresh (Ka _))⟩;exact⟨by rw[Kl];exact hz,_,r1.append r2,IsTup.new _ _⟩
end
noncomputable def BG(n:Nat)(i:Int):Option Nat:=if 0<=i then(if i<n then some i.toNat else none)else if -(n:Int)<=i then some (i+n).toNat else none
noncomputable def jU{α:Type}(xs:List α)(i:Int):Option α:=(BG xs.length i).bind λj=>xs[j]?
theorem BP{n:Nat}{i:Int}{j:Nat}(h:BG n i=some j):seqIndex? i n=some j/\j<n/\-(n:Int)<=i/\i<n:=by
 unfold BG at h;by_cases h0:0<=i
 ·rw[if_pos h0]at h;by_cases h1:i<n
  ·rw[if_pos h1]at h;have e:i.toNat=j:=Option.some.inj h;exact⟨by rw[seqIndex_of h0 h1,e],by omega,by omega,h1⟩
  ·rw[if_neg h1]at h;cases h
 ·rw[if_neg h0]at h;by_cases h1:-(n:Int)<=i
  ·rw[if_pos h1]at h;have e:(i+n).toNat=j:=Option.some.inj h;exact⟨by rw[seqIndex_neg `o h1,e],by omega,h1,by omega⟩
  ·rw[if_neg h1]at h;cases h
theorem pI{α:Type}{xs:List α}{i:Int}{v:α}(h:jU xs i=some v):∃j,seqIndex? i xs.length=some j/\xs[j]?=some v/\j<xs.length/\-(xs.length:Int)<=i/\i<xs.length:=by
 unfold jU at h;cases e:BG xs.length i with
 |none=>rw[e]at h;cases h
 |some j=>
  rw[e]at h;obtain⟨h1,h2,h3,h4⟩:=BP e;exact⟨j,h1,h,h2,h3,h4⟩
theorem vq{α:Type}{xs:List α}{j:Nat}{v:α}(h:xs[j]?=some v):jU xs (j:Int)=some v:=by
 have hj:j<xs.length:=(List.getElem?_eq_some_iff.mp h).1;have e:BG xs.length (j:Int)=some j:=by
  unfold BG;rw[if_pos `o,if_pos `o];simp
 unfold jU;rw[e];exact h
noncomputable def jx(b:NR):Prop:=∀o i,subscripted b false o i=operate [o,i] (getItem o i)
noncomputable def Gq(X:Cx)(r:R2):Prop:=
 ∀(value slice:NR)(pins:aL)(s:NT)(σ:St)(H:Hp)(x y:V)(v u:NN)(Q:VK),Inv X pins σ H s->RelV x v->RelV y u->r x y H Q->
  subscripted slice false v u=operate [v,u] (getItem v u)->N7 `i X.A (subscriptTail value slice v u) (EP X pins σ Q) X.xe s
noncomputable def JE(X:Cx)(id:String)(r:V->aG->Hp->VK->Prop):Prop:=
 ∀(pins:aL)(s:NT)(σ:St)(H:Hp)(x:V)(xs:aG)(v:NN)(us:aE)(Q:VK),Inv X pins σ H s->RelV x v->Vals xs us->r x xs H Q->
  N7 `i X.A (call (.builtin id) (v::us)) (EP X pins σ Q) X.xe s
section
variable{X:Cx}{a b:NR}{ta tb:TE}{pos:Pos}
theorem zT{r:R2}(hr:Gq X r)(ha:PE X a ta)(hb:PE X b tb)(hs:jx b):PE X (.Subscript a b pos) (GK r ta tb):=by
 intro pins s σ H Q I h;exact OS (EV ha hb I h λv u s2 x y H2 I2 rx ry q=>hr a b pins s2 σ H2 x y v u Q I2 rx ry q (hs _ _))
noncomputable def HJ(K:MT):R2:=λx y H Q=>∃p xs i v,x=.ref p/\y=.int i/\lu K H p xs/\jU xs i=some v/\Q v H
noncomputable def Ie(K:MT):R2:=λx y H Q=>∃p xs i v,x=.ref p/\y=.int i/\pV K H p xs/\jU xs i=some v/\Q v H
noncomputable def IE:R2:=λx y H Q=>∃z i c,x=.str z/\y=.int i/\z.length<=NY/\jU z.cps.toList i=some c/\Q (.str ⟨#[c]⟩) H
theorem qd:Gq X (HJ X.K):=by
 intro value slice pins s σ H x y v u Q I rx ry h hs;obtain⟨p,xs,i,z,rfl,rfl,hq,he,q⟩:=h;cases rx;obtain⟨t,rfl⟩:=ry;obtain⟨its,r,pl,hz⟩:=I.list hq;obtain⟨j,h1,h2,h3,h4,h5⟩:=pI he;obtain⟨w,ew,rw'⟩:=r.get h2;have hl:=r.length;have hn:=nA;have fin:EP X pins σ Q w s:=⟨z,H,I,rw',q⟩
 by_cases h0:0<=i
 ·have hj:i.toNat=j:=by
   rw[seqIndex_of h0 h5]at h1;exact Option.some.inj h1
  exact item_listR pl.isList h0 `o (by rw[hj];simpa using ew) fin hs
 ·have hj:(i+(its.toArray.size:Int)).toNat=j:=by
   rw[seqIndex_neg `o h4]at h1;rw[Ko,<-hl];exact Option.some.inj h1
  exact subscriptTail_builtinR (x:=w) pl.isList.typeIs slot_list_getitem.lookup
   (wpAny_getItem_list_neg (Q:=λr s'=>r=w/\EP X pins σ Q r s') pl.isList `o (by rw[Ko]<;>omega) `o (by rw[hj];simpa using ew) ⟨rfl,fin⟩) hs
theorem EH:Gq X (Ie X.K):=by
 intro value slice pins s σ H x y v u Q I rx ry h hs;obtain⟨p,xs,i,z,rfl,rfl,hq,he,q⟩:=h;cases rx;obtain⟨t,rfl⟩:=ry;obtain⟨its,r,pl,hz⟩:=I.tuple hq;obtain⟨j,h1,h2,h3,h4,h5⟩:=pI he;obtain⟨w,ew,rw'⟩:=r.get h2;have hl:=r.length;have hn:=nA;have fin:EP X pins σ Q w s:=⟨z,H,I,rw',q⟩
 exact subscriptTail_builtinR (x:=w) pl.typeIs slot_tuple_getitem.lookup
  (getItem_tuple (j:=j) (Q:=λr s'=>r=w/\EP X pins σ Q r s') pl `o `o (by rw[Ko,<-hl];exact h1) (by simpa using ew) ⟨rfl,fin⟩) hs
theorem EQ:Gq X IE:=by
 intro value slice pins s σ H x y v u Q I rx ry h hs;obtain⟨z,i,c,rfl,rfl,hz,he,q⟩:=h;obtain⟨t,rfl⟩:=rx;obtain⟨t',rfl⟩:=ry;obtain⟨j,h1,h2,h3,h4,h5⟩:=pI he;have hl:z.cps.toList.length=z.length:=by simp[Str.length]
 rw[hl]at h1 h4 h5;have hn:=nA;exact tail_any (typeIs_str s z t) slot_str_getitem.lookup (getItem_str (c:=c) (by
  have e1:decide (i < -(2^63:Int))=false:=decide_eq_false `o;have e2:decide (i>=2^63)=false:=decide_eq_false `o;rw[e1,e2,Bool.or_false]) (by rw[h1];simpa using h2) ⟨.str ⟨#[c]⟩,H,I.tok _,⟨_,rfl⟩,q⟩) hs
theorem pC(lo hi:b9)(n:Nat):(sliceBounds lo hi none n).1=((HT.sIx n 0 lo:Nat):Int)/\(sliceBounds lo hi none n).2.1=((HT.sIx n n hi:Nat):Int)/\(sliceBounds lo hi none n).2.2=1:=by
 refine⟨?_,?_,rfl⟩
 ·cases lo with
  |none=>simp[sliceBounds,HT.sIx]
  |some i=>
   simp only[sliceBounds,HT.sIx,Kt,show(1:Int)>0 by decide,if_true];by_cases h:i<0
   ·simp only[h,if_true]<;>omega
   ·simp only[h,if_false]<;>omega
 ·cases hi with
  |none=>simp[sliceBounds,HT.sIx]
  |some i=>
   simp only[sliceBounds,HT.sIx,Kt,show(1:Int)>0 by decide,if_true];by_cases h:i<0
   ·simp only[h,if_true]<;>omega
   ·simp only[h,if_false]<;>omega
theorem nN(its:aE)(lo hi:b9):slicePick its.toArray lo hi none=((its.drop (HT.sIx its.length 0 lo)).take (HT.sIx its.length its.length hi-HT.sIx its.length 0 lo)).toArray:=by
 obtain⟨h1,h2,h3⟩:=pC lo hi its.toArray.size;unfold slicePick;rw[h1,h2,h3];simp only[sliceRange_one,pick_run,Ko]<;>rfl
noncomputable def HM(K:MT):V->b9->b9->Hp->VK->Prop:=λx lo hi H Q=>∃a xs,x=.ref a/\lu K H a xs/\∀p,H p=none->Q (.ref p) (upd H p (.lst (rh xs lo hi)))
theorem AW:HC X (HM X.K):=by
 intro pins s σ H x v vl vu lo hi sl Q I rx hs pl pu h;obtain⟨a,xs,rfl,hx,q⟩:=h;cases rx;obtain⟨its,r,ht,hz⟩:=I.list hx;have hlen:=r.length;refine⟨"list",_,slot_list_getitem.lookup,ht.isList.typeIs,?_⟩;refine wpAny_getItem_list_slice ht.isList hs pl pu .none (by simp) ?_ (by rw[Ko]<;>omega);rw[nN,<-hlen];refine⟨.ref s.heap.objs.size,_,I.laid (t':=s.toks) (o:=.lst (rh xs lo hi)) (λb ob q=>Nf _ q) (Ka _) ?_,rfl,q _ (I.hok.fresh (Ka _))⟩;exact⟨JY (lj xs lo hi) hz,_,0,(r.drop (HT.sIx xs.length 0 lo)).take (HT.sIx xs.length xs.length hi-HT.sIx xs.length 0 lo),Ng _ rfl⟩
noncomputable def yK:V->Bool
 |.non=>true
 |.bl _=>true
 |.int _=>true
 |.str _=>true
 |_=>false
noncomputable def Ig:V->V->Bool
 |.non,.non=>true
 |.bl a,.bl b=>a==b
 |.bl a,.int b=>(if a then 1 else 0)==b
 |.int a,.bl b=>a==(if b then 1 else 0)
 |.int a,.int b=>a==b
 |.str a,.str b=>a==b
 |_,_=>false
theorem DW{A:N4}{s:NT}{y x:V}{u v:NN}(ry:RelV y u)(rx:RelV x v)(fy:yK y=true)(fx:yK x=true):SeqAt.EqAt A s u v (Ig y x):=by
 cases y with
 |non=>
  cases ry;cases x with
  |non=>cases rx;exact SeqAt.EqAt.same _
  |bl b=>cases rx;exact SeqAt.EqAt.none_bool b
  |int b=>obtain⟨t,rfl⟩:=rx;exact SeqAt.EqAt.none_int b t
  |str b=>obtain⟨t,rfl⟩:=rx;exact SeqAt.EqAt.none_str b t
  |_=>exact absurd (show false=true from fx) J8
 |bl a=>
  cases ry;cases x with
  |non=>cases rx;exact SeqAt.EqAt.bool_none a
  |bl b=>cases rx;exact SeqAt.EqAt.bool_bool a b
  |int b=>obtain⟨t,rfl⟩:=rx;exact SeqAt.EqAt.bool_int a b t
  |str b=>obtain⟨t,rfl⟩:=rx;exact SeqAt.EqAt.bool_str a b t
  |_=>exact absurd (show false=true from fx) J8
 |int a=>
  obtain⟨t',rfl⟩:=ry;cases x with
  |non=>cases rx;exact SeqAt.EqAt.int_none a t'
  |bl b=>cases rx;exact SeqAt.EqAt.int_bool a t' b
  |int b=>obtain⟨t,rfl⟩:=rx;exact SeqAt.EqAt.int_int a t' b t
  |str b=>obtain⟨t,rfl⟩:=rx;exact SeqAt.EqAt.int_str a t' b t
  |_=>exact absurd (show false=true from fx) J8
 |str a=>
  obtain⟨t',rfl⟩:=ry;cases x with
  |non=>cases rx;exact SeqAt.EqAt.str_none a t'
  |bl b=>cases rx;exact SeqAt.EqAt.str_bool a t' b
  |int b=>obtain⟨t,rfl⟩:=rx;exact SeqAt.EqAt.str_int a t' b t
  |str b=>obtain⟨t,rfl⟩:=rx;exact SeqAt.EqAt.str_str a t' b t
  |_=>exact absurd (show false=true from fx) J8
 |_=>exact absurd (show false=true from fy) J8
theorem jF:eV X (.builtin "len") (λxs H Q=>∃p ys,xs=[.ref p]/\(lu X.K H p ys\/pV X.K H p ys)/\Q (.int ys.length) H):=by
 intro pins s σ H xs us Q I r h;obtain⟨p,ys,rfl,hq,q⟩:=h;obtain⟨u,rfl,rx⟩:=vals1 r;cases rx;have hn:=nA;rcases hq with hq|hq
 ·obtain⟨its,r',pl,hz⟩:=I.list hq;have hlen:=r'.length;exact Calls.call_len_list pl.isList (by simp only[Ko]<;>omega) ⟨.int ys.length,H,I.tok _,⟨s.toks+1,by rw[Ko,hlen]⟩,q⟩
 ·obtain⟨its,r',pl,hz⟩:=I.tuple hq;have hlen:=r'.length;exact len_tuple pl (by simp only[Ko]<;>omega) ⟨.int ys.length,H,I.tok _,⟨s.toks+1,by rw[Ko,hlen]⟩,q⟩
theorem pZ:eV X (.builtin "len") (λxs H Q=>∃z,xs=[.str z]/\z.length<=NY/\Q (.int z.length) H):=by
 intro pins s σ H xs us Q I r h;obtain⟨z,rfl,hz,q⟩:=h;obtain⟨u,rfl,t,rfl⟩:=vals1 r;have hn:=nA;exact len_str `o ⟨.int z.length,H,I.tok _,⟨_,rfl⟩,q⟩
theorem i7:eV X (.type "tuple") (λxs H Q=>∃p ys,xs=[.ref p]/\((lu X.K H p ys/\∀l,H l=none->Q (.ref l) (upd H l (.tup ys)))\/(pV X.K H p ys/\Q (.ref p) H))):=by
 intro pins s σ H xs us Q I r h;obtain⟨p,ys,rfl,h⟩:=h;obtain⟨u,rfl,rx⟩:=vals1 r;cases rx;rcases h with⟨hq,q⟩|⟨hq,q⟩
 ·obtain⟨its,r',pl,hz⟩:=I.list hq;have hlen:=r'.length;refine call_tuple_list pl.isList (λh' kp=>?_) (by simp only[Ko]<;>omega);have I1:Inv X pins σ H {s with heap:=h'}:=I.kept (t':=s.toks) kp;have I2:Inv X pins σ (upd H h'.objs.size (.tup ys)) {s with heap:=h'.push {cls:=.type "tuple",data:=.seq its.toArray}}:=
   I1.laid (t':=s.toks) (λb o e=>Nf _ e) (Ka _) (show bA X.prog X.w _ _ _ (.tup ys)from⟨hz,its,r',IsTup.new _ _⟩)
  exact⟨.ref h'.objs.size,_,I2,rfl,q _ (I1.hok.fresh (Ka _))⟩
 ·obtain⟨its,r',pl,hz⟩:=I.tuple hq;exact call_tuple_same pl ⟨.ref p,H,I,rfl,q⟩
noncomputable def Ji(K:MT)(T:String)(x:V)(H:Hp):Prop:=match x with
 |.str _=>T="str"
 |.int _=>T="int"
 |.ref p=>(T="list"/\∃xs,lu K H p xs)\/(T="tuple"/\∃o,K.lookup p=some o/\o.cls=.type "tuple"/\o.dict=none) \/
   (T="dict"/\((∃kvs,H p=some (.dK kvs))\/∃kvs,H p=some (.dT kvs)))\/(T="set"/\∃S n,H p=some (.set S n))
 |_=>False
theorem Eu{pins:aL}{σ:St}{H:Hp}{s:NT}{T:String}{x:V}{v:NN}(I:`h)(r:RelV x v)(ty:Ji X.K T x H):
  s.TypeIs v T/\∀a,v=.ref a->∃ob,s.heap.get? a=some ob/\ob.dict=none:=by
 cases x with
 |str z=>
  obtain⟨t,rfl⟩:=r;cases(show T="str"from ty);exact⟨typeIs_str s z t,λ_ e=>nomatch e⟩
 |int i=>
  obtain⟨t,rfl⟩:=r;cases(show T="int"from ty);exact⟨typeIs_int s i t,λ_ e=>nomatch e⟩
 |ref p=>
  cases r;rcases ty with⟨rfl,xs,hq⟩|⟨rfl,o,hk,hc,hd⟩|⟨rfl,hk⟩|⟨rfl,S,n,hk⟩
  ·obtain⟨its,_,pl,_⟩:=I.list hq;refine⟨pl.isList.typeIs,λa e=>?_⟩;cases e;obtain⟨o,n,e,c,hd,_⟩:=pl;exact⟨o,e,hd⟩
  ·refine⟨⟨o,I.kIn p o hk,hc⟩,λa e=>?_⟩;cases e;exact⟨o,I.kIn _ o hk,hd⟩
  ·have z:∃o,s.heap.get? p=some o/\o.ExactDict:=by
    rcases hk with⟨kvs,hk⟩|⟨kvs,hk⟩
    ·obtain⟨_,_,_,_,o,_,_,e,ex,_⟩:=I.hok p _ hk;exact⟨o,e,ex⟩
    ·obtain⟨_,_,_,_,o,_,_,e,ex,_⟩:=I.hok p _ hk;exact⟨o,e,ex⟩
   obtain⟨o,e,ex⟩:=z;refine⟨⟨o,e,ex.1⟩,λa e2=>?_⟩;cases e2;exact⟨o,e,ex.2.1⟩
  ·obtain⟨o,_,_,_,e,ex,_⟩:=I.hok p _ hk;refine⟨⟨o,e,ex.1⟩,λa e2=>?_⟩;cases e2;exact⟨o,e,ex.2.1⟩
 |_=>exact False.elim ty
noncomputable def Jz(K:MT)(T:String)(r:V->aG->Hp->VK->Prop)(to:TE)(t:TA):TE:=λσ H Q=>to σ H λx H1=>Ji K T x H1/\t σ H1 λxs H2=>r x xs H2 Q
variable{o e:NR}{es:bj}{to:TE}{t:TA}{name:Str}{apos cpos:Pos}{T id:String}{r:V->aG->Hp->VK->Prop}
theorem Gs(pa:PlainAttrs T)(slot:Slot T name id)(hty:typeOf (.builtin id)=pure (.type "method_descriptor"))(hm:JE X id r)(ho:PE X o to)(ha:PA X (e::es) t)
  (hbase:OT o name X.env (eval o X.env)=eval o X.env:=by rfl)
  (hfew:((backTo cpos (N8 (e::es) X.env)).all (fun x=>!x.1) && (backToKw cpos (OU [] X.env)).all (fun x=>x.1.isSome)
   && decide ((e::es).length+([]:List OV).length+(if([]:List OV).isEmpty then 0 else 1)<30))=true:=by rfl)
  (hline:(apos.endLine==cpos.line)=true:=by rfl) (hs:N8 (e::es) X.env=(false,eval e X.env)::N8 es X.env:=by rfl) (hplain:(backTo cpos (N8 es X.env)).any (·.1)=false:=by rfl):
  PE X (.Call (.Attribute o name apos) (e::es) [] cpos) (Jz X.K T r to t):=by
 intro pins s σ H Q I h;refine wpAny_Call_method_late hbase hfew hline rfl (cD (ho pins s σ H _ I h) λv s1 zq=>zq.elim λx zq=>zq.elim λH1 zq=>zq.elim λI1 zq=>zq.elim λr1 zq=>zq.elim λty q1=>?_);obtain⟨h1,h2⟩:=Eu I1 r1 ty;refine⟨T,id,pa,slot,hty,h1,h2,?_⟩;have hA:=ha cpos pins s1 σ H1 _ I1 q1;rw[hs]at hA ⊢;refine Calls.callWith_builtin (by show(false||(backTo cpos (N8 es X.env)).any (·.1))=false;rw[hplain]<;>rfl) (Calls.evalArgs_plain ?_);exact cD hA λus s2 zq=>zq.elim λvs zq=>zq.elim λH2 zq=>zq.elim λI2 zq=>zq.elim λr2 q2=>hm pins s2 σ H2 x vs v us Q I2 r1 r2 q2
end
noncomputable def Jc(X:Cx)(id:String)(r:V->aG->Hp->VK->Prop):Prop:=
 ∀(pins:aL)(s:NT)(σ:St)(H:Hp)(x:V)(xs:aG)(v:NN)(us:aE)(Q:VK),Inv X pins σ H s->RelV x v->Vals xs us->r x xs H Q->
  N7 `i X.A (call (.builtin id) (v::us)) (EP X pins σ Q) X.xe s
theorem Vals.one{x:V}{us:aE}(h:Vals [x] us):∃u,us=[u]/\RelV x u:=by
 cases h with|cons r t=>
 cases t;exact⟨_,rfl,r⟩
theorem Vals.two{x y:V}{us:aE}(h:Vals [x,y] us):∃u v,us=[u,v]/\RelV x u/\RelV y v:=by
 cases h with|cons r t=>
 obtain⟨v,rfl,q⟩:=Vals.one t;exact⟨_,_,rfl,r,q⟩
section
variable{X:Cx}{pins:aL}{σ:St}{H:Hp}{s:NT}{l b:NQ}{xs ys zs:aG}
theorem Inv.lset{its its':aE}{n:Nat}{f:cw->cw}{t':Nat}(I:`h)(hH:H l=some (.lst xs))
  (e:s.heap.get? l=some {cls:=.type "list",data:=.seq its.toArray n}) (hf:f its.toArray=its'.toArray) (hv:Vals ys its') (hz:ys.length<=NY):
  Inv X pins σ (upd H l (.lst ys)) {s with heap:=s.heap.update l (Obj.mapSeq f),toks:=t'}:=by
 have q:=PySem.IsL.update e f;rw[hf]at q;refine I.write (x:=l) (e:=l) (by rw[hH];exact trivial) (.inl rfl) (λb' u hb hu=>(Nh s.heap (Obj.mapSeq f) (Ne.symm hb)).trans hu) ⟨_,q⟩ ?_;exact⟨hz,its',_,hv,q⟩
theorem Inv.lnew{its:aE}{t':Nat}(I:`h)(hv:Vals ys its)(hz:ys.length<=NY):
  Inv X pins σ (upd H s.heap.objs.size (.lst ys)) {s with heap:=s.heap.push {cls:=.type "list",data:=.seq its.toArray},toks:=t'}:=
 I.laid (λ_ _ q=>Nf _ q) (Ka _) ⟨hz,its,0,hv,Ng _ rfl⟩
theorem Inv.fresh(I:`h):H s.heap.objs.size=none:=I.hok.fresh (Ka _)
theorem Inv.lstM(I:`h)(hH:H l=some (.lst xs)):xs.length<=NY/\∃(its:aE)(n:Nat),Vals xs its/\xs.length=its.length/\s.heap.get? l=some {cls:=.type "list",data:=.seq its.toArray n}:=by
 obtain⟨z,its,n,r,e⟩:=I.hok l _ hH;exact⟨z,its,n,r,r.length,e⟩
end
section
variable{X:Cx}
noncomputable def A0:V->aG->Hp->VK->Prop:=λx vs H Q=>∃l xs y,x=.ref l/\vs=[y]/\H l=some (.lst xs)/\xs.length<NY/\Q .non (upd H l (.lst (xs++[y])))
theorem wU:Jc X "list.append" A0:=by
 intro pins s σ H x vs v us Q I rx rv h;obtain⟨l,xs,y,rfl,rfl,hH,hz,q⟩:=h;cases rx;obtain⟨u,rfl,ru⟩:=rv.one;obtain⟨z,its,n,r,hl,e⟩:=I.lstM hH;refine call_meets F.slot_list_append ⟨_,e,rfl⟩ F.entry_list_append (F.args_list_append_2 _ _) (PySem.list_append l its.toArray n u (by rw[Ko];omega)) ⟨e,?_⟩;refine⟨.non,_,I.lset (its':=its++[u]) hH e (by simp) (r.append (.cons ru .nil)) ?_,rfl,q⟩;rw[Kl,Ku];omega
end
end L2
namespace Att
open PySem PySem.W PySem.Calls PyProof.Rows
theorem lw{P:Params}{h:NX}:∀(ns:List Int)(vs:List NN),WellAll P h vs (ns.map WData.int)->IntsAre vs ns:=by
 intro ns
 induction ns with
 |nil=>
  intro vs w;rw[Kv]at w;cases w;exact .nil
 |cons n ns ih=>
  intro vs w;rw[Kw]at w;cases w with
  |cons a b=>
   cases a;exact .cons _ _ (ih _ b)
theorem v9{l:OpenLaw}{n:Nat}(hn:l.most=some n){P:Params}{h:NX}{args:List WData}{vals:List NN}
  (hpre:l.row.toRowW.claim.pre args=true) (hwl:WellAll P h vals args):
  ∃a vs ns,vals=[Value.ref a]/\args=[WData.list (ns.map WData.int)]/\h.get? a=some {cls:=.type "list",data:=.seq vs.toArray}/\IntsAre vs ns/\ns.length<=n:=by
 have hsh:WShape.hasAll [] args [.list .int]=true:=(pre_splitW hpre).1;have hc:l.pre.holds [] {args:=args}=true:=(pre_splitW hpre).2;obtain⟨d,r,rfl,h1,h2⟩:=hasAllW_cons hsh;obtain rfl:=hasAllW_nil h2;obtain⟨xs,rfl,h3⟩:=hasW_list h1;obtain⟨ns,rfl⟩:=items_int h3;have hlen:ns.length<=n:=by
  unfold OpenLaw.pre at hc;have h4:(WTm.not (.lt (.lit (.int (n:Int))) (.len (.arg 0)))).holds [] {args:=[.list (ns.map .int)]}=true:=by
   have h4:=(holds_andW hc).1;rw[hn]at h4;exact h4
  have h5:=condW_of h4 (w_not (w_lt w_lit (w_len_list (w_arg rfl))));rw[Km]at h5;refine Kx λq=>?_;have q':(n:Int)<((ns.length:Nat):Int):=by omega
  first
   |(rw[decide_eq_true q']at h5;exact absurd h5 (by decide))
   |(simp at h5;omega)
 cases hwl with
 |cons w1 w2=>
  cases w2;cases w1 with
  |list ho hall=>exact⟨_,_,ns,rfl,rfl,ho,lw ns _ hall,hlen⟩
theorem xf(l:OpenLaw)(args:List WData):l.row.toRowW.claim.post args (.bool true) args=true:=
 postW_of (r:=l.row.toRowW) (X:=(true==true))
  (show WShape.has [] (.bool true) .bool=true by first|rfl|decide|simp[WShape.has,WShape.arms,WShape.armsAll])
  (show(WTm.eq .res (.lit (.bool true))).value [] {args:=args,res:=some (.bool true),after:=args}=some (.bool (true==true))from w_eq_bool (w_res rfl) w_lit) rfl
theorem C8{l:OpenLaw}{n:Nat}{q:NV}{loose:List Str}{XP:(Str->Option NN)->NX->Prop}{YP:NU->NX->Prop}{d:DefRec}
  (hn:l.most=some n) (hdf:d.params.defaults=[])
  (call:∀ (w:NU) (s₀ s₁:NT) (mg mb:Str->Option NN) (fa:NQ) (o:Obj) (pm cd doc:NN) (a:NQ) (vs:List NN) (ns:List Int),
   Ground q loose [] XP w s₀ mg mb s₁.heap->YP w s₁.heap->
   s₁.heap.get? fa=some o->o.data=.func (docDef d.name d.params d.body d.scope pm cd doc)->s₁.heap.CodeRec cd d.name->mg d.name=some (.ref fa)->
   s₁.heap.get? a=some {cls:=.type "list",data:=.seq vs.toArray}->IntsAre vs ns->ns.length<=n->s₁.gens=#[]->
   Oy (model l.prog w) callerA (.call (.ref fa) ⟨[.ref a],[]⟩) (λr s'=>r=.ok (.ret (.bool true))/\OldK s₁.heap s'.heap/\s'.os=s₁.os/\AllBare s'.gens) s₁):
  WalkO q loose XP YP l.row.toRowW d [] (λf vs=>PySem.call f vs):=by
 intro w s₀ s₁ mg mb G Y fa o pm cd doc dV kV ho hd hcd hD hmg hg args vals as hpre hlay hrd hwl hlo;obtain rfl:dV=.none:=Dflts.none hD hdf;obtain rfl:kV=.none:=Dflts.noKw hD;obtain⟨a,vs,ns,rfl,rfl,hobj,hints,hlen⟩:=v9 hn hpre hwl;refine enter_call (OW (call w s₀ s₁ mg mb fa o pm cd doc a vs ns G Y ho (fd_plain hd) hcd hmg hobj hints hlen hg) λr s' hq=>?_);obtain⟨rfl,h2,h3,h4⟩:=hq;exact⟨.inl ⟨.bool true,.bool true,[],rfl,λ_=>rfl,.bool true,xf l _,λ_=>⟨List.Pairwise.nil,λ_ hm=>(nomatch hm)⟩⟩,h2,h3,h4⟩
section
variable{prog:NV}{w:NU}{A:N4}{E:NN->NT->Prop}{s:NT}{K:Frag}
end
end Att
namespace L2
open PySem PySem.Spec PyProof.Rows
theorem pf:∀{vs:aE}{ns:List Int},IntsAre vs ns->Vals (ns.map V.int) vs
 |_,_,.nil=>.nil
 |_,_,.cons n t h=>.cons ⟨t,rfl⟩ (pf h)
noncomputable def gC(s:NS):Oz:=match s with
 |.FunctionDef _ a _ _ _ _ _ _ _ _=>a
 |_=>{posonlyargs:=[],args:=[],vararg:=none,kwonlyargs:=[],kw_defaults:=[],kwarg:=none,defaults:=[]}
noncomputable def b8(s:NS):cH:=match s with
 |.FunctionDef _ _ b _ _ _ _ _ _ _=>b
 |_=>[]
noncomputable def af(s:NS):N5:=match s with
 |.FunctionDef _ _ _ _ _ _ sc _ _ _=>sc
 |_=>{kind:=.function,names:=[],isGenerator:=false,isCoroutine:=false}
noncomputable abbrev E0:XK:=λ_ _ _=>False
structure tW(K:MT)(x qual:Str)(st:NS)(f:NQ)(fd:Ow):Prop where
 ex:∃(oc:NN)(od:Option NQ)(kV doc pm:NN)(an:Option NQ)(cdv ct:NN)(osl:Array gx),
  fd=MY x qual (gC st) (b8 st) (af st) .none kV doc pm an cdv ct/\K.lookup f=some ⟨oc,od,.func fd,osl⟩/\MZ K cdv qual=true
 kp:MV K (.ref f)=true
section
variable{P:NV}{w:NU}{K:MT}{mg:bS}{base:NX}
theorem tW.binds{x qual:Str}{st:NS}{f:NQ}{fd:Ow}{ps:aH}(F:tW K x qual st f fd)
  (h:∀(kV doc pm:NN)(an:Option NQ)(cdv ct:NN)(us:aE),us.length=ps.length->bindArgs (MY x qual (gC st) (b8 st) (af st) .none kV doc pm an cdv ct) ⟨us,[]⟩=pure (ps.zip us)):Binds K fd ps []:=by
 obtain⟨oc,od,kV,doc,pm,an,cdv,ct,osl,rfl,lk,hcd⟩:=F.ex;exact .all (h kV doc pm an cdv ct)
theorem ud{x qual:Str}{st:NS}{f:NQ}{oc:NN}{od an:Option NQ}{osl:Array gx}{kV doc pm cdv ct:NN}(l:K.lookup f=some ⟨oc,od,.func (MY x qual (gC st) (b8 st) (af st) .none kV doc pm an cdv ct),osl⟩)
  (c:MZ K cdv qual=true) (k:MV K (.ref f)=true):tW K x qual st f (MY x qual (gC st) (b8 st) (af st) .none kV doc pm an cdv ct):=⟨⟨oc,od,kV,doc,pm,an,cdv,ct,osl,rfl,l,c⟩,k⟩
end
section
variable{X:Cx}
theorem pv(i:Nat){x:Str}{pos:Pos}(hN:X.N[i]?=some x:=by rfl)(hv:Eo X.env.scope x:=by first|exact Or.inl rfl|exact Or.inr (Or.inl rfl)|exact Or.inr (Or.inr rfl))(hd:(x==("__debug__":Str))=false:=by decide)
  (hcd:(x==("__classdict__":Str))=false:=by decide):PE X (.Name x pos) (EL i):=Eg hN hv hd hcd
end
theorem AB{A B:Prop}(h:B):if false=true then A else B:=by
 rw[if_neg J8];exact h
theorem zB{A B:Prop}(h:A):if true=true then A else B:=by
 rw[if_pos rfl];exact h
noncomputable def aF(H H':Hp):Prop:=∀b o,H b=some o->H' b=some o
theorem aF.refl(H:Hp):aF H H:=λ_ _ h=>h
theorem aF.trans{H H1 H2:Hp}(a:aF H H1)(b:aF H1 H2):aF H H2:=λc o h=>b c o (a c o h)
theorem aF.free{H H':Hp}(e:aF H H'){l:NQ}(h:H' l=Option.none):H l=Option.none:=by
 cases q:H l with
 |none=>rfl
 |some o=>
  rw[e l o q]at h;cases h
theorem aF.seq{K:MT}{H H':Hp}{a:NQ}{xs:aG}(e:aF H H')(h:lu K H a xs):lu K H' a xs:=by
 rcases h with(h|⟨o,h⟩)|h
 ·exact .inl (.inl (e _ _ h))
 ·exact .inl (.inr ⟨o,e _ _ h⟩)
 ·exact .inr h
section
variable{κ:Type}[DecidableEq κ]
noncomputable def gB(kvs:List (κ×V))(k:κ):Option V:=(kvs.find? λkv=>decide (kv.1=k)).map (·.2)
noncomputable def putK(kvs:List (κ×V))(k:κ)(v:V):List (κ×V):=
 if(kvs.any λkv=>decide (kv.1=k))=true then kvs.map (λkv=>if kv.1=k then(kv.1,v)else kv)else kvs++[(k,v)]
noncomputable def jl(kvs:List (κ×V))(k:κ):List (κ×V):=kvs.filter λkv=>decide (kv.1≠k)
theorem jH{p:κ×V}{r:List (κ×V)}{k:κ}(e:p.1=k):gB (p::r) k=some p.2:=by simp[gB,Ky,e]
theorem ji{p:κ×V}{r:List (κ×V)}{k:κ}(e:¬p.1=k):gB (p::r) k=gB r k:=by simp[gB,Ky,e]
theorem rW(k:κ):∀kvs:List (κ×V),(kvs.any λkv=>decide (kv.1=k))=(gB kvs k).isSome
 |[]=>rfl
 |p::r=>by
  rw[Kz];by_cases e:p.1=k
  ·simp only[jH e,decide_eq_true e,Bool.true_or,Option.isSome_some]
  ·rw[ji e,decide_eq_false e,Bool.false_or];exact rW k r
theorem gQ(kvs:List (κ×V))(k:κ)(v:V):(putK kvs k v).length<=kvs.length+1:=by
 unfold putK;split
 ·rw[Km];omega
 ·rw[Kl,KA,KC];omega
theorem qe.isSome_eq{o:Option V}{u:gx}(r:qe o u):o.isSome=u.isSome:=by
 cases o with
 |none=>cases u with
  |none=>rfl
  |some _=>exact(show False from r).elim
 |some _=>cases u with
  |none=>exact(show False from r).elim
  |some _=>rfl
theorem qe.getD{o:Option V}{u:gx}{d:V}{d':NN}(r:qe o u)(rd:RelV d d'):RelV (o.getD d) (u.getD d'):=by
 cases o with
 |none=>cases u with
  |none=>exact rd
  |some _=>exact(show False from r).elim
 |some _=>cases u with
  |none=>exact(show False from r).elim
  |some _=>exact r
theorem KV.val{kvs:List (κ×V)}{vs:List (κ×NN)}(r:KV kvs vs)(k:κ):qe (gB kvs k) (valueAt vs k):=by
 unfold KV at r
 induction r with
 |nil=>exact True.intro
 |@cons p q ps qs h t ih=>
  obtain⟨h1,h2⟩:=h;by_cases e:p.1=k
  ·have e':q.1=k:=h1.symm.trans e;have b:valueAt (q::qs) k=some q.2:=(by simp[valueAt,Ky,e']);rw[jH e,b];exact h2
  ·have e':¬q.1=k:=λz=>e (h1.trans z);have b:valueAt (q::qs) k=valueAt qs k:=(by simp[valueAt,Ky,e']);rw[ji e,b];exact ih
theorem KV.any{kvs:List (κ×V)}{vs:List (κ×NN)}(r:KV kvs vs)(k:κ):(kvs.any λkv=>decide (kv.1=k))=vs.any λkv=>decide (kv.1=k):=by
 unfold KV at r
 induction r with
 |nil=>rfl
 |cons h t ih=>rw[Kz,Kz,ih,h.1]
theorem KV.repl{kvs:List (κ×V)}{vs:List (κ×NN)}(r:KV kvs vs)(k:κ){y:V}{u:NN}(ry:RelV y u):
  KV (kvs.map λkv=>if kv.1=k then(kv.1,y)else kv) (vs.map λkv=>if kv.1=k then(kv.1,u)else kv):=by
 unfold KV at r ⊢
 induction r with
 |nil=>exact .nil
 |@cons p q ps qs h t ih=>
  rw[Kw,Kw];refine .cons ?_ ih;obtain⟨h1,h2⟩:=h;by_cases e:p.1=k
  ·rw[if_pos e,if_pos (h1.symm.trans e)];exact⟨h1,ry⟩
  ·rw[if_neg e,if_neg (λz=>e (h1.trans z))];exact⟨h1,h2⟩
theorem KV.put{kvs:List (κ×V)}{vs:List (κ×NN)}(r:KV kvs vs)(k:κ){y:V}{u:NN}(ry:RelV y u):KV (putK kvs k y) (stored vs k u):=by
 unfold putK stored;rw[r.any k];by_cases e:(vs.any λkv=>decide (kv.1=k))=true
 ·rw[if_pos e,if_pos e];exact r.repl k ry
 ·rw[if_neg e,if_neg e];exact Paired.snoc r ⟨rfl,ry⟩
theorem KV.length{kvs:List (κ×V)}{vs:List (κ×NN)}(r:KV kvs vs):kvs.length=vs.length:=Paired.length r
end
theorem rR{P:NV}{w:NU}{k:Key}{u:NN}(r:RelV (kV k) u):(aN P w).is k u=true:=by
 cases k with
 |inl i=>obtain⟨t,e⟩:=(show∃t,u=Value.int i t from r);subst e;exact rN P w i t
 |inr x=>obtain⟨t,e⟩:=(show∃t,u=Value.str x t from r);subst e;exact rE P w x t
theorem oE{P:NV}{w:NU}:∀{ks:ay}{us:aE},Vals (ks.map kV) us->ItemsAre (aN P w) ks us
 |[],_,r=>by rw[Kv]at r;cases r;exact .nil
 |k::ks,_,r=>by
  rw[Kw]at r;cases r with
  |cons h t=>exact .cons (rR h) (oE t)
noncomputable abbrev KT(H:Hp):List (List Key×V)->List (List Key×NQ×NN)->Prop:=NW λp q=>p.1=q.1/\H q.2.1=some (.tup (p.1.map kV))/\RelV p.2 q.2.2
theorem KT.val{H:Hp}{kvs:List (List Key×V)}{xs:List (List Key×NQ×NN)}(r:KT H kvs xs)(k:ay):qe (gB kvs k) ((atKey xs k).map (·.2)):=by
 induction r with
 |nil=>exact True.intro
 |@cons p q ps qs h t ih=>
  obtain⟨h1,_,h2⟩:=h;by_cases e:p.1=k
  ·have e':q.1=k:=h1.symm.trans e;have b:atKey (q::qs) k=some q.2:=(by simp[atKey,Ky,e']);rw[jH e,b];exact h2
  ·have e':¬q.1=k:=λz=>e (h1.trans z);have b:atKey (q::qs) k=atKey qs k:=(by simp[atKey,Ky,e']);rw[ji e,b];exact ih
theorem KT.repl{H:Hp}{kvs:List (List Key×V)}{xs:List (List Key×NQ×NN)}(r:KT H kvs xs)(k:ay){y:V}{u:NN}(ry:RelV y u):
  KT H (kvs.map λkv=>if kv.1=k then(kv.1,y)else kv) (xs.map (putAt k u)):=by
 induction r with
 |nil=>exact .nil
 |@cons p q ps qs h t ih=>
  rw[Kw,Kw];refine .cons ?_ ih;obtain⟨h1,h2,h3⟩:=h;unfold putAt;by_cases e:p.1=k
  ·rw[if_pos e,if_pos (h1.symm.trans e)];exact⟨h1,h2,ry⟩
  ·rw[if_neg e,if_neg (λz=>e (h1.trans z))];exact⟨h1,h2,h3⟩
theorem KT.put{H:Hp}{kvs:List (List Key×V)}{xs:List (List Key×NQ×NN)}(r:KT H kvs xs)(k:ay){b:NQ}{y:V}{u:NN}(hb:H b=some (.tup (k.map kV)))(ry:RelV y u):
  KT H (putK kvs k y) (storedH xs k b u):=by
 have e:(kvs.any λkv=>decide (kv.1=k))=(atKey xs k).isSome:=by
  rw[rW,(r.val k).isSome_eq,Option.isSome_map]
 unfold putK storedH;rw[e];by_cases q:(atKey xs k).isSome=true
 ·rw[if_pos q,if_pos q];exact r.repl k ry
 ·rw[if_neg q,if_neg q];exact Paired.snoc r ⟨rfl,hb,ry⟩
theorem KT.keeps{H H':Hp}{kvs:List (List Key×V)}{xs:List (List Key×NQ×NN)}(r:KT H kvs xs)(ht:∀b ys,H b=some (.tup ys)->H' b=some (.tup ys)):KT H' kvs xs:=
 Paired.mapP r λ_ _ z=>⟨z.1,ht _ _ z.2.1,z.2.2⟩
section
variable{P:NV}{w:NU}{H:Hp}{h:NX}{a:NQ}
theorem Dd{u:HO}(ok:jS P w H h)(e:Rd H a u):bA P w H h a u:=e.ok ok
theorem oN{kvs:List (Key×V)}(ok:jS P w H h)(e:Rd H a (.dK kvs)):kvs.length<=NY/\(a==sysModules)=false/\∃vs,KV kvs vs/\h.DictOf (aN P w) a vs:=
 show bA P w H h a (.dK kvs)from Dd ok e
theorem G1{kvs:List (Key×V)}(ok:jS P w H h)(e:H a=some (.dK kvs)):kvs.length<=NY/\(a==sysModules)=false/\∃vs,KV kvs vs/\h.DictOf (aN P w) a vs:=oN ok (.inl e)
theorem gA{ks:ay}(ok:jS P w H h)(e:H a=some (.tup (ks.map kV))):(tupleKind (aN P w)).is h ks a:=by
 obtain⟨_,its,r,o,h1,h2,n,h3⟩:=(show bA P w H h a (.tup (ks.map kV))from ok a _ e)
 exact⟨o,its.toArray,n,h1,h2,h3,by simpa using oE r⟩
theorem lZ{kvs:List (List Key×V)}(ok:jS P w H h)(e:Rd H a (.dT kvs)):kvs.length<=NY/\(a==sysModules)=false/\
  ∃xs,KT H kvs xs/\h.DictOfH (tupleKind (aN P w)) a xs:=by
 obtain⟨z,y,xs,r,o,es,ep,h1,h2,h3,h4,h5⟩:=(show bA P w H h a (.dT kvs)from Dd ok e)
 refine⟨z,y,xs,r,o,es,ep,h1,h2,h3,h4,λx hx=>?_,h5⟩;have all:∀{l:List (List Key×V)}{m:List (List Key×NQ×NN)},KT H l m->∀x∈m,(tupleKind (aN P w)).is h x.1 x.2.1:=by
  intro l m q
  induction q with
  |nil=>intro x hx;exact nomatch hx
  |@cons p q ps qs hq t ih=>
   intro x hx;rcases List.mem_cons.mp hx with e|hx
   ·subst e;exact gA ok (by rw[<-hq.1];exact hq.2.1)
   ·exact ih x hx
 exact all r x hx
theorem De{kvs:List (List Key×V)}(ok:jS P w H h)(e:H a=some (.dT kvs)):kvs.length<=NY/\(a==sysModules)=false/\
  ∃xs,KT H kvs xs/\h.DictOfH (tupleKind (aN P w)) a xs:=lZ ok (.inl e)
end
noncomputable def uk(H:Hp)(a:NQ)(y:V)(r:Option V):Prop:=
 (∃kvs k,Rd H a (.dK kvs)/\y=kV k/\r=gB kvs k)\/∃kvs k b,Rd H a (.dT kvs)/\y=.ref b/\H b=some (.tup (k.map kV))/\r=gB kvs k
noncomputable def Gw(H:Hp)(a:NQ)(y v:V)(H':Hp):Prop:=
 (∃kvs k,H a=some (.dK kvs)/\y=kV k/\kvs.length<NY/\H'=upd H a (.dK (putK kvs k v))) \/
 ∃kvs k b,H a=some (.dT kvs)/\y=.ref b/\H b=some (.tup (k.map kV))/\kvs.length<NY/\H'=upd H a (.dT (putK kvs k v))
theorem uk.t{H:Hp}{a b:NQ}{kvs:List (List Key×V)}{k:ay}(e:H a=some (.dT kvs))(eb:H b=some (.tup (k.map kV))):uk H a (.ref b) (gB kvs k):=.inr ⟨kvs,k,b,.inl e,rfl,eb,rfl⟩
theorem Gw.t{H:Hp}{a b:NQ}{kvs:List (List Key×V)}{k:ay}{v:V}(e:H a=some (.dT kvs))(eb:H b=some (.tup (k.map kV)))(hl:kvs.length<NY):
  Gw H a (.ref b) v (upd H a (.dT (putK kvs k v))):=.inr ⟨kvs,k,b,e,rfl,eb,hl,rfl⟩
section
variable{X:Cx}{pins:aL}{σ:St}{H:Hp}{s:NT}{a:NQ}{y v:V}{u r:NN}{o:Option V}{A:N4}{E:az}
theorem Inv.big(I:`h):sysModules<s.heap.objs.size:=by
 have h:N1<s.heap.objs.size:=(I.mod.glob.keeps I.bk).lt;exact KG (by decide) h
theorem wj{Q:az}(hu:A.units+1<Ov)(I:`h)(g:uk H a y (some v))(ry:RelV y u)(h:∀w' s',Inv X pins σ H s'->RelV v w'->Q w' s'):
  N7 `i A (getItem (.ref a) u) Q E s:=by
 rcases g with⟨kvs,k,e,ey,l⟩|⟨kvs,k,b,e,ey,eb,l⟩
 ·subst ey;obtain⟨z,hd,vs,rel,dd⟩:=oN I.hok e;obtain⟨w',hw,rw'⟩:=qe.some_of (v:=v) (o:=valueAt vs k) (by rw[l];exact rel.val k);exact wpAny_getItem_of (rR ry) dd.mapOf hw (h w' _ (I.tok _) rw')
 ·subst ey;cases(show u=Value.ref b from ry);obtain⟨z,hd,xs,rel,dd⟩:=lZ I.hok e;obtain⟨w',hw,rw'⟩:=qe.some_of (v:=v) (o:=(atKey xs k).map (·.2)) (by rw[l];exact rel.val k);obtain⟨p,hp,hp2⟩:=Option.map_eq_some_iff.mp hw;refine wpAny_getItem_heap (OX hu) (gA I.hok eb) dd hp ?_;rw[hp2];exact h w' _ (I.tok _) rw'
theorem ii{h':NX}{t':Nat}{ob:HO}(I:`h)(mu:Hj (H a))(hs:Nc a s.heap h')(he:∃q,h'.get? a=some q)(new:bA X.prog X.w (upd H a ob) h' a ob):
  Inv X pins σ (upd H a ob) {s with heap:=h',toks:=t'}:=
 I.write (x:=a) (e:=a) mu (.inl rfl) (λb q hb z=>(hs.2 b hb).trans z) he new
theorem DH{P:NV}{w:NU}{H':Hp}{h':NX}{kvs:List (Key×V)}{vs:List (Key×NN)}(z:kvs.length<=NY)(hd:(a==sysModules)=false)(rel:KV kvs vs)(dd:h'.DictOf (aN P w) a vs):
  bA P w H' h' a (.dK kvs):=⟨z,hd,vs,rel,dd⟩
theorem nY{H':Hp}{Q:Unit->bn}(hu:A.units+1<Ov)(I:`h)(g:Gw H a y v H')(ry:RelV y u)(rv:RelV v r)(h:∀s',Inv X pins σ H' s'->Q () s'):
  N7 `i A (setItem (.ref a) u r) Q E s:=by
 rcases g with⟨kvs,k,e,ey,l,eH⟩|⟨kvs,k,b,e,ey,eb,l,eH⟩
 ·subst ey eH;obtain⟨z,hd,vs,rel,dd⟩:=G1 I.hok e;have hz:vs.length<=NY:=by rw[<-rel.length];exact z
  have hl:(putK kvs k v).length<=NY:=by have:=gQ kvs k v;omega
  refine wpAny_setItem_pairs (hsz:=hz) (rR ry) dd λh' dd' hs=>h _ ?_;have he:∃q,h'.get? a=some q:=let ⟨q,_,_,hq,_⟩:=dd';⟨q,hq⟩
  exact ii I (by rw[e];exact True.intro) hs he (DH hl hd (rel.put k rv) dd')
 ·subst ey eH;cases(show u=Value.ref b from ry);obtain⟨z,hd,xs,rel,dd⟩:=De I.hok e;have hz:xs.length<=NY:=by rw[<-Paired.length rel];exact z
  have hl:(putK kvs k v).length<=NY:=by have:=gQ kvs k v;omega
  refine wpAny_setItem_heap (hsz:=hz) (OX hu) (gA I.hok eb) dd λh' dd' hs=>h _ ?_;obtain⟨q,es,ep,hq,h2,h3,h4,_,h5⟩:=dd';refine ii I (by rw[e];exact True.intro) hs ⟨q,hq⟩ ⟨hl,hd,_,(rel.put k eb rv).keeps λc ys ec=>?_,q,es,ep,hq,h2,h3,h4,h5⟩;rw[ao (yu ec e (λz=>nomatch z))];exact ec
end
noncomputable def Fk(i:NR):Prop:=∀ov iv,subscripted i false ov iv=operate [ov,iv] (getItem ov iv)
theorem Bn{prog:NV}{w:NU}{A:N4}{E:az}{s:NT}{env:Env}{value slice:NR}{pos:Pos}{T id:String}{Q:az}
  (hl:typeLookup (.type T) "__getitem__"=pure (some (.builtin id))) (hs:Fk slice)
  (h:N7 `g A (eval value env) (λo s₁=>N7 `g A (eval slice env) (λi s₂=>s₂.TypeIs o T/\N7 `g A (getItem o i) Q E s₂) E s₁) E s):
  N7 `g A (eval (.Subscript value slice pos) env) Q E s:=by
 refine OS (N9 h (λo s₁ h₁=>N9 h₁ (λi s₂ h₂=>?_) λ_ _ x=>x) λ_ _ x=>x);obtain⟨hT,h₂⟩:=h₂;unfold subscriptTail;refine Oj ?_;rw[getitemInPython_of_ne hT.not_modules];refine Oj (OY hT hl ?_);have fin:N7 `g A (subscripted slice false o i) (λr s₃=>N7 `g A (letTemporaryGo value o r >>= λ_=>pure r) Q E s₃) E s₂:=by
  rw[hs o i];exact wpAny_operating (N9 h₂ (λr s₃ h₃=>Oj (wpAny_letTemporaryGo (Oi h₃))) λ_ _ x=>x)
 first
  |exact Oi (Oj fin)
  |exact Oj (Oi (Oj fin))
  |exact Oj fin
theorem qK{X:Cx}{pins:aL}{σ:St}{H:Hp}{s:NT}{a:NQ}{y:V}{o:Option V}(I:`h)(g:uk H a y o):s.TypeIs (.ref a) "dict":=by
 rcases g with⟨kvs,k,e,_,_⟩|⟨kvs,k,b,e,_,_,_⟩
 ·obtain⟨_,_,vs,_,dd⟩:=oN I.hok e;exact dd.typeIs
 ·obtain⟨_,_,xs,_,dd⟩:=lZ I.hok e;exact dd.typeIs
noncomputable def F6(td ty:TE):TE:=λσ H Q=>td σ H λx H1=>ty σ H1 λy H2=>∃a v,x=.ref a/\uk H2 a y (some v)/\Q v H2
section
variable{X:Cx}{o i e value:NR}{pos pos' tpos:Pos}{td ty tv:TE}
theorem Cz(hu:X.A.units+1<Ov)(ho:PE X o td)(hi:PE X i ty)(hs:Fk i):PE X (.Subscript o i pos) (F6 td ty):=by
 intro pins s σ H Q I h;refine Bn PySem.F.slot_dict_getitem.lookup hs (cD (ho pins s σ H _ I h) λu s1 zq=>zq.elim λx zq=>zq.elim λH1 zq=>zq.elim λI1 zq=>zq.elim λrx q1=>cD (hi pins s1 σ H1 _ I1 q1) λiv s2 zq=>zq.elim λy zq=>zq.elim λH2 zq=>zq.elim λI2 zq=>zq.elim λry zq=>zq.elim λa zq=>zq.elim λv zq=>zq.elim λex zq=>zq.elim λg q2=>?_);subst ex;obtain rfl:u=Value.ref a:=rx;exact⟨qK I2 g,wj hu I2 g ry λw' s3 I3 rw'=>⟨v,H2,I3,rw',q2⟩⟩
end
theorem yV{P:NV}{w:NU}{H:Hp}(h:NX)(hb:sysModules<h.objs.size):bA P w H (h.push {cls:=.type "dict",data:=.dict #[]}) h.objs.size (.dT []):=
 ⟨KH _,beq_eq_false_iff_ne.mpr (Ne.symm (JX hb)),[],.nil,_,#[],0,Ng _ rfl,⟨rfl,rfl,rfl⟩,rfl,rfl,KI⟩
noncomputable def zp:TE:=λ_ H Q=>∀p,H p=none->Q (.ref p) (upd H p (.dT []))
section
variable{X:Cx}{pos:Pos}
theorem xS:PE X (.Dict [] [] pos) zp:=λpins s σ H Q I h=>
 wpAny_Dict_empty ⟨.ref s.heap.objs.size,_,I.laid (a:=s.heap.objs.size) (o:=.dT []) (t':=s.toks) (λ_ _ q=>Nf _ q) (Ka _) (yV s.heap I.big),rfl,h _ (I.hok.fresh (Ka _))⟩
end
structure M1(X:Cx)(o:NR)(m:Str)(apos:Pos)(e:NR)(cpos:Pos):Prop where
 base:OT o m X.env (eval o X.env)=eval o X.env
 few:((backTo cpos (N8 [e] X.env)).all (λx=>!x.1)&&(backToKw cpos (OU [] X.env)).all (λx=>x.1.isSome)
  && decide (([e]:bj).length+([]:List OV).length+(if([]:List OV).isEmpty then 0 else 1)<30))=true
 line:(apos.endLine==cpos.line)=true
 trees:backTo cpos (N8 [e] X.env)=[(false,eval e X.env)]
structure M2(X:Cx)(o:NR)(m:Str)(apos:Pos)(e f:NR)(cpos:Pos):Prop where
 base:OT o m X.env (eval o X.env)=eval o X.env
 few:((backTo cpos (N8 [e,f] X.env)).all (λx=>!x.1)&&(backToKw cpos (OU [] X.env)).all (λx=>x.1.isSome)
  && decide (([e,f]:bj).length+([]:List OV).length+(if([]:List OV).isEmpty then 0 else 1)<30))=true
 line:(apos.endLine==cpos.line)=true
 trees:backTo cpos (N8 [e,f] X.env)=[(false,eval e X.env),(false,eval f X.env)]
noncomputable def IZ(H:Hp)(a:NQ):Prop:=(∃kvs,Rd H a (.dK kvs))\/∃kvs,Rd H a (.dT kvs)
theorem zn{X:Cx}{pins:aL}{σ:St}{H:Hp}{s:NT}{a:NQ}(I:`h)(d:IZ H a):
  s.TypeIs (.ref a) "dict"/\(∀b,Value.ref a=.ref b->∃ob,s.heap.get? b=some ob/\ob.dict=none)/\(a==sysModules)=false:=by
 rcases d with⟨kvs,e⟩|⟨kvs,e⟩
 ·obtain⟨_,hd,vs,_,dd⟩:=oN I.hok e;refine⟨dd.typeIs,λb q=>?_,hd⟩;cases q;obtain⟨ob,_,_,h1,h2,_⟩:=dd;exact⟨ob,h1,h2.2.1⟩
 ·obtain⟨_,hd,xs,_,dd⟩:=lZ I.hok e;refine⟨dd.typeIs,λb q=>?_,hd⟩;cases q;obtain⟨ob,_,_,h1,h2,_⟩:=dd;exact⟨ob,h1,h2.2.1⟩
section
variable{X:Cx}{pins:aL}{σ:St}{H:Hp}{s:NT}{a:NQ}{y d:V}{u r:NN}{o:Option V}{A:N4}{E:az}
theorem Am{Q:az}(hu:A.units+1<Ov)(I:`h)(g:uk H a y o)(ry:RelV y u)(h:∀w' s',Inv X pins σ H s'->RelV (o.getD .non) w'->Q w' s'):
  N7 `i A (call (.builtin "dict.get") [.ref a,u]) Q E s:=by
 rcases g with⟨kvs,k,e,ey,l⟩|⟨kvs,k,b,e,ey,eb,l⟩
 ·subst ey;obtain⟨z,hd,vs,rel,dd⟩:=oN I.hok e;refine OZ NB dd.typeIs NC (ND _ _) (meets_dict_get (aN X.prog X.w) a (rR ry) hd) ⟨_,dd.mapOf,h _ _ (I.tok _) ?_⟩;rw[l];exact(rel.val k).getD rfl
 ·subst ey;cases(show u=Value.ref b from ry);obtain⟨z,hd,xs,rel,dd⟩:=lZ I.hok e;refine OZ NB dd.typeIs NC (ND _ _) (meetsH_dict_get (tupleKind (aN X.prog X.w)) a b hd) ⟨OX hu,k,xs,gA I.hok eb,dd,h _ _ (I.tok _) ?_⟩;rw[l];exact(rel.val k).getD rfl
theorem yD{Q:az}(hu:A.units+1<Ov)(I:`h)(g:uk H a y o)(ry:RelV y u)(rd:RelV d r)(h:∀w' s',Inv X pins σ H s'->RelV (o.getD d) w'->Q w' s'):
  N7 `i A (call (.builtin "dict.get") [.ref a,u,r]) Q E s:=by
 rcases g with⟨kvs,k,e,ey,l⟩|⟨kvs,k,b,e,ey,eb,l⟩
 ·subst ey;obtain⟨z,hd,vs,rel,dd⟩:=oN I.hok e;refine OZ NB dd.typeIs NC (NE _ _ _) (meets_dict_get_default (aN X.prog X.w) a (rR ry) hd r) ⟨_,dd.mapOf,h _ _ (I.tok _) ?_⟩;rw[l];exact(rel.val k).getD rd
 ·subst ey;cases(show u=Value.ref b from ry);obtain⟨z,hd,xs,rel,dd⟩:=lZ I.hok e;refine OZ NB dd.typeIs NC (NE _ _ _) (meetsH_dict_get_default (tupleKind (aN X.prog X.w)) a b hd r) ⟨OX hu,k,xs,gA I.hok eb,dd,h _ _ (I.tok _) ?_⟩;rw[l];exact(rel.val k).getD rd
end
noncomputable def bT(cells:jN):mG->jN->jN
 |[],acc=>acc
 |(n,k)::r,acc=>if k=.free then(match cells.lookup n with|some c=>bT cells r ((n,c)::acc)|none=>bT cells r acc)else bT cells r acc
theorem ir{cells:jN}:∀(names:mG)(acc:jN),(∀x c,acc.lookup x=some c->cells.lookup x=some c)->
  ∀x c,(bT cells names acc).lookup x=some c->cells.lookup x=some c
 |[],acc,h=>h
 |(n,k)::r,acc,h=>by
  unfold bT;by_cases hk:k=.free
  ·rw[if_pos hk];cases e:cells.lookup n with
   |none=>exact ir r acc h
   |some c0=>
    refine ir r _ λx c q=>?_;rw[KJ]at q;cases hx:x==n with
    |true=>
     rw[hx]at q;have e1:x=n:=(by simpa using hx);cases q;rw[e1];exact e
    |false=>rw[hx]at q;exact h x c q
  ·rw[if_neg hk];exact ir r acc h
theorem gG{cells:jN}:∀(names:mG)(acc:jN)(x:Str),(acc.lookup x).isSome=true->((bT cells names acc).lookup x).isSome=true
 |[],acc,x,h=>h
 |(n,k)::r,acc,x,h=>by
  unfold bT;by_cases hk:k=.free
  ·rw[if_pos hk];cases e:cells.lookup n with
   |none=>exact gG r acc x h
   |some c0=>
    refine gG r _ x ?_;rw[KJ];cases hx:x==n with
    |true=>rfl
    |false=>exact h
  ·rw[if_neg hk];exact gG r acc x h
theorem fJ{cells:jN}:∀(names:mG)(acc:jN)(x:Str),(x,NameKind.free)∈names->(∃c,cells.lookup x=some c)->((bT cells names acc).lookup x).isSome=true
 |[],acc,x,h,_=>absurd h (by simp)
 |(n,k)::r,acc,x,h,hc=>by
  unfold bT;rcases List.mem_cons.mp h with e|h
  ·cases e;rw[if_pos rfl];obtain⟨c,e⟩:=hc;rw[e];refine gG r _ _ ?_;rw[KJ];simp
  ·by_cases hk:k=.free
   ·rw[if_pos hk];cases e:cells.lookup n with
    |none=>exact fJ r acc x h hc
    |some c0=>exact fJ r _ x h hc
   ·rw[if_neg hk];exact fJ r acc x h hc
theorem jP{scope:N5}{env:Env}(h:∀p∈scope.names,p.2=.free->∃c,env.cells.lookup p.1=some c):closureFor scope env=pure (bT env.cells scope.names []):=by
 have go:∀(names:mG)(acc:jN),(∀p∈names,p.2=.free->∃c,env.cells.lookup p.1=some c)->
   (forIn names acc λx cs=>(match x with|(name,kind)=>if(kind==NameKind.free)=true then do let a<-cellOf env name;pure (ForInStep.yield ((name,a)::cs))else pure (ForInStep.yield cs):Sem (ForInStep jN)))=pure (bT env.cells names acc):=by
  intro names
  induction names with
  |nil=>intro acc _;rfl
  |cons p r ih=>
   intro acc hp;obtain⟨n,k⟩:=p;rw[List.forIn_cons];by_cases hk:k=.free
   ·obtain⟨c,e⟩:=hp (n,k) J3 hk;subst hk;have e2:cellOf env n=pure c:=(by unfold cellOf;rw[e]);simp only[beq_self_eq_true,if_true,e2,pure_bind];rw[ih _ λq hq=>hp q (J4 _ hq)]
    conv=>rhs;rw[bT]
    simp[e]
   ·have hb:(k==NameKind.free)=false:=(by simpa using hk);simp only[hb,KL,if_false,pure_bind];rw[ih _ λq hq=>hp q (J4 _ hq)]
    conv=>rhs;rw[bT,if_neg hk]
 have:=go scope.names [] h
 unfold closureFor;simp only[];rw[this];rfl
noncomputable def bf(X:Cx)(scope:N5)(N:aH)(cl:jN)(C:NQ)(fp:ak)(s:NT)(H:Hp)(E:az):Cx where
 prog:=X.prog
 w:=X.w
 K:=X.K
 mg:=X.mg
 base:=X.base
 A:=X.A
 N:=N
 s₀:=s
 H₀:=H
 env:=compEnvC scope cl C X.env
 outer:=X.stack
 stack:=X.stack
 ex:=fp
 fn:=λ_=>false
 calm:=X.calm
 pn:=[]
 xe:=E
noncomputable def pP(XN N:aH)(names:mG)(ix:dS):Bool:=
 decide (ix.length=N.length)&&(N.zip ix).all λp=>match p.2 with
  |some i=>decide (XN[i]?=some p.1)&&decide (names.lookup p.1=some .free)
  |none=>true
noncomputable def inBlock(ix:dS)(σ:St):St:=ix.map λo=>match o with
 |some i=>(σ[i]?).getD none
 |none=>none
theorem pP.len{XN N:aH}{names:mG}{ix:dS}(h:pP XN N names ix=true):ix.length=N.length:=by
 unfold pP at h;rw[Kr]at h;exact of_decide_eq_true h.1
theorem pP.at_{XN N:aH}{names:mG}{ix:dS}(h:pP XN N names ix=true){j i:Nat}{x:Str}(h1:N[j]?=some x)(h2:ix[j]?=some (some i)):XN[i]?=some x/\names.lookup x=some .free:=by
 unfold pP at h;rw[Kr]at h;have hm:(x,some i)∈N.zip ix:=by
  have e:(N.zip ix)[j]?=some (x,some i):=by rw[List.getElem?_zip_eq_some];exact⟨h1,h2⟩
  exact Kk e
 have q:=List.all_eq_true.mp h.2 _ hm;simp only[Kr]at q;exact⟨of_decide_eq_true q.1,of_decide_eq_true q.2⟩
theorem gX{env:Env}:∀{names:mG}{x:Str}{k:NP},
  (names.map λ(n,k)=>if(k==NameKind.free&&env.scope.kind==.function&&env.kindOf n==some .cell)then(n,NameKind.cell)else(n,k)).lookup x=some k->
  names.lookup x=some k\/(names.lookup x=some .free/\k=.cell)
 |[],_,_,h=>by simp at h
 |(n,k0)::r,x,k,h=>by
  have ih:=@gX env r x k
  replace h:List.lookup x ((if(k0==NameKind.free&&env.scope.kind==.function&&env.kindOf n==some .cell)=true then(n,NameKind.cell)else(n,k0))::(r.map λ(n,k)=>if(k==NameKind.free&&env.scope.kind==.function&&env.kindOf n==some .cell)then(n,NameKind.cell)else(n,k)))=some k:=h
  by_cases hc:(k0==NameKind.free&&env.scope.kind==.function&&env.kindOf n==some .cell)=true
  ·rw[if_pos hc]at h;have hk0:k0=.free:=by
    simp only[Kr]at hc
    simpa using hc.1.1
   cases hx:x==n with
   |true=>
    simp only[KJ,hx]at h;simp only[KJ,hx];cases h;exact .inr ⟨by rw[hk0],rfl⟩
   |false=>
    simp only[KJ,hx]at h ⊢;exact ih h
  ·rw[if_neg hc]at h;cases hx:x==n with
   |true=>
    simp only[KJ,hx]at h ⊢;exact .inl h
   |false=>
    simp only[KJ,hx]at h ⊢;exact ih h
noncomputable def FC(X:Cx)(ifs:bj)(t:TT):Prop:=
 ∀(pins:aL)(s:NT)(σ:St)(H:Hp)(Q:Bool->Hp->Prop),Inv X pins σ H s->t σ H Q->
  N7 `i X.A (forIn ifs true λc r=>if r=true then do let ok<-isTrue c X.env (eval c X.env);pure (ForInStep.yield ok)else pure (ForInStep.yield r)) (TP X pins σ Q) X.xe s
noncomputable def Gd:TT:=λ_ H Q=>Q true H
theorem Cq{X:Cx}:FC X [] Gd:=λ_ _ _ H _ I h=>wpAny_tests_nil ⟨H,I,h⟩
theorem Bg{X:Cx}{c:NR}{t:TT}(h:PT X c t):FC X [c] t:=λpins s σ H Q I q=>wpAny_tests_one (h pins s σ H Q I q)
theorem ic{prog:NV}{w:NU}{A:N4}{R:Result->bn}{s:NT}{elt target iter:NR}{ifs:bj}{scope:N5}{pos:Pos}{it acc:NN}{env:Env}(I:Nat->bn)
  (turn:∀ n s,I n s->N7 `g A (pyNext it) (fun r s₁=>match r with
   |none=>R (.ok .next) s₁
   |some v=>N7 `g A (letOwnedTupleGo target it v) (λ_ s₁'=>N7 `g A (assign target env v) (λ_ s₂=>
     N7 `g A (forIn ifs true λc r=>if r=true then do let ok<-isTrue c env (eval c env);pure (ForInStep.yield ok)else pure (ForInStep.yield r)) (λok s₃=>
      if ok=true then N7 `g A (eval elt env) (λx s₄=>
       N7 `g A (call (.builtin "list.append") [acc,x]) (λ_ s₅=>∃m,m<n/\I m s₅) (notedBy `g A env λe s'=>R (.error e) s') s₄) (notedBy `g A env λe s'=>R (.error e) s') s₃
      else∃m,m<n/\I m s₃) (notedBy `g A env λe s'=>R (.error e) s') s₂) (notedBy `g A env λe s'=>R (.error e) s') s₁') (notedBy `g A env λe s'=>R (.error e) s') s₁) (notedBy `g A env λe s'=>R (.error e) s') s)
  (n:Nat) (h:I n s):
  Oy `g A (.compLoop (.ListComp elt [⟨target,iter,ifs,0⟩] scope pos) 0 it acc env) R s:=by
 refine codeAny_loop rfl I (λn s hI=>?_) n h;show N7 _ A ((compTurn (.ListComp elt [⟨target,iter,ifs,0⟩] scope pos) 0 it acc env).onRaise (λx=>do noteFrame x env;theTreesLotGoes x)) _ _ s;refine wpAny_noted ?_;rw[compTurn_list];refine Oj (O0 (Oj (N9 (turn n s hI) (λr s₁ h₁=>?_) λ_ _ h'=>h')));cases r with
 |none=>exact Oi h₁
 |some v=>
  refine Oj (N9 h₁ (λ_ s₁' h₁'=>?_) λ_ _ h'=>h');refine Oj (N9 h₁' (λ_ s₂ h₂=>Oj (N9 h₂ (λok s₃ h₃=>?_) λ_ _ h'=>h')) λ_ _ h'=>h');cases ok with
  |false=>exact Oi ⟨rfl,h₃⟩
  |true=>
   exact Oj (Oj (N9 h₃ (λx s₄ h₄=>Oj (N9 h₄ (λ_ s₅ h₅=>Oi (Oi ⟨rfl,h₅⟩)) λ_ _ h'=>h')) λ_ _ h'=>h'))
noncomputable def HA(wi:TI)(g:TG)(tc:TT)(te:TE)(ix:dS):TE:=λσ H Q=>
 wi σ H λJ H1=>∀D,H1 D=none->∃W:Nat->Nat->St->Hp->Prop,(∃m,W 0 m (inBlock ix σ) (upd H1 D (.lst [])))/\
  ∀i m σ' H',W i m σ' H'->(J.stop i H'/\Q (.ref D) H') \/
   (J.go i H'/\∀ x H2,J.yld i H' x H2->g x σ' H2 fun σ3 H3=>tc σ3 H3 fun b H4 =>
    if b=true then te σ3 H4 λv H5=>∃acc,H5 D=some (.lst acc)/\acc.length<NY/\∃m',m'<m/\W (i+1) m' σ3 (upd H5 D (.lst (acc++[v])))
    else∃m',m'<m/\W (i+1) m' σ3 H4)
section
variable{X:Cx}{elt tg iter:NR}{ifs:bj}{scope:N5}{pos:Pos}{N:aH}{ix:dS}{wi:TI}{g:TG}{tc:TT}{te:TE}
theorem lY{pins:aL}{σ:St}{s2:NT}{H2:Hp}{it:NQ}{fp:ak}{tn:Nat->NX->Prop}{J:It}{Q:V->Hp->Prop}{E:az}{RR:NN->NQ->Result->bn}
    (hc:X.calm=true) (hcell:∀y∈scope.names,y.2≠.cell) (hkind:scope.kind=.function)
    (hfr:∀y∈scope.names,y.2=.free->X.env.scope.names.lookup y.1=some .cell\/X.env.scope.names.lookup y.1=some .free)
    (hix:pP X.N N scope.names ix=true)
    (hb:∀cl C fp s H E,PG (bf X scope N cl C fp s H E) tg g/\FC (bf X scope N cl C fp s H E) ifs tc/\PE (bf X scope N cl C fp s H E) elt te)
    (I2:Inv X pins σ H2 s2) (T:Turn X.prog X.w X.K tg J fp it tn) (st2:tn 0 s2.heap) (f2:∀b∈fp,pQ X pins H2 b)
    (q:∀ D,H2 D=none->∃ W:Nat->Nat->St->Hp->Prop,(∃ m,W 0 m (inBlock ix σ) (upd H2 D (.lst []))) /\
      ∀i m σ' H',W i m σ' H'->(J.stop i H'/\Q (.ref D) H') \/
        (J.go i H'/\∀ x H3,J.yld i H' x H3->g x σ' H3 fun σ3 H3=>tc σ3 H3 fun b H4 =>
          if b=true then te σ3 H4 λv H5=>∃acc,H5 D=some (.lst acc)/\acc.length<NY/\∃m',m'<m/\W (i+1) m' σ3 (upd H5 D (.lst (acc++[v])))
          else∃m',m'<m/\W (i+1) m' σ3 H4))
    (hRR:∀D C H' s' m,H2 D=none->s2.heap.objs.size<=C->H' C=none->s'.heap.Ns C m->(∀h',Nc C s'.heap h'->Inv X pins σ H' {s' with heap:=h'})->Q (.ref D) H'->RR (.ref D) C (.ok .next) s'):
    N7 `i X.A (newList []) (λacc s₃=>N7 `i X.A (newFunctionEnv scope X.env.globals (bT X.env.cells scope.names []) [] X.env.qual none .none (some X.env)) (λcenv s₄=>
      Oy `i X.A (.compStart (.ListComp elt [⟨tg,iter,ifs,0⟩] scope pos) 0 (.ref it) acc {cenv with scope:=relabel scope X.env}) (RR acc cenv.locals) s₄) E s₃) E s2:=by
  refine OO (wpAny_newFunctionEnv hcell (by intro y hy;simp at hy) (λh₁ hns₁ hsb₁=>?_) hkind);dsimp only at hns₁ hsb₁ ⊢;have I3:Inv X pins σ (upd H2 s2.heap.objs.size (.lst [])) {s2 with heap:=s2.heap.push {cls:=.type "list",dict:=none,data:=.seq ([]:aE).toArray},toks:=s2.toks}:=I2.lnew (its:=[]) (t':=s2.toks) .nil (KH _);generalize hs3:({s2 with heap:=s2.heap.push {cls:=.type "list",dict:=none,data:=.seq ([]:aE).toArray},toks:=s2.toks}:NT)=s3 at I3;have eh3:s2.heap.push {cls:=.type "list",dict:=none,data:=.seq ([]:aE).toArray}=s3.heap:=by rw[<-hs3]
  rw[eh3]at hns₁ hsb₁ ⊢;have hC3:s3.heap.objs.size=s2.heap.objs.size+1:=by rw[<-eh3,Ni]
  have hD:H2 s2.heap.objs.size=none:=I2.fresh;obtain⟨W,⟨m0,w0⟩,turn⟩:=q s2.heap.objs.size hD;generalize hH3:upd H2 s2.heap.objs.size (.lst [])=H3 at I3 w0;have old:∀b o,s3.heap.get? b=some o->h₁.get? b=some o:=λb o e=>hsb₁.extBut b o (JX (M8 e)) (Nf _ e);have fpH3:∀b∈fp,H3 b=none:=λb hb'=>by
    rw[<-hH3,ao]
    ·exact(f2 b hb').1
    · obtain⟨o,e,_⟩:=T.obj _ _ st2 b hb'
      exact JX (M8 e)
  have fpLt:∀b∈fp,b<s3.heap.objs.size:=λb hb'=>by
    obtain⟨o,e,_⟩:=T.obj _ _ st2 b hb';rw[hC3];exact KN (M8 e)
  have hfree:∀p∈scope.names,p.2=.free->∃c,X.env.cells.lookup p.1=some c:=λp hp hk=>I2.ok.has p.1 (hfr p hp hk);have csub:∀x c,(bT X.env.cells scope.names []).lookup x=some c->X.env.cells.lookup x=some c:=ir scope.names [] (λx c e=>by simp at e);have names':∀x k,(relabel scope X.env).names.lookup x=some k->scope.names.lookup x=some k\/(scope.names.lookup x=some .free/\k=.cell):=λx k h=>gX h;have ok:(bf X scope N (bT X.env.cells scope.names []) s3.heap.objs.size fp s3 H3 (notedBy `i X.A (compEnvC scope (bT X.env.cells scope.names []) s3.heap.objs.size X.env) λe s'=>RR (.ref s2.heap.objs.size) s3.heap.objs.size (.error e) s')).Ok:=
    { mod:=I3.ok.mod
      kind:=hkind
      glob:=I3.ok.glob
      blt:=I3.ok.blt
      above:=Ka _
      inj:=λx y c h1 h2=>I3.ok.inj x y c (csub x c h1) (csub y c h2)
      has:=λx hx=>by
        have fr:scope.names.lookup x=some .free:=by
          rcases hx with hx|hx
          · rcases names' x .cell hx with h|⟨h,_⟩
            ·exact absurd rfl (hcell _ (PySem.mem_of_lookup h))
            ·exact h
          · rcases names' x .free hx with h|⟨_,h⟩
            ·exact h
            ·cases h
        have hm:=PySem.mem_of_lookup fr;exact Option.isSome_iff_exists.mp (fJ scope.names [] x hm (hfree _ hm rfl))
      cab:=λx c h _=>by cases h
      hd:=I3.ok.hd
      frames:=I3.ok.frames
      stk:=.inl rfl
      exf:=λb hb'=>⟨JX (fpLt b hb'),λx c e=>(f2 b hb').2.2.2.2.1 x c (csub x c e)⟩
      bs:=λb o e=>I3.bs b o e
      bsz:=JY I3.ok.bsz I3.sz
      noex:=λb o e hb'=>by
        obtain⟨_,_,_,h4,_⟩:=f2 b hb';rcases h4 with h4|h4
        ·exact I3.ok.noex b o e h4
        ·exact absurd (JV (M8 (I3.ok.bs b o e).1) h4) (JW _)
      exfs:=λb hb' hs=>by
        obtain⟨_,h2,h3,_⟩:=f2 b hb';rcases List.mem_cons.mp (I3.stkSub b hs)with e|e
        ·exact h2 e
        ·exact h3 e
      funs:=I3.stack
      frf:=λb hb'=>I3.stkFree b hb'}
  generalize hE:(notedBy `i X.A (compEnvC scope (bT X.env.cells scope.names []) s3.heap.objs.size X.env) λe s'=>RR (.ref s2.heap.objs.size) s3.heap.objs.size (.error e) s')=E' at ok;obtain⟨hg,htc,hel⟩:=hb (bT X.env.cells scope.names []) s3.heap.objs.size fp s3 H3 E';have Istart:∀tk,Inv (bf X scope N (bT X.env.cells scope.names []) s3.heap.objs.size fp s3 H3 E') [] (inBlock ix σ) H3 {s3 with heap:=h₁,toks:=tk}:=λtk=>by
    refine⟨ok,rfl,I3.bare,Un.kept old,⟨_,hns₁,λj x v e1 e2 _=>?_⟩,λx c e=>?_,I3.fresh,λx c e=>I3.freeC x c (csub x c e),λp hp=>absurd (show p∈([]:aL)from hp) (by simp),I3.hok.kept old,?_⟩
    ·
      unfold inBlock at e2;rw[Ki]at e2;cases q1:ix[j]? with
      |none=>rw[q1]at e2;simp at e2
      |some o=>
        rw[q1]at e2;cases o with
        |none=>simp at e2
        |some i=>
          obtain⟨n1,n2⟩:=pP.at_ hix e1 q1;have e2':(σ[i]?).getD none=some v:=Option.some.inj e2;have e3:σ[i]?=some (some v):=by
            cases q2:σ[i]? with
            |none=>rw[q2]at e2';simp at e2'
            |some o2=>rw[q2]at e2';simpa using e2'
          obtain⟨m,hn,hl⟩:=I3.loc;have hm:=PySem.mem_of_lookup n2;have hk:=hfr _ hm rfl;have hv:Eo X.env.scope x:=by
            rcases hk with hk|hk
            ·exact .inr (.inl hk)
            ·exact .inr (.inr hk)
          obtain⟨u,r,l⟩:=hl i x v n1 e3 hv;refine⟨u,r,.inr ?_⟩;rcases l with⟨kl,_⟩|⟨_,c,hcx,hcell'⟩
          · have kl':X.env.scope.names.lookup x=some .local:=kl
            rcases hk with hk|hk
            ·rw[kl']at hk;cases hk
            ·rw[kl']at hk;cases hk
          · obtain⟨c',hc'⟩:=Option.isSome_iff_exists.mp (fJ (cells:=X.env.cells) scope.names [] x hm ⟨c,hcx⟩)
            have ec:c'=c:=Option.some.inj ((csub x c' hc').symm.trans hcx);subst ec;refine⟨?_,c',hc',?_⟩
            ·
              show(relabel scope X.env).names.lookup x=some .cell\/(relabel scope X.env).names.lookup x=some .free;have gen:∀names:mG,names.lookup x=some .free->((names.map λ(n,k)=>if(k==NameKind.free&&X.env.scope.kind==.function&&X.env.kindOf n==some .cell)then(n,NameKind.cell)else(n,k)).lookup x=some .cell\/(names.map λ(n,k)=>if(k==NameKind.free&&X.env.scope.kind==.function&&X.env.kindOf n==some .cell)then(n,NameKind.cell)else(n,k)).lookup x=some .free):=by
                intro names
                induction names with
                |nil=>intro h;simp at h
                |cons p r ih=>
                  obtain⟨n,k⟩:=p;intro h;show List.lookup x ((if(k==NameKind.free&&X.env.scope.kind==.function&&X.env.kindOf n==some .cell)=true then(n,NameKind.cell)else(n,k))::_)=_\/List.lookup x ((if(k==NameKind.free&&X.env.scope.kind==.function&&X.env.kindOf n==some .cell)=true then(n,NameKind.cell)else(n,k))::_)=_;cases hx:x==n with
                  |true=>
                    simp only[KJ,hx]at h;by_cases hcc:(k==NameKind.free&&X.env.scope.kind==.function&&X.env.kindOf n==some .cell)=true
                    ·rw[if_pos hcc];left;simp only[KJ,hx]
                    ·rw[if_neg hcc];right;simp only[KJ,hx];exact h
                  |false=>
                    simp only[KJ,hx]at h;by_cases hcc:(k==NameKind.free&&X.env.scope.kind==.function&&X.env.kindOf n==some .cell)=true
                    ·rw[if_pos hcc];simp only[KJ,hx];exact ih h
                    ·rw[if_neg hcc];simp only[KJ,hx];exact ih h
              exact gen scope.names n2
            ·exact hcell'.keeps old
    · obtain⟨v,z⟩:=I3.cell x c (csub x c e)
      exact⟨v,z.keeps old⟩
    · show(inBlock ix σ).length=N.length
      unfold inBlock;rw[Km];exact pP.len hix
  have stat:∀{H':Hp},(∀b∈fp,H' b=none)->∀b∈fp,pQ (bf X scope N (bT X.env.cells scope.names []) s3.heap.objs.size fp s3 H3 E') [] H' b:=λhn b hb'=>
    ⟨hn b hb',(ok.exf b hb').1,ok.exfs b hb',.inl hb',(ok.exf b hb').2,λp hp=>absurd (show p∈([]:aL)from hp) (by simp)⟩
  have tn1:tn 0 h₁:=T.keep _ _ _ st2 λb hb' o e=>old b o (by rw[<-eh3];exact Nf _ e);have loop:∀tk,Oy `i X.A (.compLoop (.ListComp elt [⟨tg,iter,ifs,0⟩] scope pos) 0 (.ref it) (.ref s2.heap.objs.size) (compEnvC scope (bT X.env.cells scope.names []) s3.heap.objs.size X.env))
      (RR (.ref s2.heap.objs.size) s3.heap.objs.size) {s3 with heap:=h₁,toks:=tk}:=by
    intro tk;refine ic (λn s'=>∃i σ' H',Inv (bf X scope N (bT X.env.cells scope.names []) s3.heap.objs.size fp s3 H3 E') [] σ' H' s'/\tn i s'.heap/\(∀b∈fp,H' b=none)/\W i n σ' H') ?_ m0 ⟨0,_,_,Istart tk,tn1,fpH3,w0⟩;rintro n s5 ⟨i,σ5,H5,I5,st5,fr5,w5⟩;rw[hE];rcases turn i n σ5 H5 w5 with⟨stop,qn⟩|⟨go,step⟩
    · refine cD (T.done (bf X scope N (bT X.env.cells scope.names []) s3.heap.objs.size fp s3 H3 E') rfl rfl rfl hc i [] s5 σ5 H5 _ I5 (stat fr5) st5 stop) λr s6 zq=>zq.elim λhr I6=>?_
      subst hr;obtain⟨m6,hn6,_⟩:=I6.loc;refine hRR s2.heap.objs.size s3.heap.objs.size H5 s6 m6 hD (by rw[hC3];exact KO _) I6.free hn6 (λh' sb=>?_) qn;have ne:∀b o,s3.heap.get? b=some o->b≠s3.heap.objs.size:=λb o e=>JX (M8 e);refine I3.call' (s':={s6 with heap:=h'}) (H':=H5) (ch:=fp) I6.os ⟨λb o e n hb' hx=>?_,λb o e n hb' hx=>?_,λb o e n hx=>?_,λb o e hx=>?_,I6.base.tups,I6.base.frzs,I6.base.tbls⟩ ?_ I6.bare λb hb'=>?_
      ·exact(sb.2 b (ne b o e)).trans (I6.base.keep b o e n hb' hx)
      · obtain⟨sl,e1⟩:=I6.base.slot b o e n hb' hx
        exact⟨sl,(sb.2 b (ne b o e)).trans e1⟩
      ·exact I6.base.free b o e n hx
      · obtain⟨o',e1⟩:=I6.base.there b o e hx
        exact⟨o',(sb.2 b (ne b o e)).trans e1⟩
      · intro b ob e
        have hfreeC:H5 s3.heap.objs.size=none:=I6.free;refine(I6.hok b ob e).stay (λc v hcc q=>(sb.2 c ?_).trans q) (λ_ q=>q) λ_ _ q=>q;rintro rfl;rcases hcc with rfl|hcc
        ·rw[hfreeC]at e;cases e
        ·rw[hfreeC]at hcc;cases hcc
      · obtain⟨_,h2',_,h4',h5',h6'⟩:=f2 b hb'
        exact⟨h4',h2',h5',h6'⟩
    · refine cD (T.item (bf X scope N (bT X.env.cells scope.names []) s3.heap.objs.size fp s3 H3 E') rfl rfl rfl hc i [] s5 σ5 H5 _ I5 (stat fr5) st5 go) λr s6 zq=>zq.elim λu zq=>zq.elim λhr h6=>?_
      subst hr;refine cD h6 λ_ s7 zq=>zq.elim λx zq=>zq.elim λH7 zq=>zq.elim λI7 zq=>zq.elim λr7 zq=>zq.elim λy7 zq=>zq.elim λst7 fr7=>?_;have I7':=I7.pinned (stat fr7) (T.obj _ _ st7);refine cD (hg _ s7 σ5 H7 x u _ I7' r7 (step x H7 y7)) λ_ s8 zq=>zq.elim λσ8 zq=>zq.elim λH8 zq=>zq.elim λI8 q8=>?_;refine cD (htc _ s8 σ8 H8 _ I8 q8) λb s9 zq=>zq.elim λH9 zq=>zq.elim λI9 q9=>?_;have again:∀{σ':St}{H':Hp}{s':NT}{m':Nat},Inv (bf X scope N (bT X.env.cells scope.names []) s3.heap.objs.size fp s3 H3 E') ([]++mN fp s7.heap) σ' H' s'->m'<n->W (i+1) m' σ' H'->
          ∃m,m<n/\∃i σ' H',Inv (bf X scope N (bT X.env.cells scope.names []) s3.heap.objs.size fp s3 H3 E') [] σ' H' s'/\tn i s'.heap/\(∀b∈fp,H' b=none)/\W i m σ' H':=λ{σ' H' s' m'} I' hm w'=>by
        refine⟨m',hm,i+1,σ',H',I'.unpinned,T.keep _ _ _ st7 λb hb' o e=>(I'.pin (b,o) (Kb _ (Kb _ (gf hb' e)))).1,λb hb'=>?_,w'⟩;obtain⟨o,e,d⟩:=T.obj _ _ st7 b hb';exact(I'.pin (b,o) (Kb _ (Kb _ (gf hb' e)))).2.1
      cases b with
      |false=>
        rw[if_neg J8]at q9 ⊢;obtain⟨m',hm,w9⟩:=q9;exact again I9 hm w9
      |true=>
        rw[if_pos rfl]at q9 ⊢;refine cD (hel _ s9 σ8 H9 _ I9 q9) λy s10 zq=>zq.elim λv zq=>zq.elim λH10 zq=>zq.elim λI10 zq=>zq.elim λr10 q10=>?_;obtain⟨acc,ha,hz,m',hm,w10⟩:=q10;refine cD (wU _ s10 σ8 H10 (.ref s2.heap.objs.size) [v] (.ref s2.heap.objs.size) [y] (λ_ H'=>H'=upd H10 s2.heap.objs.size (.lst (acc++[v]))) I10 rfl (.cons r10 .nil) ⟨_,acc,v,rfl,rfl,ha,hz,rfl⟩) λ_ s11 zq=>zq.elim λ_ zq=>zq.elim λH11 zq=>zq.elim λI11 zq=>zq.elim λ_ Ir=>?_;subst Ir;exact again I11 hm w10
  subst hs3;exact codeAny_compStart_list (loop _) (T.self _ 0 _ _ _ tn1 (loop _))
theorem Dg(hc:X.calm=true)(hcell:∀y∈scope.names,y.2≠.cell)(hkind:scope.kind=.function)(hnames:∀y∈scope.names,y.2=.local->scope.names.lookup y.1=some .local)
  (hfr:∀y∈scope.names,y.2=.free->X.env.scope.names.lookup y.1=some .cell\/X.env.scope.names.lookup y.1=some .free)
  (hix:pP X.N N scope.names ix=true) (hi:PI X tg iter wi)
  (hb:∀cl C fp s H E,PG (bf X scope N cl C fp s H E) tg g/\FC (bf X scope N cl C fp s H E) ifs tc/\PE (bf X scope N cl C fp s H E) elt te)
  (hs:∀x,Oo iter X.env x=pure x:=by intro _;rfl):PE X (.ListComp elt [⟨tg,iter,ifs,0⟩] scope pos) (HA wi g tc te ix):=by
 intro pins s σ H Q I h;rw[eval_ListComp];refine O1 (use:=none) rfl hs (jP λp hp hk=>I.ok.has p.1 (hfr p hp hk)) hkind hnames (cD (hi pins s σ H _ I h) λv s1 h1=>cD h1 λitv s2 h2=>?_);obtain⟨it,fp,tn,J,H2,e,I2,T,st2,f2,q⟩:=h2;subst e;refine lY (Q:=Q) (RR:=λacc C=>compPost `i X.A X.xe none (EP X pins σ Q) acc C) hc hcell hkind hfr hix hb I2 T st2 f2 q ?_;intro D C H' s' m _ _ _ hn hI hq;exact⟨m,hn,λh' sb=>⟨.ref D,H',hI h' sb,rfl,hq⟩⟩
theorem Ai{i:Nat}{y:Str}{py spos:Pos}(hN:X.N.Nodup)(hi':X.N[i]?=some y)(hx:Loc X.env.scope y)
  (hc:X.calm=true) (hcell:∀y∈scope.names,y.2≠.cell) (hkind:scope.kind=.function) (hnames:∀y∈scope.names,y.2=.local->scope.names.lookup y.1=some .local)
  (hfr:∀y∈scope.names,y.2=.free->X.env.scope.names.lookup y.1=some .cell\/X.env.scope.names.lookup y.1=some .free)
  (hix:pP X.N N scope.names ix=true) (hi:PI X tg iter wi)
  (hb:∀cl C fp s H E,PG (bf X scope N cl C fp s H E) tg g/\FC (bf X scope N cl C fp s H E) ifs tc/\PE (bf X scope N cl C fp s H E) elt te)
  (hsw:swapsWith (.ListComp elt [⟨tg,iter,ifs,0⟩] scope pos) (some (.Name y py)) spos.line X.env=pure true:=by rfl)
  (hs:∀x,Oo iter X.env x=pure x:=by intro _;rfl)
  (hf:X.fn y=true\/X.env.scope.names.lookup y=some .local:=by first|exact .inl rfl|exact .inr rfl|assumption):
  PS X (.Assign [.Name y py] (.ListComp elt [⟨tg,iter,ifs,0⟩] scope pos) spos) (BJ (HA wi g tc te ix) (oP i)):=by
 intro pins s σ H D0 I h;rw[exec_Assign_Name_used _ _ _ _ hsw];refine Oj (O0 (Oj ?_));show N7 _ X.A (do let _<-comprehension (.ListComp elt [⟨tg,iter,ifs,0⟩] scope pos) scope X.env _ (newList []) false (eval iter X.env) (some (assign (.Name y py) X.env))) _ _ s;refine Oj (cD (O1 (use:=some (assign (.Name y py) X.env)) (Q:=λ_ s'=>SP X pins D0 .next s') rfl hs (jP λp hp hk=>I.ok.has p.1 (hfr p hp hk)) hkind hnames
  (cD (hi pins s σ H _ I h) λv s1 h1=>cD h1 λitv s2 h2=>?_)) λ_ s' hq=>Oi (Oi hq))
 obtain⟨it,fp,tn,J,H2,e,I2,T,st2,f2,q⟩:=h2;subst e;refine lY (Q:=λv H'=>oP i v σ H' D0.nx) (RR:=λacc C=>compPost `i X.A X.xe (some (assign (.Name y py) X.env)) (λ_ s'=>SP X pins D0 .next s') acc C) hc hcell hkind hfr hix hb I2 T st2 f2 q ?_;intro D C H' s' m _ hC hfree hn hI hq;have I':Inv X pins σ H' s':=hI s'.heap (.refl ..);have nL:C≠X.env.locals:=J9 (JV I2.lt hC);have nC:∀x c,X.env.cells.lookup x=some c->c≠C:=λx c e z=>by
  obtain⟨v,q⟩:=I2.cell x c e;exact absurd (JV q.lt (by rw[z];exact hC)) (JW _)
 have nP:∀p∈X.pn++pins,p.1≠C:=λp hp z=>absurd (JV (M8 (I2.pin p hp).1) (by rw[z];exact hC)) (JW _);show N7 _ X.A (assign (.Name y py) X.env (.ref D)) _ _ _;refine wpAny_assign_Name (pp I' hN hi' hx (v:=.ref D) rfl (λs'' I'' ch=>?_) hf);obtain⟨a,sb,ha⟩:=ch;have hCa:C≠a:=by
  rcases ha with ha|ha
  ·rw[ha];exact nL
  ·exact Ne.symm (nC y a ha)
 refine⟨m,hn.sameBut sb hCa,λh' sb'=>⟨_,H',?_,hq⟩⟩;exact I''.turned (t':=s''.toks) (λb o hb' e=>(sb'.2 b hb').trans e) hfree nL (.inr (JY I2.sz hC)) nC nP
end
end L2
namespace TG
open PySem PySem.Spec
noncomputable def DP{α:Type}:Sem α->Prop
 |.pure _=>True
 |.raise _=>True
 |.unsupported _=>True
 |.finish _=>True
 |.rule _ k=>DP (k ())
 |.at _ k=>DP (k ())
 |.load _ _ k=>∀o,DP (k o)
 |.update _ _ f k=>(∀o,(f o).dict=o.dict)/\DP (k ())
 |.loadIfAlive _ k=>∀o,DP (k o)
 |.point _ k=>DP (k ())
 |.alloc _ k=>∀a,DP (k a)
 |.fresh k=>∀a,DP (k a)
 |.ask k=>∀a,DP (k a)
 |.stack k=>∀a,DP (k a)
 |_=>False
theorem DP.bind{α β:Type}{f:α->Sem β}(hf:∀a,DP (f a)):∀{m:Sem α},DP m->DP (m >>= f):=λ{m} h=>by
 show DP (m.bind f)
 induction m with
 |pure a=>exact hf a
 |raise _=>trivial
 |unsupported _=>trivial
 |finish _=>trivial
 |rule _ k ih=>exact ih () h
 |«at» _ k ih=>exact ih () h
 |load _ _ k ih=>exact λo=>ih o (h o)
 |update _ _ g k ih=>exact⟨h.1,ih () h.2⟩
 |loadIfAlive _ k ih=>exact λo=>ih o (h o)
 |point _ k ih=>exact ih () h
 |alloc _ k ih=>exact λo=>ih o (h o)
 |fresh k ih=>exact λo=>ih o (h o)
 |ask k ih=>exact λo=>ih o (h o)
 |stack k ih=>exact λo=>ih o (h o)
 |_=>exact h.elim
noncomputable def DS(h h':NX):Prop:=∀(a:Nat)(o:Obj),h.objs[a]?=some o->∃o',h'.objs[a]?=some o'/\o'.dict=o.dict
theorem DS.refl(h:NX):DS h h:=λ_ o e=>⟨o,e,rfl⟩
theorem DS.trans{h1 h2 h3:NX}(x:DS h1 h2)(y:DS h2 h3):DS h1 h3:=λa o e=>by
 obtain⟨o1,e1,d1⟩:=x a o e;obtain⟨o2,e2,d2⟩:=y a o1 e1;exact⟨o2,e2,d2.trans d1⟩
theorem qI{h:NX}{a:NQ}{o:Obj}(e:h.get? a=some o):h.objs[a]?=some o:=by
 unfold Heap.get? at e;split at e
 ·cases e
 ·exact e
theorem DS.dict{h h':NX}(x:DS h h'){a:NQ}{o o':Obj}(e:h.get? a=some o)(e':h'.get? a=some o'):o'.dict=o.dict:=by
 obtain⟨o1,e1,d1⟩:=x a o (qI e);rw[qI e']at e1;cases e1;exact d1
theorem DS.push(h:NX)(o:Obj):DS h (h.push o):=λa u e=>⟨u,by
 show(h.objs.push o)[a]?=_
 have:=(Array.getElem?_eq_some_iff.mp e).1
 rw[Array.getElem?_push,if_neg `o];exact e,rfl⟩
theorem DS.upd(h:NX)(b:NQ){f:Obj->Obj}(hf:∀o,(f o).dict=o.dict):DS h (h.update b f):=λa u e=>by
 show∃o',(h.objs.modify b f)[a]?=some o'/\_;rw[Array.getElem?_modify,e];split
 ·exact⟨_,rfl,hf u⟩
 ·exact⟨_,rfl,rfl⟩
theorem DP.wp{α:Type}{M:N6}{Γ:PySem.Ctx}{Q:α->Pos->NT->Prop}{E:NN->Pos->NT->Prop}{t:Sem α}(d:DP t){p:Pos}{s:NT}(h:Sem.wp M Γ t Q E p s):Sem.wp M Γ t (λa p' s'=>Q a p' s'/\DS s.heap s'.heap) (λa p' s'=>E a p' s'/\DS s.heap s'.heap) p s:=by
 have go:∀(h0:NX)(p:Pos)(s:NT),DS h0 s.heap->Sem.wp M Γ t Q E p s->Sem.wp M Γ t (λa p' s'=>Q a p' s'/\DS h0 s'.heap) (λa p' s'=>E a p' s'/\DS h0 s'.heap) p s:=by
  intro h0;clear h
  induction t with
  |pure a=>exact λp s z h=>⟨h,z⟩
  |raise a=>exact λp s z h=>⟨h,z⟩
  |unsupported _=>exact λp s z h=>h
  |finish _=>exact λp s z h=>h
  |rule _ k ih=>exact λp s z h=>ih () d p s z h
  |«at» q k ih=>exact λp s z h=>ih () d q s z h
  |load a _ k ih=>exact λp s z h=>let ⟨o,ho,h⟩:=h;⟨o,ho,ih o (d o) p s z h⟩
  |update a _ f k ih=>exact λp s z h=>⟨h.1,ih () d.2 p _ (z.trans (DS.upd _ a d.1)) h.2⟩
  |loadIfAlive a k ih=>exact λp s z h=>ih _ (d _) p s z h
  |point _ k ih=>exact λp s z h=>ih () d p s z h
  |alloc o k ih=>exact λp s z h=>ih _ (d _) p _ (z.trans (DS.push _ o)) h
  |fresh k ih=>exact λp s z h=>ih _ (d _) p _ z h
  |ask k ih=>exact λp s z h=>ih _ (d _) p _ z h
  |stack k ih=>exact λp s z h=>ih _ (d _) p _ z h
  |_=>exact d.elim
 exact go s.heap p s (DS.refl _) h
theorem DP.any{α:Type}{M:N6}{A:N4}{Q:α->NT->Prop}{E:NN->NT->Prop}{t:Sem α}{s:NT}(d:DP t)(h:N7 M A t Q E s):N7 M A t (λa s'=>Q a s'/\DS s.heap s'.heap) E s:=λΓ p hi=>Sem.wp_mono _ _ _ (λ_ _ _ x=>x) (λ_ _ _ x=>x.1) _ _ (d.wp (h Γ p hi))
theorem DP.go{M:N6}{A:N4}{Q:Unit->NT->Prop}{E:NN->NT->Prop}{t:Sem Unit}{s:NT}{P:NX->Prop}(d:DP t)(h:N7 M A t (λ_ s'=>∃h',s'={s with heap:=h'}/\P h') E s)(k:∀h',P h'->DS s.heap h'->Q () {s with heap:=h'}):N7 M A t Q E s:=N9 (d.any h) (λ_ s' z=>by
 obtain⟨⟨h',rfl,p⟩,ds⟩:=z;exact k h' p ds) λ_ _ z=>z
theorem jA(v:NN)(i:Nat):DP (field v i):=by
 unfold field fieldsOf;cases v with
 |ref a=>
  refine DP.bind (λxs=>?_) ?_
  ·split<;>trivial
  ·refine DP.bind (λo=>?_) (λo=>trivial);split<;>trivial
 |_=>exact DP.bind (λxs=>by split<;>trivial) trivial
theorem uQ(a:NQ):DP (load a):=λ_=>trivial
theorem Ey(f:Array NN->Array NN)(o:Obj):(Obj.mapFields f o).dict=o.dict:=by
 unfold Obj.mapFields;split<;>rfl
theorem sY(v:NN)(i:Nat)(x:NN):DP (setField v i x):=by
 unfold setField;cases v with
 |ref a=>
  unfold updateField;refine DP.bind (λo=>?_) (uQ a);split
  ·split
   ·exact⟨Ey _,trivial⟩
   ·trivial
  ·trivial
 |_=>trivial
theorem wn(e:NN)(f:Option NQ):DP (setFlight e f):=by
 unfold setFlight;refine DP.bind (λtb=>?_) (jA _ _);split
 ·exact sY _ _ _
 ·trivial
theorem yW:DP stack:=λ_=>trivial
theorem yw:DP underTheClaimsCaller:=by
 unfold underTheClaimsCaller;exact λ_=>trivial
theorem qL:∀l:List Env,DP (readyFrames l)
 |[]=>trivial
 |env::outer=>by
  unfold readyFrames;cases env.frame with
  |none=>trivial
  |some f=>
   refine DP.bind ?_ (uQ f);intro o;split
   ·trivial
   ·refine DP.bind ?_ ?_
    ·intro b;refine DP.bind ?_ ?_
     ·intro b;refine DP.bind ?_ ?_
      ·intro _;exact qL outer
      ·exact⟨λ_=>rfl,trivial⟩
     ·unfold keptBack;split
      ·split
       ·trivial
       ·refine DP.bind ?_ yw;intro _;trivial
      ·trivial
    ·unfold behindIsImport;split
     ·trivial
     ·split
      ·trivial
      ·refine DP.bind ?_ (jA _ _);intro _;trivial
theorem Br:DP frameEnvs:=λ_=>trivial
theorem sV(env:Env):DP (frameOf env):=by
 unfold frameOf;refine DP.bind ?_ Br;intro l;refine DP.bind ?_ ?_
 ·intro f;split<;>trivial
 ·unfold frameObject;split
  ·trivial
  ·refine DP.bind ?_ (qL _);intro _;trivial
theorem Ff(ty:String)(vs:List NN):DP (newFields ty vs):=by
 unfold newFields newObj;dsimp only;split
 ·trivial
 ·exact λ_=>trivial
theorem z5(f:NQ)(b:Bool):DP (entryPlaceOf f b):=by
 unfold entryPlaceOf;refine DP.bind ?_ yW;intro l;split<;>trivial
theorem A8(e:NN)(env:Env):DP (noteFrame e env):=by
 unfold noteFrame;cases env.frame with
 |none=>trivial
 |some f=>
  have tl:∀head:NN,DP (do setField e 1 (<-EntryCells.newEntry head (<-frameOf env) .none (rawInt f) .none (<-entryPlaceOf f (head !=.none)))):=λhead=>by
   refine DP.bind ?_ (sV env);intro a;refine DP.bind ?_ (z5 _ _);intro b;refine DP.bind ?_ (Ff _ _);intro c;exact sY _ _ _
  refine DP.bind ?_ (jA _ _);intro head;dsimp only;split
  ·refine DP.bind ?_ (jA _ _);intro x;split
   ·trivial
   ·refine DP.bind ?_ (sY _ _ _);intro _;exact tl head
  ·exact tl head
theorem ut(env:Env)(e:NN):DP (leaving env e):=by
 unfold leaving;refine DP.bind ?_ (A8 _ _);intro _;exact wn _ _
open PySem PySem.Spec L2
inductive D where
 |non|bl (b:Bool)|int (i:Int)|str (x:Str)|tup (xs:List D)|lst (xs:List D)
 |dct (ks vs:List D)|obj (c:Str) (fs:aH) (vs:List D)|exc (c:Str) (fs:aH) (vs:List D)
noncomputable abbrev bu:=List (List Key×D)
noncomputable abbrev aW:=Option D
noncomputable def aC:Key->D
 |.inl i=>.int i
 |.inr x=>.str x
noncomputable def clsAt(K:MT)(c:Str)(C:NQ):Prop:=M0 K N1 c=some (some (.ref C))
noncomputable def FY(C a:NQ)(dx:Option NQ):(NQ->Prop)->NX->Prop:=λ_ h=>∃o,h.get? a=some o/\o.cls=.ref C/\o.dict=dx/\PySem.W.notCls o=true
mutual
noncomputable def bo(K:MT)(H:Hp):D->V->Prop
 |.non,v=>v=.non
 |.bl b,v=>v=.bl b
 |.int i,v=>v=.int i
 |.str x,v=>v=.str x
 |.tup xs,v=>∃a vs,v=.ref a/\H a=some (.tup vs)/\aB K H xs vs
 |.lst xs,v=>∃a vs,v=.ref a/\lu K H a vs/\aB K H xs vs
 |.dct ks ds,v=>∃a vs,v=.ref a/\aB K H ds vs/\((∃kvs:List (Key×V),H a=some (.dK kvs)/\ks=kvs.map (λp=>aC p.1)/\vs=kvs.map (·.2)) \/
   (∃kvs:List (List Key×V),H a=some (.dT kvs)/\ks=kvs.map (λp=>.tup (p.1.map aC))/\vs=kvs.map (·.2)) \/
   ∃(kvs:List (List Key×V))(o:Obj),H a=some (.frz o (.dT kvs))/\ks=.non::kvs.map (λp=>.tup (p.1.map aC))/\vs=kvs.map (·.2))
 |.obj c fs ds,v=>∃a vs,v=.ref a/\aB K H ds vs/\fs.length=vs.length/\∃C dx,clsAt K c C/\H a=some (.ins C dx (fs.zip vs))
 |.exc c fs ds,v=>∃a vs,v=.ref a/\aB K H ds vs/\fs.length=vs.length/\∃C dx,clsAt K c C/\H a=some (.ext (FY C a dx))/\(fs=[]\/∃d,dx=some d/\H d=some (.xd (fs.zip vs)))
noncomputable def aB(K:MT)(H:Hp):List D->aG->Prop
 |[],vs=>vs=[]
 |x::xs,vs=>∃v r,vs=v::r/\bo K H x v/\aB K H xs r
end
theorem aZ{K:MT}{H H':Hp}{a:NQ}{xs:aG}(e:aF H H')(h:H a=some (.tup xs)):pV K H' a xs:=pV.of (e _ _ h)
mutual
theorem bo.mono{K:MT}{H H':Hp}(e:aF H H'):∀{d:D}{v:V},bo K H d v->bo K H' d v
 |.non,_,h=>by unfold bo at h ⊢;exact h
 |.bl _,_,h=>by unfold bo at h ⊢;exact h
 |.int _,_,h=>by unfold bo at h ⊢;exact h
 |.str _,_,h=>by unfold bo at h ⊢;exact h
 |.tup xs,_,h=>by
  unfold bo at h ⊢;obtain⟨a,vs,e1,h1,h2⟩:=h;exact⟨a,vs,e1,e _ _ h1,aB.mono e h2⟩
 |.lst xs,_,h=>by
  unfold bo at h ⊢;obtain⟨a,vs,e1,h1,h2⟩:=h;exact⟨a,vs,e1,e.seq h1,aB.mono e h2⟩
 |.dct _ ds,_,h=>by
  unfold bo at h ⊢;obtain⟨a,vs,e1,h1,h2⟩:=h;refine⟨a,vs,e1,aB.mono e h1,?_⟩;rcases h2 with⟨kvs,h2,h3⟩|⟨kvs,h2,h3⟩|⟨kvs,o,h2,h3⟩
  ·exact .inl ⟨kvs,e _ _ h2,h3⟩
  ·exact .inr (.inl ⟨kvs,e _ _ h2,h3⟩)
  ·exact .inr (.inr ⟨kvs,o,e _ _ h2,h3⟩)
 |.obj _ _ ds,_,h=>by
  unfold bo at h ⊢;obtain⟨a,vs,e1,h1,h2,C,dx,h3,h4⟩:=h;exact⟨a,vs,e1,aB.mono e h1,h2,C,dx,h3,e _ _ h4⟩
 |.exc _ _ ds,_,h=>by
  unfold bo at h ⊢;obtain⟨a,vs,e1,h1,h2,C,dx,h3,h4,h5⟩:=h;exact⟨a,vs,e1,aB.mono e h1,h2,C,dx,h3,e _ _ h4,h5.imp id λzq=>zq.elim λd zq=>zq.elim λq1 q2=>⟨d,q1,e _ _ q2⟩⟩
theorem aB.mono{K:MT}{H H':Hp}(e:aF H H'):∀{ds:List D}{vs:aG},aB K H ds vs->aB K H' ds vs
 |[],_,h=>by unfold aB at h ⊢;exact h
 |x::xs,_,h=>by
  unfold aB at h ⊢;obtain⟨v,r,e1,h1,h2⟩:=h;exact⟨v,r,e1,bo.mono e h1,aB.mono e h2⟩
end
section
variable{K:MT}{H:Hp}
theorem gq{v:V}:bo K H .non v↔v=.non:=by unfold bo;rfl
theorem gO{b:Bool}{v:V}:bo K H (.bl b) v↔v=.bl b:=by unfold bo;rfl
theorem c6{i:Int}{v:V}:bo K H (.int i) v↔v=.int i:=by unfold bo;rfl
theorem c9{x:Str}{v:V}:bo K H (.str x) v↔v=.str x:=by unfold bo;rfl
theorem bv{xs:List D}{v:V}:bo K H (.tup xs) v↔∃a vs,v=.ref a/\H a=some (.tup vs)/\aB K H xs vs:=by unfold bo;rfl
theorem bI{xs:List D}{v:V}:bo K H (.lst xs) v↔∃a vs,v=.ref a/\lu K H a vs/\aB K H xs vs:=by unfold bo;rfl
theorem Hl{ks ds : List D}{v : V}: bo K H (.dct ks ds) v ↔ ∃ a vs, v = .ref a /\ aB K H ds vs /\ ((∃ kvs : List (Key × V), H a = some (.dK kvs) /\ ks = kvs.map (fun p => aC p.1) /\ vs = kvs.map (·.2)) \/
      (∃kvs:List (List Key×V),H a=some (.dT kvs)/\ks=kvs.map (λp=>.tup (p.1.map aC))/\vs=kvs.map (·.2)) \/
      ∃(kvs:List (List Key×V))(o:Obj),H a=some (.frz o (.dT kvs))/\ks=.non::kvs.map (λp=>.tup (p.1.map aC))/\vs=kvs.map (·.2)):=by unfold bo;rfl
theorem CJ{c:Str}{fs:aH}{ds:List D}{v:V}:bo K H (.obj c fs ds) v↔∃a vs,v=.ref a/\aB K H ds vs/\fs.length=vs.length/\∃C dx,clsAt K c C/\H a=some (.ins C dx (fs.zip vs)):=by unfold bo;rfl
theorem HG{c:Str}{fs:aH}{ds:List D}{v:V}:bo K H (.exc c fs ds) v↔∃a vs,v=.ref a/\aB K H ds vs/\fs.length=vs.length/\∃C dx,clsAt K c C/\H a=some (.ext (FY C a dx))/\(fs=[]\/∃d,dx=some d/\H d=some (.xd (fs.zip vs))):=by unfold bo;rfl
theorem bG{vs:aG}:aB K H [] vs↔vs=[]:=by unfold aB;rfl
theorem aM{x:D}{xs:List D}{vs:aG}:aB K H (x::xs) vs↔∃v r,vs=v::r/\bo K H x v/\aB K H xs r:=by conv=>lhs;unfold aB
theorem aB.length:∀{ds:List D}{vs:aG},aB K H ds vs->ds.length=vs.length
 |[],_,h=>by rw[bG]at h;rw[h];rfl
 |_::xs,_,h=>by
  rw[aM]at h;obtain⟨v,r,e,_,h⟩:=h;rw[e,KA,KA,aB.length h]
theorem aB.get:∀{ds:List D}{vs:aG}{i:Nat}{d:D},aB K H ds vs->ds[i]?=some d->∃v,vs[i]?=some v/\bo K H d v
 |[],_,_,_,_,e=>by simp at e
 |x::xs,_,0,d,h,e=>by
  rw[aM]at h;obtain⟨v,r,rfl,h1,_⟩:=h;simp at e;subst e;exact⟨v,rfl,h1⟩
 |x::xs,_,i+1,d,h,e=>by
  rw[aM]at h;obtain⟨v,r,rfl,_,h2⟩:=h;obtain⟨w,e1,e2⟩:=aB.get (i:=i) h2 (by simpa using e);exact⟨w,by simpa using e1,e2⟩
theorem aB.append:∀{ds es:List D}{vs ws:aG},aB K H ds vs->aB K H es ws->aB K H (ds++es) (vs++ws)
 |[],_,_,_,h,h'=>by rw[bG]at h;subst h;exact h'
 |x::xs,_,_,_,h,h'=>by
  rw[aM]at h;obtain⟨v,r,rfl,h1,h2⟩:=h;rw[KP,aM];exact⟨v,_,rfl,h1,aB.append h2 h'⟩
theorem aB.take:∀{ds:List D}{vs:aG}(n:Nat),aB K H ds vs->aB K H (ds.take n) (vs.take n)
 |_,_,0,_=>by rw[KQ,KQ,bG]
 |[],_,_+1,h=>by rw[bG]at h;subst h;rw[JT,JT,bG]
 |x::xs,_,n+1,h=>by
  rw[aM]at h;obtain⟨v,r,rfl,h1,h2⟩:=h;rw[KR,KR,aM];exact⟨v,_,rfl,h1,aB.take n h2⟩
theorem aB.drop:∀{ds:List D}{vs:aG}(n:Nat),aB K H ds vs->aB K H (ds.drop n) (vs.drop n)
 |_,_,0,h=>by rw[KS,KS];exact h
 |[],_,_+1,h=>by rw[bG]at h;subst h;rw[JU,JU,bG]
 |x::xs,_,n+1,h=>by
  rw[aM]at h;obtain⟨v,r,rfl,h1,h2⟩:=h;rw[KU,KU];exact aB.drop n h2
theorem aB.snoc{ds:List D}{vs:aG}{d:D}{v:V}(h:aB K H ds vs)(h':bo K H d v):aB K H (ds++[d]) (vs++[v]):=
 h.append (aM.mpr ⟨v,[],rfl,h',bG.mpr rfl⟩)
theorem aB.one{d:D}{vs:aG}(h:aB K H [d] vs):∃v,vs=[v]/\bo K H d v:=by
 rw[aM]at h;obtain⟨v,r,rfl,h1,h2⟩:=h;rw[bG]at h2;subst h2;exact⟨v,rfl,h1⟩
theorem aB.two{d e:D}{vs:aG}(h:aB K H [d,e] vs):∃v w,vs=[v,w]/\bo K H d v/\bo K H e w:=by
 rw[aM]at h;obtain⟨v,r,rfl,h1,h2⟩:=h;obtain⟨w,rfl,h3⟩:=h2.one;exact⟨v,w,rfl,h1,h3⟩
theorem oq:∀ns:List Int,aB K H (ns.map D.int) (ns.map V.int)
 |[]=>bG.mpr rfl
 |n::ns=>aM.mpr ⟨_,_,rfl,c6.mpr rfl,oq ns⟩
end
noncomputable def hid(H:Hp)(O:ak):Hp:=λb=>if b∈O then none else H b
theorem ai(H:Hp)(O:ak):aF (hid H O) H:=λb o h=>by
 unfold hid at h;split at h
 ·cases h
 ·exact h
theorem aQ{H H':Hp}{O:ak}(e:aF H H'):aF (hid H O) (hid H' O):=λb o h=>by
 unfold hid at h ⊢;by_cases hb:b∈O
 ·rw[if_pos hb]at h;cases h
 ·rw[if_neg hb]at h ⊢;exact e b o h
theorem f7{H:Hp}{O O':ak}(s:∀a∈O,a∈O'):aF (hid H O') (hid H O):=λb o h=>by
 unfold hid at h ⊢;by_cases hb:b∈O'
 ·rw[if_pos hb]at h;cases h
 ·rw[if_neg hb]at h;rw[if_neg λz=>hb (s b z)];exact h
theorem BH(H:Hp):hid H []=H:=by funext b;unfold hid;simp
theorem pR{H:Hp}{O:ak}{p:NQ}{o:HO}(h:H p=none):aF (hid H O) (hid (upd H p o) O):=λb u q=>by
 unfold hid at q ⊢;by_cases hb:b∈O
 ·rw[if_pos hb]at q;cases q
 ·rw[if_neg hb]at q ⊢;rw[ao (aI q h)];exact q
theorem bh{H:Hp}{p:NQ}(h:H p=none)(o:HO):aF H (upd H p o):=λb u q=>by rw[ao (aI q h)];exact q
theorem dO{H:Hp}{O:ak}{p:NQ}(h:p∉O):hid H O p=H p:=by unfold hid;rw[if_neg h]
theorem eU{H:Hp}{O:ak}{p:NQ}{o:HO}(h:p∈O):aF (hid H O) (hid (upd H p o) O):=λb u q=>by
 unfold hid at q ⊢;by_cases hb:b∈O
 ·rw[if_pos hb]at q;cases q
 ·rw[if_neg hb]at q ⊢;rw[ao (λz=>hb (by rw[z];exact h))];exact q
inductive S where
 |val (d:D)|own (d:D)|nest (d:D)
noncomputable abbrev ah:=List (Option S)
noncomputable def jr:HO->Prop
 |.lst _=>True
 |.dK _=>True
 |.dT _=>True
 |_=>False
class aj where
 tab:Hp->Prop
 same:∀{H H':Hp},tab H->aF H H'->tab H'
 own:∀{H:Hp}{p:NQ}{o o':HO},tab H->H p=some o->jr o->tab (upd H p o')
variable[aj]
noncomputable def bJ(H:Hp)(O:ak):Prop:=aj.tab H/\∀a∈O,∃o,H a=some o/\jr o
theorem bJ.not{H:Hp}{O:ak}(h:bJ H O){p:NQ}(n:H p=none):p∉O:=λz=>by
 obtain⟨vs,e,_⟩:=h.2 p z;rw[n]at e;cases e
theorem bJ.same{H H':Hp}{O:ak}(h:bJ H O)(e:aF H H'):bJ H' O:=⟨aj.same h.1 e,λa ha=>let ⟨vs,q,m⟩:=h.2 a ha;⟨vs,e _ _ q,m⟩⟩
theorem bJ.upd{H:Hp}{O:ak}{p:NQ}{o:HO}(h:bJ H O)(hp:p∈O)(m:jr o):bJ (L2.upd H p o) O:=⟨let ⟨_,q,r⟩:=h.2 p hp;aj.own h.1 q r,λa ha=>by
 by_cases z:a=p
 ·rw[z];exact⟨o,aq,m⟩
 ·obtain⟨u,q,r⟩:=h.2 a ha;exact⟨u,by rw[ao z];exact q,r⟩⟩
theorem bJ.cons{H:Hp}{O:ak}{p:NQ}{o:HO}(h:bJ H O)(hp:H p=some o)(m:jr o):bJ H (p::O):=⟨h.1,λa ha=>by
 rcases List.mem_cons.mp ha with z|z
 ·rw[z];exact⟨o,hp,m⟩
 ·exact h.2 a z⟩
noncomputable def bX(K:MT)(H:Hp)(O:ak)(a:NQ)(d:D):Prop:=∃o vs,H a=some o/\match d with
 |.lst xs=>o=.lst vs/\aB K (hid H O) xs vs
 |.dct ks ds=>aB K (hid H O) ds vs/\((∃kvs:List (Key×V),o=.dK kvs/\ks=kvs.map (λp=>aC p.1)/\vs=kvs.map (·.2)) \/
   ∃kvs:List (List Key×V),o=.dT kvs/\ks=kvs.map (λp=>.tup (p.1.map aC))/\vs=kvs.map (·.2))
 |_=>False
theorem bX.mono{K:MT}{H H':Hp}{O O':ak}{a:NQ}{d:D}(h:bX K H O a d)(e:H a=H' a)(s:aF (hid H O) (hid H' O')):bX K H' O' a d:=by
 obtain⟨o,vs,h1,h2⟩:=h;refine⟨o,vs,by rw[<-e];exact h1,?_⟩;cases d with
 |lst xs=>exact⟨h2.1,h2.2.mono s⟩
 |dct ks ds=>exact⟨h2.1.mono s,h2.2⟩
 |_=>exact h2
theorem bX.some{K:MT}{H:Hp}{O:ak}{a:NQ}{d:D}(h:bX K H O a d):∃o,H a=some o:=let ⟨o,_,e,_⟩:=h;⟨o,e⟩
theorem bX.den{K:MT}{H:Hp}{O O':ak}{a:NQ}{d:D}(h:bX K H O a d)(s:aF (hid H O) (hid H O'))(ha:a∉O'):bo K (hid H O') d (.ref a):=by
 obtain⟨o,vs,h1,h2⟩:=h;have h1':hid H O' a=Option.some o:=by rw[dO ha];exact h1
 cases d with
 |lst xs=>
  obtain⟨e,g⟩:=h2;subst e;exact bI.mpr ⟨a,vs,rfl,lu.of h1',g.mono s⟩
 |dct ks ds=>
  obtain⟨g,q⟩:=h2;refine Hl.mpr ⟨a,vs,rfl,g.mono s,?_⟩;rcases q with⟨kvs,e,q⟩|⟨kvs,e,q⟩
  ·subst e;exact .inl ⟨kvs,h1',q⟩
  ·subst e;exact .inr (.inl ⟨kvs,h1',q⟩)
 |_=>exact h2.elim
structure cm(K:MT)(O:ak)(H:Hp)(ρ:ah)(σ:St):Prop where
 val:∀(i:Nat) d,ρ[i]?=some (some (.val d))->∃v,σ[i]?=some (some v)/\bo K (hid H O) d v
 own:∀(i:Nat) d,ρ[i]?=some (some (.own d))->∃a,σ[i]?=some (some (.ref a))/\a∈O/\bX K H O a d
 one:∀(i j:Nat) xs ys a,ρ[i]?=some (some (.own xs))->ρ[j]?=some (some (.own ys))->σ[i]?=some (some (.ref a))->σ[j]?=some (some (.ref a))->i=j
 all:bJ H O
theorem iM{H H':Hp}(e:aF H H'){a:NQ}{o:HO}(h:H a=some o):H a=H' a:=by rw[h,e _ _ h]
theorem cm.same{K:MT}{O:ak}{H H':Hp}{ρ:ah}{σ:St}(h:cm K O H ρ σ)(e:aF H H'):cm K O H' ρ σ:=
  ⟨fun i d q=>let ⟨v,a,b⟩:=h.val i d q; ⟨v,a,b.mono (aQ e)⟩,
   λi xs q=>let ⟨a,q1,q2,q3⟩:=h.own i xs q;⟨a,q1,q2,q3.mono (let ⟨_,z⟩:=q3.some;iM e z) (aQ e)⟩,h.one,h.all.same e⟩
structure Ex where
 c:Str
 fs:aH
 vs:List D
noncomputable abbrev R(α:Type):=Except (Option Ex) α
noncomputable abbrev aV:=ah->R (List D)
noncomputable abbrev bg:=ah->R Bool
noncomputable abbrev un{α:Type}:R α:=.error none
noncomputable def rO{α:Type}:Option α->R α
 |some a=>.ok a
 |none=>.error none
noncomputable def G4(K:MT)(Hd:Hp)(x:Ex)(C:NQ)(dx:Option NQ):Prop:=clsAt K x.c C/\∃ws,aB K Hd x.vs ws/\x.fs.length=ws.length/\(x.fs=[]\/∃d,dx=some d/\Hd d=some (.xd (x.fs.zip ws)))
theorem G4.mono{K:MT}{H H':Hp}{x:Ex}{C:NQ}{dx:Option NQ}(h:G4 K H x C dx)(e:aF H H'):G4 K H' x C dx:=by
 obtain⟨h1,ws,h2,h3,h4⟩:=h;exact⟨h1,ws,h2.mono e,h3,h4.imp id λzq=>zq.elim λd zq=>zq.elim λq1 q2=>⟨d,q1,e _ _ q2⟩⟩
end TG
namespace TG
open PySem PySem.Spec L2
variable[aj]
open PyProof.Rows (AllBare)
theorem Fw{P:NV}{w:NU}{H:Hp}{h:NX}{a:NQ}{o:HO}(x:bA P w H h a o):∃u,h.get? a=some u:=by
 cases o with
 |lst xs=>obtain⟨_,_,_,_,e⟩:=x;exact⟨_,e⟩
 |tup xs=>obtain⟨_,_,_,o,e,_⟩:=x;exact⟨_,e⟩
 |dK kvs=>obtain⟨_,_,_,_,o,_,_,e,_⟩:=x;exact⟨_,e⟩
 |dT kvs=>obtain⟨_,_,_,_,o,_,_,e,_⟩:=x;exact⟨_,e⟩
 |set S n=>obtain⟨o,_,_,_,e,_⟩:=x;exact⟨_,e⟩
 |ins C dx fs=>obtain⟨_,_,_,e,_⟩:=x;exact⟨_,e⟩
 |own y=>exact x
 |xd fs=>obtain⟨_,⟨_,_,_,e,_⟩,_⟩:=x;exact⟨_,e⟩
 |rng lo hi=>obtain⟨_,_,_,e⟩:=x;exact⟨_,e⟩
 |frz ob u=>obtain⟨e,_⟩:=x;exact⟨_,e⟩
 |tbl ps=>exact⟨_,(show h.get? a=some _ from x)⟩
 |met f y=>exact⟨_,(show h.get? a=some _ from x)⟩
 |ext φ=>obtain⟨_,e,_⟩:=x;exact e
noncomputable def lT(X:Cx)(H:Hp)(b:NQ):Prop:=((∃o,X.s₀.heap.get? b=some o)/\b∉X.ex)\/H b≠none\/(∃o,(b,o)∈X.pn)\/∃x,X.env.cells.lookup x=some b
noncomputable def JI(B:NX)(e:NQ)(cls a0:NN)(h:NX):Prop:=h.TracedW B e cls a0\/∃oe vs,h.get? e=some oe/\oe.cls=cls/\oe.data=.fields vs/\vs[1]?=some .none/\vs[0]?=some a0
noncomputable def Gg(X:Cx)(H:Hp)(s:NT)(e C:NQ)(dx:Option NQ):Prop:=(∀oe,s.heap.get? e=some oe->oe.dict=dx)/\∃B a0,B.StaysIn s.heap/\B.get? e=none/\s.heap.FunFrames B X.stack/\JI B e (.ref C) a0 s.heap/\∀b o,s.heap.get? b=some o->lT X H b->b∉frs X.stack->B.get? b=some o
noncomputable def JK(X:Cx)(H:Hp)(O:ak)(s:NT)(u:NN)(x:Ex):Prop:=∃e C dx,u=.ref e/\G4 X.K (hid H O) x C dx/\Gg X H s e C dx
noncomputable def gM(P:NV)(w:NU):yC:=λouter H s E u s'=>∃e C dx H' B a0,u=.ref e/\(∀oe,s'.heap.get? e=some oe->oe.dict=dx)/\s'.os=s.os/\AllBare s'.gens/\Un (frs outer) [] H H' s.heap s'.heap/\jS P w H' s'.heap/\Nj B outer e (.ref C) a0 s'.heap/\
 (∀b o,s'.heap.get? b=some o->((∃o',s.heap.get? b=some o')\/H' b≠none)->b∉frs outer->B.get? b=some o)/\E (.ref C) dx H'
noncomputable def HF(K:MT)(H:Hp)(O:ak)(x:Ex)(E:XK):Prop:=∀C dx H',aF H H'->G4 K (hid H' O) x C dx->E (.ref C) dx H'
noncomputable def FR(X:Cx)(σ:St)(O:ak)(H:Hp)(x:Ex):Prop:=∀pins s u H',Inv X pins σ H' s->aF H H'->JK X H' O s u x->X.xe u s
theorem FR.mono{X:Cx}{σ:St}{O:ak}{H H':Hp}{x:Ex}(h:FR X σ O H x)(s:aF H H'):FR X σ O H' x:=λpins st u H2 I s2 f=>h pins st u H2 I (s.trans s2) f
noncomputable def uS(X:Cx)(O:ak)(H:Hp)(x:Ex):XK:=λu dx H'=>∃C,u=.ref C/\aF H H'/\G4 X.K (hid H' O) x C dx
noncomputable def jQ(CX:yC)(X:Cx)(σ:St)(E:XK):Prop:=∀(pins:aL)(H:Hp)(s:NT)(e:NN)(s':NT),Inv X pins σ H s->CX X.stack H s E e s'->X.xe e s'
theorem va{X:Cx}{σ:St}{O:ak}{H:Hp}{x:Ex}(h:FR X σ O H x):jQ (gM X.prog X.w) X σ (uS X O H x):=by
 rintro pins H1 s u s' I ⟨e,C,dx,H',B,a0,rfl,hdx,os,bare,un,hok,⟨f1,f2,f3,f4⟩,kp,C',eC,sm,hd⟩;cases eC;have I':Inv X pins σ H' s':=I.call' os un hok bare (ch:=[]) λb z=>absurd z (by simp);refine h pins s' _ H' I' sm ⟨e,C,dx,rfl,hd,hdx,B,a0,f1,f2,f3,.inl f4,λb o eb hb nf=>kp b o eb ?_ nf⟩;rcases hb with⟨⟨o',hb⟩,nx⟩|hb|⟨o',hb⟩|⟨y,hb⟩
 ·exact .inl (I.base.there b o' hb nx)
 ·exact .inr hb
 ·exact .inl ⟨_,(I.pin _ (J5 _ hb)).1⟩
 ·obtain⟨v,o,q,_⟩:=I.cell y b hb;exact .inl ⟨o,q⟩
theorem u0{X:Cx}{σ:St}:jQ (gM X.prog X.w) X σ E0:=λ_ _ _ _ _ _ h=>by
 obtain⟨_,_,_,_,_,_,_,_,_,_,_,_,_,_,z⟩:=h;exact z.elim
theorem qU{X:Cx}{O:ak}{H:Hp}{x:Ex}:HF X.K H O x (uS X O H x):=λC dx H' s e=>⟨C,rfl,s,e⟩
section
variable{X:Cx}{pins:aL}{σ:St}{H:Hp}{s:NT}{h':NX}
theorem Cr(I:`h)(k:∀b o,s.heap.get? b=some o->lT X H b->b∉frs X.stack->h'.get? b=some o):jS X.prog X.w H h':=λa ob ea=>
 (I.hok a ob ea).stay (λb u hb q=>by
  have hn:H b≠none:=by
   rcases hb with e|e
   ·rw[e,ea];intro z;cases z
   ·rw[e];intro z;cases z
  exact k b u q (.inr (.inl hn)) λhf=>hn (I.stkFree b hf)) (λ_ q=>q) λ_ _ q=>q
theorem ot(I:`h)(us:s.heap.UpToSlots h'){b:NQ}{o:Obj}(hb:b∈frs X.stack)(e:s.heap.get? b=some o):∃sl,h'.get? b=some {o with slots:=sl}:=by
 obtain⟨_,o',e',nf⟩:=I.stack.mem hb;rw[e]at e';cases e';exact us b o e nf
theorem EK(I:`h)(hx:X.ex=[])(hst:X.stack=X.env::X.outer)(hf:X.env.frame=some X.env.locals)(us:s.heap.UpToSlots h')(k:∀b o,s.heap.get? b=some o->lT X H b->b∉frs X.stack->h'.get? b=some o):
  Un (frs X.outer) [] X.H₀ H X.s₀.heap h':=by
 have U:=I.base;rw[hx]at U;have fr:frs X.stack=X.env.locals::frs X.outer:=by rw[hst];show List.filterMap _ (_::_)=_;rw[J1,hf];rfl
 have nl:∀b o,X.s₀.heap.get? b=some o->b≠X.env.locals:=λb o q z=>by
  have h1:=M8 q;have h2:=I.ok.above;rw[z]at h1;exact JW _ (JV h1 h2)
 have nfr:∀b o,X.s₀.heap.get? b=some o->b∉frs X.outer->b∉frs X.stack:=λb o q nb z=>by
  rw[fr]at z;rcases List.mem_cons.mp z with z|z
  ·exact nl b o q z
  ·exact nb z
 refine⟨λb o q n nb _=>k b o (U.keep b o q n nb (by simp)) (.inl ⟨⟨o,q⟩,by rw[hx];simp⟩) (nfr b o q nb),λb o q n hb _=>?_,λb o q n _=>U.free b o q n (by simp),λb o q _=>?_,U.tups,U.frzs,U.tbls⟩
 ·obtain⟨sl,e⟩:=U.slot b o q n hb (by simp);obtain⟨sl',e'⟩:=ot I us (by rw[fr];exact J4 _ hb) e;exact⟨sl',e'⟩
 ·obtain⟨o1,e1⟩:=U.there b o q (by simp);by_cases hb:b∈frs X.stack
  ·obtain⟨sl,e⟩:=ot I us hb e1;exact⟨_,e⟩
  ·exact⟨o1,k b o1 e1 (.inl ⟨⟨o,q⟩,by rw[hx];simp⟩) hb⟩
end
theorem sN{P:NV}{w:NU}{K:MT}{mg:bS}{base:NX}{N:aH}{qual:Str}{scope:N5}{f:NQ}{cd:NN}{A:N4}{outer:List Env}{s:NT}{H:Hp}{E:XK}{σ:St}{O O':ak}{H':Hp}{x:Ex}
  (hx:HF K H O x E) (sm:aF H H') (hs:∀a∈O,a∈O'):FR (dW (gM P w) P w K mg base N qual scope f cd A outer s H E) σ O' H' x:=by
 rintro pins s1 u H1 I s2 ⟨e,C,dx,rfl,hd,hdx,B,a0,b1,b2,b3,b4,b5⟩;have fin:∀h',Nj B outer e (.ref C) a0 h'->s1.heap.UpToSlots h'->DS s1.heap h'->gM P w outer H s E (.ref e) {s1 with heap:=h'}:=λh' fl us ds=>by
  have k:∀b o,s1.heap.get? b=some o->lT (dW (gM P w) P w K mg base N qual scope f cd A outer s H E) H1 b->b∉frs (dW (gM P w) P w K mg base N qual scope f cd A outer s H E).stack->h'.get? b=some o:=λb o q kb nf=>fl.1 b o (b5 b o q kb nf);have un:=EK I rfl rfl rfl us k;have hok:=Cr I k;refine⟨e,C,dx,H1,B,a0,rfl,λoe' q=>?_,I.os,I.bare,un,hok,fl,λb o q hb nf=>?_,hx C dx H1 (sm.trans s2) (hd.mono (f7 hs))⟩
  ·obtain⟨oe,q1⟩:∃oe,s1.heap.get? e=some oe:=by
    rcases b4 with⟨oe,_,_,_,_,h1,_⟩|⟨oe,_,h1,_⟩
    ·exact⟨oe,h1⟩
    ·exact⟨oe,h1⟩
   exact(ds.dict q1 q).trans (hdx oe q1)
  have nf2:b∉frs (dW (gM P w) P w K mg base N qual scope f cd A outer s H E).stack:=λz=>by
   rcases List.mem_cons.mp (show b∈s.heap.objs.size::frs outer from z)with z|z
   ·rcases hb with hb|hb
    ·obtain⟨o',hb⟩:=hb
     have:=M8 hb
     rw[z]at this;exact JW _ this
    ·rw[z]at hb;exact hb I.free
   ·exact nf z
  have kb:lT (dW (gM P w) P w K mg base N qual scope f cd A outer s H E) H1 b:=hb.elim (λz=>.inl ⟨z,λy=>nomatch y⟩) λz=>.inr (.inl z);obtain⟨o1,e1⟩:∃o1,s1.heap.get? b=some o1:=by
   rcases hb with⟨o',hb⟩|hb
   ·exact I.base.there b o' hb (λz=>nomatch z)
   ·cases q0:H1 b with
    |none=>exact absurd q0 hb
    |some ob=>exact Fw (I.hok b ob q0)
  have:=k b o1 e1 kb nf2
  rw[q]at this;cases this;exact b5 b _ e1 kb nf2
 show N7 _ _ (leaving (Nv qual scope s.heap.objs.size f cd) (.ref e)) _ _ s1;refine DP.go (ut _ _) (P:=λh'=>Nj B outer e (.ref C) a0 h'/\s1.heap.UpToSlots h') ?_ λh' z ds=>fin h' z.1 z.2 ds;rcases b4 with b4|⟨oe,vs,c1,c2,c3,c4,c5⟩
 ·exact wpAny_leaves_onW I.ok.frames rfl ⟨b1,b2,b3,b4⟩ λh' fl us=>⟨h',rfl,fl,us⟩
 ·refine wpAny_leaving_firstW I.ok.frames b3 rfl c1 b1 b2 c3 c4 c5 λh' hL=>?_;obtain⟨k1,⟨_,_,k2⟩,k3,k4⟩:=hL;exact⟨h',rfl,⟨k1,b2,k2,c2 ▸ k3⟩,k4⟩
end TG
namespace TG
open PySem PySem.Spec L2
variable[aj]
noncomputable def gL(X:Cx)(σ:St)(O:ak)(H:Hp){α:Type}(r:R α)(Q:α->Prop):Prop:=match r with
 |.ok a=>Q a
 |.error (some x)=>FR X σ O H x
 |.error none=>False
section
variable{X:Cx}{σ:St}{O:ak}{H H':Hp}{α β:Type}
theorem gL.bind{r:R α}{G:α->R β}{Q:β->Prop}(h:gL X σ O H (r.bind G) Q):gL X σ O H r λa=>gL X σ O H (G a) Q:=by
 match r,h with
 |.ok a,h=>exact h
 |.error (some x),h=>exact h
 |.error none,h=>exact h
theorem gL.imp{r:R α}{Q Q':α->Prop}(h:gL X σ O H r Q)(f:∀a,Q a->Q' a):gL X σ O H r Q':=by
 match r,h with
 |.ok a,h=>exact f a h
 |.error (some x),h=>exact h
 |.error none,h=>exact h
theorem gL.mono{r:R α}{Q:α->Prop}(h:gL X σ O H r Q)(s:aF H H'):gL X σ O H' r Q:=by
 match r,h with
 |.ok a,h=>exact h
 |.error (some x),h=>exact FR.mono h s
 |.error none,h=>exact h
theorem gL.rO{o:Option α}{Q:α->Prop}(h:gL X σ O H (rO o) Q):∃a,o=some a/\Q a:=by
 match o,h with
 |some a,h=>exact⟨a,rfl,h⟩
 |none,h=>exact h.elim
end
noncomputable abbrev FX:=ah->R D
noncomputable def tF(X:Cx)(F:FX):TE:=λσ H Q=>∃O ρ,cm X.K O H ρ σ/\gL X σ O H (F ρ) λd=>∀v H',aF H H'->bo X.K (hid H' O) d v->Q v H'
noncomputable def Hv(X:Cx)(F:bg):TT:=λσ H Q=>∃O ρ,cm X.K O H ρ σ/\gL X σ O H (F ρ) λb=>∀H',aF H H'->Q b H'
noncomputable def Hy(X:Cx)(F:aV):TA:=λσ H Q=>∃O ρ,cm X.K O H ρ σ/\gL X σ O H (F ρ) λds=>∀vs H',aF H H'->aB X.K (hid H' O) ds vs->Q vs H'
noncomputable def FE(X:Cx)(e:NR)(F:FX):Prop:=PE X e (tF X F)
noncomputable def FT(X:Cx)(e:NR)(F:bg):Prop:=PT X e (Hv X F)
noncomputable def FW(X:Cx)(e:NR)(F:bg):Prop:=PW X e (Hv X F)
noncomputable def FA(X:Cx)(es:bj)(F:aV):Prop:=PA X es (Hy X F)
theorem PE.weak{X:Cx}{e:NR}{t t':TE}(h:PE X e t)(w:∀σ H Q,t' σ H Q->t σ H Q):PE X e t':=λpins s σ H Q I q=>h pins s σ H Q I (w σ H Q q)
theorem PT.weak{X:Cx}{e:NR}{t t':TT}(h:PT X e t)(w:∀σ H Q,t' σ H Q->t σ H Q):PT X e t':=λpins s σ H Q I q=>h pins s σ H Q I (w σ H Q q)
theorem PW.weak{X:Cx}{e:NR}{t t':TT}(h:PW X e t)(w:∀σ H Q,t' σ H Q->t σ H Q):PW X e t':=λwhole pins s σ H Q I q=>h whole pins s σ H Q I (w σ H Q q)
theorem PA.weak{X:Cx}{es:bj}{t t':TA}(h:PA X es t)(w:∀σ H Q,t' σ H Q->t σ H Q):PA X es t':=λpos pins s σ H Q I q=>h pos pins s σ H Q I (w σ H Q q)
theorem PS.weak{X:Cx}{st:NS}{t t':TS}(h:PS X st t)(w:∀D σ H,t' D σ H->t D σ H):PS X st t':=λpins s σ H Q I q=>h pins s σ H Q I (w Q σ H q)
theorem uf.weak{X:Cx}{st:cH}{t t':TS}(h:uf X st t)(w:∀D σ H,t' D σ H->t D σ H):uf X st t':=λpins s σ H Q I q=>h pins s σ H Q I (w Q σ H q)
noncomputable def nQ(ρ:ah)(i:Nat):R D:=match ρ[i]? with
 |some (some (.val d))=>.ok d
 |_=>un
theorem B7{ρ:ah}{i:Nat}{d:D}(h:nQ ρ i=.ok d):ρ[i]?=some (some (.val d)):=by
 unfold nQ at h;split at h
 ·rename_i e;cases h;exact e
 ·cases h
noncomputable def aa(i:Nat):FX:=λρ=>nQ ρ i
noncomputable def fC(d:D):FX:=λ_=>.ok d
section
variable{X:Cx}
theorem oZ{σ:St}{O:ak}{H:Hp}{ρ:ah}{i:Nat}{Q:D->Prop}(h:gL X σ O H (nQ ρ i) Q):∃d,ρ[i]?=some (some (.val d))/\Q d:=by
 cases e:nQ ρ i with
 |ok d=>rw[e]at h;exact⟨d,B7 e,h⟩
 |error z=>
  rw[e]at h;cases z with
  |none=>exact h.elim
  |some x=>
   exfalso;unfold nQ at e;split at e
   ·cases e
   ·have:=Except.error.inj e;cases this
theorem jk{e:NR}{d:D}{v:V}(h:PE X e (tC v))(hd:∀K H,bo K H d v):FE X e (fC d):=
 PE.weak h λσ H Q zq=>zq.elim λO zq=>zq.elim λρ zq=>zq.elim λE q=>q v H (aF.refl H) (hd _ _)
noncomputable def noStar:NR->Bool
 |.Starred _ _=>false
 |_=>true
theorem cK{e:NR}{es:bj}{env:Env}(h:noStar e=true):N8 (e::es) env=(false,eval e env)::N8 es env:=by
 cases e<;>first|rfl|cases h
theorem dP{pos:Pos}{env:Env}:∀{es:bj},es.all noStar=true->(backTo pos (N8 es env)).any (·.1)=false
 |[],_=>rfl
 |e::es,h=>by
  rw[KW,Kr]at h;rw[cK h.1];exact dP h.2
noncomputable def au:aV:=λ_=>.ok []
noncomputable def ae(f:FX)(g:aV):aV:=λρ=>(f ρ).bind λx=>(g ρ).bind λxs=>.ok (x::xs)
theorem EY:FA X [] au:=PA.weak sZ λσ H Q zq=>zq.elim λO zq=>zq.elim λρ zq=>zq.elim λE q=>q [] H (aF.refl H) (bG.mpr rfl)
theorem bind_some{α β:Type}{o:Option α}{f:α->Option β}{b:β}(h:o.bind f=some b):∃a,o=some a/\f a=some b:=by
 cases o with
 |none=>cases h
 |some a=>exact⟨a,rfl,h⟩
theorem lQ{ε α β:Type}{o:Except ε α}{f:α->Except ε β}{b:β}(h:o.bind f=.ok b):∃a,o=.ok a/\f a=.ok b:=by
 cases o with
 |error _=>cases h
 |ok a=>exact⟨a,rfl,h⟩
theorem uF{e:NR}{es:bj}{f:FX}{g:aV}(he:FE X e f)(hs:FA X es g)(hns:noStar e=true:=by rfl):FA X (e::es) (ae f g):=
 PA.weak (pE he hs (cK hns)) λσ H Q ⟨O,ρ,E,h⟩=>
  ⟨O,ρ,E,(gL.bind h).imp λx h v H1 s1 d1=>⟨O,ρ,E.same s1,((gL.bind h).mono s1).imp λxs q vs H2 s2 d2=>q (v::vs) H2 (s1.trans s2) (aM.mpr ⟨v,vs,rfl,d1.mono (aQ s2),d2⟩)⟩⟩
noncomputable def small(n:Nat):Bool:=decide (n<=100000)
theorem df{n:Nat}(h:small n=true):n<=NY:=JY (of_decide_eq_true h) (by decide)
theorem ca{n:Nat}(h:n<=100000):small n=true:=decide_eq_true h
noncomputable def eR(xs:List D):aW:=if small xs.length then some (.tup xs)else none
noncomputable def kZ(xs:List D):aW:=if small xs.length then some (.lst xs)else none
noncomputable def dF(g:aV):FX:=λρ=>(g ρ).bind λxs=>rO (eR xs)
noncomputable def mE(g:aV):FX:=λρ=>(g ρ).bind λxs=>rO (kZ xs)
theorem bC{α:Type}{c:Bool}{a b:α}(h:(if c then some a else none)=some b):c=true/\a=b:=by
 cases c with
 |true=>exact⟨rfl,Option.some.inj h⟩
 |false=>cases h
theorem eW{K:MT}{H:Hp}{O:ak}{p:NQ}{ds:List D}{vs:aG}(hO:bJ H O)(hp:H p=none)(d:aB K (hid H O) ds vs):bo K (hid (upd H p (.tup vs)) O) (.tup ds) (.ref p):=
 bv.mpr ⟨p,vs,rfl,by rw[dO (hO.not hp),aq],d.mono (pR hp)⟩
theorem cS{K:MT}{H:Hp}{O:ak}{p:NQ}{ds:List D}{vs:aG}(hO:bJ H O)(hp:H p=none)(d:aB K (hid H O) ds vs):bo K (hid (upd H p (.lst vs)) O) (.lst ds) (.ref p):=
 bI.mpr ⟨p,vs,rfl,lu.of (by rw[dO (hO.not hp),aq]),d.mono (pR hp)⟩
noncomputable def AK(K:MT)(r:V->Hp->VK->Prop)(g:D->aW):Prop:=
 ∀(a d:D)(x:V)(O:ak)(H:Hp)(Q:VK),bJ H O->g a=some d->bo K (hid H O) a x->(∀v H',aF H H'->bo K (hid H' O) d v->Q v H')->r x H Q
noncomputable def f1(g:D->aW)(f:FX):FX:=λρ=>(f ρ).bind λa=>rO (g a)
noncomputable def dB(K:MT)(r:R2)(g:D->D->aW):Prop:=
 ∀(a b d:D)(x y:V)(O:ak)(H:Hp)(Q:VK),bJ H O->g a b=some d->bo K (hid H O) a x->bo K (hid H O) b y->(∀v H',aF H H'->bo K (hid H' O) d v->Q v H')->r x y H Q
noncomputable def f2(g:D->D->aW)(f1 f2:FX):FX:=λρ=>(f1 ρ).bind λa=>(f2 ρ).bind λb=>rO (g a b)
theorem pU{r:R2}{g:D->D->aW}{fa fb:FX}(s:dB X.K r g):∀σ H Q,tF X (f2 g fa fb) σ H Q->GK r (tF X fa) (tF X fb) σ H Q:=λσ H Q zq=>zq.elim λO zq=>zq.elim λρ zq=>zq.elim λE hF=>
 ⟨O,ρ,E,(gL.bind hF).imp fun a hF x H1 s1 d1=>⟨O,ρ,E.same s1,((gL.bind hF).mono s1).imp fun b hF y H2 s2 d2=>by
  obtain⟨d,e,q⟩:=gL.rO hF;exact s a b d x y O H2 Q (E.all.same (s1.trans s2)) e (d1.mono (aQ s2)) d2 λv H3 s3 d3=>q v H3 ((s1.trans s2).trans s3) d3⟩⟩
noncomputable def IM:D->Option Bool
 |.bl b=>some b
 |_=>none
noncomputable def fB(f:FX):bg:=λρ=>(f ρ).bind λd=>rO (IM d)
theorem sr{t:TE}{f:FX}(h:∀σ H Q,tF X f σ H Q->t σ H Q):∀σ H Q,Hv X (fB f) σ H Q->C6 t σ H Q:=λσ H Q zq=>zq.elim λO zq=>zq.elim λρ zq=>zq.elim λE hF=>
 h σ H _ ⟨O,ρ,E,(gL.bind hF).imp λd hF v H1 s1 d1=>by
  obtain⟨b,e,q⟩:=gL.rO hF;cases d with
  |bl b'=>
   cases e;exact⟨b,gO.mp d1,q H1 s1⟩
  |_=>cases e⟩
noncomputable def vz(K:MT)(r:aG->Hp->VK->Prop)(g:List D->aW):Prop:=
 ∀(ds:List D)(d:D)(xs:aG)(O:ak)(H:Hp)(Q:VK),bJ H O->g ds=some d->aB K (hid H O) ds xs->(∀v H',aF H H'->bo K (hid H' O) d v->Q v H')->r xs H Q
noncomputable def fL(g:List D->aW)(f:aV):FX:=λρ=>(f ρ).bind λds=>rO (g ds)
noncomputable def fR(g:List D->R D)(f:aV):FX:=λρ=>(f ρ).bind g
theorem zo{r:aG->Hp->VK->Prop}{g:List D->aW}{f:aV}(s:vz X.K r g):∀σ H Q,tF X (fL g f) σ H Q->HU r (Hy X f) σ H Q:=λσ H Q zq=>zq.elim λO zq=>zq.elim λρ zq=>zq.elim λE hF=>
 ⟨O,ρ,E,(gL.bind hF).imp fun ds hF vs H1 s1 d1=>by
  obtain⟨d,e,q⟩:=gL.rO hF;exact s ds d vs O H1 Q (E.all.same s1) e d1 λv H2 s2 d2=>q v H2 (s1.trans s2) d2⟩
noncomputable def HV(f:bg):bg:=λρ=>(f ρ).bind λb=>.ok (!b)
noncomputable def HN(f g:bg):bg:=λρ=>(f ρ).bind λb=>if b then g ρ else .ok false
noncomputable def Bf(f g:bg):bg:=λρ=>(f ρ).bind λb=>if b then .ok true else g ρ
variable{a b c:NR}{rest:bj}{pos:Pos}{f g:bg}
theorem FW.ft{e:NR}(h:FW X e f):FT X e f:=PW.pt h
noncomputable def truth:D->Option Bool
 |.non=>some false
 |.bl b=>some b
 |.int i=>some (i !=0)
 |.str x=>if small x.length then some (x.length !=0)else none
 |.tup xs=>some (!xs.isEmpty)
 |.lst xs=>some (!xs.isEmpty)
 |_=>none
noncomputable def Et(f:FX):bg:=λρ=>(f ρ).bind λd=>rO (truth d)
noncomputable def tJ(d:D)(k:R D):R D:=match d with
 |.bl true=>k
 |.bl false=>.ok (.bl false)
 |_=>un
noncomputable def GU(d:D)(k:R D):R D:=match d with
 |.bl false=>k
 |.bl true=>.ok (.bl true)
 |_=>un
noncomputable def Ek:D->aW
 |.bl b=>some (.bl (!b))
 |_=>none
noncomputable def GV(f g:FX):FX:=λρ=>(f ρ).bind λd=>tJ d (g ρ)
noncomputable def Ja(f g:FX):FX:=λρ=>(f ρ).bind λd=>GU d (g ρ)
noncomputable def Hg(f:FX):FX:=f1 Ek f
variable{fa fb:FX}
noncomputable def JC(t:bg)(f g:FX):FX:=λρ=>(t ρ).bind λc=>if c then f ρ else g ρ
end
end TG
namespace TG
open PySem PySem.Spec L2
variable[aj]
open PySem.SeqAt (EqAt RcAt RcNeAt)
mutual
noncomputable def pyEq:D->D->Bool
 |.non,.non=>true
 |.bl a,.bl b=>a==b
 |.bl a,.int b=>(if a then 1 else 0)==b
 |.int a,.bl b=>a==(if b then 1 else 0)
 |.int a,.int b=>a==b
 |.str a,.str b=>a==b
 |.tup xs,.tup ys=>eK xs ys
 |.lst xs,.lst ys=>eK xs ys
 |.dct _ _,.dct _ _=>true
 |.obj _ _ _,.obj _ _ _=>true
 |.exc _ _ _,.exc _ _ _=>true
 |_,_=>false
noncomputable def eK:List D->List D->Bool
 |[],[]=>true
 |x::xs,y::ys=>pyEq x y&&eK xs ys
 |_,_=>false
end
mutual
theorem cj:∀d:D,pyEq d d=true
 |.non=>by unfold pyEq;rfl
 |.bl b=>by unfold pyEq;simp
 |.int i=>by unfold pyEq;simp
 |.str x=>by unfold pyEq;simp
 |.tup xs=>by unfold pyEq;exact ja xs
 |.lst xs=>by unfold pyEq;exact ja xs
 |.dct _ _=>by unfold pyEq;rfl
 |.obj _ _ _=>by unfold pyEq;rfl
 |.exc _ _ _=>by unfold pyEq;rfl
theorem ja:∀ds:List D,eK ds ds=true
 |[]=>by unfold eK;rfl
 |d::ds=>by unfold eK;rw[cj d,ja ds];rfl
end
noncomputable def tR(xs ys:List D)(j:Nat):Bool:=match xs[j]?,ys[j]? with
 |some a,some b=>pyEq a b
 |_,_=>false
theorem dL:∀xs ys:List D,((List.range (min xs.length ys.length)).all (tR xs ys)&&xs.length==ys.length)=eK xs ys
 |[],[]=>by unfold eK;rfl
 |[],_::_=>by unfold eK;simp
 |_::_,[]=>by unfold eK;simp
 |x::xs,y::ys=>by
  have ih:=dL xs ys
  conv=>rhs;unfold eK
  rw[<-ih];have e:min (x::xs).length (y::ys).length=min xs.length ys.length+1:=by simp only[KA];omega
  rw[e,List.range_succ_eq_map,KW,List.all_map];have e2:((x::xs).length==(y::ys).length)=(xs.length==ys.length):=by simp
  rw[e2,Bool.and_assoc];have e3:(List.range (min xs.length ys.length)).all (tR (x::xs) (y::ys)∘Nat.succ)=(List.range (min xs.length ys.length)).all (tR xs ys):=by
   congr 1
  rw[e3];rfl
mutual
noncomputable def pl:D->Bool
 |.tup xs=>sf xs
 |.lst xs=>sf xs
 |.dct _ _=>false
 |.obj _ _ _=>false
 |.exc _ _ _=>false
 |_=>true
noncomputable def sf:List D->Bool
 |[]=>true
 |x::xs=>pl x&&sf xs
end
theorem du{ks vs:List D}(h:pl (.dct ks vs)=true):False:=by unfold pl at h;cases h
theorem dE{c:Str}{fs:aH}{vs:List D}(h:pl (.obj c fs vs)=true):False:=by unfold pl at h;cases h
theorem dI{c:Str}{fs:aH}{vs:List D}(h:pl (.exc c fs vs)=true):False:=by unfold pl at h;cases h
theorem jD:∀{xs:List D},sf xs=true->∀x∈xs,pl x=true
 |[],_,_,h=>nomatch h
 |x::xs,h,y,hy=>by
  unfold sf at h;rw[Kr]at h;rcases List.mem_cons.mp hy with z|z
  ·rw[z];exact h.1
  ·exact jD h.2 y z
theorem zF:∀{xs:List D},(∀x∈xs,pl x=true)->sf xs=true
 |[],_=>by unfold sf;rfl
 |x::xs,h=>by
  unfold sf;rw[Kr];exact⟨h x J3,zF λy hy=>h y (J4 _ hy)⟩
theorem cG{xs:List D}:pl (.tup xs)=sf xs:=by rw[pl]
theorem cF{xs:List D}:pl (.lst xs)=sf xs:=by rw[pl]
noncomputable def cn:Nat->D->Bool
 |n+1,.tup xs=>xs.all (cn n)
 |n+1,.lst xs=>xs.all (cn n)
 |0,.tup _=>false
 |0,.lst _=>false
 |_,.dct _ _=>false
 |_,.obj _ _ _=>false
 |_,.exc _ _ _=>false
 |_,_=>true
section
variable{X:Cx}{pins:aL}{σ:St}{H:Hp}{s:NT}
theorem Inv.not_both(I:`h){a:NQ}{xs ys:aG}(h:pV X.K H a xs)(h':lu X.K H a ys):False:=by
 obtain⟨its,_,ht,_⟩:=I.tuple h;obtain⟨its2,_,hl,_⟩:=I.list h';exact absurd rfl (SeqAt.ne_of_list_tuple hl.isList (show s.heap.IsTuple a its.toArray from ht))
mutual
theorem Inv.den_inj(I:`h):∀{a b:D}{v:V},pl a=true->pl b=true->bo X.K H a v->bo X.K H b v->a=b
 |.non,b,v,pa,pb,h,h'=>by
  rw[gq]at h;subst h;cases b with
  |non=>rfl
  |bl _=>rw[gO]at h';cases h'
  |int _=>rw[c6]at h';cases h'
  |str _=>rw[c9]at h';cases h'
  |tup _=>rw[bv]at h';obtain⟨_,_,e,_⟩:=h';cases e
  |lst _=>rw[bI]at h';obtain⟨_,_,e,_⟩:=h';cases e
  |dct _ _=>exact(du pb).elim
  |obj _ _ _=>exact(dE pb).elim
  |exc _ _ _=>exact(dI pb).elim
 |.bl x,b,v,pa,pb,h,h'=>by
  rw[gO]at h;subst h;cases b with
  |non=>rw[gq]at h';cases h'
  |bl _=>rw[gO]at h';cases h';rfl
  |int _=>rw[c6]at h';cases h'
  |str _=>rw[c9]at h';cases h'
  |tup _=>rw[bv]at h';obtain⟨_,_,e,_⟩:=h';cases e
  |lst _=>rw[bI]at h';obtain⟨_,_,e,_⟩:=h';cases e
  |dct _ _=>exact(du pb).elim
  |obj _ _ _=>exact(dE pb).elim
  |exc _ _ _=>exact(dI pb).elim
 |.int x,b,v,pa,pb,h,h'=>by
  rw[c6]at h;subst h;cases b with
  |non=>rw[gq]at h';cases h'
  |bl _=>rw[gO]at h';cases h'
  |int _=>rw[c6]at h';cases h';rfl
  |str _=>rw[c9]at h';cases h'
  |tup _=>rw[bv]at h';obtain⟨_,_,e,_⟩:=h';cases e
  |lst _=>rw[bI]at h';obtain⟨_,_,e,_⟩:=h';cases e
  |dct _ _=>exact(du pb).elim
  |obj _ _ _=>exact(dE pb).elim
  |exc _ _ _=>exact(dI pb).elim
 |.str x,b,v,pa,pb,h,h'=>by
  rw[c9]at h;subst h;cases b with
  |non=>rw[gq]at h';cases h'
  |bl _=>rw[gO]at h';cases h'
  |int _=>rw[c6]at h';cases h'
  |str _=>rw[c9]at h';cases h';rfl
  |tup _=>rw[bv]at h';obtain⟨_,_,e,_⟩:=h';cases e
  |lst _=>rw[bI]at h';obtain⟨_,_,e,_⟩:=h';cases e
  |dct _ _=>exact(du pb).elim
  |obj _ _ _=>exact(dE pb).elim
  |exc _ _ _=>exact(dI pb).elim
 |.tup xs,b,v,pa,pb,h,h'=>by
  rw[bv]at h;obtain⟨a,vs,e,h1,h2⟩:=h;subst e;cases b with
  |non=>rw[gq]at h';cases h'
  |bl _=>rw[gO]at h';cases h'
  |int _=>rw[c6]at h';cases h'
  |str _=>rw[c9]at h';cases h'
  |tup ys=>
   rw[bv]at h';obtain⟨a',vs',e,h1',h2'⟩:=h';cases e;have ev:=I.tuple_inj (pV.of h1) (pV.of h1');subst ev;rw[Inv.denL_inj I (by first|rw[<-cG];exact pa|rw[<-cF];exact pa) (by first|rw[<-cG];exact pb|rw[<-cF];exact pb) h2 h2']
  |lst _=>rw[bI]at h';obtain⟨_,_,e,h1',_⟩:=h';cases e;exact(Inv.not_both I (pV.of h1) h1').elim
  |dct _ _=>exact(du pb).elim
  |obj _ _ _=>exact(dE pb).elim
  |exc _ _ _=>exact(dI pb).elim
 |.lst xs,b,v,pa,pb,h,h'=>by
  rw[bI]at h;obtain⟨a,vs,e,h1,h2⟩:=h;subst e;cases b with
  |non=>rw[gq]at h';cases h'
  |bl _=>rw[gO]at h';cases h'
  |int _=>rw[c6]at h';cases h'
  |str _=>rw[c9]at h';cases h'
  |lst ys=>
   rw[bI]at h';obtain⟨a',vs',e,h1',h2'⟩:=h';cases e;have ev:=I.list_inj h1 h1';subst ev;rw[Inv.denL_inj I (by first|rw[<-cG];exact pa|rw[<-cF];exact pa) (by first|rw[<-cG];exact pb|rw[<-cF];exact pb) h2 h2']
  |tup _=>rw[bv]at h';obtain⟨_,_,e,h1',_⟩:=h';cases e;exact(Inv.not_both I (pV.of h1') h1).elim
  |dct _ _=>exact(du pb).elim
  |obj _ _ _=>exact(dE pb).elim
  |exc _ _ _=>exact(dI pb).elim
 |.dct _ _,_,_,pa,_,_,_=>(du pa).elim
 |.obj _ _ _,_,_,pa,_,_,_=>(dE pa).elim
 |.exc _ _ _,_,_,pa,_,_,_=>(dI pa).elim
theorem Inv.denL_inj(I:`h):∀{as bs:List D}{vs:aG},sf as=true->sf bs=true->aB X.K H as vs->aB X.K H bs vs->as=bs
 |[],bs,vs,pa,pb,h,h'=>by
  rw[bG]at h;subst h;cases bs with
  |nil=>rfl
  |cons b bs=>rw[aM]at h';obtain⟨_,_,e,_⟩:=h';cases e
 |a::as,bs,vs,pa,pb,h,h'=>by
  rw[aM]at h;obtain⟨v,r,e,h1,h2⟩:=h;subst e;cases bs with
  |nil=>rw[bG]at h';cases h'
  |cons b bs=>
   rw[aM]at h';obtain⟨v',r',e,h1',h2'⟩:=h';cases e;unfold sf at pa pb;rw[Kr]at pa pb;rw[Inv.den_inj I pa.1 pb.1 h1 h1',Inv.denL_inj I pa.2 pb.2 h2 h2']
end
noncomputable def i6:D->Option V
 |.non=>some .non
 |.bl b=>some (.bl b)
 |.int i=>some (.int i)
 |.str x=>some (.str x)
 |_=>none
theorem j9{K:MT}{d:D}{v x:V}(h:i6 d=some x)(hd:bo K H d v):v=x/\yK x=true:=by
 cases d with
 |non=>cases h;exact⟨gq.mp hd,rfl⟩
 |bl b=>cases h;exact⟨gO.mp hd,rfl⟩
 |int i=>cases h;exact⟨c6.mp hd,rfl⟩
 |str y=>cases h;exact⟨c9.mp hd,rfl⟩
 |_=>cases h
theorem B6{a b:D}{x y:V}(ha:i6 a=some x)(hb:i6 b=some y):Ig x y=pyEq a b:=by
 cases a<;>cases ha<;>cases b<;>cases hb<;>(unfold pyEq Ig;rfl)
theorem rX{a:D}{x:V}(n:Nat)(h:i6 a=some x):cn n a=true:=by
 cases a with
 |tup _=>cases h
 |lst _=>cases h
 |dct _ _=>cases h
 |obj _ _ _=>cases h
 |exc _ _ _=>cases h
 |_=>cases n<;>rfl
theorem qW{a:D}(h:i6 a=none):cn 0 a=false:=by
 cases a with
 |tup _=>rfl
 |lst _=>rfl
 |dct _ _=>rfl
 |obj _ _ _=>rfl
 |exc _ _ _=>rfl
 |_=>cases h
theorem in1_units(A:N4):A.in1.units=A.units+1:=rfl
theorem lE{vs:aG}{us:aE}(r:Vals vs us){j:Nat}(h:j<us.toArray.size):∃x,vs[j]?=some x/\RelV x us.toArray[j]:=by
 have hj:j<us.length:=by simpa using h
 have hl:=r.length;have hv:j<vs.length:=by omega
 obtain⟨u,e,ru⟩:=r.get (i:=j) (x:=vs[j]) (by simp[hv]);refine⟨vs[j],by simp[hv],?_⟩;have e2:us.toArray[j]=u:=by
  rw[KY hj]at e
  simpa using Option.some.inj e
 rw[e2];exact ru
theorem lA{K:MT}{ds:List D}{vs:aG}(h:aB K H ds vs){j:Nat}{x:V}(e:vs[j]?=some x):∃d,ds[j]?=some d/\bo K H d x:=by
 have hj:j<vs.length:=(List.getElem?_eq_some_iff.mp e).1;have hl:=h.length;have hd:j<ds.length:=by omega
 obtain⟨v,e1,e2⟩:=h.get (i:=j) (d:=ds[j]) (by simp[hd]);rw[e]at e1;cases e1;exact⟨ds[j],by simp[hd],e2⟩
theorem Ft(I:`h):∀(n:Nat)(a b:D)(x y:V)(u v:NN)(A:N4),pl a=true->pl b=true->(cn n a=true\/cn n b=true)->bo X.K H a x->bo X.K H b y->RelV x u->RelV y v->A.units+n<Ov->EqAt A s u v (pyEq a b):=by
 intro n
 induction n with
 |zero=>
  intro a b x y u v A pa pb hd ha hb ru rv hA;have hu:A.units<Ov:=hA;cases ha':i6 a with
  |some x'=>
   obtain⟨e,f⟩:=j9 ha' ha;subst e;cases hb':i6 b with
   |some y'=>
    obtain⟨e,f'⟩:=j9 hb' hb;subst e;rw[<-B6 ha' hb'];exact DW ru rv f f'
   |none=>
    cases b with
    |tup ys=>
     rw[bv]at hb;obtain⟨p,vs,e,h1,h2⟩:=hb;subst e;cases rv;obtain⟨its,_,ht,_⟩:=I.tuple (pV.of h1);have ht':s.heap.IsTuple p its.toArray:=ht;cases a with
     |non=>cases ha';cases ru;unfold pyEq;exact .none_tuple ht' hu
     |bl z=>cases ha';cases ru;unfold pyEq;exact .bool_tuple z ht' hu
     |int z=>cases ha';obtain⟨t,rfl⟩:=ru;unfold pyEq;exact .int_tuple z t ht' hu
     |str z=>cases ha';obtain⟨t,rfl⟩:=ru;unfold pyEq;exact .str_tuple z t ht' hu
     |_=>cases ha'
    |lst ys=>
     rw[bI]at hb;obtain⟨p,vs,e,h1,h2⟩:=hb;subst e;cases rv;obtain⟨its,_,ht,_⟩:=I.list h1;have ht':s.heap.IsList p its.toArray:=ht.isList;cases a with
     |non=>cases ha';cases ru;unfold pyEq;exact .none_list ht' hu
     |bl z=>cases ha';cases ru;unfold pyEq;exact .bool_list z ht' hu
     |int z=>cases ha';obtain⟨t,rfl⟩:=ru;unfold pyEq;exact .int_list z t ht' hu
     |str z=>cases ha';obtain⟨t,rfl⟩:=ru;unfold pyEq;exact .str_list z t ht' hu
     |_=>cases ha'
    |dct _ _=>exact(du pb).elim
    |obj _ _ _=>exact(dE pb).elim
    |exc _ _ _=>exact(dI pb).elim
    |_=>cases hb'
  |none=>
   have hdb:cn 0 b=true:=by
    rcases hd with hd|hd
    ·rw[qW ha']at hd;cases hd
    ·exact hd
   cases hb':i6 b with
   |none=>rw[qW hb']at hdb;cases hdb
   |some y'=>
    obtain⟨e,f'⟩:=j9 hb' hb;subst e;cases a with
    |tup xs=>
     rw[bv]at ha;obtain⟨p,vs,e,h1,h2⟩:=ha;subst e;cases ru;obtain⟨its,_,ht,_⟩:=I.tuple (pV.of h1);have ht':s.heap.IsTuple p its.toArray:=ht;cases b with
     |non=>cases hb';cases rv;unfold pyEq;exact .tuple_none ht' hu
     |bl z=>cases hb';cases rv;unfold pyEq;exact .tuple_bool z ht' hu
     |int z=>cases hb';obtain⟨t,rfl⟩:=rv;unfold pyEq;exact .tuple_int z t ht' hu
     |str z=>cases hb';obtain⟨t,rfl⟩:=rv;unfold pyEq;exact .tuple_str z t ht' hu
     |_=>cases hb'
    |lst xs=>
     rw[bI]at ha;obtain⟨p,vs,e,h1,h2⟩:=ha;subst e;cases ru;obtain⟨its,_,ht,_⟩:=I.list h1;have ht':s.heap.IsList p its.toArray:=ht.isList;cases b with
     |non=>cases hb';cases rv;unfold pyEq;exact .list_none ht' hu
     |bl z=>cases hb';cases rv;unfold pyEq;exact .list_bool z ht' hu
     |int z=>cases hb';obtain⟨t,rfl⟩:=rv;unfold pyEq;exact .list_int z t ht' hu
     |str z=>cases hb';obtain⟨t,rfl⟩:=rv;unfold pyEq;exact .list_str z t ht' hu
     |_=>cases hb'
    |dct _ _=>exact(du pa).elim
    |obj _ _ _=>exact(dE pa).elim
    |exc _ _ _=>exact(dI pa).elim
    |_=>cases ha'
 |succ n ih=>
  intro a b x y u v A pa pb hd ha hb ru rv hA;have hu:A.units<Ov:=by omega
  have flatWay:(∀xs ys,¬(a=.tup xs/\b=.tup ys))->(∀xs ys,¬(a=.lst xs/\b=.lst ys))->EqAt A s u v (pyEq a b):=by
   intro n1 n2;cases ha':i6 a with
   |some x'=>exact ih a b x y u v A pa pb (.inl (rX n ha')) ha hb ru rv `o
   |none=>
    cases hb':i6 b with
    |some y'=>exact ih a b x y u v A pa pb (.inr (rX n hb')) ha hb ru rv `o
    |none=>
     cases a with
     |tup xs=>
      cases b with
      |tup ys=>exact absurd ⟨rfl,rfl⟩ (n1 xs ys)
      |lst ys=>
       rw[bv]at ha;obtain⟨p,vs,e,h1,h2⟩:=ha;subst e;rw[bI]at hb;obtain⟨p',vs',e,h1',h2'⟩:=hb;subst e;cases ru;cases rv;obtain⟨its,_,ht,_⟩:=I.tuple (pV.of h1);obtain⟨its2,_,ht2,_⟩:=I.list h1';unfold pyEq;exact .tuple_list (show s.heap.IsTuple p its.toArray from ht) ht2.isList hu
      |dct _ _=>exact(du pb).elim
      |obj _ _ _=>exact(dE pb).elim
      |exc _ _ _=>exact(dI pb).elim
      |_=>cases hb'
     |lst xs=>
      cases b with
      |lst ys=>exact absurd ⟨rfl,rfl⟩ (n2 xs ys)
      |tup ys=>
       rw[bI]at ha;obtain⟨p,vs,e,h1,h2⟩:=ha;subst e;rw[bv]at hb;obtain⟨p',vs',e,h1',h2'⟩:=hb;subst e;cases ru;cases rv;obtain⟨its,_,ht,_⟩:=I.list h1;obtain⟨its2,_,ht2,_⟩:=I.tuple (pV.of h1');unfold pyEq;exact .list_tuple ht.isList (show s.heap.IsTuple p' its2.toArray from ht2) hu
      |dct _ _=>exact(du pb).elim
      |obj _ _ _=>exact(dE pb).elim
      |exc _ _ _=>exact(dI pb).elim
      |_=>cases hb'
     |dct _ _=>exact(du pa).elim
     |obj _ _ _=>exact(dE pa).elim
     |exc _ _ _=>exact(dI pa).elim
     |_=>cases ha'
  have items:∀(xs ys:List D)(vs vs':aG)(its its':aE),sf xs=true->sf ys=true->(cn (n+1) (.tup xs)=true\/cn (n+1) (.tup ys)=true)->aB X.K H xs vs->aB X.K H ys vs'->Vals vs its->Vals vs' its'->
    ∀j (h1:j<its.toArray.size) (h2:j<its'.toArray.size),EqAt A.in1 s its.toArray[j] its'.toArray[j] (tR xs ys j):=by
   intro xs ys vs vs' its its' px py hdd hx hy rx ry j h1 h2;obtain⟨w1,e1,r1⟩:=lE rx h1;obtain⟨w2,e2,r2⟩:=lE ry h2;obtain⟨d1,f1,g1⟩:=lA hx e1;obtain⟨d2,f2,g2⟩:=lA hy e2;have e3:tR xs ys j=pyEq d1 d2:=(by unfold tR;rw[f1,f2]);rw[e3];refine ih d1 d2 w1 w2 _ _ A.in1 (jD px _ (Kk f1)) (jD py _ (Kk f2)) ?_ g1 g2 r1 r2 (by rw[in1_units];omega);rcases hdd with hdd|hdd
   ·exact .inl (List.all_eq_true.mp hdd d1 (Kk f1))
   ·exact .inr (List.all_eq_true.mp hdd d2 (Kk f2))
  by_cases hT:∃xs ys,a=.tup xs/\b=.tup ys
  ·obtain⟨xs,ys,rfl,rfl⟩:=hT;have da:=ha;have db:=hb;rw[bv]at ha hb;obtain⟨p,vs,e,h1,h2⟩:=ha;subst e;obtain⟨p',vs',e,h1',h2'⟩:=hb;subst e;cases ru;cases rv;by_cases hp:p=p'
   ·subst hp;have e:=Inv.den_inj I pa pb da db;rw[e,cj];exact EqAt.same _
   ·obtain⟨its,rv1,ht,_⟩:=I.tuple (pV.of h1);obtain⟨its2,rv2,ht2,_⟩:=I.tuple (pV.of h1');refine EqAt.of_refs hp ?_;have q:=RcAt.tuples (e:=tR xs ys) (show s.heap.IsTuple p its.toArray from ht) (show s.heap.IsTuple p' its2.toArray from ht2) hu (items xs ys vs vs' its its2 (by first|rw[<-cG];exact pa|rw[<-cF];exact pa) (by first|rw[<-cG];exact pb|rw[<-cF];exact pb) hd h2 h2' rv1 rv2);have z1:its.toArray.size=xs.length:=(by rw[Ko,<-rv1.length,<-h2.length]);have z2:its2.toArray.size=ys.length:=(by rw[Ko,<-rv2.length,<-h2'.length]);rw[z1,z2,dL]at q;unfold pyEq;exact q
  ·by_cases hL:∃xs ys,a=.lst xs/\b=.lst ys
   ·obtain⟨xs,ys,rfl,rfl⟩:=hL;have da:=ha;have db:=hb;rw[bI]at ha hb;obtain⟨p,vs,e,h1,h2⟩:=ha;subst e;obtain⟨p',vs',e,h1',h2'⟩:=hb;subst e;cases ru;cases rv;by_cases hp:p=p'
    ·subst hp;have e:=Inv.den_inj I pa pb da db;rw[e,cj];exact EqAt.same _
    ·obtain⟨its,rv1,ht,_⟩:=I.list h1;obtain⟨its2,rv2,ht2,_⟩:=I.list h1';refine EqAt.of_refs hp ?_;have z1:its.toArray.size=xs.length:=(by rw[Ko,<-rv1.length,<-h2.length]);have z2:its2.toArray.size=ys.length:=(by rw[Ko,<-rv2.length,<-h2'.length]);have er:=dL xs ys;by_cases hz:its.toArray.size=its2.toArray.size
     ·have q:=RcAt.lists (e:=tR xs ys) ht.isList ht2.isList hz hu (items xs ys vs vs' its its2 (by first|rw[<-cG];exact pa|rw[<-cF];exact pa) (by first|rw[<-cG];exact pb|rw[<-cF];exact pb) hd h2 h2' rv1 rv2);rw[z1]at q;have hz':xs.length=ys.length:=(by omega);rw[<-hz',KZ]at er;simp only[beq_self_eq_true,K1]at er;rw[er]at q;unfold pyEq;exact q
     ·have hne:(its.toArray.size !=its2.toArray.size)=true:=(by simpa using hz);have q:=RcAt.lists_lengths (A:=A) ht.isList ht2.isList hne hu;have hz':(xs.length==ys.length)=false:=by
       rw[z1,z2]at hz
       simpa using hz
      rw[hz',K2]at er;unfold pyEq;rw[<-er];exact q
   ·exact flatWay (λxs ys z=>hT ⟨xs,ys,z⟩) λxs ys z=>hL ⟨xs,ys,z⟩
end
end TG
namespace TG
open PySem PySem.Spec L2
variable[aj]
open PySem.SeqAt (EqAt RcAt RcNeAt)
section
variable{X:Cx}{pins:aL}{σ:St}{H:Hp}{s:NT}
theorem lH(I:`h){n:Nat}{xs ys:List D}{vs vs':aG}{its its':aE}{A:N4}(px:sf xs=true)(py:sf ys=true)(hdd:cn (n+1) (.tup xs)=true\/cn (n+1) (.tup ys)=true)(hx:aB X.K H xs vs)(hy:aB X.K H ys vs')(rx:Vals vs its)(ry:Vals vs' its')(hA:A.units+n<Ov):
  ∀j (h1:j<its.toArray.size) (h2:j<its'.toArray.size),EqAt A s its.toArray[j] its'.toArray[j] (tR xs ys j):=by
 intro j h1 h2;obtain⟨w1,e1,r1⟩:=lE rx h1;obtain⟨w2,e2,r2⟩:=lE ry h2;obtain⟨d1,f1,g1⟩:=lA hx e1;obtain⟨d2,f2,g2⟩:=lA hy e2;have e3:tR xs ys j=pyEq d1 d2:=by unfold tR;rw[f1,f2]
 rw[e3];refine Ft I n d1 d2 w1 w2 _ _ A (jD px _ (Kk f1)) (jD py _ (Kk f2)) ?_ g1 g2 r1 r2 hA;rcases hdd with hdd|hdd
 ·exact .inl (List.all_eq_true.mp hdd d1 (Kk f1))
 ·exact .inr (List.all_eq_true.mp hdd d2 (Kk f2))
inductive Way(I:`h):D->NN->Prop where
 |non:Way I .non .none
 |bl (b:Bool):Way I (.bl b) (.bool b)
 |int (i:Int) (t:Tok):Way I (.int i) (.int i t)
 |str (x:Str) (t:Tok):Way I (.str x) (.str x t)
 |tup {xs:List D} {p:NQ} {vs:aG} {its:aE} (h:aB X.K H xs vs) (r:Vals vs its) (t:s.heap.IsTuple p its.toArray):Way I (.tup xs) (.ref p)
 |lst {xs:List D} {p:NQ} {vs:aG} {its:aE} (h:aB X.K H xs vs) (r:Vals vs its) (t:s.heap.IsList p its.toArray):Way I (.lst xs) (.ref p)
noncomputable def top:D->Bool
 |.dct _ _=>false
 |.obj _ _ _=>false
 |.exc _ _ _=>false
 |_=>true
theorem cZ{d:D}(h:pl d=true):top d=true:=by
 cases d with
 |dct _ _=>exact(du h).elim
 |obj _ _ _=>exact(dE h).elim
 |exc _ _ _=>exact(dI h).elim
 |_=>rfl
theorem c7(I:`h){d:D}{v:V}{u:NN}(pd:top d=true)(h:bo X.K H d v)(r:RelV v u):Way I d u:=by
 cases d with
 |non=>rw[gq]at h;subst h;cases r;exact .non
 |bl b=>rw[gO]at h;subst h;cases r;exact .bl b
 |int i=>rw[c6]at h;subst h;obtain⟨t,rfl⟩:=r;exact .int i t
 |str x=>rw[c9]at h;subst h;obtain⟨t,rfl⟩:=r;exact .str x t
 |tup xs=>
  rw[bv]at h;obtain⟨p,vs,e,h1,h2⟩:=h;subst e;cases r;obtain⟨its,rv,ht,_⟩:=I.tuple (pV.of h1);exact .tup h2 rv ht
 |lst xs=>
  rw[bI]at h;obtain⟨p,vs,e,h1,h2⟩:=h;subst e;cases r;obtain⟨its,rv,ht,_⟩:=I.list h1;exact .lst h2 rv ht.isList
 |dct _ _=>cases pd
 |obj _ _ _=>cases pd
 |exc _ _ _=>cases pd
theorem Dv(I:`h){n:Nat}{a b:D}{x y:V}{u v:NN}{A:N4}(pa:pl a=true)(pb:pl b=true)(hd:cn (n+1) a=true\/cn (n+1) b=true)(ha:bo X.K H a x)(hb:bo X.K H b y)(ru:RelV x u)(rv:RelV y v)(hA:A.units+n+1<Ov):RcAt A s u v (pyEq a b):=by
 have hu:A.units<Ov:=by omega
 cases c7 I (cZ pa) ha ru with
 |non=>cases c7 I (cZ pb) hb rv with
  |non=>unfold pyEq;exact .none_none
  |bl b=>unfold pyEq;exact .none_bool b
  |int i t=>unfold pyEq;exact .none_int i t
  |str x t=>unfold pyEq;exact .none_str x t
  |tup h r t=>unfold pyEq;exact .none_tuple t hu
  |lst h r t=>unfold pyEq;exact .none_list t hu
 |bl z=>cases c7 I (cZ pb) hb rv with
  |non=>unfold pyEq;exact .bool_none z
  |bl b=>unfold pyEq;exact .bool_bool z b
  |int i t=>unfold pyEq;exact .bool_int z i t
  |str x t=>unfold pyEq;exact .bool_str z x t
  |tup h r t=>unfold pyEq;exact .bool_tuple z t hu
  |lst h r t=>unfold pyEq;exact .bool_list z t hu
 |int z tz=>cases c7 I (cZ pb) hb rv with
  |non=>unfold pyEq;exact .int_none z tz
  |bl b=>unfold pyEq;exact .int_bool z tz b
  |int i t=>unfold pyEq;exact .int_int z tz i t
  |str x t=>unfold pyEq;exact .int_str z tz x t
  |tup h r t=>unfold pyEq;exact .int_tuple z tz t hu
  |lst h r t=>unfold pyEq;exact .int_list z tz t hu
 |str z tz=>cases c7 I (cZ pb) hb rv with
  |non=>unfold pyEq;exact .str_none z tz
  |bl b=>unfold pyEq;exact .str_bool z tz b
  |int i t=>unfold pyEq;exact .str_int z tz i t
  |str x t=>unfold pyEq;exact .str_str z tz x t
  |tup h r t=>unfold pyEq;exact .str_tuple z tz t hu
  |lst h r t=>unfold pyEq;exact .str_list z tz t hu
 |@tup xs p vs its h1 r1 t1=>cases c7 I (cZ pb) hb rv with
  |non=>unfold pyEq;exact .tuple_none t1 hu
  |bl b=>unfold pyEq;exact .tuple_bool b t1 hu
  |int i t=>unfold pyEq;exact .tuple_int i t t1 hu
  |str x t=>unfold pyEq;exact .tuple_str x t t1 hu
  |@tup ys p' vs' its' h2 r2 t2=>
   have q:=RcAt.tuples (e:=tR xs ys) t1 t2 hu (lH (A:=A.in1) I (by first|rw[<-cG];exact pa|rw[<-cF];exact pa) (by first|rw[<-cG];exact pb|rw[<-cF];exact pb) hd h1 h2 r1 r2 (by rw[in1_units];omega));have z1:its.toArray.size=xs.length:=(by rw[Ko,<-r1.length,<-h1.length]);have z2:its'.toArray.size=ys.length:=(by rw[Ko,<-r2.length,<-h2.length]);rw[z1,z2,dL]at q;unfold pyEq;exact q
  |lst h r t=>unfold pyEq;exact .tuple_list t1 t hu
 |@lst xs p vs its h1 r1 t1=>cases c7 I (cZ pb) hb rv with
  |non=>unfold pyEq;exact .list_none t1 hu
  |bl b=>unfold pyEq;exact .list_bool b t1 hu
  |int i t=>unfold pyEq;exact .list_int i t t1 hu
  |str x t=>unfold pyEq;exact .list_str x t t1 hu
  |tup h r t=>unfold pyEq;exact .list_tuple t1 t hu
  |@lst ys p' vs' its' h2 r2 t2=>
   have z1:its.toArray.size=xs.length:=(by rw[Ko,<-r1.length,<-h1.length]);have z2:its'.toArray.size=ys.length:=(by rw[Ko,<-r2.length,<-h2.length]);have er:=dL xs ys;by_cases hz:its.toArray.size=its'.toArray.size
   ·have q:=RcAt.lists (e:=tR xs ys) t1 t2 hz hu (lH (A:=A.in1) I (by first|rw[<-cG];exact pa|rw[<-cF];exact pa) (by first|rw[<-cG];exact pb|rw[<-cF];exact pb) hd h1 h2 r1 r2 (by rw[in1_units];omega));rw[z1]at q;have hz':xs.length=ys.length:=(by omega);rw[<-hz',KZ]at er;simp only[beq_self_eq_true,K1]at er;rw[er]at q;unfold pyEq;exact q
   ·have q:=RcAt.lists_lengths (A:=A) t1 t2 (by simpa using hz) hu;have hz':(xs.length==ys.length)=false:=by
     rw[z1,z2]at hz
     simpa using hz
    rw[hz',K2]at er;unfold pyEq;rw[<-er];exact q
theorem z8(I:`h){n:Nat}{a b:D}{x y:V}{u v:NN}{A:N4}(pa:pl a=true)(pb:pl b=true)(hd:cn (n+1) a=true\/cn (n+1) b=true)(ha:bo X.K H a x)(hb:bo X.K H b y)(ru:RelV x u)(rv:RelV y v)(hA:A.units+n+1<Ov):RcNeAt A s u v (!pyEq a b):=by
 have hu:A.units<Ov:=by omega
 cases c7 I (cZ pa) ha ru with
 |non=>cases c7 I (cZ pb) hb rv with
  |non=>unfold pyEq;exact .none_none
  |bl b=>unfold pyEq;exact .none_bool b
  |int i t=>unfold pyEq;exact .none_int i t
  |str x t=>unfold pyEq;exact .none_str x t
  |tup h r t=>unfold pyEq;exact .none_tuple t hu
  |lst h r t=>unfold pyEq;exact .none_list t hu
 |bl z=>cases c7 I (cZ pb) hb rv with
  |non=>unfold pyEq;exact .bool_none z
  |bl b=>unfold pyEq;exact .bool_bool z b
  |int i t=>unfold pyEq;exact .bool_int z i t
  |str x t=>unfold pyEq;exact .bool_str z x t
  |tup h r t=>unfold pyEq;exact .bool_tuple z t hu
  |lst h r t=>unfold pyEq;exact .bool_list z t hu
 |int z tz=>cases c7 I (cZ pb) hb rv with
  |non=>unfold pyEq;exact .int_none z tz
  |bl b=>unfold pyEq;exact .int_bool z tz b
  |int i t=>unfold pyEq;exact .int_int z tz i t
  |str x t=>unfold pyEq;exact .int_str z tz x t
  |tup h r t=>unfold pyEq;exact .int_tuple z tz t hu
  |lst h r t=>unfold pyEq;exact .int_list z tz t hu
 |str z tz=>cases c7 I (cZ pb) hb rv with
  |non=>unfold pyEq;exact .str_none z tz
  |bl b=>unfold pyEq;exact .str_bool z tz b
  |int i t=>unfold pyEq;exact .str_int z tz i t
  |str x t=>unfold pyEq;exact .str_str z tz x t
  |tup h r t=>unfold pyEq;exact .str_tuple z tz t hu
  |lst h r t=>unfold pyEq;exact .str_list z tz t hu
 |@tup xs p vs its h1 r1 t1=>cases c7 I (cZ pb) hb rv with
  |non=>unfold pyEq;exact .tuple_none t1 hu
  |bl b=>unfold pyEq;exact .tuple_bool b t1 hu
  |int i t=>unfold pyEq;exact .tuple_int i t t1 hu
  |str x t=>unfold pyEq;exact .tuple_str x t t1 hu
  |@tup ys p' vs' its' h2 r2 t2=>
   have q:=RcNeAt.tuples (e:=tR xs ys) t1 t2 hu (lH (A:=A.in1) I (by first|rw[<-cG];exact pa|rw[<-cF];exact pa) (by first|rw[<-cG];exact pb|rw[<-cF];exact pb) hd h1 h2 r1 r2 (by rw[in1_units];omega));have z1:its.toArray.size=xs.length:=(by rw[Ko,<-r1.length,<-h1.length]);have z2:its'.toArray.size=ys.length:=(by rw[Ko,<-r2.length,<-h2.length]);rw[z1,z2,dL]at q;unfold pyEq;exact q
  |lst h r t=>unfold pyEq;exact .tuple_list t1 t hu
 |@lst xs p vs its h1 r1 t1=>cases c7 I (cZ pb) hb rv with
  |non=>unfold pyEq;exact .list_none t1 hu
  |bl b=>unfold pyEq;exact .list_bool b t1 hu
  |int i t=>unfold pyEq;exact .list_int i t t1 hu
  |str x t=>unfold pyEq;exact .list_str x t t1 hu
  |tup h r t=>unfold pyEq;exact .list_tuple t1 t hu
  |@lst ys p' vs' its' h2 r2 t2=>
   have z1:its.toArray.size=xs.length:=(by rw[Ko,<-r1.length,<-h1.length]);have z2:its'.toArray.size=ys.length:=(by rw[Ko,<-r2.length,<-h2.length]);have er:=dL xs ys;by_cases hz:its.toArray.size=its'.toArray.size
   ·have q:=RcNeAt.lists (e:=tR xs ys) t1 t2 hz hu (lH (A:=A.in1) I (by first|rw[<-cG];exact pa|rw[<-cF];exact pa) (by first|rw[<-cG];exact pb|rw[<-cF];exact pb) hd h1 h2 r1 r2 (by rw[in1_units];omega));rw[z1]at q;have hz':xs.length=ys.length:=(by omega);rw[<-hz',KZ]at er;simp only[beq_self_eq_true,K1]at er;rw[er]at q;unfold pyEq;exact q
   ·have q:=RcNeAt.lists_lengths (A:=A) t1 t2 (by simpa using hz) hu;have hz':(xs.length==ys.length)=false:=by
     rw[z1,z2]at hz
     simpa using hz
    rw[hz',K2]at er;unfold pyEq;rw[<-er];exact q
end
section
variable{X:Cx}
noncomputable def rD(K:MT)(g:D->D->aW):R2:=λx y H Q=>∃O a b d,bJ H O/\bo K (hid H O) a x/\bo K (hid H O) b y/\g a b=some d/\∀v H',aF H H'->bo K (hid H' O) d v->Q v H'
theorem cP{K:MT}{g:D->D->aW}:dB K (rD K g) g:=λa b d x y O H Q hO hg ha hb q=>⟨O,a,b,d,hO,ha,hb,hg,q⟩
theorem sj{f : NN -> NN -> Sem NN}{g : D -> D -> aW}(h : ∀ (pins : aL) (s : NT) (σ : St) (H : Hp) (a b d : D) (x y : V) (u v : NN), Inv X pins σ H s -> bo X.K H a x -> bo X.K H b y -> RelV x u -> RelV y v -> g a b = some d ->
      ∃c,d=.bl c/\∀(Q:az),Q (.bool c) s->N7 `i X.A (f u v) Q X.xe s):kf X f (rD X.K g):=by
  rintro pins s σ H x y u v Q I rx ry ⟨O,a,b,d,hO,ha,hb,hg,q⟩;obtain⟨c,rfl,hq⟩:=h pins s σ H a b d x y u v I (ha.mono (ai H O)) (hb.mono (ai H O)) rx ry hg;exact hq _ ⟨.bl c,H,I,rfl,q _ H (aF.refl H) (gO.mpr rfl)⟩
noncomputable def sM(a b:D):aW:=if(pl a&&pl b)&&(cn 8 a||cn 8 b)then some (.bl (pyEq a b))else none
noncomputable def gr(a b:D):aW:=if(pl a&&pl b)&&(cn 8 a||cn 8 b)then some (.bl (!pyEq a b))else none
theorem yN(hu:X.A.units+64<Ov):kf X (Od .Eq) (rD X.K sM):=sj λpins s σ H a b d x y u v I ha hb ru rv hg=>by
 obtain⟨h1,h2⟩:=bC hg;subst h2;rw[Kr,Kr,K3]at h1;exact⟨_,rfl,λQ q=>Dv (n:=7) (A:=X.A) I h1.1.1 h1.1.2 h1.2 ha hb ru rv `o X.prog X.w X.xe Q q⟩
theorem Ao(hu:X.A.units+64<Ov):kf X (Od .NotEq) (rD X.K gr):=sj λpins s σ H a b d x y u v I ha hb ru rv hg=>by
 obtain⟨h1,h2⟩:=bC hg;subst h2;rw[Kr,Kr,K3]at h1;exact⟨_,rfl,λQ q=>z8 (n:=7) (A:=X.A) I h1.1.1 h1.1.2 h1.2 ha hb ru rv `o X.prog X.w X.xe Q q⟩
noncomputable def EI(p:Int->Int->D)(a b:D):aW:=match a,b with
 |.int i,.int j=>some (p i j)
 |_,_=>none
noncomputable def JQ:=EI λi j=>.bl (decide (i<j))
noncomputable def Jo:=EI λi j=>.bl (decide (i<=j))
noncomputable def En:=EI λi j=>.bl (decide (j<i))
noncomputable def JR:=EI λi j=>.bl (decide (j<=i))
theorem oo{K:MT}{g:Int->Int->Bool}:dB K (Az λi j=>.bl (g i j)) (EI λi j=>.bl (g i j)):=λa b d x y O H Q hO hg ha hb q=>by
 cases a with
 |int i=>
  cases b with
  |int j=>cases hg;exact⟨i,j,c6.mp ha,c6.mp hb,q _ H (aF.refl H) (gO.mpr rfl)⟩
  |_=>cases hg
 |_=>cases hg
theorem uh{K:MT}{g:Int->Int->Int}:dB K (Az λi j=>.int (g i j)) (EI λi j=>.int (g i j)):=λa b d x y O H Q hO hg ha hb q=>by
 cases a with
 |int i=>
  cases b with
  |int j=>cases hg;exact⟨i,j,c6.mp ha,c6.mp hb,q _ H (aF.refl H) (c6.mpr rfl)⟩
  |_=>cases hg
 |_=>cases hg
noncomputable def GP(c:Int->Int->Bool)(p:Int->Int->Int)(a b:D):aW:=match a,b with
 |.int i,.int j=>if c i j then some (.int (p i j))else none
 |_,_=>none
theorem iL{K:MT}{C:Int->Int->Prop}{c:Int->Int->Bool}{g:Int->Int->Int}(hc:∀i j,c i j=true->C i j):dB K (rI C λi j=>.int (g i j)) (GP c g):=λa b d x y O H Q hO hg ha hb q=>by
 cases a with
 |int i=>
  cases b with
  |int j=>
   obtain⟨h1,h2⟩:=bC hg;subst h2;exact⟨i,j,c6.mp ha,c6.mp hb,hc i j h1,q _ H (aF.refl H) (c6.mpr rfl)⟩
  |_=>cases hg
 |_=>cases hg
noncomputable def EZ:=EI λi j=>.int (i-j)
noncomputable def ly:=GP (λi j=>decide ((-(2^64)<i/\i<2^64)\/(-(2^64)<j/\j<2^64))) (·*·)
noncomputable def CT(_ j:Int):Prop:=0<j/\j<10^200
theorem x8:kf X (Oq .FloorDiv) (rI CT λi j=>.int (i/j)):=Hz λi j _ _ _ _ _ hc q=>by
 have h1:(0:Int)<j:=hc.1;have h2:j<10^200:=hc.2;refine PyProof.Rows.floordiv_int `o (by rw[Int.fdiv_eq_ediv_of_nonneg i `o];exact q) (.inl (PyProof.noPylong_of_log2 ?_));have h3:j.natAbs<10^200:=by omega
 rw[Nat.log2_lt `o];exact KG h3 (by decide +kernel)
noncomputable def dQ:=GP (λ_ j=>decide (0<j/\j<10^200)) (·/·)
noncomputable def cx:=GP (λ_ j=>decide (0<j)) (·%·)
noncomputable def qP:=GP (λi j=>decide (0<=j/\j<=1000000/\i.natAbs<2^64)) λi j=>i^j.toNat
theorem DA{K:MT}:dB K (Az λi j=>.int (i-j)) EZ:=uh
theorem DE{K:MT}:dB K (rI Fv λi j=>.int (i*j)) ly:=iL λi j h=>by have q:=of_decide_eq_true h;exact q
theorem FJ{K:MT}:dB K (rI CT λi j=>.int (i/j)) dQ:=iL λi j h=>by have q:=of_decide_eq_true h;exact q
theorem Fd{K:MT}:dB K (rI (λ_ j=>0<j) λi j=>.int (i%j)) cx:=iL λ_ _ h=>of_decide_eq_true h
theorem EE{K:MT}:dB K (rI Gi λi j=>.int (i^j.toNat)) qP:=iL λi j h=>by have q:=of_decide_eq_true h;exact q
noncomputable def Gj(K:MT):R2:=λx y H Q=>∃l b xs zs,x=.ref l/\y=.ref b/\lu K H l xs/\lu K H b zs/\xs.length+zs.length<=NY/\∀p,H p=none->Q (.ref p) (upd H p (.lst (xs++zs)))
theorem Bk:kf X (Oq .Add) (Gj X.K):=by
 intro pins s σ H x y v u Q I rx ry h;obtain⟨l,b,xs,zs,rfl,rfl,hH,hB,hz,q⟩:=h;cases rx;cases ry;obtain⟨its,r,t1,_⟩:=I.list hH;obtain⟨its2,r2,t2,_⟩:=I.list hB;obtain⟨⟨c1,d1,dt1,sl1⟩,n1,ho,hc,hd,hdt⟩:=t1;obtain⟨⟨c2,d2,dt2,sl2⟩,n2,ho2,hc2,hd2,hdt2⟩:=t2;simp only at hc hd hdt hc2 hd2 hdt2;subst hc hd hdt hc2 hd2 hdt2;have z1:=r.length;have z2:=r2.length;refine OB ⟨_,ho,rfl⟩ ⟨_,ho2,rfl⟩ noFill_list_add seq_list_add F.slot_list_add F.entry_list_add (F.args_list_add_2 _ _) (PyProof.Rows.list_addW l b its.toArray its2.toArray n1 n2 none none sl1 sl2 (by rw[Ko,Ko];omega)) ⟨ho,ho2,?_⟩;have ea:its.toArray++its2.toArray=(its++its2).toArray:=by simp
 rw[ea];exact⟨.ref _,_,I.lnew (t':=s.toks) (r.append r2) (by rw[Kl];omega),rfl,q _ I.fresh⟩
noncomputable def EB(K:MT):R2:=λx y H Q=>∃a b xs ys,x=.ref a/\y=.ref b/\pV K H a xs/\pV K H b ys/\xs.length+ys.length<=NY/\
 (xs=[]->Q (.ref b) H)/\(xs≠[]->ys=[]->Q (.ref a) H)/\(xs≠[]->ys≠[]->∀p,H p=none->Q (.ref p) (upd H p (.tup (xs++ys))))
theorem yt:kf X (Oq .Add) (EB X.K):=by
 intro pins s σ H x y v u Q I rx ry h;obtain⟨a,b,xs,ys,ex,ey,ha,hb,hz,q0,q1,q2⟩:=h;by_cases hx:xs=[]
 ·subst ex ey;cases rx;cases ry;obtain⟨its,r1,p1,_⟩:=I.tuple ha;obtain⟨its2,r2,p2,_⟩:=I.tuple hb;obtain⟨⟨cls,dd,data,sl⟩,ho,hc,n,hd⟩:=id p1;obtain⟨⟨cls2,dd2,data2,sl2⟩,ho2,hc2,n2,hd2⟩:=id p2;simp only at hc hd hc2 hd2;subst hc hd hc2 hd2;have e:its=[]:=r1.nil_iff.mpr hx;exact OB ⟨_,ho,rfl⟩ ⟨_,ho2,rfl⟩ OC OD F.slot_tuple_add F.entry_tuple_add (F.args_tuple_add_2 _ _)
   (PyProof.Rows.tuple_addW0 a b its.toArray its2.toArray n n2 dd dd2 sl sl2 (by rw[e];rfl)) ⟨ho,ho2,⟨.ref b,H,I,rfl,q0 hx⟩⟩
 ·exact AQ pins s σ H x y v u Q I rx ry ⟨a,b,xs,ys,ex,ey,ha,hb,hx,hz,q1 hx,q2 hx⟩
noncomputable def dg(a b:D):aW:=match a,b with
 |.int i,.int j=>some (.int (i+j))
 |.str x,.str y=>if small (x.length+y.length)then some (.str (x++y))else none
 |.lst xs,.lst ys=>if small (xs.length+ys.length)then some (.lst (xs++ys))else none
 |.tup xs,.tup ys=>if small (xs.length+ys.length)then some (.tup (xs++ys))else none
 |_,_=>none
theorem B2:kf X (Oq .Add) (rD X.K dg):=by
 rintro pins s σ H x y u v Q I rx ry ⟨O,a,b,d,hO,ha,hb,hg,q⟩;cases a with
 |int i=>
  cases b with
  |int j=>
   cases hg;exact Dt pins s σ H x y u v Q I rx ry ⟨i,j,c6.mp ha,c6.mp hb,q _ H (aF.refl H) (c6.mpr rfl)⟩
  |_=>cases hg
 |str i=>
  cases b with
  |str j=>
   obtain⟨h1,h2⟩:=bC hg;subst h2;exact ug pins s σ H x y u v Q I rx ry ⟨i,j,c9.mp ha,c9.mp hb,df h1,q _ H (aF.refl H) (c9.mpr rfl)⟩
  |_=>cases hg
 |lst xs=>
  cases b with
  |lst ys=>
   obtain⟨h1,h2⟩:=bC hg;subst h2;rw[bI]at ha hb;obtain⟨p,vs,ex,g1,g2⟩:=ha;obtain⟨p',vs',ey,g1',g2'⟩:=hb;refine Bk pins s σ H x y u v Q I rx ry ⟨p,p',vs,vs',ex,ey,(ai H O).seq g1,(ai H O).seq g1',?_,λr hr=>?_⟩
   ·rw[<-g2.length,<-g2'.length];exact df h1
   ·exact q _ _ (bh hr _) (cS hO hr (g2.append g2'))
  |_=>cases hg
 |tup xs=>
  cases b with
  |tup ys=>
   obtain⟨h1,h2⟩:=bC hg;subst h2;have da:=ha;have db:=hb;rw[bv]at ha hb;obtain⟨p,vs,ex,g1,g2⟩:=ha;obtain⟨p',vs',ey,g1',g2'⟩:=hb;have l1:=g2.length;have l2:=g2'.length;refine yt pins s σ H x y u v Q I rx ry ⟨p,p',vs,vs',ex,ey,aZ (ai H O) g1,aZ (ai H O) g1',?_,λz=>?_,λz z'=>?_,λz z' r hr=>?_⟩
   ·rw[<-l1,<-l2];exact df h1
   ·have e:xs=[]:=List.length_eq_zero_iff.mp (by rw[l1,z];rfl);rw[<-ey];refine q _ H (aF.refl H) ?_;rw[e,K4];exact db
   ·have e:ys=[]:=List.length_eq_zero_iff.mp (by rw[l2,z'];rfl);rw[<-ex];refine q _ H (aF.refl H) ?_;rw[e,Kc];exact da
   ·exact q _ _ (bh hr _) (eW hO hr (g2.append g2'))
  |_=>cases hg
 |_=>cases hg
noncomputable def aD(a b:D):aW:=match a,b with
 |.tup xs,.int i=>jU xs i
 |.lst xs,.int i=>jU xs i
 |.str x,.int i=>if small x.length then(jU x.cps.toList i).bind λc=>some (.str ⟨#[c]⟩)else none
 |_,_=>none
theorem vK{K:MT}{H:Hp}{ds:List D}{vs:aG}{i:Int}{d:D}(h:aB K H ds vs)(e:jU ds i=some d):∃v,jU vs i=some v/\bo K H d v:=by
 unfold jU at e ⊢;obtain⟨j,e1,e2⟩:=bind_some e;rw[<-h.length,e1];exact h.get e2
theorem IP:Gq X (rD X.K aD):=by
 rintro value slice pins s σ H x y u v Q I rx ry ⟨O,a,b,d,hO,ha,hb,hg,q⟩ hsub;cases a with
 |tup xs=>
  cases b with
  |int i=>
   rw[bv]at ha;obtain⟨p,vs,ex,g1,g2⟩:=ha;obtain⟨w,e1,e2⟩:=vK g2 hg;refine EH value slice pins s σ H x y u v Q I rx ry ?_ hsub;exact⟨p,vs,i,w,ex,c6.mp hb,aZ (ai H O) g1,e1,q w H (aF.refl H) e2⟩
  |_=>cases hg
 |lst xs=>
  cases b with
  |int i=>
   rw[bI]at ha;obtain⟨p,vs,ex,g1,g2⟩:=ha;obtain⟨w,e1,e2⟩:=vK g2 hg;refine qd value slice pins s σ H x y u v Q I rx ry ?_ hsub;exact⟨p,vs,i,w,ex,c6.mp hb,(ai H O).seq g1,e1,q w H (aF.refl H) e2⟩
  |_=>cases hg
 |str z=>
  cases b with
  |int i=>
   have hg':(if small z.length then(jU z.cps.toList i).bind λc=>some (D.str ⟨#[c]⟩)else none)=some d:=hg;cases hs:small z.length with
   |false=>rw[hs]at hg';cases hg'
   |true=>
    rw[hs]at hg';obtain⟨c,e1,e2⟩:=bind_some hg';cases e2;refine EQ value slice pins s σ H x y u v Q I rx ry ?_ hsub;exact⟨z,i,c,c9.mp ha,c6.mp hb,df hs,e1,q _ H (aF.refl H) (c9.mpr rfl)⟩
  |_=>cases hg
 |_=>cases hg
noncomputable def cutD{α:Type}(xs:List α)(lo hi:b9):List α:=(xs.drop (HT.sIx xs.length 0 lo)).take (HT.sIx xs.length xs.length hi-HT.sIx xs.length 0 lo)
theorem nG{M:N6}{A:N4}{E:az}{s:NT}{t:NQ}{items:cw}{Q:Bool->bn}(ht:Nw s.heap t items)(h:Q true s):N7 M A (Builtin.Tuple.tupleIsExact (.ref t)) Q E s:=by
 unfold Builtin.Tuple.tupleIsExact;refine Oj (OM ht.typeIs ?_);exact Oi h
theorem dX{prog:NV}{w:NU}{A:N4}{E:az}{s:NT}{t sl:NQ}{items:cw}{vl vu:NN}{lo hi:b9}{Q:az}(ht:Nw s.heap t items)(hs:s.heap.IsSliceOf sl vl vu .none)(pl:OG vl lo)(pu:OG vu hi)
  (hw:HT.sIx items.size 0 lo=0/\HT.sIx items.size items.size hi=items.size) (h:Q (.ref t) s):N7 `g A (getItem (.ref t) (.ref sl)) Q E s:=by
 obtain⟨os,hos,hcs,hds⟩:=id hs;have hTs:s.TypeIs (.ref sl) "slice":=⟨os,hos,hcs⟩
 unfold getItem
 try with_reducible refine OI ?_
 first|refine Oj (Oi ?_)|skip
 refine Oj (wpAny_sequenceKey ht.typeIs (by decide) ?_);refine Oj (OJ (name:=Str.ofString "__getitem__") ht.typeIs Nu
  (OL Nu ht.typeIs PyProof.Rows.entry_tuple_getitem ?_ (PyProof.Rows.args_tuple_getitem _ _)))
 show N7 _ _ (Builtin.Tuple.tupleItemsOf (.ref t) >>= _) _ _ s;refine Oj (PyProof.Rows.tupleItemsOf_ ht ?_);refine Oj (OM hTs ?_);rw[if_pos (by decide)];refine Oj (HT.kF hs pl pu ?_);have hyes:(((HT.sIx items.size 0 lo:Nat):Int)==0&&(1:Int)==1&&(HT.sIx items.size items.size hi-HT.sIx items.size 0 lo)==items.size)=true:=by
  rw[hw.1,hw.2];simp
 show N7 _ _ (if(((HT.sIx items.size 0 lo:Nat):Int)==0&&(1:Int)==1&&(HT.sIx items.size items.size hi-HT.sIx items.size 0 lo)==items.size)=true then _ else _) _ _ s;rw[if_pos hyes];refine Oj (nG ht ?_);rw[if_pos rfl]
 first
  |exact Oj (O2 (Oi ⟨_,rfl,Oi h⟩))
  |exact Oj (O2 (Oj (Oi (Oi ⟨_,rfl,Oi h⟩))))
noncomputable def mH(a:D)(lo hi:b9):aW:=match a with
 |.lst xs=>some (.lst (cutD xs lo hi))
 |.tup xs=>some (.tup (cutD xs lo hi))
 |.str x=>if small x.length then some (.str ⟨(cutD x.cps.toList lo hi).toArray⟩)else none
 |_=>none
theorem CV(v:b9)(d n:Nat)(hd:d<=n):(match v with|none=>(d:Int)|some i=>if(1:Int)>0 then max 0 (min (if i<0 then i+(n:Int)else i) (n:Int))else max (-1) (min (if i<0 then i+(n:Int)else i) ((n:Int)-1)))=((HT.sIx n d v:Nat):Int):=by
 cases v with
 |none=>rfl
 |some i=>
  show(if(1:Int)>0 then max 0 (min (if i<0 then i+(n:Int)else i) (n:Int))else max (-1) (min (if i<0 then i+(n:Int)else i) ((n:Int)-1)))=(((if i<0 then(i+(n:Int)).toNat else min i.toNat n):Nat):Int)
  rw[if_pos (by decide)];by_cases h:i<0
  ·rw[if_pos h,if_pos h];omega
  ·rw[if_neg h,if_neg h];omega
theorem zi(lo hi:b9)(n:Nat):Builtin.Str.strSliceIndices lo hi 1 n=(List.range (HT.sIx n n hi-HT.sIx n 0 lo)).map λk=>HT.sIx n 0 lo+k:=by
 have e1:=CV lo 0 n (KH _);have e2:=CV hi n n (Ka _);have e:Builtin.Str.strSliceIndices lo hi 1 n=sliceRange ((HT.sIx n 0 lo:Nat):Int) ((HT.sIx n n hi:Nat):Int) 1:=by
  rw[<-e1,<-e2];cases lo<;>cases hi<;>rfl
 rw[e];unfold sliceRange;dsimp only;rw[if_pos (by decide:(1:Int)>0)];have e3:(if((HT.sIx n 0 lo:Nat):Int)<((HT.sIx n n hi:Nat):Int)then(((HT.sIx n n hi:Nat):Int)-((HT.sIx n 0 lo:Nat):Int)+1-1)/1 else 0:Int).toNat=HT.sIx n n hi-HT.sIx n 0 lo:=by
  rw[Int.ediv_one];split<;>omega
 rw[e3];refine K8 λk _=>?_;omega
theorem zv{α:Type}(l:List α)(a:Nat):∀n:Nat,((List.range n).map λk=>a+k).filterMap (λi=>l[i]?)=(l.drop a).take n
 |0=>by simp
 |n+1=>by
  rw[List.range_succ,K9,List.filterMap_append,zv l a n,List.take_add_one,La];cases e:l[a+n]?<;>simp[e]
theorem wZ(x:Str)(lo hi:b9):Txt.slice x lo hi=⟨(cutD x.cps.toList lo hi).toArray⟩:=by
 have hl:x.cps.toList.length=x.length:=by simp[Str.length]
 have pick:(Builtin.Str.strSliceIndices lo hi 1 x.length).filterMap (x.cps[·]?)=cutD x.cps.toList lo hi:=by
  rw[zi];have q:=zv x.cps.toList (HT.sIx x.length 0 lo) (HT.sIx x.length x.length hi-HT.sIx x.length 0 lo);unfold cutD;rw[hl,<-q];congr 1;funext i;simp
 unfold Txt.slice;split
 ·rename_i h;have h':(Builtin.Str.strSliceIndices lo hi 1 x.length).length=x.length:=by simpa using h
  rw[zi,Km,Lb]at h';have h1:=HT.DQ x.length x.length (Ka _) hi;have z1:HT.sIx x.length 0 lo=0\/x.length=0:=by omega
  have e:cutD x.cps.toList lo hi=x.cps.toList:=by
   unfold cutD;rw[hl,h'];rcases z1 with z1|z1
   ·rw[z1,KS,<-hl,List.take_length]
   ·have:x.cps.toList=[]:=List.length_eq_zero_iff.mp (by rw[hl];exact z1)
    rw[this];simp
  rw[e]
 ·rw[pick]
noncomputable def IY(K:MT):V->b9->b9->Hp->VK->Prop:=λx lo hi H Q=>∃O a d,bJ H O/\bo K (hid H O) a x/\mH a lo hi=some d/\∀v H',aF H H'->bo K (hid H' O) d v->Q v H'
theorem aB.cut{K:MT}{H:Hp}{ds:List D}{vs:aG}(h:aB K H ds vs)(lo hi:b9):aB K H (cutD ds lo hi) (rh vs lo hi):=by
 unfold cutD rh;rw[h.length];exact(h.drop _).take _
theorem IR:HC X (IY X.K):=by
 rintro pins s σ H x v vl vu lo hi sl Q I rx hs pl pu ⟨O,a,d,hO,ha,hg,q⟩;cases a with
 |lst xs=>
  cases hg;rw[bI]at ha;obtain⟨p,vs,ex,g1,g2⟩:=ha;exact AW pins s σ H x v vl vu lo hi sl Q I rx hs pl pu ⟨p,vs,ex,(ai H O).seq g1,λr hr=>q _ _ (bh hr _) (cS hO hr (g2.cut lo hi))⟩
 |tup xs=>
  cases hg;have da:=ha;rw[bv]at ha;obtain⟨p,vs,ex,g1,g2⟩:=ha;by_cases hw:HT.sIx vs.length 0 lo=0/\HT.sIx vs.length vs.length hi=vs.length
  ·subst ex;cases rx;obtain⟨its,r,ht,hz⟩:=I.tuple (aZ (ai H O) g1);have hlen:its.toArray.size=vs.length:=(by rw[Ko];exact r.length.symm);refine⟨"tuple",_,PyProof.Rows.slot_tuple_getitem.lookup,ht.typeIs,dX ht hs pl pu (by rw[hlen];exact hw) ⟨.ref p,H,I,rfl,q _ H (aF.refl H) ?_⟩⟩;have e:cutD xs lo hi=xs:=by
    unfold cutD;rw[g2.length,hw.1,hw.2,Lc,KS,<-g2.length,List.take_length]
   rw[e];exact da
  ·exact DN pins s σ H x v vl vu lo hi sl Q I rx hs pl pu ⟨p,vs,ex,aZ (ai H O) g1,hw,λr hr=>q _ _ (bh hr _) (eW hO hr (g2.cut lo hi))⟩
 |str z=>
  obtain⟨h1,h2⟩:=bC hg;subst h2;rw[c9]at ha;subst ha;obtain⟨t,rfl⟩:=rx;have fin:∀t' tk,EP X pins σ Q (.str (Txt.slice z lo hi) t') {s with toks:=tk}:=λt' tk=>by
   rw[wZ];exact⟨.str _,H,I.tok _,⟨_,rfl⟩,q _ H (aF.refl H) (c9.mpr rfl)⟩
  obtain⟨os,hos,hcs,hds⟩:=id hs;have hz:=df h1;refine⟨"str",_,F.slot_str_getitem.lookup,typeIs_str _ _ _,?_⟩;cases pl with
  |none=>
   cases pu with
   |none=>exact O3 (l:=none) (u:=none) (st:=none) ⟨os,hos,hcs,hds⟩ rfl (O5 ⟨JY (Txt.slice_le z _ _) hz,λt' k=>fin t' k⟩)
   |int j tj=>exact O3 (l:=none) (u:=some (j,tj)) (st:=none) ⟨os,hos,hcs,hds⟩ rfl (O5 ⟨JY (Txt.slice_le z _ _) hz,λt' k=>fin t' k⟩)
  |int i ti=>
   cases pu with
   |none=>exact O3 (l:=some (i,ti)) (u:=none) (st:=none) ⟨os,hos,hcs,hds⟩ rfl (O5 ⟨JY (Txt.slice_le z _ _) hz,λt' k=>fin t' k⟩)
   |int j tj=>exact O3 (l:=some (i,ti)) (u:=some (j,tj)) (st:=none) ⟨os,hos,hcs,hds⟩ rfl (O5 ⟨JY (Txt.slice_le z _ _) hz,λt' k=>fin t' k⟩)
 |_=>cases hg
noncomputable def jq:ah->R (b9):=λ_=>.ok none
noncomputable def sX:D->Option (b9)
 |.int i=>some (some i)
 |_=>none
noncomputable def lR(f:FX):ah->R (b9):=λρ=>(f ρ).bind λd=>rO (sX d)
noncomputable def JP(X:Cx)(F:ah->R b9):TO:=λσ H Q=>∃O ρ,cm X.K O H ρ σ/\gL X σ O H (F ρ) λo=>∀H',aF H H'->Q o H'
noncomputable def FO(X:Cx)(e:Option NR)(F:ah->R b9):Prop:=PO X e (JP X F)
noncomputable def kN(f:FX)(l h:ah->R b9):FX:=λρ=>(f ρ).bind λa=>(l ρ).bind λlo=>(h ρ).bind λhi=>rO (mH a lo hi)
end
end TG
namespace TG
open PySem PySem.Spec L2
variable[aj]
noncomputable def CK(K:MT)(g:List D->aW):aG->Hp->VK->Prop:=λxs H Q=>∃O ds d,bJ H O/\aB K (hid H O) ds xs/\g ds=some d/\∀v H',aF H H'->bo K (hid H' O) d v->Q v H'
theorem mQ{K:MT}{g:List D->aW}:vz K (CK K g) g:=λds d xs O H Q hO hg hd q=>⟨O,ds,d,hO,hd,hg,q⟩
section
variable{X:Cx}{x:Str}{p pos:Pos}{e:NR}{es:bj}{id T:String}{g:List D->aW}{f:aV}
noncomputable def tE:List D->aW
 |[.lst xs]=>some (.int xs.length)
 |[.tup xs]=>some (.int xs.length)
 |[.str x]=>if small x.length then some (.int x.length)else none
 |_=>none
theorem wq:eV X (.builtin "len") (CK X.K tE):=by
 rintro pins s σ H xs us Q I r ⟨O,ds,d,hO,hd,hg,q⟩;unfold tE at hg;split at hg
 ·rename_i ys;cases hg;obtain⟨v,ev,h1⟩:=hd.one;rw[bI]at h1;obtain⟨p,vs,ep,g1,g2⟩:=h1;exact jF pins s σ H xs us Q I r ⟨p,vs,by rw[ev,ep],.inl ((ai H O).seq g1),q _ H (aF.refl H) (c6.mpr (by rw[g2.length]))⟩
 ·rename_i ys;cases hg;obtain⟨v,ev,h1⟩:=hd.one;rw[bv]at h1;obtain⟨p,vs,ep,g1,g2⟩:=h1;exact jF pins s σ H xs us Q I r ⟨p,vs,by rw[ev,ep],.inr (aZ (ai H O) g1),q _ H (aF.refl H) (c6.mpr (by rw[g2.length]))⟩
 ·rename_i z;obtain⟨h1,h2⟩:=bC hg;subst h2;obtain⟨v,ev,h1'⟩:=hd.one;exact pZ pins s σ H xs us Q I r ⟨z,by rw[ev,c9.mp h1'],df h1,q _ H (aF.refl H) (c6.mpr rfl)⟩
 ·cases hg
noncomputable def dU:List D->aW
 |[.lst xs]=>some (.tup xs)
 |[.tup xs]=>some (.tup xs)
 |_=>none
theorem su:eV X (.type "tuple") (CK X.K dU):=by
 rintro pins s σ H xs us Q I r ⟨O,ds,d,hO,hd,hg,q⟩;unfold dU at hg;split at hg
 ·rename_i ys;cases hg;obtain⟨v,ev,h1⟩:=hd.one;rw[bI]at h1;obtain⟨p,vs,ep,g1,g2⟩:=h1;exact i7 pins s σ H xs us Q I r ⟨p,vs,by rw[ev,ep],.inl ⟨(ai H O).seq g1,λl hl=>q _ _ (bh hl _) (eW hO hl g2)⟩⟩
 ·rename_i ys;cases hg;obtain⟨v,ev,h1⟩:=hd.one;have h0:=h1;rw[bv]at h1;obtain⟨p,vs,ep,g1,g2⟩:=h1;rw[ep]at h0;exact i7 pins s σ H xs us Q I r ⟨p,vs,by rw[ev,ep],.inr ⟨aZ (ai H O) g1,q _ H (aF.refl H) h0⟩⟩
 ·cases hg
noncomputable def GI:List D->aW
 |[.int i,.int j]=>some (.int (if j>i then j else i))
 |_=>none
noncomputable def Ha:List D->aW
 |[.int i,.int j]=>some (.int (if j<i then j else i))
 |_=>none
noncomputable def HY(T:String)(d:D):Bool:=match d with
 |.bl _=>T=="bool"||T=="int"
 |.non=>T=="NoneType"
 |.int _=>T=="int"
 |.str _=>T=="str"
 |.tup _=>T=="tuple"
 |.lst _=>T=="list"
 |.dct _ _=>T=="dict"
 |_=>false
noncomputable def Hc(T:String)(d:D):aW:=if top d then some (.bl (HY T d))else none
noncomputable def IU(T:String)(f:FX):FX:=f1 (Hc T) f
end
section
variable{X:Cx}{a:NR}{f:FX}{pos:Pos}
noncomputable def isNon:D->Bool
 |.non=>true
 |_=>false
theorem wN{K:MT}{H:Hp}{d:D}{v:V}(h:bo K H d v):decide (v=.non)=isNon d:=by
 cases d with
 |non=>rw[gq.mp h];rfl
 |bl b=>rw[gO.mp h];rfl
 |int i=>rw[c6.mp h];rfl
 |str x=>rw[c9.mp h];rfl
 |tup xs=>obtain⟨_,_,e,_⟩:=bv.mp h;rw[e];rfl
 |lst xs=>obtain⟨_,_,e,_⟩:=bI.mp h;rw[e];rfl
 |dct _ _=>obtain⟨_,_,e,_⟩:=Hl.mp h;rw[e];rfl
 |obj _ _ _=>obtain⟨_,_,e,_⟩:=CJ.mp h;rw[e];rfl
 |exc _ _ _=>obtain⟨_,_,e,_⟩:=HG.mp h;rw[e];rfl
noncomputable def IA(d:D):aW:=some (.bl (isNon d))
noncomputable def GC(d:D):aW:=some (.bl (!isNon d))
noncomputable def IH(f:FX):FX:=f1 IA f
noncomputable def jy(f:FX):FX:=f1 GC f
theorem rA:∀σ H Q,tF X (jy f) σ H Q->tF X f σ H λv H'=>Q (.bl (!decide (v=.non))) H':=λσ H Q zq=>zq.elim λO zq=>zq.elim λρ zq=>zq.elim λE hF=>⟨O,ρ,E,(gL.bind hF).imp λa hF v H1 s1 d1=>by
 obtain⟨d,e,q⟩:=gL.rO hF;cases e;rw[wN d1];exact q _ H1 s1 (gO.mpr rfl)⟩
end
noncomputable def Walk(K:MT)(Hd:Hp)(J:It)(ds:List D):Prop:=
 ∀(Hn:Hp)(O':ak)(i:Nat),bJ Hn O'->aF Hd (hid Hn O')->(∀d,ds[i]?=some d->J.go i Hn/\∀x H2,J.yld i Hn x H2->aF Hn H2/\bo K (hid H2 O') d x)/\(i=ds.length->J.stop i Hn)
noncomputable def Hu(X:Cx)(G:aV):TI:=λσ H RR=>∃O ρ,cm X.K O H ρ σ/\gL X σ O H (G ρ) λds=>∀J H1,aF H H1->Walk X.K (hid H1 O) J ds->RR J H1
noncomputable def FI(X:Cx)(tg iter:NR)(G:aV):Prop:=PI X tg iter (Hu X G)
noncomputable def mj:D->Option (List D)
 |.lst xs=>some xs
 |.tup xs=>some xs
 |_=>none
noncomputable def bK(f:FX):aV:=λρ=>(f ρ).bind λd=>rO (mj d)
section
variable{X:Cx}{tg:NR}
theorem wa{K:MT}{Hd:Hp}{a:NQ}{ds:List D}{vs:aG}(h:lu K Hd a vs)(g:aB K Hd ds vs):Walk K Hd (HH K a) ds:=λHn O' i hO s=>
  have s':aF Hd Hn:=s.trans (ai Hn O')
  ⟨fun d e=>by
    obtain⟨v,ev,dv⟩:=g.get e;refine⟨⟨vs,v,s'.seq h,ev⟩,λx H2 zq=>zq.elim λe2 y=>?_⟩;have q:=y vs (s'.seq h);rw[ev]at q;cases q;subst e2;exact⟨aF.refl _,dv.mono s⟩,
   λhl=>⟨vs,s'.seq h,by rw[<-g.length];exact Ld hl.symm⟩⟩
theorem zO{K:MT}{Hd:Hp}{a:NQ}{ds:List D}{vs:aG}(h:Hd a=some (.tup vs))(g:aB K Hd ds vs):Walk K Hd (Ii K a) ds:=λHn O' i hO s=>
  have s':aF Hd Hn:=s.trans (ai Hn O')
  ⟨fun d e=>by
    obtain⟨v,ev,dv⟩:=g.get e;refine⟨⟨vs,v,aZ s' h,ev⟩,λx H2 zq=>zq.elim λe2 y=>?_⟩;have q:=y vs (aZ s' h);rw[ev]at q;cases q;subst e2;exact⟨aF.refl _,dv.mono s⟩,
   λhl=>⟨vs,aZ s' h,by rw[<-g.length];exact Ld hl.symm⟩⟩
noncomputable def bF(lo:Int)(n:Nat):List D:=(List.range n).map λ(k:Nat)=>D.int (lo+(k:Int))
theorem nT(lo:Int)(n:Nat):(bF lo n).length=n:=by unfold bF;rw[Km,Lb]
theorem sP{K:MT}{Hd:Hp}(lo:Int)(n:Nat):Walk K Hd (HE lo n) (bF lo n):=λHn O' i hO s=>
  ⟨fun d e=>by
    unfold bF at e;rw[Ki]at e;cases hi:(List.range n)[i]? with
    |none=>rw[hi]at e;cases e
    |some k=>
      rw[hi]at e;cases e;have hlt:i<n:=by
        have:=(List.getElem?_eq_some_iff.mp hi).1
        rwa [Lb]at this
      have ek:k=i:=by
        rw[Le hlt]at hi;exact(Option.some.inj hi).symm
      subst ek;exact⟨hlt,λx H2 zq=>zq.elim λe1 e2=>by subst e1;exact⟨aF.refl _,c6.mpr e2⟩⟩,
   λhl=>by rw[nT]at hl;exact Ld hl.symm⟩
noncomputable def okR(j:Int):Bool:=decide (-(2^62)<=j/\j<2^62)
noncomputable def jL:List D->Option (List D)
 |[.int j]=>if okR j then some (bF 0 j.toNat)else none
 |_=>none
noncomputable def vI:List D->Option (List D)
 |[.int i,.int j]=>if okR i&&okR j then some (bF i (j-i).toNat)else none
 |_=>none
noncomputable def bZ(f:aV):aV:=λρ=>(f ρ).bind λds=>rO (jL ds)
noncomputable def BI(f:aV):aV:=λρ=>(f ρ).bind λds=>rO (vI ds)
end
noncomputable abbrev GF:=D->ah->Option ah
noncomputable def GA(K:MT)(g:GF):TG:=λv σ H Q=>∃O ρ d ρ',cm K O H ρ σ/\bo K (hid H O) d v/\g d ρ=some ρ'/\∀σ',cm K O H ρ' σ'->(∀(i:Nat) x,ρ'[i]?=some (some x)->(∀d,x≠.val d)->σ'[i]?=σ[i]?/\ρ[i]?=some (some x))->Q σ' H
noncomputable def FG(X:Cx)(tg:NR)(g:GF):Prop:=PG X tg (GA X.K g)
noncomputable def setV(i:Nat)(d:D)(ρ:ah):ah:=ρ.set i (some (.val d))
theorem ax{α:Type}{l:List α}{i j:Nat}{a b:α}(h:(l.set i a)[j]?=some b):(j=i/\b=a)\/(j≠i/\l[j]?=some b):=by
 by_cases e:j=i
 ·subst e;left;have hj:j<(l.set j a).length:=(List.getElem?_eq_some_iff.mp h).1;rw[Lf]at hj;rw[J6 hj]at h;exact⟨rfl,(Option.some.inj h).symm⟩
 ·right;rw[J7 (Ne.symm e)]at h;exact⟨e,h⟩
theorem cm.setV{K:MT}{O:ak}{H:Hp}{ρ:ah}{σ:St}(E:cm K O H ρ σ){i:Nat}{d:D}{v:V}(hi:i<σ.length)(hd:bo K (hid H O) d v):cm K O H (setV i d ρ) (σ.set i (some v)):=
  ⟨fun j d' e=>by
    rcases ax e with⟨hj,eq⟩|⟨ne,eq⟩
    ·cases eq;rw[hj];exact⟨v,J6 hi,hd⟩
    · obtain⟨w,e1,e2⟩:=E.val j d' eq
      exact⟨w,by rw[J7 (Ne.symm ne)];exact e1,e2⟩,
   λj xs e=>by
    rcases ax e with⟨_,eq⟩|⟨ne,eq⟩
    ·cases eq
    · obtain⟨a,e1,e2⟩:=E.own j xs eq
      exact⟨a,by rw[J7 (Ne.symm ne)];exact e1,e2⟩,
   λj k xs ys a e1 e2 e3 e4=>by
    rcases ax e1 with⟨_,q1⟩|⟨ne1,q1⟩
    ·cases q1
    · rcases ax e2 with⟨_,q2⟩|⟨ne2,q2⟩
      ·cases q2
      · rw[J7 (Ne.symm ne1)]at e3
        rw[J7 (Ne.symm ne2)]at e4;exact E.one j k xs ys a q1 q2 e3 e4,E.all⟩
section
variable{X:Cx}{pos:Pos}
noncomputable def gN(i:Nat):GF:=λd ρ=>some (setV i d ρ)
noncomputable abbrev Aw:=List D->ah->Option ah
noncomputable def HX(K:MT)(g:Aw):CW:=λvs σ H Q=>∃O ρ ds ρ',cm K O H ρ σ/\aB K (hid H O) ds vs/\g ds ρ=some ρ'/\∀σ',cm K O H ρ' σ'->(∀(i:Nat) x,ρ'[i]?=some (some x)->(∀d,x≠.val d)->σ'[i]?=σ[i]?/\ρ[i]?=some (some x))->Q σ' H
noncomputable def JN(X:Cx)(ts:bj)(g:Aw):Prop:=GB X ts (HX X.K g)
noncomputable def C5:Aw:=λds ρ=>match ds with
 |[]=>some ρ
 |_=>none
noncomputable def zb(g:GF)(h:Aw):Aw:=λds ρ=>match ds with
 |d::r=>(g d ρ).bind λρ1=>h r ρ1
 |_=>none
noncomputable def gT(n:Nat)(g:Aw):GF:=λd ρ=>match d with
 |.tup xs=>if xs.length=n then g xs ρ else none
 |_=>none
end
noncomputable def qC{α:Type}(r:R α):R α:=match r with
 |.ok a=>.ok a
 |.error _=>un
theorem Al{α:Type}{r:R α}{a:α}(h:qC r=.ok a):r=.ok a:=by
 cases r with
 |ok b=>exact h
 |error z=>cases h
noncomputable def inB(ix:dS)(ρ:ah):ah:=ix.map λo=>match o with
 |some i=>match ρ[i]? with
  |some (some (.val d))=>some (.val d)
  |_=>none
 |none=>none
noncomputable def rm(ρ:ah)(g:GF)(C:bg)(Fe:FX):List D->R (List D)
 |[]=>.ok []
 |d::ds=>(rO (g d ρ)).bind λρ1=>(qC (C ρ1)).bind λc=>if c then(qC (Fe ρ1)).bind λv=>(rm ρ g C Fe ds).bind λr=>.ok (v::r)else rm ρ g C Fe ds
theorem mW(ρ:ah)(g:GF)(C:bg)(Fe:FX)(d:D)(ds:List D):rm ρ g C Fe (d::ds)=(rO (g d ρ)).bind λρ1=>(qC (C ρ1)).bind λc=>if c then(qC (Fe ρ1)).bind λv=>(rm ρ g C Fe ds).bind λr=>.ok (v::r)else rm ρ g C Fe ds:=rfl
noncomputable def eD(ix:dS)(G:aV)(g:GF)(C:bg)(Fe:FX):FX:=λρ=>(G ρ).bind λds=>if small ds.length then qC ((rm (inB ix ρ) g C Fe ds).bind λr=>.ok (.lst r))else un
noncomputable def IX(X:Cx)(ifs:bj)(F:bg):Prop:=FC X ifs (Hv X F)
noncomputable def bH:bg:=λ_=>.ok true
theorem A1{X:Cx}:IX X [] bH:=λpins s σ H Q I zq=>zq.elim λO zq=>zq.elim λρ zq=>zq.elim λE q=>Cq pins s σ H Q I (q H (aF.refl H))
theorem jM{ix:dS}{ρ:ah}{j:Nat}{x:S}(e:(inB ix ρ)[j]?=some (some x)):∃i d,ix[j]?=some (some i)/\ρ[i]?=some (some (.val d))/\x=.val d:=by
 unfold inB at e;rw[Ki]at e;cases q:ix[j]? with
 |none=>rw[q]at e;cases e
 |some o=>
  rw[q]at e;cases o with
  |none=>cases e
  |some i=>
   have e':(match ρ[i]? with|some (some (.val d))=>some (S.val d)|_=>none)=some x:=Option.some.inj e;split at e'
   ·rename_i d hd;cases e';exact⟨i,d,rfl,hd,rfl⟩
   ·cases e'
theorem A3{K:MT}{O:ak}{H:Hp}{ρ:ah}{σ:St}(ix:dS)(E:cm K O H ρ σ):cm K O H (inB ix ρ) (inBlock ix σ):=by
 refine⟨λj d e=>?_,λj xs e=>?_,λj k xs ys a e=>?_,E.all⟩
 ·obtain⟨i,d',q1,q2,q3⟩:=jM e;cases q3;obtain⟨v,e1,e2⟩:=E.val i d q2;refine⟨v,?_,e2⟩;unfold inBlock;rw[Ki,q1];show some ((σ[i]?).getD none)=some (some v);rw[e1];rfl
 ·obtain⟨_,_,_,_,q3⟩:=jM e;cases q3
 ·obtain⟨_,_,_,_,q3⟩:=jM e;cases q3
theorem fP{H:Hp}{O:ak}{p:NQ}{o:HO}(hp:H p=none):aF (hid H O) (hid (upd H p o) (p::O)):=λb u h=>by
 unfold hid at h ⊢;by_cases hb:b∈O
 ·rw[if_pos hb]at h;cases h
 ·rw[if_neg hb]at h;have ne:=aI h hp;rw[if_neg (by intro z;rcases List.mem_cons.mp z with z|z;exact ne z;exact hb z),ao ne];exact h
theorem cm.hideNew{K:MT}{O:ak}{H:Hp}{ρ:ah}{σ:St}{p:NQ}{o:HO}(m:jr o)(E:cm K O H ρ σ)(hp:H p=none):cm K (p::O) (upd H p o) ρ σ:=by
 have s:aF (hid H O) (hid (upd H p o) (p::O)):=fP hp;refine⟨λi d e=>let ⟨v,a,b⟩:=E.val i d e;⟨v,a,b.mono s⟩,λi xs e=>?_,E.one,(E.all.same (bh hp o)).cons aq m⟩;obtain⟨a,e1,e2,e3⟩:=E.own i xs e;obtain⟨u,hu⟩:=e3.some;exact⟨a,e1,J4 _ e2,e3.mono (by rw[ao (aI hu hp)]) s⟩
theorem cm.rewrite{K:MT}{O:ak}{H:Hp}{ρ:ah}{σ:St}{p:NQ}{o:HO}(m:jr o)(E:cm K O H ρ σ)(hp:p∈O)(hs:∀(i:Nat) xs,ρ[i]?=some (some (.own xs))->σ[i]?≠some (some (.ref p))):cm K O (upd H p o) ρ σ:=by
 have s:aF (hid H O) (hid (upd H p o) O):=eU hp;refine⟨λi d e=>let ⟨v,a,b⟩:=E.val i d e;⟨v,a,b.mono s⟩,λi xs e=>?_,E.one,E.all.upd hp m⟩;obtain⟨a,e1,e2,e3⟩:=E.own i xs e;have ne:a≠p:=λz=>hs i xs e (by rw[<-z];exact e1);exact⟨a,e1,e2,e3.mono (by rw[ao ne]) s⟩
theorem cm.forget{K:MT}{O:ak}{H:Hp}{ρ ρ':ah}{σ:St}(E:cm K O H ρ σ)(h:∀(i:Nat) x,ρ'[i]?=some (some x)->ρ[i]?=some (some x)):cm K O H ρ' σ:=
 ⟨λi d e=>E.val i d (h i _ e),λi xs e=>E.own i xs (h i _ e),λi j xs ys a e1 e2=>E.one i j xs ys a (h i _ e1) (h j _ e2),E.all⟩
noncomputable def Fills(ρ:ah)(g:GF):Prop:=∀d ρ1,g d ρ=some ρ1->∀(i:Nat) x,ρ[i]?=some (some x)->ρ1[i]?=some (some x)
theorem oX(ix:dS)(ρ:ah):∀(i:Nat) xs,(inB ix ρ)[i]?≠some (some (.own xs)):=by
 intro j xs e;obtain⟨_,_,_,_,q3⟩:=jM e;cases q3
theorem Gz{α:Type}{o:Option α}{a:α}(h:rO o=.ok a):o=some a:=by
 cases o with
 |none=>cases h
 |some b=>cases h;rfl
end TG
namespace TG
open PySem PySem.Spec L2
variable[aj]
section
variable{X:Cx}{elt tg iter:NR}{ifs:bj}{scope:N5}{pos:Pos}{N:aH}{ix:dS}{G:aV}{g:GF}{C:bg}{Fe:FX}
structure lq(ix:dS)(g:GF):Prop where
 fill:∀ρ,Fills (inB ix ρ) g
 own:∀ρ d ρ1,g d (inB ix ρ)=some ρ1->∀(i:Nat) xs,ρ1[i]?≠some (some (.own xs))
theorem qQ{ρ:ah}{i:Nat}(h:ix[i]?=some none):∀x,(inB ix ρ)[i]?≠some (some x):=λx e=>by
 obtain⟨_,_,q,_⟩:=jM e;rw[h]at q;cases q
theorem iT{i:Nat}(h:ix[i]?=some none):lq ix (gN i):=
  ⟨fun ρ d ρ1 e j x q=>by
    cases e;by_cases z:j=i
    ·subst z;exact absurd q (qQ h x)
    ·unfold setV;rw[J7 (Ne.symm z)];exact q,
   λρ d ρ1 e j xs q=>by
    cases e;rcases ax q with⟨_,z⟩|⟨_,z⟩
    ·cases z
    ·exact oX ix ρ j xs z⟩
noncomputable def AZ(ix:dS)(is:aR):Bool:=is.all λi=>match ix[i]? with
 |some none=>true
 |_=>false
noncomputable def qD:aR->Aw
 |[]=>C5
 |i::is=>zb (gN i) (qD is)
theorem vj:∀(is:aR)(ds:List D)(ρ ρ1:ah),qD is ds ρ=some ρ1->∀(k:Nat)(x:S),ρ1[k]?=some (some x)->(k∈is/\∃d,x=.val d)\/ρ[k]?=some (some x)
 |[],ds,ρ,ρ1,h,k,x,e=>by
  cases ds with
  |nil=>cases h;exact .inr e
  |cons _ _=>cases h
 |i::is,ds,ρ,ρ1,h,k,x,e=>by
  cases ds with
  |nil=>cases h
  |cons d ds=>
   rcases vj is ds (setV i d ρ) ρ1 h k x e with⟨a,b⟩|q
   ·exact .inl ⟨J4 _ a,b⟩
   ·rcases ax q with⟨z,w⟩|⟨_,w⟩
    ·exact .inl ⟨by rw[z];exact J3,d,Option.some.inj w⟩
    ·exact .inr w
theorem sk:∀(is:aR)(ds:List D)(ρ ρ1:ah),qD is ds ρ=some ρ1->∀(k:Nat)(x:S),k∉is->ρ[k]?=some (some x)->ρ1[k]?=some (some x)
 |[],ds,ρ,ρ1,h,k,x,_,e=>by
  cases ds with
  |nil=>cases h;exact e
  |cons _ _=>cases h
 |i::is,ds,ρ,ρ1,h,k,x,n,e=>by
  cases ds with
  |nil=>cases h
  |cons d ds=>
   refine sk is ds (setV i d ρ) ρ1 h k x (λz=>n (J4 _ z)) ?_;unfold setV;rw[J7 (λz=>n (by rw[z];exact J3))];exact e
theorem gE{is:aR}{n:Nat}(h:AZ ix is=true):lq ix (gT n (qD is)):=by
 have hn:∀i∈is,ix[i]?=some none:=λi hi=>by
  have:=List.all_eq_true.mp h i hi
  cases e:ix[i]? with
  |none=>rw[e]at this;cases this
  |some o=>cases o with
   |none=>rfl
   |some _=>rw[e]at this;cases this
 have shape:∀ρ d ρ1,gT n (qD is) d ρ=some ρ1->∃ds,qD is ds ρ=some ρ1:=λρ d ρ1 e=>by
  cases d with
  |tup xs=>
   have e':(if xs.length=n then qD is xs ρ else none)=some ρ1:=e;by_cases hl:xs.length=n
   ·rw[if_pos hl]at e';exact⟨xs,e'⟩
   ·rw[if_neg hl]at e';cases e'
  |_=>cases e
 refine⟨λρ d ρ1 e k x q=>?_,λρ d ρ1 e k xs q=>?_⟩
 ·obtain⟨ds,e⟩:=shape _ d ρ1 e;exact sk is ds _ ρ1 e k x (λz=>qQ (hn k z) x q) q
 ·obtain⟨ds,e⟩:=shape _ d ρ1 e;rcases vj is ds _ ρ1 e k _ q with⟨_,d,z⟩|z
  ·cases z
  ·exact oX ix ρ k xs z
structure iP(X:Cx)(scope:N5)(N:aH)(ix:dS):Prop where
 cell:∀y∈scope.names,y.2≠.cell
 kind:scope.kind=.function
 names:∀y∈scope.names,y.2=.local->scope.names.lookup y.1=some .local
 free:∀y∈scope.names,y.2=.free->X.env.scope.names.lookup y.1=some .cell\/X.env.scope.names.lookup y.1=some .free
 ix:pP X.N N scope.names ix=true
noncomputable def gu(XS:mG)(XN:aH)(scope:N5)(N:aH)(ix:dS):Bool:=
 scope.names.all (λy=>decide (y.2≠.cell))&&decide (scope.kind=.function)&&scope.names.all (λy=>decide (y.2≠.local)||decide (scope.names.lookup y.1=some .local)) &&
  scope.names.all (λy=>decide (y.2≠.free)||(decide (XS.lookup y.1=some .cell)||decide (XS.lookup y.1=some .free)))&&pP XN N scope.names ix
theorem iP.of(h:gu X.env.scope.names X.N scope N ix=true):iP X scope N ix:=by
 unfold gu at h;simp only[Kr]at h;obtain⟨⟨⟨⟨h1,h2⟩,h3⟩,h4⟩,h5⟩:=h;refine⟨λy hy=>of_decide_eq_true (List.all_eq_true.mp h1 y hy),of_decide_eq_true h2,λy hy e=>?_,λy hy e=>?_,h5⟩
 ·rcases K3 _ _ ▸ List.all_eq_true.mp h3 y hy with q|q
  ·exact absurd e (of_decide_eq_true q)
  ·exact of_decide_eq_true q
 ·rcases K3 _ _ ▸ List.all_eq_true.mp h4 y hy with q|q
  ·exact absurd e (of_decide_eq_true q)
  ·rcases K3 _ _ ▸ q with q|q
   ·exact .inl (of_decide_eq_true q)
   ·exact .inr (of_decide_eq_true q)
noncomputable def Jg(X:Cx)(scope:N5)(N:aH)(tg elt:NR)(ifs:bj)(g:GF)(C:bg)(Fe:FX):Prop:=
 ∀cl C' fp s H E,FG (bf X scope N cl C' fp s H E) tg g/\IX (bf X scope N cl C' fp s H E) ifs C/\FE (bf X scope N cl C' fp s H E) elt Fe
noncomputable def A5(K:MT)(F:bg):TT:=λσ H Q=>∃O ρ b,cm K O H ρ σ/\F ρ=.ok b/\∀H',aF H H'->Q b H'
noncomputable def HQ(K:MT)(F:FX):TE:=λσ H Q=>∃O ρ d,cm K O H ρ σ/\F ρ=.ok d/\∀v H',aF H H'->bo K (hid H' O) d v->Q v H'
theorem Jg.k(hb:Jg X scope N tg elt ifs g C Fe):∀cl C' fp s H E,PG (bf X scope N cl C' fp s H E) tg (GA X.K g)/\FC (bf X scope N cl C' fp s H E) ifs (A5 X.K C)/\PE (bf X scope N cl C' fp s H E) elt (HQ X.K Fe):=λcl C' fp s H E=>by
 obtain⟨h1,h2,h3⟩:=hb cl C' fp s H E;refine⟨h1,λpins s σ H Q I zq=>zq.elim λO zq=>zq.elim λρ zq=>zq.elim λb zq=>zq.elim λe1 zq=>zq.elim λe2 q=>h2 pins s σ H Q I ⟨O,ρ,e1,by rw[e2];exact q⟩,λpins s σ H Q I zq=>zq.elim λO zq=>zq.elim λρ zq=>zq.elim λd zq=>zq.elim λe1 zq=>zq.elim λe2 q=>h3 pins s σ H Q I ⟨O,ρ,e1,by rw[e2];exact q⟩⟩
noncomputable def Iu(X:Cx)(F:FX):TE:=λσ H Q=>∃O ρ,cm X.K O H ρ σ/\gL X σ O H (F ρ) λd=>∀D H' total acc,d=.lst total->aF H H'->H D=none->H' D=some (.lst acc)->aB X.K (hid H' (D::O)) total acc->Q (.ref D) H'
theorem Ip{F:FX}:∀σ H Q,tF X F σ H Q->Iu X F σ H Q:=λσ H Q zq=>zq.elim λO zq=>zq.elim λρ zq=>zq.elim λE hF=>⟨O,ρ,E,hF.imp λd q D H' total acc e sm hD hD' dn=>by
 subst e;have DO:D∉O:=E.all.not hD;exact q _ H' sm (bI.mpr ⟨D,acc,rfl,lu.of (by rw[dO DO];exact hD'),dn.mono (f7 λa ha=>J4 _ ha)⟩)⟩
theorem Ap(tk:lq ix g):∀σ H Q,Iu X (eD ix G g C Fe) σ H Q->HA (Hu X G) (GA X.K g) (A5 X.K C) (HQ X.K Fe) ix σ H Q:=λσ H Q zq=>zq.elim λO zq=>zq.elim λρ zq=>zq.elim λE hF=>by
 refine⟨O,ρ,E,(gL.bind hF).imp λds hF=>?_⟩;have hz:small ds.length=true:=by
  cases e:small ds.length with
  |true=>rfl
  |false=>rw[e]at hF;exact hF.elim
 rw[hz,if_pos rfl]at hF;cases hL:rm (inB ix ρ) g C Fe ds with
 |error z=>rw[hL]at hF;exact hF.elim
 |ok total=>
 rw[hL]at hF;have q:∀D H' total' acc,TG.D.lst total=.lst total'->aF H H'->H D=none->H' D=some (.lst acc)->aB X.K (hid H' (D::O)) total' acc->Q (.ref D) H':=hF;have e2:=hL;have hfill:=tk.fill;have hown:=tk.own;refine λJ H1 s1 wk D hD=>?_;have E1:cm X.K (D::O) (upd H1 D (.lst [])) (inB ix ρ) (inBlock ix σ):=((A3 ix E).same s1).hideNew trivial hD;have DO:D∉O:=(E.all.same s1).not hD;refine⟨λi m σ' H'=>m=ds.length-i/\i<=ds.length/\aF H1 H'/\cm X.K (D::O) H' (inB ix ρ) σ'/\∃acc dn rest,H' D=some (.lst acc)/\acc.length<=i/\aB X.K (hid H' (D::O)) dn acc/\rm (inB ix ρ) g C Fe (ds.drop i)=.ok rest/\dn++rest=total,
  ⟨ds.length,by rw[Lc],KH _,bh hD _,E1,[],[],total,aq,Ka _,bG.mpr rfl,by rw[KS];exact e2,rfl⟩,?_⟩
 rintro i m σ' H' ⟨rfl,hi,sm,E',acc,dn,rest,hacc,hlen,hdn,hrest,htot⟩;have sH:aF (hid H1 O) (hid H' (D::O)):=λb o h=>by
  have h2:=sm b o (ai H1 O b o h);unfold hid at h ⊢;by_cases hb:b∈O
  ·rw[if_pos hb]at h;cases h
  ·rw[if_neg hb]at h;have ne:b≠D:=aI h hD;rw[if_neg (by intro z;rcases List.mem_cons.mp z with z|z;exact ne z;exact hb z)];exact h2
 by_cases hlt:i<ds.length
 ·right;obtain⟨go,yl⟩:=(wk H' (D::O) i E'.all sH).1 ds[i] (by simp[hlt]);refine⟨go,λx H2 y=>?_⟩;obtain⟨s2,dx'⟩:=yl x H2 y;have E':=E'.same s2;have sm:=sm.trans s2;have hacc:=s2 _ _ hacc;have hdn:=hdn.mono (aQ s2);rw[Lg hlt,mW]at hrest;obtain⟨ρ1,g1,hrest⟩:=lQ hrest;have g1:=Gz g1;obtain⟨c,c1,hrest⟩:=lQ hrest;have c1:=Al c1;refine⟨D::O,inB ix ρ,ds[i],ρ1,E',dx',g1,λσ3 E3 _=>?_⟩;refine⟨D::O,ρ1,c,E3,c1,λH4 s4=>?_⟩;have E4:=E3.same s4;have back:∀{H5:Hp},cm X.K (D::O) H5 ρ1 σ3->cm X.K (D::O) H5 (inB ix ρ) σ3:=λz=>z.forget λj x e=>hfill ρ _ _ g1 j x e;cases c with
  |true=>
   refine zB ?_;rw[if_pos rfl]at hrest;obtain⟨v,v1,hrest⟩:=lQ hrest;have v1:=Al v1;obtain⟨r,r1,hrest⟩:=lQ hrest;cases hrest;refine⟨D::O,ρ1,v,E4,v1,λw H5 s5 dw=>?_⟩;have s45:=s4.trans s5;have ha5:H5 D=some (.lst acc):=s45 _ _ hacc;have hzl:ds.length<NY:=Lh (of_decide_eq_true hz) (by decide);refine⟨acc,ha5,by omega,ds.length-(i+1),by omega,rfl,hlt,?_,?_,acc++[w],dn++[v],r,aq,by rw[Kl,Ku];omega,?_,r1,by rw[Li];exact htot⟩
   ·intro b o h;rw[ao (aI h hD)];exact s45 _ _ (sm _ _ h)
   ·exact back ((E3.same s45).rewrite trivial J3 λj xs e=>absurd e (hown ρ _ _ g1 j xs))
   ·have s6:aF (hid H5 (D::O)) (hid (upd H5 D (.lst (acc++[w]))) (D::O)):=eU J3;exact(hdn.mono ((aQ s45).trans s6)).snoc (dw.mono s6)
  |false=>
   refine AB ?_;rw[if_neg J8]at hrest;exact⟨ds.length-(i+1),by omega,rfl,hlt,sm.trans s4,back E4,acc,dn,rest,s4 _ _ hacc,by omega,hdn.mono (aQ s4),hrest,htot⟩
 ·left;have ei:i=ds.length:=by omega
  subst ei;refine⟨(wk H' (D::O) ds.length E'.all sH).2 rfl,?_⟩;rw[Lj]at hrest;cases hrest;rw[Kc]at htot;subst htot;exact q D H' _ acc rfl (s1.trans sm) (s1.free hD) hacc hdn
theorem Dk(tk:lq ix g):∀σ H Q,tF X (eD ix G g C Fe) σ H Q->HA (Hu X G) (GA X.K g) (A5 X.K C) (HQ X.K Fe) ix σ H Q:=λσ H Q h=>Ap tk σ H Q (Ip σ H Q h)
end
structure Ks where
 nx:ah->R D
 bk:ah->R D:=λ_=>un
 ct:ah->R D:=λ_=>un
 ex:Ex->ah->R D:=λx _=>.error (some x)
noncomputable abbrev bB:=Ks->ah->R D
noncomputable def nH{α:Type}(r:R α)(k:Ks)(ρ:ah)(f:α->R D):R D:=match r with
 |.ok a=>f a
 |.error (some x)=>k.ex x ρ
 |.error none=>un
structure Base(Hb:Hp)(Ob:ak)(H:Hp)(O:ak):Prop where
 same:aF Hb H
 sub:∀a∈Ob,a∈O
 new:∀a∈O,a∈Ob\/Hb a=none
noncomputable def mw(K:MT)(H:Hp)(O:ak):ak->List D->Prop
 |[],[]=>True
 |b::bs,x::xs=>bX K H O b x/\mw K H O bs xs
 |_,_=>False
noncomputable def rT(K:MT)(H:Hp)(O:ak)(a:NQ)(bs:ak)(d:D):Prop:=
 ∃xs,mw K H O bs xs/\((d=.lst xs/\H a=some (.lst (bs.map .ref)))\/(∃kvs:List (List Key×V),d=.dct (kvs.map λp=>.tup (p.1.map aC)) xs/\H a=some (.dT kvs)/\kvs.map (·.2)=bs.map .ref)\/(d=.dct [] xs/\bs=[]/\H a=some (.dK [])))
noncomputable def vB(K:MT)(Hb:Hp)(Ob O:ak)(H:Hp)(ρ:ah)(σ:St)(i:Nat)(d:D):Prop:=
 ∃a bs,σ[i]?=some (some (.ref a))/\rT K H O a bs d/\(a::bs).Nodup/\(∀b∈a::bs,b∈O/\Hb b=none/\b∉Ob/\∀(j:Nat) d',ρ[j]?=some (some (.own d'))->σ[j]?≠some (some (.ref b)))/\∀(j:Nat) d',ρ[j]?=some (some (.nest d'))->j=i
theorem mw.mono{K:MT}{H H':Hp}{O O':ak}(s:aF (hid H O) (hid H' O')):∀{bs:ak}{xs:List D},mw K H O bs xs->(∀b∈bs,(∃o,H b=some o)->H' b=H b)->mw K H' O' bs xs
 |[],[],_,_=>trivial
 |b::bs,x::xs,h,e=>⟨h.1.mono (e b J3 h.1.some).symm s,mw.mono s h.2 λb' hb=>e b' (J4 _ hb)⟩
 |[],_::_,h,_=>h.elim
 |_::_,[],h,_=>h.elim
theorem mw.some{K:MT}{H:Hp}{O:ak}:∀{bs:ak}{xs:List D},mw K H O bs xs->∀b∈bs,∃o,H b=some o
 |[],_,_,_,hb=>nomatch hb
 |b::bs,x::xs,h,b',hb=>by
  rcases List.mem_cons.mp hb with z|z
  ·rw[z];exact h.1.some
  ·exact mw.some h.2 b' z
 |_::_,[],h,_,_=>h.elim
theorem rT.some{K:MT}{H:Hp}{O:ak}{a:NQ}{bs:ak}{d:D}(h:rT K H O a bs d):∀b∈a::bs,∃o,H b=some o:=λb hb=>by
 obtain⟨xs,h1,h2⟩:=h;rcases List.mem_cons.mp hb with z|z
 ·rw[z];rcases h2 with⟨_,q⟩|⟨_,_,q,_⟩|⟨_,_,q⟩<;>exact⟨_,q⟩
 ·exact h1.some b z
theorem rT.mono{K:MT}{H H':Hp}{O O':ak}{a:NQ}{bs:ak}{d:D}(h:rT K H O a bs d)(s:aF (hid H O) (hid H' O'))(e:∀b∈a::bs,(∃o,H b=Option.some o)->H' b=H b):rT K H' O' a bs d:=by
 have ea:=e a J3 (h.some a J3);obtain⟨xs,h1,h2⟩:=h;refine⟨xs,h1.mono s λb hb=>e b (J4 _ hb),?_⟩;rw[ea];exact h2
theorem vB.to{K:MT}{Hb Hb':Hp}{Ob O O':ak}{H H':Hp}{ρ ρ':ah}{σ σ':St}{i:Nat}{d:D}(h:vB K Hb Ob O H ρ σ i d)(hσ:σ'[i]?=σ[i]?)(s:aF (hid H O) (hid H' O'))
  (k:∀b,b∈O->Hb b=none->b∉Ob->(∀(j:Nat) d',ρ[j]?=some (some (.own d'))->σ[j]?≠some (some (.ref b)))->(∃o,H b=some o)->H' b=H b/\b∈O'/\Hb' b=none/\∀(j:Nat) d',ρ'[j]?=some (some (.own d'))->σ'[j]?≠some (some (.ref b)))
  (n:∀(j:Nat) d',ρ'[j]?=some (some (.nest d'))->∃d2,ρ[j]?=some (some (.nest d2))):vB K Hb' Ob O' H' ρ' σ' i d:=by
 obtain⟨a,bs,h1,h2,h3,h4,h5⟩:=h;refine⟨a,bs,hσ.trans h1,h2.mono s λb hb ho=>?_,h3,λb hb=>?_,λj d' q=>?_⟩
 ·obtain⟨q1,q2,q3,q4⟩:=h4 b hb;exact(k b q1 q2 q3 q4 ho).1
 ·obtain⟨q1,q2,q3,q4⟩:=h4 b hb;obtain⟨_,w2,w3,w4⟩:=k b q1 q2 q3 q4 (h2.some b hb);exact⟨w2,w3,q3,w4⟩
 ·obtain⟨d2,q⟩:=n j d' q;exact h5 j d2 q
structure bE(K:MT)(Hb:Hp)(Ob O:ak)(H:Hp)(ρ:ah)(σ:St):Prop where
 env:cm K O H ρ σ
 base:Base Hb Ob H O
 mine:∀(i:Nat) xs a,ρ[i]?=some (some (.own xs))->σ[i]?=some (some (.ref a))->Hb a=none/\a∉Ob
 nst:∀(i:Nat) d,ρ[i]?=some (some (.nest d))->vB K Hb Ob O H ρ σ i d
theorem Base.same'{Hb:Hp}{Ob:ak}{H H':Hp}{O:ak}(b:Base Hb Ob H O)(s:aF H H'):Base Hb Ob H' O:=⟨b.same.trans s,b.sub,b.new⟩
theorem bE.same{K:MT}{Hb:Hp}{Ob O:ak}{H H':Hp}{ρ:ah}{σ:St}(h:bE K Hb Ob O H ρ σ)(s:aF H H'):bE K Hb Ob O H' ρ σ:=⟨h.env.same s,h.base.same' s,h.mine,λi d q=>(h.nst i d q).to rfl (aQ s) (λb q1 q2 q3 q4 zq=>zq.elim λo ho=>⟨by rw[ho,s _ _ ho],q1,q2,q4⟩) λj d' z=>⟨d',z⟩⟩
theorem bE.after{K:MT}{Hb:Hp}{Ob O:ak}{H:Hp}{ρ ρ':ah}{σ σ':St}(S:bE K Hb Ob O H ρ σ)(E':cm K O H ρ' σ')(own:∀(i:Nat) x,ρ'[i]?=some (some x)->(∀d,x≠.val d)->σ'[i]?=σ[i]?/\ρ[i]?=some (some x)):bE K Hb Ob O H ρ' σ':=
 ⟨E',S.base,fun i xs a q1 q2=>by
  obtain⟨w1,w2⟩:=own i _ q1 (λ_ z=>nomatch z);rw[w1]at q2;exact S.mine i xs a w2 q2,λi d q=>by
  obtain⟨w1,w2⟩:=own i _ q (λ_ z=>nomatch z);refine(S.nst i d w2).to w1 (λ_ _ z=>z) (λb q1 q2 q3 q4 _=>⟨rfl,q1,q2,λl d' w=>?_⟩) λl d' w=>⟨d',(own l _ w (λ_ z=>nomatch z)).2⟩
  obtain⟨z1,z2⟩:=own l _ w (λ_ z=>nomatch z);rw[z1];exact q4 l d' z2⟩
structure Hq(X:Cx)(Hb:Hp)(Ob:ak)(E:Ends)(k:Ks)(r:R D):Prop where
 ne:r≠un
 nx:∀O ρ σ H,bE X.K Hb Ob O H ρ σ->k.nx ρ=r->E.nx σ H
 bk:∀O ρ σ H,bE X.K Hb Ob O H ρ σ->k.bk ρ=r->E.bk σ H
 ct:∀O ρ σ H,bE X.K Hb Ob O H ρ σ->k.ct ρ=r->E.ct σ H
 rt:∀d O v H,r=.ok d->Base Hb Ob H O->bo X.K (hid H O) d v->E.rt v H
 ex:∀O ρ σ H x,bE X.K Hb Ob O H ρ σ->k.ex x ρ=r->FR X σ O H x
noncomputable def Hm(X:Cx)(Hb:Hp)(Ob:ak)(F:bB):TS:=λE σ H=>∃O ρ k r,bE X.K Hb Ob O H ρ σ/\F k ρ=r/\Hq X Hb Ob E k r
noncomputable def FS(X:Cx)(st:NS)(F:bB):Prop:=∀Hb Ob,PS X st (Hm X Hb Ob F)
noncomputable def Ic(X:Cx)(st:cH)(F:bB):Prop:=∀Hb Ob,uf X st (Hm X Hb Ob F)
theorem gL.on{X:Cx}{Hb:Hp}{Ob O:ak}{H:Hp}{ρ:ah}{σ:St}{E:Ends}{k:Ks}{r:R D}{α:Type}{fr:R α}{G:α->R D}{Q:α->Prop}(h:nH fr k ρ G=r)(hk:Hq X Hb Ob E k r)(S:bE X.K Hb Ob O H ρ σ)(q:∀a,G a=r->Q a):gL X σ O H fr Q:=by
 match fr,h with
 |.ok a,h=>exact q a h
 |.error (some x),h=>exact hk.ex O ρ σ H x S h
 |.error none,h=>exact absurd h.symm hk.ne
section
variable{X:Cx}{st:NS}{rest body:cH}{pos:Pos}
noncomputable def bU:bB:=λk ρ=>k.nx ρ
noncomputable def aU(F1 F2:bB):bB:=λk ρ=>F1 {k with nx:=F2 k} ρ
noncomputable def cf(f:FX):bB:=λk ρ=>nH (f ρ) k ρ .ok
noncomputable def G0:bB:=λ_ _=>.ok .non
noncomputable def jT(c:bg)(A B:bB):bB:=λk ρ=>nH (c ρ) k ρ λb=>if b then A k ρ else B k ρ
noncomputable def cq(i:Nat)(f:FX):bB:=λk ρ=>nH (f ρ) k ρ λd=>k.nx (setV i d ρ)
theorem bE.setV{K:MT}{Hb:Hp}{Ob O:ak}{H:Hp}{ρ:ah}{σ:St}(E:bE K Hb Ob O H ρ σ){i:Nat}{d:D}{v:V}(hi:i<σ.length)(hd:bo K (hid H O) d v):bE K Hb Ob O H (setV i d ρ) (σ.set i (some v)):=
  ⟨E.env.setV hi hd,E.base,fun j xs a e1 e2=>by
    rcases ax e1 with⟨_,q⟩|⟨ne,q⟩
    ·cases q
    · rw[J7 (Ne.symm ne)]at e2
      exact E.mine j xs a q e2,
   λj dn e=>by
    rcases ax e with⟨_,q⟩|⟨ne,q⟩
    ·cases q
    · refine(E.nst j dn q).to (J7 (Ne.symm ne)) (λ_ _ z=>z) (λb q1 q2 q3 q4 _=>⟨rfl,q1,q2,λl d' w=>?_⟩) λl d' w=>?_
      · rcases ax w with⟨_,z⟩|⟨nl,z⟩
        ·cases z
        ·rw[J7 (Ne.symm nl)];exact q4 l d' z
      · rcases ax w with⟨_,z⟩|⟨_,z⟩
        ·cases z
        ·exact⟨d',z⟩⟩
theorem oH{f:FX}{i:Nat}(hi:i<X.N.length)(h:PS X st (BJ (tF X f) (oP i))):FS X st (cq i f):=λHb Ob pins s σ H E I zq=>zq.elim λO zq=>zq.elim λρ zq=>zq.elim λk zq=>zq.elim λr zq=>zq.elim λS zq=>zq.elim λhF hk=>
 h pins s σ H E I ⟨O,ρ,S.env,gL.on hF hk S λd e v H1 s1 d1=>hk.nx O _ _ H1 ((S.same s1).setV (by rw[I.len];exact hi) d1) e⟩
noncomputable def iZ:bB:=λ_ _=>un
noncomputable def kill(is:aR)(ρ:ah):ah:=is.foldl (λρ i=>ρ.set i none) ρ
theorem fV:∀(is:aR)(ρ:ah)(i:Nat)(x:S),(kill is ρ)[i]?=some (some x)->ρ[i]?=some (some x)
 |[],ρ,i,x,e=>e
 |j::is,ρ,i,x,e=>by
  rcases ax (fV is (ρ.set j none) i x e)with⟨_,q⟩|⟨_,q⟩
  ·cases q
  ·exact q
theorem bE.kill{K:MT}{Hb:Hp}{Ob O:ak}{H:Hp}{ρ:ah}{σ:St}(E:bE K Hb Ob O H ρ σ)(is:aR):bE K Hb Ob O H (kill is ρ) σ:=
 ⟨E.env.forget (fV is ρ),E.base,λi xs a e1 e2=>E.mine i xs a (fV is ρ i _ e1) e2,λi d q=>(E.nst i d (fV is ρ i _ q)).to rfl (λ_ _ z=>z) (λb q1 q2 q3 q4 _=>⟨rfl,q1,q2,λl d' w=>q4 l d' (fV is ρ l _ w)⟩) λl d' w=>⟨d',fV is ρ l _ w⟩⟩
noncomputable def dq(is:aR)(F:bB):bB:=λk ρ=>F k (kill is ρ)
end
noncomputable def d6(g:GF)(B:bB)(k:Ks):List D->ah->R D
 |[],ρ=>k.nx ρ
 |d::ds,ρ=>(rO (g d ρ)).bind λρ1=>B ⟨d6 g B k ds,k.nx,d6 g B k ds,k.ex⟩ ρ1
noncomputable def um(G:aV)(g:GF)(B:bB):bB:=λk ρ=>nH (G ρ) k ρ λds=>d6 g B k ds ρ
noncomputable def lb(H:Hp)(O Ob:ak):Hp:=λb=>if b∈O/\b∉Ob then none else H b
theorem qt{H:Hp}{O Ob:ak}{b:NQ}(h1:b∈O)(h2:b∉Ob):lb H O Ob b=none:=by unfold lb;rw[if_pos ⟨h1,h2⟩]
theorem Cd{H:Hp}{O Ob:ak}{b:NQ}{o:HO}(h:lb H O Ob b=some o):H b=some o/\¬(b∈O/\b∉Ob):=by
 unfold lb at h;split at h
 ·cases h
 ·rename_i n;exact⟨h,n⟩
theorem zE{H:Hp}{O Ob:ak}{b:NQ}{o:HO}(h:H b=some o)(n:¬(b∈O/\b∉Ob)):lb H O Ob b=some o:=by unfold lb;rw[if_neg n];exact h
theorem Base.loop{Hb:Hp}{Ob:ak}{H:Hp}{O:ak}(b:Base Hb Ob H O):Base (lb H O Ob) Ob H O:=
 ⟨fun c o h=>(Cd h).1,b.sub,fun a ha=>by
  by_cases h:a∈Ob
  ·exact .inl h
  ·exact .inr (qt ha h)⟩
theorem Base.back{Hb:Hp}{Ob:ak}{H H':Hp}{O O':ak}(b:Base Hb Ob H O)(b':Base (lb H O Ob) Ob H' O'):Base Hb Ob H' O':=by
 have up:aF Hb (lb H O Ob):=λc o h=>zE (b.same c o h) λzq=>zq.elim λz1 z2=>by
  rcases b.new c z1 with z|z
  ·exact z2 z
  ·rw[z]at h;cases h
 exact⟨up.trans b'.same,b'.sub,λa ha=>(b'.new a ha).imp id up.free⟩
theorem bE.loop{K:MT}{Hb:Hp}{Ob O:ak}{H:Hp}{ρ:ah}{σ:St}(E:bE K Hb Ob O H ρ σ):bE K (lb H O Ob) Ob O H ρ σ:=
 ⟨E.env,E.base.loop,fun i xs a e1 e2=>by
  obtain⟨_,n⟩:=E.mine i xs a e1 e2;obtain⟨a',e3,e4,_⟩:=E.env.own i xs e1;rw[e2]at e3;cases e3;exact⟨qt e4 n,n⟩,λi d q=>(E.nst i d q).to rfl (λ_ _ z=>z) (λb q1 q2 q3 q4 _=>⟨rfl,q1,qt q1 q3,q4⟩) λl d' w=>⟨d',w⟩⟩
theorem bE.back{K:MT}{Hb:Hp}{Ob O O':ak}{H H':Hp}{ρ':ah}{σ':St}(b:Base Hb Ob H O)(E:bE K (lb H O Ob) Ob O' H' ρ' σ'):bE K Hb Ob O' H' ρ' σ':=
 have up:aF Hb (lb H O Ob):=λc o h=>zE (b.same c o h) λzq=>zq.elim λz1 z2=>by
  rcases b.new c z1 with z|z
  ·exact z2 z
  ·rw[z]at h;cases h
 ⟨E.env,b.back E.base,fun i xs a e1 e2=>by
  obtain⟨z,n⟩:=E.mine i xs a e1 e2;exact⟨up.free z,n⟩,λi d q=>(E.nst i d q).to rfl (λ_ _ z=>z) (λb q1 q2 q3 q4 _=>⟨rfl,q1,up.free q2,q4⟩) λl d' w=>⟨d',w⟩⟩
theorem xU{Hb:Hp}{Ob O O':ak}{H H':Hp}(b:Base Hb Ob H O)(b':Base (lb H O Ob) Ob H' O'):aF (hid H O) (hid H' O'):=λc o h=>by
 unfold hid at h ⊢;by_cases hc:c∈O
 ·rw[if_pos hc]at h;cases h
 ·rw[if_neg hc]at h;have h1:lb H O Ob c=some o:=zE h λz=>hc z.1;rw[if_neg]
  ·exact b'.same _ _ h1
  ·intro z;rcases b'.new c z with z|z
   ·exact hc (b.sub c z)
   ·rw[h1]at z;cases z
theorem Hq.loop{X:Cx}{Hb:Hp}{Ob O:ak}{H:Hp}{E E':Ends}{k k':Ks}{r:R D}(hk:Hq X Hb Ob E k r)(b:Base Hb Ob H O)(hn:∀O' ρ' σ' H',bE X.K (lb H O Ob) Ob O' H' ρ' σ'->k'.nx ρ'=r->E'.nx σ' H')(hc:∀O' ρ' σ' H',bE X.K (lb H O Ob) Ob O' H' ρ' σ'->k'.ct ρ'=r->E'.ct σ' H')
    (eb:k'.bk=k.nx) (ee:k'.ex=k.ex) (Eb:E'.bk=E.nx) (Er:E'.rt=E.rt):Hq X (lb H O Ob) Ob E' k' r:=
  ⟨hk.ne,hn,fun O' ρ' σ' H' S e=>by rw [Eb]; exact hk.nx O' ρ' σ' H' (S.back b) (by rw [<- eb]; exact e),hc,fun d O' v H' e b' dv=>by rw [Er]; exact hk.rt d O' v H' e (b.back b') dv,
   λO' ρ' σ' H' x S e=>hk.ex O' ρ' σ' H' x (S.back b) (by rw[<-ee];exact e)⟩
section
variable{X:Cx}{st:NS}{rest body:cH}{pos:Pos}
noncomputable def cV(c:bg)(B:bB)(k:Ks):Nat->ah->R D
 |0,_=>un
 |n+1,ρ=>nH (c ρ) k ρ λb=>if b then B ⟨cV c B k n,k.nx,cV c B k n,k.ex⟩ ρ else k.nx ρ
noncomputable def pA(n:Nat)(c:bg)(B:bB):bB:=λk ρ=>cV c B k n ρ
end
end TG
namespace TG
open PySem PySem.Spec L2
variable[aj]
theorem bE.setO{K:MT}{Hb:Hp}{Ob O:ak}{H:Hp}{ρ:ah}{σ:St}(E:bE K Hb Ob O H ρ σ){i:Nat}{d d':D}{a:NQ}{o:HO}(hi:ρ[i]?=some (some (.own d)))(ha:σ[i]?=some (some (.ref a)))(m:jr o)(new:bX K (upd H a o) O a d'):
  bE K Hb Ob O (upd H a o) (ρ.set i (some (.own d'))) σ:=by
 obtain⟨a',ha',haO,hat⟩:=E.env.own i d hi;rw[ha]at ha';cases ha';obtain⟨m1,m2⟩:=E.mine i d a hi ha;have s:aF (hid H O) (hid (upd H a o) O):=eU haO;have own:∀(j:Nat) ys,(ρ.set i (some (.own d')))[j]?=some (some (.own ys))->∃ys',ρ[j]?=some (some (.own ys')):=λj ys q=>by
  rcases ax q with⟨hj,_⟩|⟨_,q⟩
  ·rw[hj];exact⟨d,hi⟩
  ·exact⟨ys,q⟩
 refine⟨⟨λj d1 e=>?_,λj ys e=>?_,λj l ys zs b q1 q2 q3 q4=>?_,E.env.all.upd haO m⟩,⟨λb u h=>?_,E.base.sub,E.base.new⟩,λj ys b q1 q2=>?_,λj dn q=>?_⟩
 ·rcases ax e with⟨_,q⟩|⟨ne,q⟩
  ·cases q
  ·obtain⟨w,q1,q2⟩:=E.env.val j d1 q;exact⟨w,q1,q2.mono s⟩
 ·rcases ax e with⟨hj,q⟩|⟨ne,q⟩
  ·cases q;rw[hj];exact⟨a,ha,haO,new⟩
  ·obtain⟨b,q1,q2,q3⟩:=E.env.own j ys q;have nb:b≠a:=λz=>ne (E.env.one j i ys d a q hi (by rw[<-z];exact q1) ha);exact⟨b,q1,q2,q3.mono (by rw[ao nb]) s⟩
 ·obtain⟨_,q1'⟩:=own j ys q1;obtain⟨_,q2'⟩:=own l zs q2;exact E.env.one j l _ _ b q1' q2' q3 q4
 ·have nb:b≠a:=λz=>by rw[z,m1]at h;cases h
  rw[ao nb];exact E.base.same b u h
 ·obtain⟨ys',q⟩:=own j ys q1;exact E.mine j ys' b q q2
 ·have q:ρ[j]?=some (some (.nest dn)):=by
   rcases ax q with⟨_,z⟩|⟨_,z⟩
   ·cases z
   ·exact z
  refine(E.nst j dn q).to rfl s (λb q1 q2 q3 q4 _=>⟨ao λz=>q4 i d hi (by rw[z];exact ha),q1,q2,λl d1 w=>?_⟩) λl d1 w=>?_
  ·obtain⟨_,w'⟩:=own l d1 w;exact q4 l _ w'
  ·rcases ax w with⟨_,z⟩|⟨_,z⟩
   ·cases z
   ·exact⟨d1,z⟩
theorem bE.setNew{K:MT}{Hb:Hp}{Ob O:ak}{H H':Hp}{ρ:ah}{σ:St}(E:bE K Hb Ob O H ρ σ){i:Nat}{d:D}{p:NQ}(hi:i<σ.length)(sm:aF H H')(hp:H p=none)(m:∃o,H' p=some o/\jr o)(new:bX K H' (p::O) p d):
  bE K Hb Ob (p::O) H' (ρ.set i (some (.own d))) (σ.set i (some (.ref p))):=by
 have hpO:p∉O:=E.env.all.not hp;have s:aF (hid H O) (hid H' (p::O)):=λb o h=>by
  unfold hid at h ⊢;by_cases hb:b∈O
  ·rw[if_pos hb]at h;cases h
  ·rw[if_neg hb]at h;have ne:=aI h hp;rw[if_neg (by intro z;rcases List.mem_cons.mp z with z|z;exact ne z;exact hb z)];exact sm _ _ h
 have other:∀(j:Nat) xs,ρ[j]?=some (some (.own xs))->σ[j]?≠some (some (.ref p)):=λj xs e z=>by
  obtain⟨a,e1,e2,e3⟩:=E.env.own j xs e;rw[z]at e1;cases e1;obtain⟨o,e3⟩:=e3.some;rw[hp]at e3;cases e3
 refine⟨⟨λj d' e=>?_,λj xs e=>?_,λj k xs ys a e1 e2 e3 e4=>?_,⟨(E.env.all.same sm).1,λa ha=>?_⟩⟩,⟨E.base.same.trans sm,λa ha=>J4 _ (E.base.sub a ha),λa ha=>?_⟩,λj xs a e1 e2=>?_,λj dn e=>?_⟩
 ·rcases ax e with⟨_,q⟩|⟨ne,q⟩
  ·cases q
  ·obtain⟨v,q1,q2⟩:=E.env.val j d' q;exact⟨v,by rw[J7 (Ne.symm ne)];exact q1,q2.mono s⟩
 ·rcases ax e with⟨hj,q⟩|⟨ne,q⟩
  ·cases q;rw[hj];exact⟨p,J6 hi,J3,new⟩
  ·obtain⟨a,q1,q2,q3⟩:=E.env.own j xs q;obtain⟨o,ho⟩:=q3.some;exact⟨a,by rw[J7 (Ne.symm ne)];exact q1,J4 _ q2,q3.mono (iM sm ho) s⟩
 ·rcases ax e1 with⟨hj,q1⟩|⟨nj,q1⟩
  ·rcases ax e2 with⟨hk,q2⟩|⟨nk,q2⟩
   ·exact hj.trans hk.symm
   ·rw[hj,J6 hi]at e3;cases e3;rw[J7 (Ne.symm nk)]at e4;exact absurd e4 (other k ys q2)
  ·rcases ax e2 with⟨hk,q2⟩|⟨nk,q2⟩
   ·rw[hk,J6 hi]at e4;cases e4;rw[J7 (Ne.symm nj)]at e3;exact absurd e3 (other j xs q1)
   ·rw[J7 (Ne.symm nj)]at e3;rw[J7 (Ne.symm nk)]at e4;exact E.env.one j k xs ys a q1 q2 e3 e4
 ·rcases List.mem_cons.mp ha with rfl|ha
  ·exact m
  ·exact(E.env.all.same sm).2 a ha
 ·rcases List.mem_cons.mp ha with rfl|ha
  ·exact .inr (E.base.same.free hp)
  ·exact E.base.new a ha
 ·rcases ax e1 with⟨hj,q1⟩|⟨nj,q1⟩
  ·rw[hj,J6 hi]at e2;cases e2;exact⟨E.base.same.free hp,λz=>hpO (E.base.sub p z)⟩
  ·rw[J7 (Ne.symm nj)]at e2;exact E.mine j xs a q1 e2
 ·rcases ax e with⟨_,q⟩|⟨ne,q⟩
  ·cases q
  ·refine(E.nst j dn q).to (J7 (Ne.symm ne)) s (λb q1 q2 q3 q4 zq=>zq.elim λo ho=>⟨by rw[ho,sm _ _ ho],J4 _ q1,q2,λl d1 w=>?_⟩) λl d1 w=>?_
   ·rcases ax w with⟨hl,z⟩|⟨nl,z⟩
    ·rw[hl,J6 hi];intro z;cases z;rw[hp]at ho;cases ho
    ·rw[J7 (Ne.symm nl)];exact q4 l d1 z
   ·rcases ax w with⟨_,z⟩|⟨_,z⟩
    ·cases z
    ·exact⟨d1,z⟩
noncomputable def Hs(X:Cx)(F:FX):TE:=λσ H Q=>∃O ρ,cm X.K O H ρ σ/\gL X σ O H (F ρ) λd=>∀p H',aF H H'->H p=none->(∃o,H' p=some o/\jr o)->bX X.K H' (p::O) p d->Q (.ref p) H'
noncomputable def FN(X:Cx)(e:NR)(F:FX):Prop:=PE X e (Hs X F)
section
variable{X:Cx}{pos:Pos}
theorem sL{K:MT}{H:Hp}{O:ak}{p:NQ}{ds:List D}{vs:aG}(hp:H p=none)(d:aB K (hid H O) ds vs):bX K (upd H p (.lst vs)) (p::O) p (.lst ds):=⟨_,vs,aq,rfl,d.mono (fP hp)⟩
noncomputable def pF(i:Nat)(f:FX):bB:=λk ρ=>nH (f ρ) k ρ λd=>k.nx (ρ.set i (some (.own d)))
theorem oC{st:NS}{f:FX}{i:Nat}(hi:i<X.N.length)(h:PS X st (BJ (Hs X f) (oP i))):FS X st (pF i f):=λHb Ob pins s σ H E I zq=>zq.elim λO zq=>zq.elim λρ zq=>zq.elim λk zq=>zq.elim λr zq=>zq.elim λS zq=>zq.elim λhF hk=>
 h pins s σ H E I ⟨O,ρ,S.env,gL.on hF hk S λd e p H1 s1 hp m o=>hk.nx _ _ _ H1 (S.setNew (by rw[I.len];exact hi) s1 hp m o) e⟩
end
theorem CU{X:Cx}{F:FX}:∀σ H Q,Hs X F σ H Q->Iu X F σ H Q:=λσ H Q zq=>zq.elim λO zq=>zq.elim λρ zq=>zq.elim λE hF=>⟨O,ρ,E,hF.imp λd q D H' total acc e sm hD hD' dn=>by
 subst e;exact q D H' sm hD ⟨_,hD',trivial⟩ ⟨_,acc,hD',rfl,dn⟩⟩
noncomputable def sMt(i:Nat)(u:List D->List D->Option (List D))(f:aV):bB:=λk ρ=>match ρ[i]? with
 |some (some (.own (.lst xs)))=>nH (f ρ) k ρ λds=>(rO (u xs ds)).bind λys=>k.nx (ρ.set i (some (.own (.lst ys))))
 |_=>un
noncomputable def frz(i:Nat)(ρ:ah):ah:=match ρ[i]? with
 |some (some (.own d))=>setV i d ρ
 |_=>ρ
theorem cm.frz{K:MT}{O:ak}{H:Hp}{ρ:ah}{σ:St}(E:cm K O H ρ σ)(i:Nat):∃O',cm K O' H (frz i ρ) σ/\(∀b∈O',b∈O)/\∀b∈O,b∉O'->∃d,ρ[i]?=some (some (.own d))/\σ[i]?=some (some (.ref b)):=by
 unfold TG.frz;split
 ·rename_i d hd;obtain⟨a,ha,haO,hat⟩:=E.own i d hd;have sub:∀b∈O.filter (λb=>decide (b≠a)),b∈O:=λb hb=>(List.mem_filter.mp hb).1;have s:aF (hid H O) (hid H (O.filter λb=>decide (b≠a))):=f7 sub;have na:a∉O.filter λb=>decide (b≠a):=λz=>absurd rfl (of_decide_eq_true (List.mem_filter.mp z).2);refine⟨O.filter λb=>decide (b≠a),⟨λj d' e=>?_,λj ys e=>?_,λj l ys zs b q1 q2 q3 q4=>?_,⟨E.all.1,λb hb=>E.all.2 b (sub b hb)⟩⟩,sub,λb hb nb=>?_⟩
  ·rcases ax e with⟨hj,q⟩|⟨ne,q⟩
   ·cases q;rw[hj];exact⟨.ref a,ha,hat.den s na⟩
   ·obtain⟨w,q1,q2⟩:=E.val j d' q;exact⟨w,q1,q2.mono s⟩
  ·rcases ax e with⟨_,q⟩|⟨ne,q⟩
   ·cases q
   ·obtain⟨b,q1,q2,q3⟩:=E.own j ys q;have nb:b≠a:=λz=>ne (E.one j i ys d a q hd (by rw[<-z];exact q1) ha);exact⟨b,q1,List.mem_filter.mpr ⟨q2,decide_eq_true nb⟩,q3.mono rfl s⟩
  ·rcases ax q1 with⟨_,q⟩|⟨_,q⟩
   ·cases q
   ·rcases ax q2 with⟨_,q'⟩|⟨_,q'⟩
    ·cases q'
    ·exact E.one j l ys zs b q q' q3 q4
  ·by_cases z:b=a
   ·exact⟨d,hd,by rw[z];exact ha⟩
   ·exact absurd (List.mem_filter.mpr ⟨hb,decide_eq_true z⟩) nb
 ·exact⟨O,E,λ_ z=>z,λb hb nb=>absurd hb nb⟩
theorem bE.frz{K:MT}{Hb:Hp}{Ob O:ak}{H:Hp}{ρ:ah}{σ:St}(E:bE K Hb Ob O H ρ σ)(i:Nat):∃O',bE K Hb Ob O' H (frz i ρ) σ:=by
 obtain⟨O',E',sub,gone⟩:=E.env.frz i;refine⟨O',E',⟨E.base.same,λa ha=>?_,λa ha=>E.base.new a (sub a ha)⟩,λj xs a q1 q2=>?_,λj dn q1=>?_⟩
 ·by_cases z:a∈O'
  ·exact z
  ·obtain⟨d,e1,e2⟩:=gone a (E.base.sub a ha) z;exact absurd ha (E.mine i d a e1 e2).2
 ·have q:ρ[j]?=some (some (.own xs)):=by
   unfold TG.frz at q1;split at q1
   ·rcases ax q1 with⟨_,q⟩|⟨_,q⟩
    ·cases q
    ·exact q
   ·exact q1
  exact E.mine j xs a q q2
 ·have bk:∀(l:Nat) x,(TG.frz i ρ)[l]?=some (some x)->(∀d,x≠.val d)->ρ[l]?=some (some x):=λl x e nv=>by
   unfold TG.frz at e;split at e
   ·rcases ax e with⟨_,q⟩|⟨_,q⟩
    ·cases q;exact absurd rfl (nv _)
    ·exact q
   ·exact e
  refine(E.nst j dn (bk j _ q1 (λ_ z=>nomatch z))).to rfl (f7 sub) (λb w1 w2 w3 w4 _=>⟨rfl,?_,w2,λl d1 w=>w4 l d1 (bk l _ w (λ_ z=>nomatch z))⟩) λl d1 w=>⟨d1,bk l _ w (λ_ z=>nomatch z)⟩
  by_cases z:b∈O'
  ·exact z
  ·obtain⟨d,e1,e2⟩:=gone b w1 z;exact absurd e2 (w4 i d e1)
noncomputable def AO(i:Nat)(F:bB):bB:=λk ρ=>F k (frz i ρ)
mutual
noncomputable def lf:D->Bool
 |.tup xs=>C2 xs
 |.lst _=>false
 |.dct _ _=>false
 |.obj _ _ vs=>C2 vs
 |.exc _ _ _=>false
 |_=>true
noncomputable def C2:List D->Bool
 |[]=>true
 |x::xs=>lf x&&C2 xs
end
mutual
theorem zt{K:MT}{H:Hp}{O O':ak}(hO:bJ H O):∀{d:D}{v:V},lf d=true->bo K (hid H O') d v->bo K (hid H O) d v
 |.non,_,_,h=>by unfold bo at h ⊢;exact h
 |.bl _,_,_,h=>by unfold bo at h ⊢;exact h
 |.int _,_,_,h=>by unfold bo at h ⊢;exact h
 |.str _,_,_,h=>by unfold bo at h ⊢;exact h
 |.lst _,_,l,_=>by unfold lf at l;cases l
 |.dct _ _,_,l,_=>by unfold lf at l;cases l
 |.exc _ _ _,_,l,_=>by unfold lf at l;cases l
 |.obj c fs xs,_,l,h=>by
  unfold lf at l;rw[CJ]at h ⊢;obtain⟨a,ws,e,h1,hl,C,dx,hc,ha⟩:=h;refine⟨a,ws,e,qj hO l h1,hl,C,dx,hc,?_⟩;have q':=ai H O' a _ ha;rw[dO λz=>by obtain⟨u,e1,e2⟩:=hO.2 a z;rw[q']at e1;cases e1;exact e2.elim];exact q'
 |.tup xs,_,l,h=>by
  unfold lf at l;rw[bv]at h ⊢;obtain⟨a,vs,e,h1,h2⟩:=h;refine⟨a,vs,e,?_,qj hO l h2⟩;have key:∀{o:HO},hid H O' a=some o->¬jr o->hid H O a=some o:=λ{o} q n=>by
   have q':=ai H O' a o q;rw[dO λz=>by obtain⟨u,e1,e2⟩:=hO.2 a z;rw[q']at e1;cases e1;exact n e2];exact q'
  exact key h1 λz=>z.elim
theorem qj{K:MT}{H:Hp}{O O':ak}(hO:bJ H O):∀{ds:List D}{vs:aG},C2 ds=true->aB K (hid H O') ds vs->aB K (hid H O) ds vs
 |[],_,_,h=>by rw[bG]at h ⊢;exact h
 |x::xs,_,l,h=>by
  unfold C2 at l;rw[Kr]at l;rw[aM]at h ⊢;obtain⟨v,r,e,h1,h2⟩:=h;exact⟨v,r,e,zt hO l.1 h1,qj hO l.2 h2⟩
end
noncomputable def frzs(is:aR)(ρ:ah):ah:=is.foldl (λρ i=>frz i ρ) ρ
theorem cm.frzs{K:MT}{H:Hp}{σ:St}:∀(is:aR){O:ak}{ρ:ah},cm K O H ρ σ->∃O',cm K O' H (frzs is ρ) σ
 |[],O,_,E=>⟨O,E⟩
 |i::is,_,_,E=>by
  obtain⟨O',E',_⟩:=E.frz i;exact cm.frzs is E'
noncomputable def k8(is:aR)(f:FX):FX:=λρ=>(qC (f (frzs is ρ))).bind λd=>if lf d then .ok d else un
noncomputable def jh(is:aR)(f:bg):bg:=λρ=>qC (f (frzs is ρ))
end TG
namespace TG
open PySem PySem.Spec L2
variable[aj]
noncomputable def Ay(K:MT)(n:Nat)(g:List D->R D):Sp:=λvs H Q E=>∃O ds,vs.length=n/\bJ H O/\aB K (hid H O) ds vs/\match g ds with
 |.ok d=>∀v H',aF H H'->bo K (hid H' O) d v->Q v H'
 |.error (some x)=>HF K H O x E
 |.error none=>False
section
variable{X:Cx}{k:Nat}{f C:NQ}{fd:Ow}{ps:aH}{sp:Sp}{x m:Str}{p pos apos:Pos}{e o:NR}{es:bj}{ta:TE}{t:TA}
theorem BW{pins:aL}{σ:St}{H:Hp}{s:NT}{Q:VK}{E:XK}{us:aE}{vs:aG}(F:iY X.prog X.w X.K X.mg X.base (gM X.prog X.w) k f fd ps sp)(hr:eO k X.A)(hb:Binds X.K fd ps [])(hx:jQ (gM X.prog X.w) X σ E)
  (I:`h) (r:Vals vs us) (h:sp vs H Q E):N7 `i X.A (call (.ref f) us) (EP X pins σ Q) X.xe s:=by
 have hl:(us++[]).length=ps.length:=by rw[Kc,<-r.length];exact F.len _ _ _ _ h
 have hb':=hb s us I.kIn hl;rw[Kc]at hb';refine wpAny_call (OW (F.run X.A X.stack s H ⟨us,[]⟩ us vs Q E hr I.env0 hb' r h) λr s' hq=>?_);cases r with
 |error e=>exact hx pins H s e s' I hq
 |ok fl=>
  cases fl with
  |ret u=>exact I.after hq
  |next=>exact False.elim hq
  |brk=>exact False.elim hq
  |cont=>exact False.elim hq
noncomputable def t7(X:Cx)(sp:Sp)(t:TA):TE:=λσ H Q=>t σ H λvs H1=>∃E,jQ (gM X.prog X.w) X σ E/\sp vs H1 Q E
theorem sv(F:iY X.prog X.w X.K X.mg X.base (gM X.prog X.w) k f fd ps sp)(hr:eO k X.A)(hg:Gl X x)(hm:X.mg x=some (.ref f))(hk:MV X.K (.ref f)=true)(hb:Binds X.K fd ps [])
  (ha:PA X (e::es) t) (hdb:(x==("__debug__":Str))=false:=by decide) (he:N8 (e::es) X.env=(false,eval e X.env)::N8 es X.env:=by rfl) (hpl:(backTo pos (N8 es X.env)).any (·.1)=false:=by rfl):
  PE X (.Call (.Name x p) (e::es) [] pos) (t7 X sp t):=by
 intro pins s σ H Q I h;refine OA (AH I hg hm ?_ hdb);refine PySem.W.callWith_K (h₀:=X.base) I.ok.mod.kin hk (cD (ha pos pins s σ H _ I h) λus s1 zq=>zq.elim λvs zq=>zq.elim λH1 zq=>zq.elim λI1 zq=>zq.elim λr zq=>zq.elim λE zq=>zq.elim λhx q=>⟨I1.kIn,?_⟩) he hpl;exact BW F hr hb hx I1 r q
theorem wu{n:Nat}{g:List D->R D}{f:aV}(hn:∀ds,g ds≠un->ds.length=n):∀σ H Q,tF X (fR g f) σ H Q->t7 X (Ay X.K n g) (Hy X f) σ H Q:=λσ H Q zq=>zq.elim λO zq=>zq.elim λρ zq=>zq.elim λE hF=>
 ⟨O,ρ,E,(gL.bind hF).imp fun ds hF vs H1 s1 d1=>by
  cases hg:g ds with
  |ok d=>
   rw[hg]at hF;refine⟨E0,u0,O,ds,by rw[<-d1.length];exact hn ds (by rw[hg];intro z;cases z),E.all.same s1,d1,?_⟩;rw[hg];exact λv H2 s2 d2=>hF v H2 (s1.trans s2) d2
  |error z=>
   rw[hg]at hF;cases z with
   |none=>exact hF.elim
   |some x=>
    refine⟨uS X O H1 x,va (FR.mono hF s1),O,ds,by rw[<-d1.length];exact hn ds (by rw[hg];intro z;cases z),E.all.same s1,d1,?_⟩;rw[hg];exact qU⟩
end
noncomputable def Callee(P:NV)(w:NU)(K:MT)(mg:bS)(base:NX)(k:Nat)(x:Str)(ps:aH)(g:List D->R D):Prop:=
 ∃f fd,iY P w K mg base (gM P w) k f fd ps (Ay K ps.length g)/\Binds K fd ps []/\MV K (.ref f)=true/\mg x=some (.ref f)
noncomputable def Ar(n:Nat)(g:List D->R D):Prop:=∀ds,g ds≠un->ds.length=n
noncomputable def K0:Ks:={nx:=λ_=>.ok .non}
noncomputable def env0(n:Nat)(ds:List D):ah:=ds.map (λd=>some (.val d))++List.replicate (n-ds.length) none
noncomputable def aP(B:bB)(np n:Nat):List D->R D:=λds=>if ds.length=np then B K0 (env0 n ds)else un
theorem xY{B:bB}{np n:Nat}:Ar np (aP B np n):=λds h=>by
 unfold aP at h;split at h
 ·assumption
 ·exact absurd rfl h
theorem eP{n:Nat}{ds:List D}(i:Nat)(x:S)(e:(env0 n ds)[i]?=some (some x)):∃d,ds[i]?=some d/\x=.val d:=by
 unfold env0 at e;by_cases hi:i<ds.length
 ·rw[Kh (by rw[Km];exact hi),Ki,KY hi]at e;have e':some (S.val ds[i])=some x:=Option.some.inj e;exact⟨ds[i],by rw[KY hi],(Option.some.inj e').symm⟩
 ·rw[Kf (by rw[Km];omega),Km,Kg]at e;split at e
  ·cases e
  ·cases e
theorem i9{K:MT}{O:ak}{H:Hp}{N:aH}{ds:List D}{vs:aG}(hO:bJ H O)(h:aB K (hid H O) ds vs):cm K O H (env0 N.length ds) (L2.start N vs):=by
 refine⟨λi d e=>?_,λi xs e=>?_,λi j xs ys a e=>?_,hO⟩
 ·obtain⟨d',e1,e2⟩:=eP i _ e;cases e2;obtain⟨v,e3,e4⟩:=h.get e1;refine⟨v,?_,e4⟩;unfold L2.start;have hi:i<vs.length:=(List.getElem?_eq_some_iff.mp e3).1;rw[Kh (by rw[Km];exact hi),Ki,e3];rfl
 ·obtain⟨d',_,e2⟩:=eP i _ e;cases e2
 ·obtain⟨d',_,e2⟩:=eP i _ e;cases e2
section
variable{P:NV}{w:NU}{K:MT}{mg:bS}{base:NX}
structure BodyOk(P:NV)(w:NU)(K:MT)(mg:bS)(base:NX)(k:Nat)(N:aH)(qual:Str)(st:NS)(f:NQ)(B:bB):Prop where
 h:∀(cdv:NN)(A:N4)(outer:List Env)(s:NT)(H:Hp)(E:XK),eO k (A.deeper (Nv qual (af st) s.heap.objs.size f cdv))->Og (model P w) (A.deeper (Nv qual (af st) s.heap.objs.size f cdv)) (Nv qual (af st) s.heap.objs.size f cdv) (dW (gM P w) P w K mg base N qual (af st) f cdv A outer s H E).xe->
  Ic (dW (gM P w) P w K mg base N qual (af st) f cdv A outer s H E) (b8 st) B
theorem F8{x qual:Str}{st:NS}{f:NQ}{fd:Ow}{N ps:aH}{k:Nat}{sp:Sp}{CX:yC}(F:tW K x qual st f fd)(S:cu N ps (af st))(len:∀vs H Q E,sp vs H Q E->vs.length=ps.length)
  (hbody:∀ (cdv:NN) (A:N4) (outer:List Env) (s:NT) (H:Hp) (vs:aG) (Q:VK) (E:XK),eO k (A.deeper (Nv qual (af st) s.heap.objs.size f cdv))->sp vs H Q E ->
   ∃t,uf (dW CX P w K mg base N qual (af st) f cdv A outer s H E) (b8 st) t/\t {nx:=λ_ H'=>Q .non H',rt:=Q} (L2.start N vs) H):iY P w K mg base CX (k+1) f fd ps sp:=by
 obtain⟨oc,od,kV,doc,pm,an,cdv,ct,osl,rfl,lk,hcd⟩:=F.ex;exact Dq lk hcd S len λA outer s H vs Q E hr hsp=>hbody cdv A outer s H vs Q E hr hsp
theorem qc{x qual:Str}{st:NS}{f:NQ}{fd:Ow}{N ps:aH}{k:Nat}{B:bB}(F:tW K x qual st f fd)(SC:cu N ps (af st))(hb:BodyOk P w K mg base k N qual st f B):
  iY P w K mg base (gM P w) (k+1) f fd ps (Ay K ps.length (aP B ps.length N.length)):=by
 refine F8 F SC (λvs H Q E h=>?_) λcdv A outer s H vs Q E hr h=>?_
 ·obtain⟨O,ds,h1,_⟩:=h;exact h1
 ·obtain⟨O,ds,h1,h2,h3,h4⟩:=h;have hl:ds.length=ps.length:=h3.length.trans h1;have e4:aP B ps.length N.length ds=B K0 (env0 N.length ds):=by unfold aP;rw[if_pos hl]
  rw[e4]at h4;refine⟨_,hb.h cdv A outer s H E hr PassesOwn.leaving H O,O,env0 N.length ds,K0,_,⟨i9 h2 h3,⟨aF.refl H,λ_ z=>z,λa z=>.inl z⟩,λi xs a e=>?_,λi d e=>by obtain⟨d',_,e2⟩:=eP i _ e;cases e2⟩,rfl,?_⟩
  ·obtain⟨d',_,e2⟩:=eP i _ e;cases e2
  ·generalize B K0 (env0 N.length ds)=r at h4;refine⟨λz=>by rw[z]at h4;exact h4,λO' ρ' σ' H' S e=>?_,λO' ρ' σ' H' S e=>?_,λO' ρ' σ' H' S e=>?_,λd O' v H' e b dv=>?_,λO' ρ' σ' H' x S e=>?_⟩
   ·have e:(.ok .non:R D)=r:=e;subst e;exact h4 .non H' S.base.same (gq.mpr rfl)
   ·have e:(un:R D)=r:=e;subst e;exact h4.elim
   ·have e:(un:R D)=r:=e;subst e;exact h4.elim
   ·subst e;exact h4 v H' b.same (dv.mono (f7 b.sub))
   ·have e:(.error (some x):R D)=r:=e;subst e;exact sN h4 S.base.same S.base.sub
theorem wM{x qual:Str}{st:NS}{f:NQ}{fd:Ow}{N ps:aH}{k:Nat}{B:bB}(F:tW K x qual st f fd)(b:Binds K fd ps [])(m:mg x=some (.ref f))(SC:cu N ps (af st))(hb:BodyOk P w K mg base k N qual st f B):
  Callee P w K mg base (k+1) x ps (aP B ps.length N.length):=⟨f,fd,qc F SC hb,b,F.kp,m⟩
end
end TG
namespace TG
open PySem PySem.Spec L2
variable[aj]
section
variable{X:Cx}{a b c:NR}{fa fb fc:FX}{pos:Pos}
theorem Dr{r:V->Hp->VK->Prop}{g:D->aW}(s:AK X.K r g):∀σ H Q,tF X (f1 g fa) σ H Q->Jd r (tF X fa) σ H Q:=λσ H Q zq=>zq.elim λO zq=>zq.elim λρ zq=>zq.elim λE hF=>⟨O,ρ,E,(gL.bind hF).imp λa hF x H1 s1 d1=>by
 obtain⟨d,e,q⟩:=gL.rO hF;exact s a d x O H1 Q (E.all.same s1) e d1 λv H2 s2 d2=>q v H2 (s1.trans s2) d2⟩
noncomputable def DL(g g':D->D->aW)(fa fb fc:FX):FX:=λρ=>(fa ρ).bind λx=>(fb ρ).bind λy=>(rO (g x y)).bind λz=>tJ z ((fc ρ).bind λw=>rO (g' y w))
noncomputable def Ei:D->aW
 |.int i=>some (.int (-i))
 |_=>none
noncomputable def y6(f:FX):FX:=f1 Ei f
noncomputable def yL:D->aW
 |.str x=>if small x.length then some (.str (Txt.upper x))else none
 |_=>none
noncomputable def Ej(f:FX):FX:=f1 yL f
noncomputable def Fp:D->aW
 |.lst xs=>some (.lst xs.reverse)
 |.tup xs=>some (.tup xs.reverse)
 |_=>none
noncomputable def Iw(f:FX):FX:=f1 Fp f
end
end TG
namespace ZI
open PySem PySem.Spec PyProof.Rows
end ZI
namespace TG
open PySem PySem.Spec L2 ZI
variable[aj]
section
variable{X:Cx}{pins:aL}{σ:St}{H:Hp}{s:NT}{h':NX}
theorem Inv.turned0{ch:ak}{t':Nat}(I:`h)(hf:∀b∈ch,pQ X pins H b)(k:∀b u,b∉ch->s.heap.get? b=some u->h'.get? b=some u):Inv X pins σ H {s with heap:=h',toks:=t'}:=by
 have nch:∀b u,H b=some u->b∉ch:=λb u e z=>by rw[(hf b z).1]at e;cases e
 refine I.step (g':=s.gens) (d':=s.drawn) (ch:=ch) (λb hb=>?_) (λb o _ _ hc e _=>k b o hc e) (λb o _ _ hc e _=>⟨o.slots,k b o hc e⟩) (λ_ _ _ _ n=>n)
  (λb o hc e=>⟨o,k b o hc e⟩) (λ_ _ e=>e) (λ_ _ _ e=>e) (λb ps e=>⟨#[],by rw[e];simp⟩) (λm hm=>?_) (λb u e=>?_) I.bare
 ·obtain⟨_,f1,_,f3,f4,f5⟩:=hf b hb;exact⟨f3,f1,f4,f5⟩
 ·obtain⟨o,es,ep,ho,r⟩:=hm;exact⟨o,es,ep,k _ o (λz=>(hf _ z).2.1 rfl) ho,r⟩
 ·refine(I.hok b u e).stay (λc v hc q=>k c v ?_ q) (λ_ q=>q) λ_ _ q=>q;rcases hc with z|z
  ·rw[z];exact nch b u e
  ·exact nch c _ z
end
noncomputable def Fo:D->Option (Bool×List D)
 |.lst xs=>some (true,xs)
 |.tup xs=>some (false,xs)
 |_=>none
noncomputable def G2:List D->List D->List D
 |x::xs,y::ys=>.tup [x,y]::G2 xs ys
 |_,_=>[]
noncomputable def Gu:List D->Option (List D)
 |[a,b]=>(Fo a).bind λx=>(Fo b).bind λy=>some (G2 x.2 y.2)
 |_=>none
noncomputable def Io(f:aV):aV:=λρ=>(f ρ).bind λds=>rO (Gu ds)
noncomputable def C3(i:Nat):List D->List D
 |[]=>[]
 |x::xs=>.tup [.int i,x]::C3 (i+1) xs
noncomputable def CZ:List D->Option (List D)
 |[a]=>(Fo a).bind λx=>some (C3 0 x.2)
 |_=>none
noncomputable def t9(f:aV):aV:=λρ=>(f ρ).bind λds=>rO (CZ ds)
end TG
namespace TG
open PySem PySem.Spec L2
variable[aj]
section
variable{X:Cx}{a o e:NR}{es:bj}{fa fo:FX}{fas:aV}{f m x:Str}{cs:aH}{pos apos p:Pos}{k k':Nat}{ps:aH}
noncomputable def MethAt(P:NV)(w:NU)(K:MT)(mg:bS)(base:NX)(k:Nat)(c m:Str)(ps:aH)(g:List D->R D):Prop:=
 ∃C f fd,clsAt K c C/\HL K C/\Meth K C m f/\iY P w K mg base (gM P w) k f fd ps (Ay K ps.length g)/\Binds K fd ps []
theorem ww{P:NV}{w:NU}{K:MT}{mg:bS}{base:NX}{c y qual:Str}{C f:NQ}{fd:Ow}{st:NS}{N:aH}{B:bB}(h1:clsAt K c C)(h2:HL K C)(h3:Meth K C m f)(F:tW K y qual st f fd)(b:Binds K fd ps [])(SC:cu N ps (af st))(hb:BodyOk P w K mg base k N qual st f B):
  MethAt P w K mg base (k+1) c m ps (aP B ps.length N.length):=⟨C,f,fd,h1,h2,h3,qc F SC hb,b⟩
end
end TG
namespace TG
open PySem PySem.Spec L2
variable[aj]
section
variable{X:Cx}
noncomputable def JG:D->Option Str
 |.str z=>some z
 |_=>none
noncomputable def IV(a b:D):aW:=match a,b with
 |.bl c,.bl d=>some (.bl (c==d))
 |_,_=>none
noncomputable def BR(a b:D):aW:=match a,b with
 |.bl c,.bl d=>some (.bl (!(c==d)))
 |_,_=>none
end
section
variable{X:Cx}{C:NQ}{pins:aL}{σ:St}{H:Hp}{s:NT}{Q:VK}
end
end TG
namespace TG
open PySem PySem.Spec PyProof.Rows L2
variable[aj]
noncomputable def cJ:List D->List D->Option Bool
 |[],[]=>some false
 |[],_::_=>some true
 |_::_,[]=>some false
 |a::as,b::bs=>match a,b with
  |.int i,.int j=>if i=j then cJ as bs else some (decide (i<j))
  |.str x,.str y=>if x=y then cJ as bs else some (decide (x.cps.toList<y.cps.toList))
  |_,_=>none
inductive dh:aE->List D->Prop where
 |nil:dh [] []
 |int (i:Int) (t:Tok) {vs:aE} {ds:List D} (h:dh vs ds):dh (.int i t::vs) (.int i::ds)
 |str (x:Str) (t:Tok) {vs:aE} {ds:List D} (h:dh vs ds):dh (.str x t::vs) (.str x::ds)
theorem dh.length{vs:aE}{ds:List D}(h:dh vs ds):vs.length=ds.length:=by
 induction h with
 |nil=>rfl
 |int _ _ _ ih=>rw[KA,KA,ih]
 |str _ _ _ ih=>rw[KA,KA,ih]
theorem C7(A:N4)(s:NT)(a:Int)(t:Tok)(c:Int)(u:Tok):∃e,SeqAt.EqAt A s (.int a t) (.int c u) e/\(e=true↔a=c):=
 ⟨(a==c),SeqAt.EqAt.int_int a t c u,by simp⟩
theorem Dj(A:N4)(s:NT)(a:Str)(t:Tok)(c:Str)(u:Tok):∃e,SeqAt.EqAt A s (.str a t) (.str c u) e/\(e=true↔a=c):=
 ⟨(a==c),SeqAt.EqAt.str_str a t c u,by simp⟩
theorem GJ(A:N4)(s:NT)(a:Str)(t:Tok)(c:Str)(u:Tok)(prog:NV)(w:NU)(E:az)(Q:az)(h:Q (.bool (decide (a.cps.toList<c.cps.toList))) s):
  N7 `g A (richCompare .Lt (.str a t) (.str c u)) Q E s:=
 (PySem.P.lt_str h:N7 `g A (Od .Lt (.str a t) (.str c u)) Q E s)
section
open PySem.SeqAt
open PySem.AutoSeq1 (wpAny_loadPart')
open PySem.MeetsSeq PySem.MeetsSeq2 PySem.MeetsSeq3
set_option maxHeartbeats 1000000 in
theorem nK(l b:NQ)(items items2:cw)(n n2:Nat)(dd dd2:Option NQ)(sl sl2:Array gx)(ns ms:List D)(r:Bool)(hi:dh items.toList ns)(hj:dh items2.toList ms)(hr:cJ ns ms=some r):
  Meets (Builtin.«tuple.__lt__» ⟨[.ref l,.ref b],[]⟩)
   (fun _ R s=>s.heap.get? l=some { cls:=.type "tuple",dict:=dd,data:=.seq items n,slots:=sl }/\s.heap.get? b=some { cls:=.type "tuple",dict:=dd2,data:=.seq items2 n2,slots:=sl2 } /\
    R (.ok (.ret (.bool r))) s):=
 .of_wp λprog w A R s h=>by
  obtain⟨hp,g,d,tk,os⟩:=s;obtain⟨hl,hb,h⟩:=h;have f2:=AutoSeq1.sub_tuple_tuple;have z1:items.size=ns.length:=by rw[<-hi.length];simp
  have z2:items2.size=ms.length:=by rw[<-hj.length];simp
  wp_walk using wpAny_loadPart' hl,wpAny_loadPart' hb,wpAny_forIn_list _ (λrest b s'=>b.1=none/\s'=⟨hp,g,d,tk,os⟩/\∃(vs ws:aE)(ns' ms':List D),rest=vs.zip ws/\
   dh vs ns'/\dh ws ms'/\ns'.length+items2.size=ms'.length+items.size/\cJ ns' ms'=some r/\R (.ok (.ret (.bool r))) ⟨hp,g,d,tk,os⟩) _
  case turn=>
   rintro⟨y,x⟩ rest b s' ⟨hb',rfl,vs,ws,ns',ms',hz,hvi,hwi,hlen,hL,hR⟩;cases hvi with
   |nil=>rw[List.zip_nil_left]at hz;cases hz
   |int a t hvi'=>
    cases hwi with
    |nil=>rw[Ln]at hz;cases hz
    |str c u hwi'=>cases hL
    |int c u hwi'=>
     rw[Lp]at hz;injection hz with hyx hrest;injection hyx with hy hx;subst hy hx;have hL':(if a=c then cJ _ _ else some (decide (a<c)))=some r:=hL;simp only[KA]at hlen;obtain⟨e,he,hiff⟩:=C7 A.in1 ⟨hp,g,d,tk,os⟩ a t c u;refine Oj (he prog w _ _ ?_);cases e with
     |true=>
      rw[if_pos (hiff.mp rfl)]at hL'
      wp_walk
      exact⟨rfl,rfl,_,_,_,_,hrest,hvi',hwi',by omega,hL',hR⟩
     |false=>
      rw[if_neg (λq=>absurd (hiff.mpr q) J8)]at hL';cases hL';have hri:=HT.Gn A.in1 ⟨hp,g,d,tk,os⟩ a t c u prog w
      wp_walk using hri
      exact⟨_,rfl,by simpa using hR⟩
   |str a t hvi'=>
    cases hwi with
    |nil=>rw[Ln]at hz;cases hz
    |int c u hwi'=>cases hL
    |str c u hwi'=>
     rw[Lp]at hz;injection hz with hyx hrest;injection hyx with hy hx;subst hy hx;have hL':(if a=c then cJ _ _ else some (decide (a.cps.toList<c.cps.toList)))=some r:=hL;simp only[KA]at hlen;obtain⟨e,he,hiff⟩:=Dj A.in1 ⟨hp,g,d,tk,os⟩ a t c u;refine Oj (he prog w _ _ ?_);cases e with
     |true=>
      rw[if_pos (hiff.mp rfl)]at hL'
      wp_walk
      exact⟨rfl,rfl,_,_,_,_,hrest,hvi',hwi',by omega,hL',hR⟩
     |false=>
      rw[if_neg (λq=>absurd (hiff.mpr q) J8)]at hL';cases hL';have hri:=GJ A.in1 ⟨hp,g,d,tk,os⟩ a t c u prog w
      wp_walk using hri
      exact⟨_,rfl,by simpa using hR⟩
  case fin=>
   rintro⟨b1,b2⟩ s' ⟨hb',rfl,vs,ws,ns',ms',hz,hvi,hwi,hlen,hL,hR⟩;simp only at hb';subst hb';have hv:r=decide (items.size<items2.size):=by
    have l1:=hvi.length;have l2:=hwi.length;cases ns' with
    |nil=>
     cases ms' with
     |nil=>
      simp only[KC]at hlen;cases hL;exact(decide_eq_false `o).symm
     |cons c u=>
      simp only[KC,KA]at hlen;cases hL;exact(decide_eq_true `o).symm
    |cons a t=>
     cases ms' with
     |nil=>
      simp only[KC,KA]at hlen;cases hL;exact(decide_eq_false `o).symm
     |cons c u=>
      have:=congrArg List.length hz
      simp only[KC,List.length_zip,l1,l2,KA]at this;omega
   rw[hv]at hR
   wp_walk
   exact⟨_,rfl,by simpa [Builtin.Tuple.tupleCompareSizes]using hR⟩
  case h=>
   exact⟨rfl,rfl,items.toList,items2.toList,ns,ms,rfl,hi,hj,by omega,hr,h⟩
end
section
variable{X:Cx}
theorem wy{α:Type}{c:Bool}{o:Option α}{a:α}(h:(if c then o else none)=some a):c=true/\o=some a:=by
 cases c with
 |true=>exact⟨rfl,h⟩
 |false=>cases h
theorem tQ{prog:NV}{w:NU}{A:N4}{E:az}{s:NT}{l b:NQ}{items items2:cw}{ns ms:List D}{r:Bool}{Q:az}(hl:NZ s.heap l items)(hb:NZ s.heap b items2)(hi:dh items.toList ns)(hj:dh items2.toList ms)(hr:cJ ns ms=some r)
  (hu:A.units<Ov) (h:Q (.bool r) s):N7 `g A (Od .Lt (.ref l) (.ref b)) Q E s:=by
 obtain⟨⟨cls,dd,data,sl⟩,ho,hc,n,hd⟩:=id hl;obtain⟨⟨cls2,dd2,data2,sl2⟩,ho2,hc2,n2,hd2⟩:=id hb;simp only at hc hd hc2 hd2;subst hc hd hc2 hd2;exact richCompare_meets_room (op:=.Lt) ⟨_,ho,rfl⟩ ⟨_,ho2,rfl⟩ PySem.F.slot_tuple_lt PySem.F.entry_tuple_lt (PySem.F.args_tuple_lt_2 _ _) (nK l b items items2 n n2 dd dd2 sl sl2 ns ms r hi hj hr)
  ⟨ho,ho2,show Value.bool r≠Value.notImplemented/\Q (.bool r) s from⟨(λx=>nomatch x),h⟩⟩ hu
noncomputable def k9:List D->Bool
 |[]=>true
 |.int _::r=>k9 r
 |.str _::r=>k9 r
 |_=>false
theorem fw{K:MT}{H:Hp}:∀{ds:List D}{vs:aG}{us:aE},k9 ds=true->aB K H ds vs->Vals vs us->dh us ds
 |[],vs,us,_,h,r=>by
  rw[bG]at h;subst h;cases r;exact .nil
 |d::ds,vs,us,hf,h,r=>by
  obtain⟨v,r',e,h1,h2⟩:=aM.mp h;subst e;cases r with
  |cons q1 q2=>
   cases d with
   |int i=>
    rw[c6]at h1;subst h1;obtain⟨t,rfl⟩:=q1;exact .int i t (fw hf h2 q2)
   |str x=>
    rw[c9]at h1;subst h1;obtain⟨t,rfl⟩:=q1;exact .str x t (fw hf h2 q2)
   |_=>cases hf
noncomputable def tP(a b:D):aW:=match a,b with
 |.int i,.int j=>some (.bl (decide (i<j)))
 |.str x,.str y=>some (.bl (decide (x.cps.toList<y.cps.toList)))
 |.tup xs,.tup ys=>if k9 xs&&k9 ys then(cJ xs ys).bind λr=>some (.bl r)else none
 |_,_=>none
theorem yS(hu:X.A.units+64<Ov):kf X (Od .Lt) (rD X.K tP):=by
 rintro pins s σ H x y u v Q I rx ry ⟨O,a,b,d,hO,ha,hb,hg,q⟩;cases a with
 |int i=>
  cases b with
  |int j=>
   cases hg;exact F9 pins s σ H x y u v Q I rx ry ⟨i,j,c6.mp ha,c6.mp hb,q _ H (aF.refl H) (gO.mpr rfl)⟩
  |_=>cases hg
 |str i=>
  cases b with
  |str j=>
   cases hg;exact xA pins s σ H x y u v Q I rx ry ⟨i,j,c9.mp ha,c9.mp hb,q _ H (aF.refl H) (gO.mpr rfl)⟩
  |_=>cases hg
 |tup xs=>
  cases b with
  |tup ys=>
   obtain⟨h1,h2⟩:=wy hg;obtain⟨r,e1,e2⟩:=bind_some h2;cases e2;rw[Kr]at h1;obtain⟨p,vs,ex,g1,g2⟩:=bv.mp ha;obtain⟨p',vs',ey,g1',g2'⟩:=bv.mp hb;subst ex ey;cases rx;cases ry;obtain⟨its,r1,t1,_⟩:=I.tuple (aZ (ai H O) g1);obtain⟨its2,r2,t2,_⟩:=I.tuple (aZ (ai H O) g1');exact tQ t1 t2 (fw h1.1 g2 r1) (fw h1.2 g2' r2) e1 `o (yn I (q _ H (aF.refl H) (gO.mpr rfl)) rfl)
  |_=>cases hg
 |_=>cases hg
end
end TG
namespace TG
open PySem PySem.Spec L2
variable[aj]
end TG
namespace TG
open PySem PySem.Spec PyProof.Rows PySem.W L2
variable[aj]
theorem mI:∀a:aR,¬a<a
 |[]=>Lq _
 |x::xs=>λh=>by
  rcases List.cons_lt_cons_iff.mp h with h|⟨_,h⟩
  ·omega
  ·exact mI xs h
theorem gZ:∀{a b c:aR},a<b->b<c->a<c
 |_,_,[],_,h=>absurd h (Lq _)
 |_,[],_::_,h,_=>absurd h (Lq _)
 |[],_::_,_::_,_,_=>Lr _ _
 |x::xs,y::ys,z::zs,h,h'=>by
  rw[Lv]at h h' ⊢;rcases h with h|⟨e,h⟩<;>rcases h' with h'|⟨e',h'⟩
  ·exact .inl `o
  ·exact .inl `o
  ·exact .inl `o
  ·exact .inr ⟨by omega,gZ h h'⟩
theorem zm:∀a b:aR,a<b\/a=b\/b<a
 |[],[]=>.inr (.inl rfl)
 |[],_::_=>.inl (Lr _ _)
 |_::_,[]=>.inr (.inr (Lr _ _))
 |x::xs,y::ys=>by
  rw[Lv,Lv];rcases Nat.lt_trichotomy x y with h|h|h
  ·exact .inl (.inl h)
  ·rcases zm xs ys with q|q|q
   ·exact .inl (.inr ⟨h,q⟩)
   ·exact .inr (.inl (by rw[h,q]))
   ·exact .inr (.inr (.inr ⟨h.symm,q⟩))
  ·exact .inr (.inr (.inl h))
theorem z9{x y:Str}(h:x.cps.toList=y.cps.toList):x=y:=by
 cases x;cases y;congr 1;exact Array.toList_inj.mp h
inductive Sh:bb->List D->Prop where
 |nil:Sh [] []
 |int (i:Int) {bs:bb} {ds:List D} (h:Sh bs ds):Sh (true::bs) (.int i::ds)
 |str (x:Str) {bs:bb} {ds:List D} (h:Sh bs ds):Sh (false::bs) (.str x::ds)
theorem Sh.length{σ:bb}{a:List D}(h:Sh σ a):a.length=σ.length:=by
 induction h with
 |nil=>rfl
 |int _ _ ih=>rw[KA,KA,ih]
 |str _ _ ih=>rw[KA,KA,ih]
theorem lL:∀{σ:bb}{a:List D},Sh σ a->k9 a=true
 |_,_,.nil=>rfl
 |_,_,.int i h=>by
  unfold k9;exact lL h
 |_,_,.str i h=>by
  unfold k9;exact lL h
theorem mB(i j:Int)(as bs:List D):cJ (.int i::as) (.int j::bs)=if i=j then cJ as bs else some (decide (i<j)):=by rw[cJ]
theorem mU(x y:Str)(as bs:List D):cJ (.str x::as) (.str y::bs)=if x=y then cJ as bs else some (decide (x.cps.toList<y.cps.toList)):=by rw[cJ]
theorem ym:cJ [] []=some false:=by rw[cJ]
theorem jG:∀{σ:bb}{a:List D},Sh σ a->cJ a a=some false
 |_,_,.nil=>ym
 |_,_,.int i h=>by rw[mB,if_pos rfl];exact jG h
 |_,_,.str x h=>by rw[mU,if_pos rfl];exact jG h
theorem lF{σ:bb}{a b:List D}(h1:Sh σ a)(h2:Sh σ b):(cJ a b=some true/\cJ b a=some false/\a≠b)\/a=b\/(cJ b a=some true/\cJ a b=some false/\a≠b):=by
 induction h1 generalizing b with
 |nil=>cases h2;exact .inr (.inl rfl)
 |int i h ih=>
  cases h2 with|int j h'=>
  rw[mB,mB];by_cases e:i=j
  ·subst e;rw[if_pos rfl,if_pos rfl];rcases ih h' with⟨q1,q2,q3⟩|q|⟨q1,q2,q3⟩
   ·exact .inl ⟨q1,q2,λz=>q3 (by injection z)⟩
   ·exact .inr (.inl (by rw[q]))
   ·exact .inr (.inr ⟨q1,q2,λz=>q3 (by injection z)⟩)
  ·rw[if_neg e,if_neg (λz=>e z.symm)];rcases Int.lt_or_gt_of_ne e with q|q
   ·exact .inl ⟨by rw[decide_eq_true q],by rw[decide_eq_false `o],λz=>e (by injection z with z1;injection z1)⟩
   ·exact .inr (.inr ⟨by rw[decide_eq_true q],by rw[decide_eq_false `o],λz=>e (by injection z with z1;injection z1)⟩)
 |str x h ih=>
  cases h2 with|str y h'=>
  rw[mU,mU];by_cases e:x=y
  ·subst e;rw[if_pos rfl,if_pos rfl];rcases ih h' with⟨q1,q2,q3⟩|q|⟨q1,q2,q3⟩
   ·exact .inl ⟨q1,q2,λz=>q3 (by injection z)⟩
   ·exact .inr (.inl (by rw[q]))
   ·exact .inr (.inr ⟨q1,q2,λz=>q3 (by injection z)⟩)
  ·rw[if_neg e,if_neg (λz=>e z.symm)];rcases zm x.cps.toList y.cps.toList with q|q|q
   ·exact .inl ⟨by rw[decide_eq_true q],by rw[decide_eq_false λz=>mI _ (gZ q z)],λz=>e (by injection z with z1;injection z1)⟩
   ·exact absurd (z9 q) e
   ·exact .inr (.inr ⟨by rw[decide_eq_true q],by rw[decide_eq_false λz=>mI _ (gZ q z)],λz=>e (by injection z with z1;injection z1)⟩)
theorem oh{σ:bb}{a b c:List D}(h1:Sh σ a)(h2:Sh σ b)(h3:Sh σ c)(q:cJ a b=some true)(q':cJ b c=some true):cJ a c=some true:=by
 induction h1 generalizing b c with
 |nil=>cases h2;rw[ym]at q;cases q
 |int i h ih=>
  cases h2 with|int j h'=>
  cases h3 with|int k h''=>
  rw[mB]at q q' ⊢;by_cases e:i=j
  ·subst e;rw[if_pos rfl]at q;by_cases e':i=k
   ·subst e';rw[if_pos rfl]at q' ⊢;exact ih h' h'' q q'
   ·rw[if_neg e']at q' ⊢;exact q'
  ·rw[if_neg e]at q;have q1:=of_decide_eq_true (Option.some.inj q);by_cases e':j=k
   ·subst e';rw[if_neg e,decide_eq_true q1]
   ·rw[if_neg e']at q';have q2:=of_decide_eq_true (Option.some.inj q');rw[if_neg `o,decide_eq_true `o]
 |str i h ih=>
  cases h2 with|str j h'=>
  cases h3 with|str k h''=>
  rw[mU]at q q' ⊢;by_cases e:i=j
  ·subst e;rw[if_pos rfl]at q;by_cases e':i=k
   ·subst e';rw[if_pos rfl]at q' ⊢;exact ih h' h'' q q'
   ·rw[if_neg e']at q' ⊢;exact q'
  ·rw[if_neg e]at q;have q1:=of_decide_eq_true (Option.some.inj q);by_cases e':j=k
   ·subst e';rw[if_neg e,decide_eq_true q1]
   ·rw[if_neg e']at q';have q2:=of_decide_eq_true (Option.some.inj q');rw[if_neg (show¬i=k from λz=>by rw[z]at q1;exact mI _ (gZ q1 q2)),decide_eq_true (gZ q1 q2)]
theorem yx{σ:bb}{a b:List D}(h:Sh σ a)(h':Sh σ b)(q:cJ a b=some true):cJ b a=some false:=by
 rcases lF h h' with⟨_,q2,_⟩|e|⟨_,q2,_⟩
 ·exact q2
 ·subst e;rw[jG h]at q;cases q
 ·rw[q2]at q;cases q
noncomputable def kLt(a b:List D):Bool:=cJ a b==some true
theorem AI{a b:List D}:kLt a b=true↔cJ a b=some true:=by unfold kLt;simp
section
variable{α:Type}
noncomputable def lr(key:α->List D)(x:α):List α->List α
 |[]=>[x]
 |y::ys=>if kLt (key x) (key y)then x::y::ys else y::lr key x ys
noncomputable def aY(key:α->List D):List α->List α
 |[]=>[]
 |x::xs=>lr key x (aY key xs)
theorem kn(key:α->List D)(x:α):∀ys:List α,(lr key x ys).Perm (x::ys)
 |[]=>.refl _
 |y::ys=>by
  unfold lr;split
  ·exact .refl _
  ·exact(List.Perm.cons y (kn key x ys)).trans (.swap x y ys)
theorem av(key:α->List D):∀xs:List α,(aY key xs).Perm xs
 |[]=>.refl _
 |x::xs=>(kn key x _).trans (.cons x (av key xs))
noncomputable def nh(key:α->List D)(xs:List α):Prop:=xs.Pairwise λx y=>cJ (key x) (key y)=some true
theorem rG{key:α->List D}{σ:bb}{x:α}(hx:Sh σ (key x)):∀{ys:List α},(∀y∈ys,Sh σ (key y)/\key x≠key y)->nh key ys->nh key (lr key x ys)
 |[],_,_=>List.pairwise_singleton _ _
 |y::ys,h,p=>by
  have p':=List.pairwise_cons.mp p;obtain⟨hy,ne⟩:=h y J3;unfold lr;split
  ·rename_i q;have q:=AI.mp q;refine List.pairwise_cons.mpr ⟨λz hz=>?_,p⟩;rcases List.mem_cons.mp hz with rfl|hz
   ·exact q
   ·exact oh hx hy (h z (J4 _ hz)).1 q (p'.1 z hz)
  ·rename_i q;have q:cJ (key y) (key x)=some true:=by
    rcases lF hx hy with⟨z,_⟩|z|⟨z,_⟩
    ·exact absurd (AI.mpr z) q
    ·exact absurd z ne
    ·exact z
   refine List.pairwise_cons.mpr ⟨λz hz=>?_,rG hx (λz hz=>h z (J4 _ hz)) p'.2⟩;rcases List.mem_cons.mp ((kn key x ys).mem_iff.mp hz)with rfl|hz
   ·exact q
   ·exact p'.1 z hz
theorem dr{key:α->List D}{σ:bb}:∀{xs:List α},(∀x∈xs,Sh σ (key x))->xs.Pairwise (λx y=>key x≠key y)->nh key (aY key xs)
 |[],_,_=>List.Pairwise.nil
 |x::xs,h,p=>by
  have p':=List.pairwise_cons.mp p;refine rG (h x J3) (λy hy=>?_) (dr (λy hy=>h y (J4 _ hy)) p'.2);have hy:=(av key xs).mem_iff.mp hy;exact⟨h y (J4 _ hy),p'.1 y hy⟩
theorem pB{key:α->List D}{σ:bb}:∀{xs ys:List α},(∀x∈xs,Sh σ (key x))->nh key xs->nh key ys->xs.Perm ys->xs=ys
 |[],ys,_,_,_,e=>(List.perm_nil.mp e.symm).symm
 |x::xs,[],_,_,_,e=>List.perm_nil.mp e
 |x::xs,y::ys,h,p,q,e=>by
  have p':=List.pairwise_cons.mp p;have q':=List.pairwise_cons.mp q;have exy:x=y:=by
   rcases List.mem_cons.mp (e.mem_iff.mp J3)with z|z
   ·exact z
   ·have w1:=q'.1 x z;rcases List.mem_cons.mp (e.symm.mem_iff.mp J3)with z'|z'
    ·exact z'.symm
    ·have w2:=p'.1 y z'
     have:=yx (h x J3) (h y (J4 _ z')) w2
     rw[w1]at this;cases this
  subst exy;rw[pB (λz hz=>h z (J4 _ hz)) p'.2 q'.2 (List.Perm.cons_inv e)]
theorem jp{key:α->List D}{σ:bb}{xs ys:List α}(h:∀x∈xs,Sh σ (key x))(p:xs.Pairwise λx y=>key x≠key y)(q:nh key ys)(e:ys.Perm xs):aY key xs=ys:=
 pB (λx hx=>h x ((av key xs).mem_iff.mp hx)) (dr h p) q ((av key xs).trans e.symm)
noncomputable def rank(ks:List (List D))(i:Nat):Nat:=(ks.filter λk=>kLt k (ks.getD i [])).length
theorem lG{ks:List (List D)}{σ:bb}(h:∀k∈ks,Sh σ k){i j:Nat}(hi:i<ks.length)(hj:j<ks.length):decide (rank ks i<rank ks j)=kLt (ks.getD i []) (ks.getD j []):=by
 have gi:ks.getD i []=ks[i]:=by simp[hi]
 have gj:ks.getD j []=ks[j]:=by simp[hj]
 have mono:∀a b:List D,Sh σ a->Sh σ b->cJ a b=some true->∀l:List (List D),(∀k∈l,Sh σ k)->(l.filter λk=>kLt k a).length<=(l.filter λk=>kLt k b).length/\(a∈l->(l.filter λk=>kLt k a).length<(l.filter λk=>kLt k b).length):=by
  intro a b ha hb hab l
  induction l with
  |nil=>exact λ_=>⟨Ka _,λz=>nomatch z⟩
  |cons k l ih=>
   intro hl;obtain⟨i1,i2⟩:=ih λz hz=>hl z (J4 _ hz);have hk:=hl k J3;by_cases q:kLt k a=true
   ·have q':kLt k b=true:=AI.mpr (oh hk ha hb (AI.mp q) hab);rw[Lw (p:=λk=>kLt k a) q,Lw (p:=λk=>kLt k b) q',KA,KA];refine⟨by omega,λz=>?_⟩;rcases List.mem_cons.mp z with rfl|z
    ·rw[AI,jG ha]at q;cases q
    ·have:=i2 z;omega
   ·rw[Lx (p:=λk=>kLt k a) q];by_cases q':kLt k b=true
    ·rw[Lw (p:=λk=>kLt k b) q',KA];exact⟨by omega,λ_=>by omega⟩
    ·rw[Lx (p:=λk=>kLt k b) q'];refine⟨i1,λz=>?_⟩;rcases List.mem_cons.mp z with rfl|z
     ·exact absurd (AI.mpr hab) q'
     ·exact i2 z
 unfold rank;rw[gi,gj];have hi':=h _ (Ly hi);have hj':=h _ (Ly hj);rcases lF hi' hj' with⟨z,_⟩|z|⟨z,z',_⟩
 ·rw[AI.mpr z];exact decide_eq_true ((mono _ _ hi' hj' z ks h).2 (Ly hi))
 ·rw[z]
  have:kLt ks[j] ks[j]=false:=by unfold kLt;rw[jG hj'];rfl
  rw[this];exact decide_eq_false (JW _)
 ·have e:kLt ks[i] ks[j]=false:=by unfold kLt;rw[z'];rfl
  rw[e];exact decide_eq_false (Nat.not_lt.mpr (mono _ _ hj' hi' z ks h).1)
end
section
variable{cmp:Nat->Nat->(Bool->bn)->bn}{r:Nat->Nat}{N:Nat}
noncomputable def bz(cmp:Nat->Nat->(Bool->bn)->bn)(r:Nat->Nat)(N:Nat)(s:NT):Prop:=∀(i j:Nat)(C:Bool->bn),i<N->j<N->C (decide (r i<r j)) s->cmp i j C s
noncomputable def PM(N:Nat)(p:Array Nat):Prop:=p.Perm (List.toArray (List.range N))
theorem PM.size{p:Array Nat}(h:PM N p):p.size=N:=by
 have:=h.size_eq;simpa using this
theorem PM.lt{p:Array Nat}(h:PM N p){i:Nat}(hi:i<N):p.getD i 0<N:=by
 have hs:=h.size;have e:p.getD i 0=p[i]'`o:=by simp[Array.getD,hs,hi]
 rw[e];have m:p[i]'`o∈p:=Array.getElem_mem _
 have:=(h.mem_iff (a:=p[i]'`o)).mp m
 simpa using this
theorem PM.rev{p:Array Nat}(h:PM N p)(i j:Nat):PM N (O6 p i j):=(mirror_perm p i j _).trans h
noncomputable abbrev Rk(r:Nat->Nat)(p:Array Nat)(i:Nat):Nat:=r (p.getD i 0)
theorem pS{p:Array Nat}{i j:Nat}(hj:j<=p.size)(k:Nat):Rk r (O6 p i j) k=if i<=k/\k<j then Rk r p (i+j-1-k)else Rk r p k:=by
 have e:=getElem?_mirror_all (xs:=p) (i:=i) (j:=j) hj k;have g:∀(q:Array Nat)(k:Nat),q.getD k 0=(q[k]?).getD 0:=λq k=>by simp
 show r ((O6 p i j).getD k 0)=_;rw[g];show r (((mirror p i j ((j-i)/2))[k]?).getD 0)=_;rw[e];split
 ·show _=r (p.getD _ 0);rw[g]
 ·show _=r (p.getD _ 0);rw[g]
theorem ul{p:Array Nat}{src d:Nat}(hs:src<p.size)(hd:d<=src)(k:Nat):Rk r (bubble p src d) k=if k=src-d then Rk r p src else if src-d<k/\k<=src then Rk r p (k-1)else Rk r p k:=by
 have e:=getElem?_bubble (xs:=p) hs d hd k;have g:∀(q:Array Nat)(k:Nat),q.getD k 0=(q[k]?).getD 0:=λq k=>by simp
 show r ((bubble p src d).getD k 0)=_;rw[g,e];split
 ·show _=r (p.getD _ 0);rw[g]
 ·split
  ·show _=r (p.getD _ 0);rw[g]
  ·show _=r (p.getD _ 0);rw[g]
noncomputable def Up(r:Nat->Nat)(p:Array Nat)(k:Nat):Prop:=∀i j,i<=j->j<k->Rk r p i<=Rk r p j
variable{s:NT}
end
end TG
namespace TG
open PySem PySem.Spec PyProof.Rows PySem.W L2
noncomputable def dY:Bool->O7->Array O7->Nat->Nat->Nat->StateT O8 Sem (Option Nat):=sortPriv% PySem.Builtin.gallop
noncomputable def mD:Array O7->Array O7->StateT O8 Sem (Array O7):=sortPriv% PySem.Builtin.mergeLo
noncomputable def mC:Array O7->Array O7->StateT O8 Sem (Array O7):=sortPriv% PySem.Builtin.mergeHi
noncomputable abbrev setG(st:O8)(g:Nat):O8:=SortSt.mk' (kindOf st) (arrOf st) (pendingOf st) g (failedOf st)
noncomputable def rj(left:Bool)(key:O7)(arr:Array O7)(i:Nat):StateT O8 Sem (Option Bool):=do
 let x<-elem' arr i
 if left then lt' x key else return(<-lt' key x).map (!·)
noncomputable def qw(left:Bool)(key:O7)(arr:Array O7)(base n lo hi:Nat):StateT O8 Sem (Option Nat):=do
 let mut lo:=lo
 let mut hi:=hi
 for _ in[0:n]do
  if lo>=hi then break
  let m:=lo+(hi-lo)/2
  let some more<-rj left key arr (base+m)|return none
  if more then lo:=m+1 else hi:=m
 return some hi
theorem ur(left:Bool)(key:O7)(arr:Array O7)(base n hint:Nat):dY left key arr base n hint=(do
 let some right<-rj left key arr (base+hint)|return none
 if right then
  let mut lastofs:=0
  let mut ofs:=1
  for _ in[0:n]do
   if ofs>=n-hint then break
   let some more<-rj left key arr (base+(hint+ofs))|return none
   if !more then break
   lastofs:=ofs
   ofs:=2*ofs+1
  qw left key arr base n (hint+lastofs+1) (hint+min ofs (n-hint))
 else
  let mut lastofs:=0
  let mut ofs:=1
  for _ in[0:n]do
   if ofs>=hint+1 then break
   let some found<-rj left key arr (base+(hint-ofs))|return none
   if found then break
   lastofs:=ofs
   ofs:=2*ofs+1
  qw left key arr base n (hint+1-min ofs (hint+1)) (hint-lastofs)):=rfl
section
variable{prog:NV}{w:NU}{A:N4}{E:az}{s:NT}{left:Bool}{key:O7}{arr:Array O7}{base n hint:Nat}{P:Nat->Bool}{st:O8}{Q:Option Nat->O8->Prop}
theorem nW(hb:∀i,i<n->∀Q':Option Bool->O8->Prop,Q' (some (P i)) st->wpS `g A E s (rj left key arr (base+i)) Q' st)
  (hm:∀i j,i<=j->j<n->P j=true->P i=true) (h:∀k,k<=n->(∀i,i<k->P i=true)->(∀i,k<=i->i<n->P i=false)->Q (some k) st)
  {lo hi:Nat} (h1:lo<=hi) (h2:hi<=n) (hl:∀i,i<lo->P i=true) (hr:∀i,hi<=i->i<n->P i=false):wpS `g A E s (qw left key arr base n lo hi) Q st:=by
 unfold qw;dsimp only;refine O9 (Pa (Pb (I:=λx c st'=>st'=st/\∃l r,c=(none,l,r)/\l<=r/\r<=n/\r-l<=n-x/\(∀i,i<l->P i=true)/\∀i,r<=i->i<n->P i=false)
  (Q:=λc st'=>st'=st/\∃l,c=(none,l,l)/\l<=n/\(∀i,i<l->P i=true)/\∀i,l<=i->i<n->P i=false) ?step ?fin ⟨rfl,lo,hi,rfl,h1,h2,by omega,hl,hr⟩) ?post)
 case post=>
  rintro c st' ⟨rfl,l,rfl,a,b,d⟩;exact Ph (h l a b d)
 case fin=>
  rintro c st' ⟨rfl,l,r,rfl,a,b,d,e,f⟩
  have:l=r:=by omega
  subst this;exact⟨rfl,l,rfl,b,e,f⟩
 case step=>
  rintro x c st' _ hx ⟨rfl,l,r,rfl,a,b,d,e,f⟩;dsimp only;by_cases z:l>=r
  ·rw[if_pos z]
   have:l=r:=(by omega);subst this;exact Ph ⟨rfl,l,rfl,b,e,f⟩
  ·rw[if_neg z];refine O9 (hb (l+(r-l)/2) `o _ ?_);cases q:P (l+(r-l)/2)with
   |true=>
    simp only[if_true];exact Ph ⟨rfl,_,r,rfl,by omega,b,by omega,λi hi=>hm i _ `o `o q,f⟩
   |false=>
    simp only[KL,if_false];refine Ph ⟨rfl,l,_,rfl,by omega,by omega,by omega,e,λi h1 h2=>?_⟩;cases y:P i with
    |false=>rfl
    |true=>rw[hm _ i h1 h2 y]at q;cases q
theorem vZ(hb:∀i,i<n->∀Q':Option Bool->O8->Prop,Q' (some (P i)) st->wpS `g A E s (rj left key arr (base+i)) Q' st)
  (hm:∀i j,i<=j->j<n->P j=true->P i=true) (hh:hint<n) (h:∀k,k<=n->(∀i,i<k->P i=true)->(∀i,k<=i->i<n->P i=false)->Q (some k) st):
  wpS `g A E s (dY left key arr base n hint) Q st:=by
 have hf:∀i j,i<=j->j<n->P i=false->P j=false:=λi j a b c=>by
  cases y:P j with
  |false=>rfl
  |true=>rw[hm _ j a b y]at c;cases c
 rw[ur];refine O9 (hb hint hh _ ?_);cases q:P hint with
 |true=>
  simp only[if_true];refine O9 (Pa (Pb (I:=λx c st'=>st'=st/\∃l o,c=(none,l,o)/\l<o/\x<o/\hint+l<n/\P (hint+l)=true)
   (Q:=λc st'=>st'=st/\∃l o,c=(none,l,o)/\l<o/\hint+l<n/\P (hint+l)=true/\(n-hint<=o\/P (hint+o)=false)) ?step ?fin ⟨rfl,0,1,rfl,by omega,by omega,by omega,q⟩) ?post)
  case post=>
   rintro c st' ⟨rfl,l,o,rfl,a,b,d,e⟩;dsimp only;refine nW hb hm h `o `o (λi hi=>hm i _ `o b d) λi h1 h2=>?_;rcases e with e|e
   ·omega
   ·exact hf _ i `o h2 e
  case fin=>
   rintro c st' ⟨rfl,l,o,rfl,a,b,d,e⟩;exact⟨rfl,l,o,rfl,a,d,e,.inl `o⟩
  case step=>
   rintro x c st' _ hx ⟨rfl,l,o,rfl,a,b,d,e⟩;dsimp only;by_cases z:o>=n-hint
   ·rw[if_pos z];exact Ph ⟨rfl,l,o,rfl,a,d,e,.inl z⟩
   ·rw[if_neg z];refine O9 (hb (hint+o) `o _ ?_);cases y:P (hint+o)with
    |false=>
     simp only[Lz,if_true];exact Ph ⟨rfl,l,o,rfl,a,d,e,.inr y⟩
    |true=>
     simp only[LA,KL,if_false];exact Ph ⟨rfl,o,2*o+1,rfl,by omega,by omega,by omega,y⟩
 |false=>
  simp only[KL,if_false];refine O9 (Pa (Pb (I:=λx c st'=>st'=st/\∃l o,c=(none,l,o)/\l<o/\x<o/\l<=hint/\P (hint-l)=false)
   (Q:=λc st'=>st'=st/\∃l o,c=(none,l,o)/\l<o/\l<=hint/\P (hint-l)=false/\(hint+1<=o\/P (hint-o)=true)) ?step ?fin ⟨rfl,0,1,rfl,by omega,by omega,by omega,q⟩) ?post)
  case post=>
   rintro c st' ⟨rfl,l,o,rfl,a,b,d,e⟩;dsimp only;refine nW hb hm h `o `o (λi hi=>?_) λi h1 h2=>hf _ i h1 h2 d;rcases e with e|e
   ·omega
   ·exact hm i (hint-o) `o `o e
  case fin=>
   rintro c st' ⟨rfl,l,o,rfl,a,b,d,e⟩;exact⟨rfl,l,o,rfl,a,d,e,.inl `o⟩
  case step=>
   rintro x c st' _ hx ⟨rfl,l,o,rfl,a,b,d,e⟩;dsimp only;by_cases z:o>=hint+1
   ·rw[if_pos z];exact Ph ⟨rfl,l,o,rfl,a,d,e,.inl z⟩
   ·rw[if_neg z];refine O9 (hb (hint-o) `o _ ?_);cases y:P (hint-o)with
    |true=>
     simp only[if_true];exact Ph ⟨rfl,l,o,rfl,a,d,e,.inr y⟩
    |false=>
     simp only[KL,if_false];exact Ph ⟨rfl,o,2*o+1,rfl,by omega,by omega,by omega,y⟩
end
structure Jn(R:Nat->Nat->Prop)(B0 out a b:aR):Prop where
 so:out.Pairwise R
 sa:a.Pairwise R
 sb:b.Pairwise R
 la:∀x∈out,∀y∈a,R x y
 lb:∀x∈out,∀y∈b,R x y
 pm:(out++(a++b)).Perm B0
section
variable{R:Nat->Nat->Prop}{B0 out a b a1 a2 b1 b2:aR}
theorem Jn.swap(h:Jn R B0 out a b):Jn R B0 out b a:=⟨h.so,h.sb,h.sa,h.lb,h.la,(List.Perm.append_left _ List.perm_append_comm).trans h.pm⟩
theorem Jn.takeA(h:Jn R B0 out (a1++a2) b)(q:∀x∈a1,∀y∈b,R x y):Jn R B0 (out++a1) a2 b:=by
 obtain⟨s1,s2,s3⟩:=List.pairwise_append.mp h.sa;refine⟨List.pairwise_append.mpr ⟨h.so,s1,λx hx y hy=>h.la x hx y (J5 _ hy)⟩,s2,h.sb,λx hx y hy=>?_,λx hx y hy=>?_,?_⟩
 ·rcases List.mem_append.mp hx with z|z
  ·exact h.la x z y (Kb _ hy)
  ·exact s3 x z y hy
 ·rcases List.mem_append.mp hx with z|z
  ·exact h.lb x z y hy
  ·exact q x z y hy
 ·have:=h.pm
  rwa [Li,<-Li,<-Li]at *
theorem Jn.takeB(h:Jn R B0 out a (b1++b2))(q:∀x∈b1,∀y∈a,R x y):Jn R B0 (out++b1) a b2:=(h.swap.takeA q).swap
theorem Jn.done(h:Jn R B0 out a b)(q:∀x∈a,∀y∈b,R x y):(out++a++b).Pairwise R/\(out++a++b).Perm B0:=by
 refine⟨?_,by rw[Li];exact h.pm⟩;refine List.pairwise_append.mpr ⟨List.pairwise_append.mpr ⟨h.so,h.sa,h.la⟩,h.sb,λx hx y hy=>?_⟩;rcases List.mem_append.mp hx with z|z
 ·exact h.lb x z y hy
 ·exact q x z y hy
end
section
variable{prog:NV}{w:NU}{A:N4}{E:az}{s:NT}{κ:Pj}{it:Array O7}{r:Nat->Nat}{N:Nat}
theorem jC{i j:Nat}(hc:bz (Pk prog w A κ it) r N s)(hi:i<N)(hj:j<N){st:O8}(hk:kindOf st=κ){Q:Option Bool->O8->Prop}(h:Q (some (decide (r i<r j))) st):wpS `g A E s (lt' (Pl it i) (Pl it j)) Q st:=by
 rw[lt'_eq];refine O9 (Pm ?_);rw[hk];refine O9 (Pn (Pp (N9 (hc i j (λc s'=>s'=s/\c=decide (r i<r j)) hi hj ⟨rfl,rfl⟩) ?_ λ_ _ e=>e.elim)));rintro c s' ⟨rfl,rfl⟩;exact⟨rfl,Ph h⟩
theorem aJ{q:Array Nat}{i:Nat}(hi:i<q.size){st:O8}{Q:O7->O8->Prop}(h:Q (Pl it (q.getD i 0)) st):wpS `g A E s (elem' (q.map (Pl it)) i) Q st:=by
 rw[elem'_eq];have e:q.getD i 0=q[i]:=by simp[Array.getD,hi]
 rw[e]at h;have g:(q.map (Pl it))[i]?=some (Pl it q[i]):=by simp[hi]
 rw[g];exact Ph h
noncomputable def rK(r:Nat->Nat)(left:Bool)(k x:Nat):Bool:=if left then decide (r x<r k)else !decide (r k<r x)
theorem yQ{left:Bool}{k:Nat}{q:Array Nat}{i:Nat}(hc:bz (Pk prog w A κ it) r N s)(hk:k<N)(hi:i<q.size)(hq:∀x∈q.toList,x<N){st:O8}(hs:kindOf st=κ){Q:Option Bool->O8->Prop}
  (h:Q (some (rK r left k (q.getD i 0))) st):wpS `g A E s (rj left (Pl it k) (q.map (Pl it)) i) Q st:=by
 have hx:q.getD i 0<N:=hq _ (by
  have e:q.getD i 0=q[i]:=by simp[Array.getD,hi]
  rw[e];simp)
 unfold rj;refine O9 (aJ hi ?_);cases left with
 |true=>
  simp only[if_true];exact jC hc hx hk hs h
 |false=>
  simp only[KL,if_false];exact O9 (jC hc hk hx hs (Ph h))
theorem ie{left:Bool}{k:Nat}{q:Array Nat}{base n hint:Nat}(hc:bz (Pk prog w A κ it) r N s)(hk:k<N)(hn:base+n<=q.size)(hh:hint<n)(hq:∀x∈q.toList,x<N)
  (hs:∀i j,i<=j->j<n->r (q.getD (base+i) 0)<=r (q.getD (base+j) 0)) {st:O8} (hst:kindOf st=κ) {Q:Option Nat->O8->Prop}
  (h:∀m,m<=n->(∀i,i<m->rK r left k (q.getD (base+i) 0)=true)->(∀i,m<=i->i<n->rK r left k (q.getD (base+i) 0)=false)->Q (some m) st):wpS `g A E s (dY left (Pl it k) (q.map (Pl it)) base n hint) Q st:=by
 refine vZ (P:=λi=>rK r left k (q.getD (base+i) 0)) (λi hi Q' hQ=>yQ hc hk `o hq hst hQ) (λi j hij hj hb=>?_) hh h;have z:=hs i j hij hj;unfold rK at hb ⊢;cases left with
 |true=>simp only[if_true,decide_eq_true_eq]at hb ⊢;omega
 |false=>simp only[KL,if_false,LC,decide_eq_false_iff_not]at hb ⊢;omega
end
noncomputable def jz:Nat->StateT O8 Sem Unit:=sortPriv% PySem.Builtin.setMinGallop
theorem gF(g:Nat):jz g=modify (λs=>setG s g):=rfl
noncomputable abbrev pH(a b out:Array O7)(ia ib:Nat):Array O7:=out++a.extract ia a.size++b.extract ib b.size
noncomputable abbrev Aq(a b out:Array O7)(ia ib:Nat):Array O7:=out++b.extract ib b.size++a.extract ia a.size
noncomputable abbrev S6:=Option (Array O7)×Array O7×Nat×Nat×Nat×Nat
noncomputable abbrev S7:=Option (Array O7)×Array O7×Nat×Nat×Nat×Nat×Nat
noncomputable abbrev S5:=Option (Array O7)×Array O7×Nat×Nat×Nat
noncomputable def lo1(a b:Array O7)(mg:Nat)(out:Array O7)(ia ib ac bc:Nat):StateT O8 Sem (ForInStep S6):=do
 let y<-elem' b ib
 let x<-elem' a ia
 let c<-lt' y x
 match c with
 |some bw=>
  if bw=true then do
   let y<-elem' b ib
   if(ib+1==b.size)=true then pure (.done (some (pH a b (out.push y) ia (ib+1)),out.push y,ia,ib+1,0,bc+1))
   else if bc+1>=mg then pure (.done (none,out.push y,ia,ib+1,0,bc+1))else pure (.yield (none,out.push y,ia,ib+1,0,bc+1))
  else do
   let x<-elem' a ia
   if(ia+1+1==a.size)=true then pure (.done (some (Aq a b (out.push x) (ia+1) ib),out.push x,ia+1,ib,ac+1,0))
   else if ac+1>=mg then pure (.done (none,out.push x,ia+1,ib,ac+1,0))else pure (.yield (none,out.push x,ia+1,ib,ac+1,0))
 |_=>pure (.done (some (pH a b out ia ib),out,ia,ib,ac,bc))
noncomputable def A6(a b:Array O7)(mg ac bc:Nat)(out:Array O7)(ia ib:Nat):StateT O8 Sem (ForInStep S7):=do
 let x<-elem' a ia
 if(ia+1+1==a.size)=true then pure (.done (some (Aq a b (out.push x) (ia+1) ib),out.push x,ia+1,ib,mg,ac,bc))
 else if(decide (ac<7)&&decide (bc<7))=true then pure (.done (none,out.push x,ia+1,ib,mg,ac,bc))else pure (.yield (none,out.push x,ia+1,ib,mg,ac,bc))
noncomputable def Bq(a b:Array O7)(mg ac bc:Nat)(out:Array O7)(ia ib:Nat):StateT O8 Sem (ForInStep S7):=do
 let y<-elem' b ib
 if(ib+1==b.size)=true then pure (.done (some (pH a b (out.push y) ia (ib+1)),out.push y,ia,ib+1,mg,ac,bc))
 else do
  let x<-elem' a ia
  let c<-dY true x b (ib+1) (b.size-(ib+1)) 0
  match c with
  |some k=>
   if k>0 then
    if(ib+1+k==b.size)=true then pure (.done (some (pH a b (out.push y++b.extract (ib+1) (ib+1+k)) ia (ib+1+k)),out.push y++b.extract (ib+1) (ib+1+k),ia,ib+1+k,mg,ac,k))
    else A6 a b mg ac k (out.push y++b.extract (ib+1) (ib+1+k)) ia (ib+1+k)
   else A6 a b mg ac k (out.push y) ia (ib+1)
  |_=>pure (.done (some (pH a b (out.push y) ia (ib+1)),out.push y,ia,ib+1,mg,ac,bc))
noncomputable def y0(a b:Array O7)(mg ac bc:Nat)(out:Array O7)(ia ib:Nat):StateT O8 Sem (ForInStep S7):=do
 jz mg
 let y<-elem' b ib
 let c<-dY false y a ia (a.size-ia) 0
 match c with
 |some k=>
  if k>0 then
   if(ia+k+1==a.size)=true then pure (.done (some (Aq a b (out++a.extract ia (ia+k)) (ia+k) ib),out++a.extract ia (ia+k),ia+k,ib,mg,k,bc))
   else if(ia+k==a.size)=true then pure (.done (some (pH a b (out++a.extract ia (ia+k)) (ia+k) ib),out++a.extract ia (ia+k),ia+k,ib,mg,k,bc))
   else Bq a b mg k bc (out++a.extract ia (ia+k)) (ia+k) ib
  else Bq a b mg k bc out ia ib
 |_=>pure (.done (some (pH a b out ia ib),out,ia,ib,mg,ac,bc))
noncomputable def Jb(a b:Array O7)(out:Array O7)(ia ib mg:Nat):StateT O8 Sem (ForInStep S5):=do
 let c<-forIn [0:a.size+b.size] ((none,out,ia,ib,0,0):S6) λ_ c=>lo1 a b mg c.2.1 c.2.2.1 c.2.2.2.1 c.2.2.2.2.1 c.2.2.2.2.2
 match c.1 with
 |some r=>pure (.done (some r,c.2.1,c.2.2.1,c.2.2.2.1,mg))
 |none=>do
  liftM (rule "list.sort.gallop")
  let d<-forIn [0:a.size+b.size] ((none,c.2.1,c.2.2.1,c.2.2.2.1,mg+1,c.2.2.2.2.1,c.2.2.2.2.2):S7) λ_ c=>if c.2.2.2.2.1>1 then y0 a b (c.2.2.2.2.1-1) c.2.2.2.2.2.1 c.2.2.2.2.2.2 c.2.1 c.2.2.1 c.2.2.2.1 else y0 a b c.2.2.2.2.1 c.2.2.2.2.2.1 c.2.2.2.2.2.2 c.2.1 c.2.2.1 c.2.2.2.1
  match d.1 with
  |some r=>pure (.done (some r,d.2.1,d.2.2.1,d.2.2.2.1,d.2.2.2.2.1))
  |none=>do
   jz (d.2.2.2.2.1+1)
   pure (.yield (none,d.2.1,d.2.2.1,d.2.2.2.1,d.2.2.2.2.1+1))
theorem se(a b:Array O7):mD a b=(do
 rule "list.sort.merge-lo"
 let y<-elem' b 0
 if(1==b.size)=true then pure (pH a b #[y] 0 1)
 else if(0+1==a.size)=true then pure (Aq a b #[y] 0 1)
 else do
  let st<-get
  let c<-forIn [0:a.size+b.size] ((none,#[y],0,1,gallopOf st):S5) λ_ c=>Jb a b c.2.1 c.2.2.1 c.2.2.2.1 c.2.2.2.2
  match c.1 with
  |some r=>pure r
  |none=>liftM (unsupported "internal:list.sort.merge-bound":Sem (Array O7))):=by kernel_rfl
section
variable{f:Nat->O7}{a b out:Array Nat}{i j:Nat}
theorem eS(x:Nat):(out.map f).push (f x)=(out.push x).map f:=by simp
theorem cW:(a.map f).extract i j=(a.extract i j).map f:=by simp
theorem dR:a.map f++b.map f=(a++b).map f:=by simp
theorem eJ:(a.extract i j).toList=(a.toList.drop i).take (j-i):=by simp
theorem lM:(a.extract i a.size).toList=a.toList.drop i:=by
 rw[eJ,LD];rw[Kq,Array.length_toList];exact Ka _
theorem uG(h:i<a.size):a.toList.drop i=a.getD i 0::a.toList.drop (i+1):=by
 have e:a.getD i 0=a[i]:=by simp[Array.getD,h]
 rw[e,Lg (by rw[Array.length_toList];exact h)];simp
theorem oD(k:Nat)(h:i+k<a.size):(a.toList.drop i)[k]?=some (a.getD (i+k) 0):=by
 have e:a.getD (i+k) 0=a[i+k]:=by simp[Array.getD,h]
 rw[e,La];simp[h]
theorem mem_getD(h:i<a.size):a.getD i 0∈a.toList:=by
 have e:a.getD i 0=a[i]:=by simp[Array.getD,h]
 rw[e];simp
theorem fY{k x:Nat}(h:x∈(a.toList.drop i).take k)(hk:i+k<=a.size):∃m,m<k/\x=a.getD (i+m) 0:=by
 obtain⟨m,hm,rfl⟩:=LI h;rw[Ke,Kq,Array.length_toList]at hm;refine⟨m,by omega,?_⟩;rw[LJ]
 have:=oD (a:=a) (i:=i) m `o
 rw[KY (by rw[Kq,Array.length_toList];omega)]at this;exact Option.some.inj this
theorem gW{x:Nat}(h:x∈a.toList.drop i):∃m,i<=m/\m<a.size/\x=a.getD m 0:=by
 obtain⟨m,hm,rfl⟩:=LI h;rw[Kq,Array.length_toList]at hm;refine⟨i+m,by omega,by omega,?_⟩
 have:=oD (a:=a) (i:=i) m `o
 rw[KY (by rw[Kq,Array.length_toList];omega)]at this;exact Option.some.inj this
theorem rF(k:Nat):a.toList.drop i=(a.toList.drop i).take k++a.toList.drop (i+k):=by
 have e:a.toList.drop (i+k)=(a.toList.drop i).drop k:=by rw[LK]
 rw[e];exact(LL k _).symm
end
noncomputable def xP(r:Nat->Nat)(a:Array Nat):Prop:=∀i j,i<=j->j<a.size->r (a.getD i 0)<=r (a.getD j 0)
theorem xP.pw{r:Nat->Nat}{a:Array Nat}(h:xP r a):a.toList.Pairwise λx y=>r x<=r y:=by
 refine List.pairwise_iff_getElem.mpr λi j hi hj hij=>?_;rw[Array.length_toList]at hi hj
 have:=h i j `o hj
 have e1:a.getD i 0=a[i]:=by simp[Array.getD,hi]
 have e2:a.getD j 0=a[j]:=by simp[Array.getD,hj]
 rw[e1,e2]at this
 simpa using this
section
variable{prog:NV}{w:NU}{A:N4}{E:az}{s:NT}{κ:Pj}{it:Array O7}{r:Nat->Nat}{N:Nat}{a b:Array Nat}{B0:aR}
noncomputable def fg(it:Array O7)(r:Nat->Nat)(B0:aR)(x:Array O7):Prop:=∃q:Array Nat,x=q.map (Pl it)/\(q.toList.Pairwise λx y=>r x<=r y)/\q.toList.Perm B0
noncomputable abbrev JL(r:Nat->Nat)(B0:aR)(a b out:Array Nat)(ia ib:Nat):Prop:=Jn (λx y=>r x<=r y) B0 out.toList (a.toList.drop ia) (b.toList.drop ib)
theorem ni{out:Array Nat}{ia ib:Nat}(h:JL r B0 a b out ia ib)(hb:ib=b.size\/ia=a.size):fg it r B0 (pH (a.map (Pl it)) (b.map (Pl it)) (out.map (Pl it)) ia ib):=by
 refine⟨out++a.extract ia a.size++b.extract ib b.size,?_,?_⟩
 ·show _++_++_=_;rw[Array.size_map,Array.size_map,cW,cW,dR,dR]
 ·rw[Array.toList_append,Array.toList_append,lM,lM];refine h.done λx hx y hy=>?_;rcases hb with z|z
  ·rw[z,LN (by rw[Array.length_toList];exact Ka _)]at hy;cases hy
  ·rw[z,LN (by rw[Array.length_toList];exact Ka _)]at hx;cases hx
theorem qq{out:Array Nat}{ia ib:Nat}(h:JL r B0 a b out ia ib)(ha:ia+1=a.size)(hl:∀y∈b.toList,r y<=r (a.getD (a.size-1) 0)):fg it r B0 (Aq (a.map (Pl it)) (b.map (Pl it)) (out.map (Pl it)) ia ib):=by
 refine⟨out++b.extract ib b.size++a.extract ia a.size,?_,?_⟩
 ·show _++_++_=_;rw[Array.size_map,Array.size_map,cW,cW,dR,dR]
 ·rw[Array.toList_append,Array.toList_append,lM,lM];refine h.swap.done λx hx y hy=>?_;obtain⟨m,m1,m2,rfl⟩:=gW hy;rw[show m=a.size-1 by omega];exact hl x (LO hx)
theorem JL.pushB{out:Array Nat}{ia ib:Nat}(h:JL r B0 a b out ia ib)(ua:xP r a)(h1:ia<a.size)(h2:ib<b.size)(q:r (b.getD ib 0)<=r (a.getD ia 0)):JL r B0 a b (out.push (b.getD ib 0)) ia (ib+1):=by
 have h:Jn _ _ _ _ _:=h;rw[uG h2]at h
 have:=Jn.takeB (b1:=[b.getD ib 0]) h λx hx y hy=>by
  rw[List.mem_singleton.mp hx];obtain⟨m,m1,m2,rfl⟩:=gW hy;exact JY q (ua _ _ m1 m2)
 show Jn _ _ _ _ _;rw[Array.toList_push];exact this
theorem JL.pushA{out:Array Nat}{ia ib:Nat}(h:JL r B0 a b out ia ib)(ub:xP r b)(h1:ia<a.size)(h2:ib<b.size)(q:r (a.getD ia 0)<=r (b.getD ib 0)):JL r B0 a b (out.push (a.getD ia 0)) (ia+1) ib:=by
 have h:Jn _ _ _ _ _:=h;rw[uG h1]at h
 have:=Jn.takeA (a1:=[a.getD ia 0]) h λx hx y hy=>by
  rw[List.mem_singleton.mp hx];obtain⟨m,m1,m2,rfl⟩:=gW hy;exact JY q (ub _ _ m1 m2)
 show Jn _ _ _ _ _;rw[Array.toList_push];exact this
theorem JL.partA{out:Array Nat}{ia ib k:Nat}(h:JL r B0 a b out ia ib)(ub:xP r b)(h1:ia+k<=a.size)(h2:ib<b.size)(q:∀i,i<k->r (a.getD (ia+i) 0)<=r (b.getD ib 0)):JL r B0 a b (out++a.extract ia (ia+k)) (ia+k) ib:=by
 have h:Jn _ _ _ _ _:=h;rw[rF k]at h
 have:=Jn.takeA h λx hx y hy=>by
  obtain⟨i,hi,rfl⟩:=fY hx h1;obtain⟨m,m1,m2,rfl⟩:=gW hy;exact JY (q i hi) (ub _ _ m1 m2)
 show Jn _ _ _ _ _;rw[Array.toList_append,eJ,LQ];exact this
theorem JL.partB{out:Array Nat}{ia ib k:Nat}(h:JL r B0 a b out ia ib)(ua:xP r a)(h1:ia<a.size)(h2:ib+k<=b.size)(q:∀i,i<k->r (b.getD (ib+i) 0)<=r (a.getD ia 0)):JL r B0 a b (out++b.extract ib (ib+k)) ia (ib+k):=by
 have h:Jn _ _ _ _ _:=h;rw[rF (a:=b) k]at h
 have:=Jn.takeB h λx hx y hy=>by
  obtain⟨i,hi,rfl⟩:=fY hx h2;obtain⟨m,m1,m2,rfl⟩:=gW hy;exact JY (q i hi) (ua _ _ m1 m2)
 show Jn _ _ _ _ _;rw[Array.toList_append,eJ,LQ];exact this
end
section
variable{prog:NV}{w:NU}{A:N4}{E:az}{s:NT}{κ:Pj}{it:Array O7}{r:Nat->Nat}{N:Nat}{a b:Array Nat}{B0:aR}{st:O8}
structure v4(r:Nat->Nat)(N:Nat)(a b:Array Nat):Prop where
 ua:xP r a
 ub:xP r b
 na:∀x∈a.toList,x<N
 nb:∀x∈b.toList,x<N
noncomputable def G6(it:Array O7)(r:Nat->Nat)(B0:aR)(a b:Array Nat)(m:Nat)(c:S6):Prop:=∃out ia ib ac bc,c=(none,out.map (Pl it),ia,ib,ac,bc)/\JL r B0 a b out ia ib/\ia+1<a.size/\ib<b.size/\m<=ia+ib
noncomputable def G7(it:Array O7)(r:Nat->Nat)(B0:aR)(a b:Array Nat)(m:Nat)(c:S7):Prop:=∃out ia ib mg ac bc,c=(none,out.map (Pl it),ia,ib,mg,ac,bc)/\JL r B0 a b out ia ib/\ia+1<a.size/\ib<b.size/\m<=ia+ib
theorem FK(hc:bz (Pk prog w A κ it) r N s)(T:v4 r N a b)(hk:kindOf st=κ)(hl:∀y∈b.toList,r y<=r (a.getD (a.size-1) 0)){out:Array Nat}{ia ib mg ac bc:Nat}(h:JL r B0 a b out ia ib)(h1:ia+1<a.size)(h2:ib<b.size):
  wpS `g A E s (lo1 (a.map (Pl it)) (b.map (Pl it)) mg (out.map (Pl it)) ia ib ac bc) (λc st'=>st'=st/\match c with
   |.done c=>(∃x,c.1=some x/\fg it r B0 x)\/G6 it r B0 a b (ia+ib+1) c
   |.yield c=>G6 it r B0 a b (ia+ib+1) c) st:=by
 unfold lo1;simp only[Array.size_map];refine O9 (aJ h2 (O9 (aJ `o (O9 (jC hc (T.nb _ (mem_getD h2)) (T.na _ (mem_getD `o)) hk ?_)))));by_cases z:r (b.getD ib 0)<r (a.getD ia 0)
 ·simp only[decide_eq_true z,if_true];refine O9 (aJ h2 ?_);have J:=h.pushB T.ua `o h2 (JZ z);rw[eS];by_cases y:ib+1=b.size
  ·rw[if_pos (by simpa using y)];exact Ph ⟨rfl,.inl ⟨_,rfl,ni J (.inl y)⟩⟩
  ·rw[if_neg (by simpa using y)];have g:∀x1 x2,G6 it r B0 a b (ia+ib+1) (none,(out.push (b.getD ib 0)).map (Pl it),ia,ib+1,x1,x2):=λx1 x2=>⟨_,_,_,_,_,rfl,J,h1,by omega,by omega⟩
   by_cases x:bc+1>=mg
   ·rw[if_pos x];exact Ph ⟨rfl,.inr (g _ _)⟩
   ·rw[if_neg x];exact Ph ⟨rfl,g _ _⟩
 ·simp only[decide_eq_false z,KL,if_false];refine O9 (aJ `o ?_);have J:=h.pushA T.ub `o h2 (Kx z);rw[eS];by_cases y:ia+1+1=a.size
  ·rw[if_pos (by simpa using y)];exact Ph ⟨rfl,.inl ⟨_,rfl,qq J y hl⟩⟩
  ·rw[if_neg (by simpa using y)];have g:∀x1 x2,G6 it r B0 a b (ia+ib+1) (none,(out.push (a.getD ia 0)).map (Pl it),ia+1,ib,x1,x2):=λx1 x2=>⟨_,_,_,_,_,rfl,J,by omega,h2,by omega⟩
   by_cases x:ac+1>=mg
   ·rw[if_pos x];exact Ph ⟨rfl,.inr (g _ _)⟩
   ·rw[if_neg x];exact Ph ⟨rfl,g _ _⟩
noncomputable abbrev E7(it : Array O7)(r : Nat -> Nat)(B0 : aR)(a b : Array Nat)(m : Nat)(st : O8)(c : ForInStep S7)(st' : O8): Prop := (∃ g, st' = setG st g) /\ match c with
      |.done c=>(∃x,c.1=some x/\fg it r B0 x)\/G7 it r B0 a b m c
      |.yield c=>G7 it r B0 a b m c
theorem uB(hl:∀y∈b.toList,r y<=r (a.getD (a.size-1) 0))(T:v4 r N a b){g m:Nat}{out:Array Nat}{ia ib mg ac bc:Nat}(h:JL r B0 a b out ia ib)(h1:ia+1<a.size)(h2:ib<b.size)(q:r (a.getD ia 0)<=r (b.getD ib 0))(hm:m<=ia+ib+1):
  wpS `g A E s (A6 (a.map (Pl it)) (b.map (Pl it)) mg ac bc (out.map (Pl it)) ia ib) (E7 it r B0 a b m st) (setG st g):=by
 unfold A6;simp only[Array.size_map];refine O9 (aJ `o ?_);have J:=h.pushA T.ub `o h2 q;rw[eS];by_cases y:ia+1+1=a.size
 ·rw[if_pos (by simpa using y)];exact Ph ⟨⟨g,rfl⟩,.inl ⟨_,rfl,qq J y hl⟩⟩
 ·rw[if_neg (by simpa using y)];have gg:∀x0 x1 x2,G7 it r B0 a b m (none,(out.push (a.getD ia 0)).map (Pl it),ia+1,ib,x0,x1,x2):=λx0 x1 x2=>⟨_,_,_,_,_,_,rfl,J,by omega,h2,by omega⟩
  split
  ·exact Ph ⟨⟨g,rfl⟩,.inr (gg _ _ _)⟩
  ·exact Ph ⟨⟨g,rfl⟩,gg _ _ _⟩
theorem vn(hc:bz (Pk prog w A κ it) r N s)(hk:kindOf st=κ)(hl:∀y∈b.toList,r y<=r (a.getD (a.size-1) 0))(T:v4 r N a b){g m:Nat}{out:Array Nat}{ia ib mg ac bc:Nat}(h:JL r B0 a b out ia ib)(h1:ia+1<a.size)(h2:ib<b.size)(q:r (b.getD ib 0)<=r (a.getD ia 0))(hm:m<=ia+ib+1):
  wpS `g A E s (Bq (a.map (Pl it)) (b.map (Pl it)) mg ac bc (out.map (Pl it)) ia ib) (E7 it r B0 a b m st) (setG st g):=by
 unfold Bq;simp only[Array.size_map];refine O9 (aJ h2 ?_);have J:=h.pushB T.ua `o h2 q;rw[eS];by_cases y:ib+1=b.size
 ·rw[if_pos (by simpa using y)];exact Ph ⟨⟨g,rfl⟩,.inl ⟨_,rfl,ni J (.inl y)⟩⟩
 ·rw[if_neg (by simpa using y)];refine O9 (aJ `o (O9 (ie (st:=setG st g) (k:=a.getD ia 0) (base:=ib+1) (n:=b.size-(ib+1)) (hint:=0) hc (T.na _ (mem_getD `o)) `o `o T.nb (λi j hij hj=>T.ub _ _ `o `o) hk λk k1 k2 k3=>?_)));dsimp only;rw[cW,dR];have lt:∀i,i<k->r (b.getD (ib+1+i) 0)<r (a.getD ia 0):=λi hi=>by simpa [rK]using k2 i hi
  have J2:=J.partB T.ua `o `o λi hi=>JZ (lt i hi);have ge:ib+1+k<b.size->r (a.getD ia 0)<=r (b.getD (ib+1+k) 0):=λz=>by
   have:=k3 k (Ka _) `o
   simpa [rK]using this
  by_cases x:k>0
  ·rw[if_pos x];by_cases v:ib+1+k=b.size
   ·rw[if_pos (by simpa using v)];exact Ph ⟨⟨g,rfl⟩,.inl ⟨_,rfl,ni J2 (.inl v)⟩⟩
   ·rw[if_neg (by simpa using v)];exact uB hl T J2 h1 `o (ge `o) `o
  ·rw[if_neg x];have k0:k=0:=(by omega);subst k0;exact uB hl T J h1 `o (ge `o) `o
theorem B3(hc:bz (Pk prog w A κ it) r N s)(hk:kindOf st=κ)(hl:∀y∈b.toList,r y<=r (a.getD (a.size-1) 0))(T:v4 r N a b){g m:Nat}{out:Array Nat}{ia ib mg ac bc:Nat}(h:JL r B0 a b out ia ib)(h1:ia+1<a.size)(h2:ib<b.size)(hm:m<=ia+ib+1):
  wpS `g A E s (y0 (a.map (Pl it)) (b.map (Pl it)) mg ac bc (out.map (Pl it)) ia ib) (E7 it r B0 a b m st) (setG st g):=by
 unfold y0;simp only[Array.size_map];rw[gF];refine O9 (Pq ?_);show wpS _ _ _ _ _ _ (setG st mg);refine O9 (aJ h2 (O9 (ie (st:=setG st mg) (base:=ia) (n:=a.size-ia) (hint:=0) hc (T.nb _ (mem_getD h2)) `o `o T.na (λi j hij hj=>T.ua _ _ `o `o) hk λk k1 k2 k3=>?_)));dsimp only;rw[cW,dR];have le:∀i,i<k->r (a.getD (ia+i) 0)<=r (b.getD ib 0):=λi hi=>by simpa [rK]using k2 i hi
 have J:=h.partA T.ub `o h2 le;have gt:ia+k<a.size->r (b.getD ib 0)<r (a.getD (ia+k) 0):=λz=>by
  have:=k3 k (Ka _) `o
  simpa [rK]using this
 by_cases x:k>0
 ·rw[if_pos x];by_cases v:ia+k+1=a.size
  ·rw[if_pos (by simpa using v)];exact Ph ⟨⟨mg,rfl⟩,.inl ⟨_,rfl,qq J v hl⟩⟩
  ·rw[if_neg (by simpa using v)];by_cases u:ia+k=a.size
   ·rw[if_pos (by simpa using u)];exact Ph ⟨⟨mg,rfl⟩,.inl ⟨_,rfl,ni J (.inr u)⟩⟩
   ·rw[if_neg (by simpa using u)];exact vn hc hk hl T J `o h2 (JZ (gt `o)) `o
 ·rw[if_neg x];have k0:k=0:=by omega
  subst k0;exact vn hc hk hl T h h1 h2 (JZ (gt `o)) `o
noncomputable def G5(it:Array O7)(r:Nat->Nat)(B0:aR)(a b:Array Nat)(m:Nat)(c:S5):Prop:=∃out ia ib mg,c=(none,out.map (Pl it),ia,ib,mg)/\JL r B0 a b out ia ib/\ia+1<a.size/\ib<b.size/\m<=ia+ib
theorem Du(hc:bz (Pk prog w A κ it) r N s)(hk:kindOf st=κ)(hl:∀y∈b.toList,r y<=r (a.getD (a.size-1) 0))(T:v4 r N a b){g:Nat}{out:Array Nat}{ia ib mg:Nat}(h:JL r B0 a b out ia ib)(h1:ia+1<a.size)(h2:ib<b.size):
  wpS `g A E s (Jb (a.map (Pl it)) (b.map (Pl it)) (out.map (Pl it)) ia ib mg) (λc st'=>(∃g,st'=setG st g)/\match c with
   |.done c=>∃x,c.1=some x/\fg it r B0 x
   |.yield c=>G5 it r B0 a b (ia+ib+1) c) (setG st g):=by
 unfold Jb;simp only[Array.size_map];refine O9 (Pa (Pb (I:=λx c st'=>st'=setG st g/\G6 it r B0 a b (ia+ib+x) c)
  (Q:=λc st'=>st'=setG st g/\((∃x,c.1=some x/\fg it r B0 x)\/G6 it r B0 a b (ia+ib+1) c)) ?step ?fin ⟨rfl,_,_,_,_,_,rfl,h,h1,h2,by omega⟩) ?post)
 case fin=>
  rintro c st' ⟨rfl,o,i,j,x,y,rfl,J,j1,j2,j3⟩;omega
 case step=>
  rintro x c st' _ hx ⟨rfl,o,i,j,x1,x2,rfl,J,j1,j2,j3⟩;dsimp only;refine Pa (FK (st:=setG st g) hc T hk hl J j1 j2) λc st' q=>?_;obtain⟨rfl,q⟩:=q;have up:∀{m n:Nat}{c:S6},n<=m->G6 it r B0 a b m c->G6 it r B0 a b n c:=λhmn zq=>zq.elim λo zq=>zq.elim λi zq=>zq.elim λj zq=>zq.elim λx zq=>zq.elim λy zq=>zq.elim λe zq=>zq.elim λJ zq=>zq.elim λa1 zq=>zq.elim λa2 a3=>⟨o,i,j,x,y,e,J,a1,a2,JY hmn a3⟩
  cases c with
  |done c=>
   rcases q with q|q
   ·exact⟨rfl,.inl q⟩
   ·exact⟨rfl,.inr (up `o q)⟩
  |yield c=>exact⟨rfl,up `o q⟩
 case post=>
  rintro c st' ⟨rfl,q⟩;rcases q with⟨x,e,F⟩|⟨o,i,j,x1,x2,rfl,J,j1,j2,j3⟩
  ·rw[e];exact Ph ⟨⟨g,rfl⟩,x,rfl,F⟩
  ·dsimp only;refine O9 (Pn (O2 ⟨rfl,?_⟩));refine O9 (Pa (Pb (I:=λx c st'=>(∃g,st'=setG st g)/\G7 it r B0 a b (ia+ib+1) c)
    (Q:=λc st'=>(∃g,st'=setG st g)/\((∃x,c.1=some x/\fg it r B0 x)\/G7 it r B0 a b (ia+ib+1) c)) ?_ (λc st' q=>⟨q.1,.inr q.2⟩) ⟨⟨g,rfl⟩,_,_,_,_,_,_,rfl,J,j1,j2,j3⟩) ?_)
   ·rintro x c st' _ hx ⟨⟨g',rfl⟩,o,i,j,x0,x1,x2,rfl,J,j1,j2,j3⟩;dsimp only;have fi:∀mg,wpS `g A E s (y0 (a.map (Pl it)) (b.map (Pl it)) mg x1 x2 (o.map (Pl it)) i j) (E7 it r B0 a b (ia+ib+1) st) (setG st g'):=λmg=>B3 hc hk hl T J j1 j2 `o;by_cases z:x0>1
    ·rw[if_pos z];exact Pa (fi _) λc st' q=>by cases c<;>exact q
    ·rw[if_neg z];exact Pa (fi _) λc st' q=>by cases c<;>exact q
   ·rintro c st' ⟨⟨g',rfl⟩,q⟩;rcases q with⟨x,e,F⟩|⟨o,i,j,x0,x1,x2,rfl,J,j1,j2,j3⟩
    ·rw[e];exact Ph ⟨⟨g',rfl⟩,x,rfl,F⟩
    ·dsimp only;rw[gF];exact O9 (Pq (Ph ⟨⟨_,rfl⟩,_,_,_,_,rfl,J,j1,j2,j3⟩))
theorem tX(hc:bz (Pk prog w A κ it) r N s)(hk:kindOf st=κ)(hl:∀y∈b.toList,r y<=r (a.getD (a.size-1) 0))(hf:r (b.getD 0 0)<=r (a.getD 0 0))(T:v4 r N a b)(a0:0<a.size)(b0:0<b.size){Q:Array O7->O8->Prop}
  (h:∀x g,fg it r (a.toList++b.toList) x->Q x (setG st g)):wpS `g A E s (mD (a.map (Pl it)) (b.map (Pl it))) Q st:=by
 have J0:JL r (a.toList++b.toList) a b #[] 0 0:=⟨List.Pairwise.nil,T.ua.pw,T.ub.pw,(λx hx=>nomatch hx),(λx hx=>nomatch hx),List.Perm.refl _⟩
 have J:=J0.pushB T.ua a0 b0 hf;have e1:#[Pl it (b.getD 0 0)]=((#[]:Array Nat).push (b.getD 0 0)).map (Pl it):=by simp
 have hg:∀x,fg it r (a.toList++b.toList) x->Q x st:=λx F=>h x (gallopOf st) F;rw[se];refine O9 (Pn (O2 ⟨rfl,?_⟩));refine O9 (aJ b0 ?_);simp only[Array.size_map];rw[e1];by_cases y:1=b.size
 ·rw[if_pos (by simpa using y)];exact Ph (hg _ (ni J (.inl y)))
 ·rw[if_neg (by simpa using y)];by_cases z:0+1=a.size
  ·rw[if_pos (by simpa using z)];exact Ph (hg _ (qq J z hl))
  ·rw[if_neg (by simpa using z)];refine O9 (Pm ?_);refine O9 (Pa (Pb (I:=λx c st'=>(∃g,st'=setG st g)/\G5 it r (a.toList++b.toList) a b (x+1) c)
    (Q:=λc st'=>(∃g,st'=setG st g)/\∃x,c.1=some x/\fg it r (a.toList++b.toList) x) ?step ?fin ⟨⟨gallopOf st,rfl⟩,_,_,_,_,rfl,J,by omega,by omega,by omega⟩) ?post)
   case fin=>
    rintro c st' ⟨_,o,i,j,x,rfl,J,j1,j2,j3⟩;omega
   case step=>
    rintro x c st' _ hx ⟨⟨g,rfl⟩,o,i,j,x1,rfl,J,j1,j2,j3⟩;dsimp only;refine Pa (Du hc hk hl T J j1 j2) λc st' q=>?_;obtain⟨q1,q⟩:=q;cases c with
    |done c=>exact⟨q1,q⟩
    |yield c=>
     obtain⟨o,i,j,x,e,J,a1,a2,a3⟩:=q;exact⟨q1,o,i,j,x,e,J,a1,a2,by omega⟩
   case post=>
    rintro c st' ⟨⟨g,rfl⟩,x,e,F⟩;rw[e];exact Ph (h x g F)
end
noncomputable abbrev qy(a b out:Array O7)(na nb:Nat):Array O7:=a.extract 0 na++b.extract 0 nb++out.reverse
noncomputable abbrev yy(a b out:Array O7)(na nb:Nat):Array O7:=b.extract 0 nb++a.extract 0 na++out.reverse
noncomputable abbrev H6:=Option (Array O7)×Nat×Nat×Array O7×Nat×Nat
noncomputable abbrev H7:=Option (Array O7)×Nat×Nat×Array O7×Nat×Nat×Nat
noncomputable abbrev H5:=Option (Array O7)×Nat×Nat×Array O7×Nat
noncomputable def hi1(a b:Array O7)(mg:Nat)(na nb:Nat)(out:Array O7)(ac bc:Nat):StateT O8 Sem (ForInStep H6):=do
 let y<-elem' b (nb-1)
 let x<-elem' a (na-1)
 let c<-lt' y x
 match c with
 |some aw=>
  if aw=true then do
   let x<-elem' a (na-1)
   if(na-1==0)=true then pure (.done (some (qy a b (out.push x) (na-1) nb),na-1,nb,out.push x,ac+1,0))
   else if ac+1>=mg then pure (.done (none,na-1,nb,out.push x,ac+1,0))else pure (.yield (none,na-1,nb,out.push x,ac+1,0))
  else do
   let y<-elem' b (nb-1)
   if(nb-1==1)=true then pure (.done (some (yy a b (out.push y) na (nb-1)),na,nb-1,out.push y,0,bc+1))
   else if bc+1>=mg then pure (.done (none,na,nb-1,out.push y,0,bc+1))else pure (.yield (none,na,nb-1,out.push y,0,bc+1))
 |_=>pure (.done (some (qy a b out na nb),na,nb,out,ac,bc))
noncomputable def Bz(a b:Array O7)(mg ac bc:Nat)(na nb:Nat)(out:Array O7):StateT O8 Sem (ForInStep H7):=do
 let x<-elem' a (na-1)
 if(na-1==0)=true then pure (.done (some (qy a b (out.push x) (na-1) nb),na-1,nb,out.push x,mg,ac,bc))
 else if(decide (ac<7)&&decide (bc<7))=true then pure (.done (none,na-1,nb,out.push x,mg,ac,bc))else pure (.yield (none,na-1,nb,out.push x,mg,ac,bc))
noncomputable def CO(a b:Array O7)(mg ac bc:Nat)(na nb:Nat)(out:Array O7):StateT O8 Sem (ForInStep H7):=do
 let y<-elem' b (nb-1)
 if(nb-1==1)=true then pure (.done (some (yy a b (out.push y) na (nb-1)),na,nb-1,out.push y,mg,ac,bc))
 else do
  let x<-elem' a (na-1)
  let c<-dY true x b 0 (nb-1) (nb-1-1)
  match c with
  |some k=>
   if nb-1-k>0 then
    if(k==1)=true then pure (.done (some (yy a b (out.push y++(b.extract k (nb-1)).reverse) na k),na,k,out.push y++(b.extract k (nb-1)).reverse,mg,ac,nb-1-k))
    else if(k==0)=true then pure (.done (some (qy a b (out.push y++(b.extract k (nb-1)).reverse) na k),na,k,out.push y++(b.extract k (nb-1)).reverse,mg,ac,nb-1-k))
    else Bz a b mg ac (nb-1-k) na k (out.push y++(b.extract k (nb-1)).reverse)
   else Bz a b mg ac (nb-1-k) na (nb-1) (out.push y)
  |_=>pure (.done (some (qy a b (out.push y) na (nb-1)),na,nb-1,out.push y,mg,ac,bc))
noncomputable def Ab(a b:Array O7)(mg ac bc:Nat)(na nb:Nat)(out:Array O7):StateT O8 Sem (ForInStep H7):=do
 jz mg
 let y<-elem' b (nb-1)
 let c<-dY false y a 0 na (na-1)
 match c with
 |some k=>
  if na-k>0 then
   if(k==0)=true then pure (.done (some (qy a b (out++(a.extract k na).reverse) k nb),k,nb,out++(a.extract k na).reverse,mg,na-k,bc))
   else CO a b mg (na-k) bc k nb (out++(a.extract k na).reverse)
  else CO a b mg (na-k) bc na nb out
 |_=>pure (.done (some (qy a b out na nb),na,nb,out,mg,ac,bc))
noncomputable def hi0(a b:Array O7)(na nb:Nat)(out:Array O7)(mg:Nat):StateT O8 Sem (ForInStep H5):=do
 let c<-forIn [0:a.size+b.size] ((none,na,nb,out,0,0):H6) λ_ c=>hi1 a b mg c.2.1 c.2.2.1 c.2.2.2.1 c.2.2.2.2.1 c.2.2.2.2.2
 match c.1 with
 |some r=>pure (.done (some r,c.2.1,c.2.2.1,c.2.2.2.1,mg))
 |none=>do
  liftM (rule "list.sort.gallop")
  let d<-forIn [0:a.size+b.size] ((none,c.2.1,c.2.2.1,c.2.2.2.1,mg+1,c.2.2.2.2.1,c.2.2.2.2.2):H7) λ_ c=>if c.2.2.2.2.1>1 then Ab a b (c.2.2.2.2.1-1) c.2.2.2.2.2.1 c.2.2.2.2.2.2 c.2.1 c.2.2.1 c.2.2.2.1 else Ab a b c.2.2.2.2.1 c.2.2.2.2.2.1 c.2.2.2.2.2.2 c.2.1 c.2.2.1 c.2.2.2.1
  match d.1 with
  |some r=>pure (.done (some r,d.2.1,d.2.2.1,d.2.2.2.1,d.2.2.2.2.1))
  |none=>do
   jz (d.2.2.2.2.1+1)
   pure (.yield (none,d.2.1,d.2.2.1,d.2.2.2.1,d.2.2.2.2.1+1))
theorem rk(a b:Array O7):mC a b=(do
 rule "list.sort.merge-hi"
 let x<-elem' a (a.size-1)
 if(a.size-1==0)=true then pure (qy a b #[x] (a.size-1) b.size)
 else if(b.size==1)=true then pure (yy a b #[x] (a.size-1) b.size)
 else do
  let st<-get
  let c<-forIn [0:a.size+b.size] ((none,a.size-1,b.size,#[x],gallopOf st):H5) λ_ c=>hi0 a b c.2.1 c.2.2.1 c.2.2.2.1 c.2.2.2.2
  match c.1 with
  |some r=>pure r
  |none=>liftM (unsupported "internal:list.sort.merge-bound":Sem (Array O7))):=by kernel_rfl
section
variable{f:Nat->O7}{a b out:Array Nat}{i j:Nat}
theorem pY:(a.map f).reverse=a.reverse.map f:=by simp
theorem iS:(a.extract 0 i).toList=a.toList.take i:=by simp
theorem zV(h:0<i)(hi:i<=a.size):(a.toList.take i).reverse=a.getD (i-1) 0::(a.toList.take (i-1)).reverse:=by
 have hj:i-1<a.size:=by omega
 have e:a.getD (i-1) 0=a[i-1]:=by simp[Array.getD,hj]
 have z:a.toList.take i=a.toList.take (i-1)++[a[i-1]]:=by
  have:=List.take_succ_eq_append_getElem (l:=a.toList) (i:=i-1) (by rw[Array.length_toList];exact hj)
  rw[show i-1+1=i by omega]at this;rw[this];simp
 rw[z,LR,e];rfl
theorem ph(hk:i<=j):(a.toList.take j).reverse=((a.toList.drop i).take (j-i)).reverse++(a.toList.take i).reverse:=by
 rw[<-LR,<-List.drop_take];congr 1
 have:=LL i (a.toList.take j)
 rw[List.take_take,LU hk]at this;exact this.symm
theorem fu{x:Nat}(h:x∈(a.toList.take i).reverse)(hi:i<=a.size):∃m,m<i/\x=a.getD m 0:=by
 have h:=List.mem_reverse.mp h
 have:=fY (a:=a) (i:=0) (k:=i) (x:=x) (by simpa using h) `o
 obtain⟨m,hm,e⟩:=this;exact⟨m,hm,by rw[e,LV]⟩
end
section
variable{prog:NV}{w:NU}{A:N4}{E:az}{s:NT}{κ:Pj}{it:Array O7}{r:Nat->Nat}{N:Nat}{a b:Array Nat}{B0:aR}{st:O8}
noncomputable abbrev JH(r:Nat->Nat)(B0:aR)(a b out:Array Nat)(na nb:Nat):Prop:=Jn (λx y=>r y<=r x) B0 out.toList (a.toList.take na).reverse (b.toList.take nb).reverse
theorem m9{out:Array Nat}{na nb:Nat}(h:JH r B0 a b out na nb)(hb:na=0\/nb=0):fg it r B0 (qy (a.map (Pl it)) (b.map (Pl it)) (out.map (Pl it)) na nb):=by
 refine⟨a.extract 0 na++b.extract 0 nb++out.reverse,?_,?_⟩
 ·show _++_++_=_;rw[cW,cW,pY,dR,dR]
 ·rw[Array.toList_append,Array.toList_append,iS,iS,Array.toList_reverse];obtain⟨d1,d2⟩:=h.swap.done λx hx y hy=>by
   rcases hb with z|z
   ·rw[z]at hy;cases hy
   ·rw[z]at hx;cases hx
  have e:(out.toList++(b.toList.take nb).reverse++(a.toList.take na).reverse).reverse=a.toList.take na++b.toList.take nb++out.toList.reverse:=by simp
  rw[<-e];exact⟨List.pairwise_reverse.mpr d1,(LW _).trans d2⟩
theorem qa{out:Array Nat}{na nb:Nat}(h:JH r B0 a b out na nb)(hn:nb=1)(h0:0<b.size)(h1:na<=a.size)(hf:∀x∈a.toList,r (b.getD 0 0)<=r x):fg it r B0 (yy (a.map (Pl it)) (b.map (Pl it)) (out.map (Pl it)) na nb):=by
 refine⟨b.extract 0 nb++a.extract 0 na++out.reverse,?_,?_⟩
 ·show _++_++_=_;rw[cW,cW,pY,dR,dR]
 ·rw[Array.toList_append,Array.toList_append,iS,iS,Array.toList_reverse];obtain⟨d1,d2⟩:=h.done λx hx y hy=>by
   obtain⟨m,m1,rfl⟩:=fu hy `o;rw[show m=0 by omega];exact hf x (LX (List.mem_reverse.mp hx))
  have e:(out.toList++(a.toList.take na).reverse++(b.toList.take nb).reverse).reverse=b.toList.take nb++a.toList.take na++out.toList.reverse:=by simp
  rw[<-e];exact⟨List.pairwise_reverse.mpr d1,(LW _).trans d2⟩
theorem JH.pushA{out:Array Nat}{na nb:Nat}(h:JH r B0 a b out na nb)(ub:xP r b)(h0:0<na)(h1:na<=a.size)(h2:nb<=b.size)(q:r (b.getD (nb-1) 0)<=r (a.getD (na-1) 0)):JH r B0 a b (out.push (a.getD (na-1) 0)) (na-1) nb:=by
 have h:Jn _ _ _ _ _:=h;rw[zV h0 h1]at h
 have:=Jn.takeA (a1:=[a.getD (na-1) 0]) h λx hx y hy=>by
  rw[List.mem_singleton.mp hx];obtain⟨m,m1,rfl⟩:=fu hy h2;exact JY (ub _ _ `o `o) q
 show Jn _ _ _ _ _;rw[Array.toList_push];exact this
theorem JH.pushB{out:Array Nat}{na nb:Nat}(h:JH r B0 a b out na nb)(ua:xP r a)(h0:0<nb)(h1:na<=a.size)(h2:nb<=b.size)(q:r (a.getD (na-1) 0)<=r (b.getD (nb-1) 0)):JH r B0 a b (out.push (b.getD (nb-1) 0)) na (nb-1):=by
 have h:Jn _ _ _ _ _:=h;rw[zV (a:=b) h0 h2]at h
 have:=Jn.takeB (b1:=[b.getD (nb-1) 0]) h λx hx y hy=>by
  rw[List.mem_singleton.mp hx];obtain⟨m,m1,rfl⟩:=fu hy h1;exact JY (ua _ _ `o `o) q
 show Jn _ _ _ _ _;rw[Array.toList_push];exact this
theorem JH.partA{out:Array Nat}{na nb k:Nat}(h:JH r B0 a b out na nb)(ub:xP r b)(hk:k<=na)(h1:na<=a.size)(h2:nb<=b.size)(q:∀i,k<=i->i<na->r (b.getD (nb-1) 0)<=r (a.getD i 0)):JH r B0 a b (out++(a.extract k na).reverse) k nb:=by
 have h:Jn _ _ _ _ _:=h;rw[ph hk]at h
 have:=Jn.takeA h λx hx y hy=>by
  obtain⟨i,hi,rfl⟩:=fY (List.mem_reverse.mp hx) `o;obtain⟨m,m1,rfl⟩:=fu hy h2;exact JY (ub _ _ `o `o) (q _ `o `o)
 show Jn _ _ _ _ _;rw[Array.toList_append,Array.toList_reverse,eJ];exact this
theorem JH.partB{out:Array Nat}{na nb k:Nat}(h:JH r B0 a b out na nb)(ua:xP r a)(hk:k<=nb)(h1:na<=a.size)(h2:nb<=b.size)(q:∀i,k<=i->i<nb->r (a.getD (na-1) 0)<=r (b.getD i 0)):JH r B0 a b (out++(b.extract k nb).reverse) na k:=by
 have h:Jn _ _ _ _ _:=h;rw[ph (a:=b) hk]at h
 have:=Jn.takeB h λx hx y hy=>by
  obtain⟨i,hi,rfl⟩:=fY (List.mem_reverse.mp hx) `o;obtain⟨m,m1,rfl⟩:=fu hy h1;exact JY (ua _ _ `o `o) (q _ `o `o)
 show Jn _ _ _ _ _;rw[Array.toList_append,Array.toList_reverse,eJ];exact this
noncomputable def K6(it:Array O7)(r:Nat->Nat)(B0:aR)(a b:Array Nat)(m:Nat)(c:H6):Prop:=∃out na nb ac bc,c=(none,na,nb,out.map (Pl it),ac,bc)/\JH r B0 a b out na nb/\0<na/\1<nb/\na<=a.size/\nb<=b.size/\na+nb+m<=a.size+b.size
noncomputable def K7(it:Array O7)(r:Nat->Nat)(B0:aR)(a b:Array Nat)(m:Nat)(c:H7):Prop:=∃out na nb mg ac bc,c=(none,na,nb,out.map (Pl it),mg,ac,bc)/\JH r B0 a b out na nb/\0<na/\1<nb/\na<=a.size/\nb<=b.size/\na+nb+m<=a.size+b.size
theorem Dy(hc:bz (Pk prog w A κ it) r N s)(T:v4 r N a b)(hk:kindOf st=κ)(hf:∀x∈a.toList,r (b.getD 0 0)<=r x){out:Array Nat}{na nb mg ac bc m:Nat}(h:JH r B0 a b out na nb)(h1:0<na)(h2:1<nb)(h3:na<=a.size)(h4:nb<=b.size)(hm:na+nb+m<=a.size+b.size):
  wpS `g A E s (hi1 (a.map (Pl it)) (b.map (Pl it)) mg na nb (out.map (Pl it)) ac bc) (λc st'=>st'=st/\match c with
   |.done c=>(∃x,c.1=some x/\fg it r B0 x)\/K6 it r B0 a b (m+1) c
   |.yield c=>K6 it r B0 a b (m+1) c) st:=by
 unfold hi1;refine O9 (aJ `o (O9 (aJ `o (O9 (jC hc (T.nb _ (mem_getD `o)) (T.na _ (mem_getD `o)) hk ?_)))));by_cases z:r (b.getD (nb-1) 0)<r (a.getD (na-1) 0)
 ·simp only[decide_eq_true z,if_true];refine O9 (aJ `o ?_);have J:=h.pushA T.ub h1 h3 h4 (JZ z);rw[eS];by_cases y:na-1=0
  ·rw[if_pos (by simpa using y)];exact Ph ⟨rfl,.inl ⟨_,rfl,m9 J (.inl y)⟩⟩
  ·rw[if_neg (by simpa using y)];have g:∀x1 x2,K6 it r B0 a b (m+1) (none,na-1,nb,(out.push (a.getD (na-1) 0)).map (Pl it),x1,x2):=λx1 x2=>⟨_,_,_,_,_,rfl,J,by omega,by omega,by omega,by omega,by omega⟩
   by_cases x:ac+1>=mg
   ·rw[if_pos x];exact Ph ⟨rfl,.inr (g _ _)⟩
   ·rw[if_neg x];exact Ph ⟨rfl,g _ _⟩
 ·simp only[decide_eq_false z,KL,if_false];refine O9 (aJ `o ?_);have J:=h.pushB T.ua `o h3 h4 (Kx z);rw[eS];by_cases y:nb-1=1
  ·rw[if_pos (by simpa using y)];exact Ph ⟨rfl,.inl ⟨_,rfl,qa J y `o h3 hf⟩⟩
  ·rw[if_neg (by simpa using y)];have g:∀x1 x2,K6 it r B0 a b (m+1) (none,na,nb-1,(out.push (b.getD (nb-1) 0)).map (Pl it),x1,x2):=λx1 x2=>⟨_,_,_,_,_,rfl,J,by omega,by omega,by omega,by omega,by omega⟩
   by_cases x:bc+1>=mg
   ·rw[if_pos x];exact Ph ⟨rfl,.inr (g _ _)⟩
   ·rw[if_neg x];exact Ph ⟨rfl,g _ _⟩
noncomputable abbrev F7(it : Array O7)(r : Nat -> Nat)(B0 : aR)(a b : Array Nat)(m : Nat)(st : O8)(c : ForInStep H7)(st' : O8): Prop := (∃ g, st' = setG st g) /\ match c with
      |.done c=>(∃x,c.1=some x/\fg it r B0 x)\/K7 it r B0 a b m c
      |.yield c=>K7 it r B0 a b m c
theorem uW(T:v4 r N a b){g m:Nat}{out:Array Nat}{na nb mg ac bc:Nat}(h:JH r B0 a b out na nb)(h1:0<na)(h2:1<nb)(h3:na<=a.size)(h4:nb<=b.size)(hm:na+nb+m<=a.size+b.size)(q:r (b.getD (nb-1) 0)<=r (a.getD (na-1) 0)):
  wpS `g A E s (Bz (a.map (Pl it)) (b.map (Pl it)) mg ac bc na nb (out.map (Pl it))) (F7 it r B0 a b m st) (setG st g):=by
 unfold Bz;refine O9 (aJ `o ?_);have J:=h.pushA T.ub h1 h3 h4 q;rw[eS];by_cases y:na-1=0
 ·rw[if_pos (by simpa using y)];exact Ph ⟨⟨g,rfl⟩,.inl ⟨_,rfl,m9 J (.inl y)⟩⟩
 ·rw[if_neg (by simpa using y)];have gg:∀x0 x1 x2,K7 it r B0 a b m (none,na-1,nb,(out.push (a.getD (na-1) 0)).map (Pl it),x0,x1,x2):=λx0 x1 x2=>⟨_,_,_,_,_,_,rfl,J,by omega,by omega,by omega,by omega,by omega⟩
  split
  ·exact Ph ⟨⟨g,rfl⟩,.inr (gg _ _ _)⟩
  ·exact Ph ⟨⟨g,rfl⟩,gg _ _ _⟩
theorem vd(hc:bz (Pk prog w A κ it) r N s)(hk:kindOf st=κ)(hf:∀x∈a.toList,r (b.getD 0 0)<=r x)(T:v4 r N a b){g m:Nat}{out:Array Nat}{na nb mg ac bc:Nat}(h:JH r B0 a b out na nb)(h1:0<na)(h2:1<nb)(h3:na<=a.size)(h4:nb<=b.size)(hm:na+nb+m<=a.size+b.size)(q:r (a.getD (na-1) 0)<=r (b.getD (nb-1) 0)):
  wpS `g A E s (CO (a.map (Pl it)) (b.map (Pl it)) mg ac bc na nb (out.map (Pl it))) (F7 it r B0 a b m st) (setG st g):=by
 unfold CO;refine O9 (aJ `o ?_);have J:=h.pushB T.ua `o h3 h4 q;rw[eS];by_cases y:nb-1=1
 ·rw[if_pos (by simpa using y)];exact Ph ⟨⟨g,rfl⟩,.inl ⟨_,rfl,qa J y `o h3 hf⟩⟩
 ·rw[if_neg (by simpa using y)];refine O9 (aJ `o (O9 (ie (st:=setG st g) (k:=a.getD (na-1) 0) (base:=0) (n:=nb-1) (hint:=nb-1-1) hc (T.na _ (mem_getD `o)) `o `o T.nb (λi j hij hj=>T.ub _ _ `o `o) hk λk k1 k2 k3=>?_)));simp only[LV]at k2 k3;dsimp only;rw[cW,pY,dR];have ge:∀i,k<=i->i<nb-1->r (a.getD (na-1) 0)<=r (b.getD i 0):=λi hi hj=>by
   have:=k3 i hi hj
   simpa [rK]using this
  have lt:0<k->r (b.getD (k-1) 0)<r (a.getD (na-1) 0):=λz=>by
   have:=k2 (k-1) `o
   simpa [rK]using this
  have J2:=J.partB T.ua k1 h3 `o ge;by_cases x:nb-1-k>0
  ·rw[if_pos x];by_cases v:k=1
   ·rw[if_pos (by simpa using v)];exact Ph ⟨⟨g,rfl⟩,.inl ⟨_,rfl,qa J2 v `o h3 hf⟩⟩
   ·rw[if_neg (by simpa using v)];by_cases u:k=0
    ·rw[if_pos (by simpa using u)];exact Ph ⟨⟨g,rfl⟩,.inl ⟨_,rfl,m9 J2 (.inr u)⟩⟩
    ·rw[if_neg (by simpa using u)];exact uW T J2 h1 `o h3 `o `o (JZ (lt `o))
  ·rw[if_neg x];have k0:k=nb-1:=(by omega);subst k0;exact uW T J h1 `o h3 `o `o (JZ (lt `o))
theorem Cw(hc:bz (Pk prog w A κ it) r N s)(hk:kindOf st=κ)(hf:∀x∈a.toList,r (b.getD 0 0)<=r x)(T:v4 r N a b){g m:Nat}{out:Array Nat}{na nb mg ac bc:Nat}(h:JH r B0 a b out na nb)(h1:0<na)(h2:1<nb)(h3:na<=a.size)(h4:nb<=b.size)(hm:na+nb+m<=a.size+b.size):
  wpS `g A E s (Ab (a.map (Pl it)) (b.map (Pl it)) mg ac bc na nb (out.map (Pl it))) (F7 it r B0 a b m st) (setG st g):=by
 unfold Ab;rw[gF];refine O9 (Pq ?_);show wpS _ _ _ _ _ _ (setG st mg);refine O9 (aJ `o (O9 (ie (st:=setG st mg) (k:=b.getD (nb-1) 0) (base:=0) (n:=na) (hint:=na-1) hc (T.nb _ (mem_getD `o)) `o `o T.na (λi j hij hj=>T.ua _ _ `o `o) hk λk k1 k2 k3=>?_)));simp only[LV]at k2 k3;dsimp only;rw[cW,pY,dR];have gt:∀i,k<=i->i<na->r (b.getD (nb-1) 0)<r (a.getD i 0):=λi hi hj=>by
  have:=k3 i hi hj
  simpa [rK]using this
 have le:0<k->r (a.getD (k-1) 0)<=r (b.getD (nb-1) 0):=λz=>by
  have:=k2 (k-1) `o
  simpa [rK]using this
 have J:=h.partA T.ub k1 h3 h4 λi hi hj=>JZ (gt i hi hj);by_cases x:na-k>0
 ·rw[if_pos x];by_cases u:k=0
  ·rw[if_pos (by simpa using u)];exact Ph ⟨⟨mg,rfl⟩,.inl ⟨_,rfl,m9 J (.inl u)⟩⟩
  ·rw[if_neg (by simpa using u)];exact vd hc hk hf T J `o h2 `o h4 `o (le `o)
 ·rw[if_neg x];have k0:k=na:=by omega
  subst k0;exact vd hc hk hf T h h1 h2 h3 h4 hm (le `o)
noncomputable def K5(it:Array O7)(r:Nat->Nat)(B0:aR)(a b:Array Nat)(m:Nat)(c:H5):Prop:=∃out na nb mg,c=(none,na,nb,out.map (Pl it),mg)/\JH r B0 a b out na nb/\0<na/\1<nb/\na<=a.size/\nb<=b.size/\na+nb+m<=a.size+b.size
theorem Fb(hc:bz (Pk prog w A κ it) r N s)(hk:kindOf st=κ)(hf:∀x∈a.toList,r (b.getD 0 0)<=r x)(T:v4 r N a b){g m:Nat}{out:Array Nat}{na nb mg:Nat}(h:JH r B0 a b out na nb)(h1:0<na)(h2:1<nb)(h3:na<=a.size)(h4:nb<=b.size)(hm:na+nb+m<=a.size+b.size):
  wpS `g A E s (hi0 (a.map (Pl it)) (b.map (Pl it)) na nb (out.map (Pl it)) mg) (λc st'=>(∃g,st'=setG st g)/\match c with
   |.done c=>∃x,c.1=some x/\fg it r B0 x
   |.yield c=>K5 it r B0 a b (m+1) c) (setG st g):=by
 unfold hi0;simp only[Array.size_map];refine O9 (Pa (Pb (I:=λx c st'=>st'=setG st g/\K6 it r B0 a b (m+x) c)
  (Q:=λc st'=>st'=setG st g/\((∃x,c.1=some x/\fg it r B0 x)\/K6 it r B0 a b (m+1) c)) ?step ?fin ⟨rfl,_,_,_,_,_,rfl,h,h1,h2,h3,h4,by omega⟩) ?post)
 case fin=>
  rintro c st' ⟨rfl,o,i,j,x,y,rfl,J,j1,j2,j3,j4,j5⟩;omega
 case step=>
  rintro x c st' _ hx ⟨rfl,o,i,j,x1,x2,rfl,J,j1,j2,j3,j4,j5⟩;dsimp only;refine Pa (Dy (st:=setG st g) hc T hk hf J j1 j2 j3 j4 j5) λc st' q=>?_;obtain⟨rfl,q⟩:=q;have up:∀{c:H6},K6 it r B0 a b (m+x+1) c->K6 it r B0 a b (m+1) c:=λzq=>zq.elim λo zq=>zq.elim λi zq=>zq.elim λj zq=>zq.elim λx zq=>zq.elim λy zq=>zq.elim λe zq=>zq.elim λJ zq=>zq.elim λa1 zq=>zq.elim λa2 zq=>zq.elim λa3 zq=>zq.elim λa4 a5=>⟨o,i,j,x,y,e,J,a1,a2,a3,a4,by omega⟩
  cases c with
  |done c=>
   rcases q with q|q
   ·exact⟨rfl,.inl q⟩
   ·exact⟨rfl,.inr (up q)⟩
  |yield c=>exact⟨rfl,q⟩
 case post=>
  rintro c st' ⟨rfl,q⟩;rcases q with⟨x,e,F⟩|⟨o,i,j,x1,x2,rfl,J,j1,j2,j3,j4,j5⟩
  ·rw[e];exact Ph ⟨⟨g,rfl⟩,x,rfl,F⟩
  ·dsimp only;refine O9 (Pn (O2 ⟨rfl,?_⟩));refine O9 (Pa (Pb (I:=λx c st'=>(∃g,st'=setG st g)/\K7 it r B0 a b (m+1) c)
    (Q:=λc st'=>(∃g,st'=setG st g)/\((∃x,c.1=some x/\fg it r B0 x)\/K7 it r B0 a b (m+1) c)) ?_ (λc st' q=>⟨q.1,.inr q.2⟩) ⟨⟨g,rfl⟩,_,_,_,_,_,_,rfl,J,j1,j2,j3,j4,j5⟩) ?_)
   ·rintro x c st' _ hx ⟨⟨g',rfl⟩,o,i,j,x0,x1,x2,rfl,J,j1,j2,j3,j4,j5⟩;dsimp only;have fi:∀mg,wpS `g A E s (Ab (a.map (Pl it)) (b.map (Pl it)) mg x1 x2 i j (o.map (Pl it))) (F7 it r B0 a b (m+1) st) (setG st g'):=λmg=>Cw hc hk hf T J j1 j2 j3 j4 j5;by_cases z:x0>1
    ·rw[if_pos z];exact Pa (fi _) λc st' q=>by cases c<;>exact q
    ·rw[if_neg z];exact Pa (fi _) λc st' q=>by cases c<;>exact q
   ·rintro c st' ⟨⟨g',rfl⟩,q⟩;rcases q with⟨x,e,F⟩|⟨o,i,j,x0,x1,x2,rfl,J,j1,j2,j3,j4,j5⟩
    ·rw[e];exact Ph ⟨⟨g',rfl⟩,x,rfl,F⟩
    ·dsimp only;rw[gF];exact O9 (Pq (Ph ⟨⟨_,rfl⟩,_,_,_,_,rfl,J,j1,j2,j3,j4,j5⟩))
theorem tS(hc:bz (Pk prog w A κ it) r N s)(hk:kindOf st=κ)(hl:∀y∈b.toList,r y<=r (a.getD (a.size-1) 0))(hf:∀x∈a.toList,r (b.getD 0 0)<=r x)(T:v4 r N a b)(a0:0<a.size)(b0:0<b.size){Q:Array O7->O8->Prop}
  (h:∀x g,fg it r (a.toList++b.toList) x->Q x (setG st g)):wpS `g A E s (mC (a.map (Pl it)) (b.map (Pl it))) Q st:=by
 have J0:JH r (a.toList++b.toList) a b #[] a.size b.size:=by
  have e1:a.toList.take a.size=a.toList:=LD (by rw[Array.length_toList];exact Ka _);have e2:b.toList.take b.size=b.toList:=LD (by rw[Array.length_toList];exact Ka _);show Jn _ _ _ _ _;rw[e1,e2];exact⟨List.Pairwise.nil,List.pairwise_reverse.mpr T.ua.pw,List.pairwise_reverse.mpr T.ub.pw,(λx hx=>nomatch hx),(λx hx=>nomatch hx),(show(a.toList.reverse++b.toList.reverse).Perm _ from List.Perm.append (LW _) (LW _))⟩
 have J:=J0.pushA T.ub a0 (Ka _) (Ka _) (hl _ (mem_getD `o));have e1:#[Pl it (a.getD (a.size-1) 0)]=((#[]:Array Nat).push (a.getD (a.size-1) 0)).map (Pl it):=by simp
 have hg:∀x,fg it r (a.toList++b.toList) x->Q x st:=λx F=>h x (gallopOf st) F;rw[rk];refine O9 (Pn (O2 ⟨rfl,?_⟩));simp only[Array.size_map];refine O9 (aJ `o ?_);rw[e1];by_cases y:a.size-1=0
 ·rw[if_pos (by simpa using y)];exact Ph (hg _ (m9 J (.inl y)))
 ·rw[if_neg (by simpa using y)];by_cases z:b.size=1
  ·rw[if_pos (by simpa using z)];exact Ph (hg _ (qa J z b0 `o hf))
  ·rw[if_neg (by simpa using z)];refine O9 (Pm ?_);refine O9 (Pa (Pb (I:=λx c st'=>(∃g,st'=setG st g)/\K5 it r (a.toList++b.toList) a b (x+1) c)
    (Q:=λc st'=>(∃g,st'=setG st g)/\∃x,c.1=some x/\fg it r (a.toList++b.toList) x) ?step ?fin ⟨⟨gallopOf st,rfl⟩,_,_,_,_,rfl,J,by omega,by omega,by omega,by omega,by omega⟩) ?post)
   case fin=>
    rintro c st' ⟨_,o,i,j,x,rfl,J,j1,j2,j3,j4,j5⟩;omega
   case step=>
    rintro x c st' _ hx ⟨⟨g,rfl⟩,o,i,j,x1,rfl,J,j1,j2,j3,j4,j5⟩;dsimp only;refine Pa (Fb hc hk hf T J j1 j2 j3 j4 j5) λc st' q=>?_;obtain⟨q1,q⟩:=q;cases c with
    |done c=>exact⟨q1,q⟩
    |yield c=>exact⟨q1,q⟩
   case post=>
    rintro c st' ⟨⟨g,rfl⟩,x,e,F⟩;rw[e];exact Ph (h x g F)
end
noncomputable abbrev A2:=Option (Option Nat)×Nat
noncomputable abbrev D3:=Option (Option Nat)×Nat×Nat
noncomputable def CL(lo a nrem:Nat):StateT O8 Sem A2:=forIn [a:nrem] ((none,a):A2) λ_ c=>do
 let x<-ltAt' (lo+c.2) (lo+c.2-1)
 match x with
 |some sm=>if sm=true then pure (.done (none,c.2))else pure (.yield (none,c.2+1))
 |_=>pure (.done (some none,c.2))
noncomputable def Hk(lo n nrem:Nat):StateT O8 Sem (Option Nat):=do
 reverseSlice' lo (lo+n)
 let c<-CL lo n nrem
 match c.1 with
 |some r=>pure r
 |none=>pure (some c.2)
noncomputable def DR(lo n nrem:Nat):StateT O8 Sem D3:=forIn [n:nrem] ((none,n,0):D3) λ_ c=>do
 let x<-ltAt' (lo+c.2.1) (lo+c.2.1-1)
 match x with
 |some sm=>
  if sm=true then
   if c.2.2>0 then do
    reverseSlice' (lo+c.2.1-(c.2.2+1)) (lo+c.2.1)
    pure (.yield (none,c.2.1+1,0))
   else pure (.yield (none,c.2.1+1,0))
  else do
   let y<-ltAt' (lo+c.2.1-1) (lo+c.2.1)
   match y with
   |some lg=>if lg=true then pure (.done (none,c.2.1,c.2.2))else pure (.yield (none,c.2.1+1,c.2.2+1))
   |_=>pure (.done (some none,c.2.1,c.2.2))
 |_=>pure (.done (some none,c.2.1,c.2.2))
noncomputable def HD(lo n nrem:Nat):StateT O8 Sem (Option Nat):=do
 liftM (rule "list.sort.descending-run")
 let c<-DR lo (n+1) nrem
 match c.1 with
 |some r=>pure r
 |none=>
  if c.2.2>0 then do
   reverseSlice' (lo+c.2.1-(c.2.2+1)) (lo+c.2.1)
   Hk lo c.2.1 nrem
  else Hk lo c.2.1 nrem
theorem qB(lo nrem:Nat):countRun' lo nrem=(do
  let c<-CL lo 1 nrem
  match c.1 with
  |some r=>pure r
  |none=>
   if(c.2==nrem)=true then pure (some c.2)
   else if c.2>1 then do
    let x<-ltAt' lo (lo+c.2-1)
    match x with
    |some rose=>if rose=true then pure (some c.2)else do
      reverseSlice' lo (lo+c.2)
      HD lo c.2 nrem
    |_=>pure none
   else HD lo c.2 nrem):=by kernel_rfl
noncomputable def Fj(lo k:Nat):StateT O8 Sem (Option Bool×Nat×Nat):=forIn [0:k] ((none,0,k):Option Bool×Nat×Nat) λ_ c=>
 if c.2.1>=c.2.2 then pure (.done (none,c.2.1,c.2.2))
 else do
  let x<-ltAt' (lo+k) (lo+(c.2.1+c.2.2)/2)
  match x with
  |some ls=>if ls=true then pure (.yield (none,c.2.1,(c.2.1+c.2.2)/2))else pure (.yield (none,(c.2.1+c.2.2)/2+1,c.2.2))
  |_=>pure (.done (some false,c.2.1,c.2.2))
theorem nF(lo n ok:Nat):binarySort' lo n ok=(do
  let c<-forIn [max ok 1:n] ((none,()):Option Bool×Unit) λk _=>do
   let c<-Fj lo k
   match c.1 with
   |some r=>pure (.done (some r,()))
   |none=>do
    moveDown' (lo+k) (lo+c.2.1)
    pure (.yield (none,()))
  match c.1 with
  |some r=>pure r
  |none=>pure true):=by kernel_rfl
variable[aj]
structure jI(N lo:Nat)(p p':Array Nat):Prop where
 pm:PM N p'
 eq:∀i,i<lo->p'.getD i 0=p.getD i 0
theorem jI.trans{N lo:Nat}{p p' q:Array Nat}(h:jI N lo p p')(h':jI N lo p' q):jI N lo p q:=⟨h'.pm,λi hi=>(h'.eq i hi).trans (h.eq i hi)⟩
theorem jI.rev{N lo i j:Nat}{p:Array Nat}(h:PM N p)(hi:lo<=i)(hj:j<=N):jI N lo p (O6 p i j):=⟨h.rev i j,λk hk=>by
 have:=pS (r:=id) (p:=p) (i:=i) (j:=j) (by rw[h.size];exact hj) k
 rw[if_neg `o]at this;exact this⟩
section
variable{prog:NV}{w:NU}{A:N4}{E:az}{s:NT}{κ:Pj}{it:Array O7}{r:Nat->Nat}{N:Nat}{pd:Array (Nat×Nat×Nat)}{g:Nat}
noncomputable abbrev Zs(κ:Pj)(it:Array O7)(pd:Array (Nat×Nat×Nat))(g:Nat)(p:Array Nat):O8:=SortSt.mk' κ (p.map (Pl it)) pd g none
theorem jj{p:Array Nat}{i j:Nat}(hc:bz (Pk prog w A κ it) r N s)(hp:PM N p)(hi:i<N)(hj:j<N){Q:Option Bool->O8->Prop}(h:Q (some (decide (Rk r p i<Rk r p j))) (Zs κ it pd g p)):wpS `g A E s (ltAt' i j) Q (Zs κ it pd g p):=by
 have hs:=hp.size;rw[ltAt'_eq];refine O9 (Pm ?_);show wpS _ _ _ _ (do let x<-elem' (p.map (Pl it)) i;let y<-elem' (p.map (Pl it)) j;lt' x y) Q _;exact O9 (aJ `o (O9 (aJ `o (jC hc (hp.lt hi) (hp.lt hj) rfl h))))
theorem jO{p:Array Nat}{i j:Nat}{Q:Unit->O8->Prop}(h:Q () (Zs κ it pd g (O6 p i j))):wpS `g A E s (reverseSlice' i j) Q (Zs κ it pd g p):=by
 rw[reverseSlice'_eq];refine Pq ?_;have e1:mirror (p.map (Pl it)) i j ((j-i)/2)=(mirror p i j ((j-i)/2)).map (Pl it):=kas_swaps_map (Pl it) (λk=>i+k) (λk=>j-1-k) _ p;show Q () (SortSt.mk' κ (mirror (p.map (Pl it)) i j ((j-i)/2)) pd g none);rw[e1];exact h
theorem yR{p:Array Nat}{k l:Nat}{Q:Unit->O8->Prop}(h:Q () (Zs κ it pd g (bubble p k (k-l)))):wpS `g A E s (moveDown' k l) Q (Zs κ it pd g p):=by
 rw[moveDown'_eq];refine Pq ?_;have e1:bubble (p.map (Pl it)) k (k-l)=(bubble p k (k-l)).map (Pl it):=kas_swaps_map (Pl it) (λi=>k-i) (λi=>k-i-1) _ p;show Q () (SortSt.mk' κ (bubble (p.map (Pl it)) k (k-l)) pd g none);rw[e1];exact h
noncomputable def Av(r:Nat->Nat)(lo:Nat)(p:Array Nat)(n:Nat):Prop:=∀i j,i<=j->j<n->Rk r p (lo+i)<=Rk r p (lo+j)
noncomputable def FQ(r:Nat->Nat)(lo:Nat)(p:Array Nat)(n:Nat):Prop:=∀i j,i<=j->j<n->Rk r p (lo+j)<=Rk r p (lo+i)
theorem vF(hc:bz (Pk prog w A κ it) r N s){p:Array Nat}(hp:PM N p){lo a nrem:Nat}(h0:lo+nrem<=N)(h1:1<=a)(h2:a<=nrem)(u:Av r lo p a){Q:A2->O8->Prop}
  (h:∀n,a<=n->n<=nrem->Av r lo p n->(n=nrem\/Rk r p (lo+n)<Rk r p (lo+n-1))->Q (none,n) (Zs κ it pd g p)):wpS `g A E s (CL lo a nrem) Q (Zs κ it pd g p):=by
 unfold CL;refine Pb (I:=λx c st'=>st'=Zs κ it pd g p/\c=(none,x)/\Av r lo p x) ?_ ?_ ⟨rfl,rfl,u⟩
 ·rintro x c st' h3 h4 ⟨rfl,rfl,u'⟩;dsimp only;refine O9 (jj hc hp `o `o ?_);by_cases z:Rk r p (lo+x)<Rk r p (lo+x-1)
  ·simp only[decide_eq_true z,if_true];exact Ph (h x h3 `o u' (.inr z))
  ·simp only[decide_eq_false z,KL,if_false];refine Ph ⟨rfl,rfl,λi j hij hj=>?_⟩;by_cases hjx:j<x
   ·exact u' i j hij hjx
   ·have ej:j=x:=(by omega);subst ej;by_cases ei:i=j
    ·subst ei;exact Ka _
    ·have:=u' i (j-1) `o `o
     rw[show lo+(j-1)=lo+j-1 by omega]at this;omega
 ·rintro c st' ⟨rfl,rfl,u'⟩;rw[show max a nrem=nrem by omega]at u' ⊢;exact h nrem h2 (Ka _) u' (.inl rfl)
noncomputable abbrev yk(κ:Pj)(it:Array O7)(pd:Array (Nat×Nat×Nat))(g:Nat)(r:Nat->Nat)(N lo nrem:Nat)(p:Array Nat)(Q:Option Nat->O8->Prop):Prop:=∀m p',jI N lo p p'->1<=m->m<=nrem->Av r lo p' m->Q (some m) (Zs κ it pd g p')
theorem x9(hc:bz (Pk prog w A κ it) r N s){p:Array Nat}(hp:PM N p){lo n nrem:Nat}(h0:lo+nrem<=N)(h1:1<=n)(h2:n<=nrem)(d:FQ r lo p n){Q:Option Nat->O8->Prop}(h:yk κ it pd g r N lo nrem p Q):wpS `g A E s (Hk lo n nrem) Q (Zs κ it pd g p):=by
 have hs:=hp.size;unfold Hk;refine O9 (jO (O9 (vF hc (hp.rev _ _) h0 h1 h2 (λi j hij hj=>?_) λm m1 m2 u _=>Ph (h m _ (jI.rev hp (Ka _) `o) `o m2 u))));rw[pS `o,pS `o,if_pos `o,if_pos `o]
 have:=d (n-1-j) (n-1-i) `o `o
 rw[show lo+(n-1-i)=lo+(lo+n)-1-(lo+i)by omega,show lo+(n-1-j)=lo+(lo+n)-1-(lo+j)by omega]at this;exact this
theorem pG{p:Array Nat}{lo n q:Nat}(hn:lo+n<=p.size)(hq:q+1<=n)(he:∀i,n-(q+1)<=i->i<n->Rk r p (lo+i)=Rk r p (lo+n-1))(k:Nat):Rk r (O6 p (lo+n-(q+1)) (lo+n)) k=Rk r p k:=by
 rw[pS hn];split
 ·rename_i h;have a1:=he (lo+n-(q+1)+(lo+n)-1-k-lo) `o `o;have a2:=he (k-lo) `o `o;rw[show lo+(lo+n-(q+1)+(lo+n)-1-k-lo)=lo+n-(q+1)+(lo+n)-1-k by omega]at a1;rw[show lo+(k-lo)=k by omega]at a2;omega
 ·rfl
theorem CH(hc:bz (Pk prog w A κ it) r N s){p:Array Nat}(hp:PM N p){lo n nrem:Nat}(h0:lo+nrem<=N)(h1:1<=n)(h2:n<=nrem)(d:FQ r lo p n){Q:D3->O8->Prop}
  (h:∀m q p',jI N lo p p'->n<=m->m<=nrem->FQ r lo p' m->q+1<=m->(∀i,m-(q+1)<=i->i<m->Rk r p' (lo+i)=Rk r p' (lo+m-1))->Q (none,m,q) (Zs κ it pd g p')):wpS `g A E s (DR lo n nrem) Q (Zs κ it pd g p):=by
 unfold DR;refine Pb (I:=λx c st'=>∃q p',c=(none,x,q)/\st'=Zs κ it pd g p'/\jI N lo p p'/\FQ r lo p' x/\q+1<=x/\∀i,x-(q+1)<=i->i<x->Rk r p' (lo+i)=Rk r p' (lo+x-1)) ?_ ?_ ⟨0,p,rfl,rfl,⟨hp,λ_ _=>rfl⟩,d,by omega,λi a b=>by rw[show lo+i=lo+n-1 by omega]⟩
 ·rintro x c st' h3 h4 ⟨q,p',rfl,rfl,S,d',hq,he⟩;have hs:=S.pm.size;dsimp only;have step:∀p2,(∀k,Rk r p2 k=Rk r p' k)->Rk r p' (lo+x)<=Rk r p' (lo+x-1)->FQ r lo p2 (x+1):=λp2 hk hl i j hij hj=>by
   rw[hk,hk];by_cases hjx:j<x
   ·exact d' i j hij hjx
   ·have ej:j=x:=(by omega);subst ej;by_cases ei:i=j
    ·subst ei;exact Ka _
    ·have:=d' i (j-1) `o `o
     rw[show lo+(j-1)=lo+j-1 by omega]at this;omega
  refine O9 (jj hc S.pm `o `o ?_);by_cases z:Rk r p' (lo+x)<Rk r p' (lo+x-1)
  ·simp only[decide_eq_true z,if_true];by_cases hq0:q>0
   ·rw[if_pos hq0];exact O9 (jO (Ph ⟨0,_,rfl,rfl,S.trans (jI.rev S.pm `o `o),step _ (pG `o hq he) `o,by omega,λi a b=>by rw[show lo+i=lo+(x+1)-1 by omega]⟩))
   ·rw[if_neg hq0];exact Ph ⟨0,_,rfl,rfl,S,step _ (λ_=>rfl) `o,by omega,λi a b=>by rw[show lo+i=lo+(x+1)-1 by omega]⟩
  ·simp only[decide_eq_false z,KL,if_false];refine O9 (jj hc S.pm `o `o ?_);by_cases y:Rk r p' (lo+x-1)<Rk r p' (lo+x)
   ·simp only[decide_eq_true y,if_true];exact Ph (h x q p' S h3 `o d' hq he)
   ·simp only[decide_eq_false y,KL,if_false];refine Ph ⟨q+1,_,rfl,rfl,S,step _ (λ_=>rfl) `o,by omega,λi a b=>?_⟩;rw[show lo+(x+1)-1=lo+x by omega];by_cases ei:i=x
    ·subst ei;rfl
    ·have:=he i `o `o
     omega
 ·rintro c st' ⟨q,p',rfl,rfl,S,d',hq,he⟩;rw[show max n nrem=nrem by omega]at d' hq he ⊢;exact h nrem q p' S h2 (Ka _) d' hq he
theorem yk.on{lo nrem:Nat}{p p':Array Nat}{Q:Option Nat->O8->Prop}(h:yk κ it pd g r N lo nrem p Q)(S:jI N lo p p'):yk κ it pd g r N lo nrem p' Q:=λm q S'=>h m q (S.trans S')
theorem xR(hc:bz (Pk prog w A κ it) r N s){p:Array Nat}(hp:PM N p){lo n nrem:Nat}(h0:lo+nrem<=N)(h2:n+1<=nrem)(d:FQ r lo p (n+1)){Q:Option Nat->O8->Prop}(h:yk κ it pd g r N lo nrem p Q):wpS `g A E s (HD lo n nrem) Q (Zs κ it pd g p):=by
 unfold HD;refine O9 (Pn (O2 ⟨rfl,?_⟩));refine O9 (CH hc hp h0 `o h2 d λm q p' S m1 m2 d' hq he=>?_);have hs:=S.pm.size;dsimp only;by_cases hq0:q>0
 ·rw[if_pos hq0];have S2:=S.trans (jI.rev (i:=lo+m-(q+1)) (j:=lo+m) S.pm `o `o);refine O9 (jO (x9 hc S2.pm h0 `o m2 (λi j hij hj=>?_) (h.on S2)));rw[pG `o hq he,pG `o hq he];exact d' i j hij hj
 ·rw[if_neg hq0];exact x9 hc S.pm h0 `o m2 d' (h.on S)
theorem qA(hc:bz (Pk prog w A κ it) r N s){p:Array Nat}(hp:PM N p){lo nrem:Nat}(h0:lo+nrem<=N)(h1:1<=nrem){Q:Option Nat->O8->Prop}(h:yk κ it pd g r N lo nrem p Q):wpS `g A E s (countRun' lo nrem) Q (Zs κ it pd g p):=by
 have hs:=hp.size;have S0:jI N lo p p:=⟨hp,λ_ _=>rfl⟩
 rw[qB];refine O9 (vF hc hp h0 (Ka _) h1 (λi j hij hj=>by rw[show i=j by omega];exact Ka _) λn a b u hor=>?_);dsimp only;by_cases hn:n=nrem
 ·rw[if_pos (by simpa using hn)];exact Ph (h n p S0 a b u)
 ·rw[if_neg (by simpa using hn)];have hlt:Rk r p (lo+n)<Rk r p (lo+n-1):=hor.resolve_left hn;by_cases hg:n>1
  ·rw[if_pos hg];refine O9 (jj hc hp `o `o ?_);by_cases q:Rk r p lo<Rk r p (lo+n-1)
   ·simp only[decide_eq_true q,if_true];exact Ph (h n p S0 a b u)
   ·simp only[decide_eq_false q,KL,if_false];have hall:∀k,k<n->Rk r p (lo+k)=Rk r p (lo+n-1):=λk hk=>by
     have a1:=u 0 k `o hk;have a2:=u k (n-1) `o `o;rw[Nat.add_zero]at a1;rw[show lo+(n-1)=lo+n-1 by omega]at a2;omega
    have hr:∀k,Rk r (O6 p lo (lo+n)) k=Rk r p k:=λk=>by
     have:=pG (r:=r) (p:=p) (lo:=lo) (n:=n) (q:=n-1) `o `o (λi _ hi=>hall i hi) k
     rwa [show lo+n-(n-1+1)=lo by omega]at this
    refine O9 (jO (xR hc (hp.rev _ _) h0 `o (λi j hij hj=>?_) (h.on (jI.rev hp (Ka _) `o))));rw[hr,hr];by_cases hjn:j<n
    ·rw[hall i `o,hall j hjn];exact Ka _
    ·have ej:j=n:=(by omega);subst ej;by_cases ei:i=j
     ·subst ei;exact Ka _
     ·rw[hall i `o];omega
  ·rw[if_neg hg];have en:n=1:=(by omega);subst en;refine xR hc hp h0 `o (λi j hij hj=>?_) h;by_cases ei:i=j
   ·subst ei;exact Ka _
   ·have e0:i=0:=(by omega);have e1:j=1:=(by omega);subst e0 e1;exact JZ hlt
theorem Bs(hc:bz (Pk prog w A κ it) r N s){p:Array Nat}(hp:PM N p){lo k:Nat}(hk:lo+k<N)(u:Av r lo p k){Q:Option Bool×Nat×Nat->O8->Prop}
  (h:∀l t,l<=k->(∀i,i<l->Rk r p (lo+i)<=Rk r p (lo+k))->(∀i,l<=i->i<k->Rk r p (lo+k)<Rk r p (lo+i))->Q (none,l,t) (Zs κ it pd g p)):wpS `g A E s (Fj lo k) Q (Zs κ it pd g p):=by
 unfold Fj;refine Pb (I:=λx c st'=>st'=Zs κ it pd g p/\∃l t,c=(none,l,t)/\l<=t/\t<=k/\t-l<=k-x/\(∀i,i<l->Rk r p (lo+i)<=Rk r p (lo+k))/\∀i,t<=i->i<k->Rk r p (lo+k)<Rk r p (lo+i)) ?_ ?_ ⟨rfl,0,k,rfl,by omega,by omega,by omega,λi hi=>by omega,λi a b=>by omega⟩
 ·rintro x c st' _ hx ⟨rfl,l,t,rfl,a1,a2,a3,a4,a5⟩;dsimp only;by_cases z:l>=t
  ·rw[if_pos z]
   have:l=t:=(by omega);subst this;exact Ph (h l l a2 a4 a5)
  ·rw[if_neg z];refine O9 (jj hc hp `o `o ?_);by_cases q:Rk r p (lo+k)<Rk r p (lo+(l+t)/2)
   ·simp only[decide_eq_true q,if_true];refine Ph ⟨rfl,l,(l+t)/2,rfl,by omega,by omega,by omega,a4,λi x y=>?_⟩
    have:=u ((l+t)/2) i x y
    omega
   ·simp only[decide_eq_false q,KL,if_false];refine Ph ⟨rfl,(l+t)/2+1,t,rfl,by omega,by omega,by omega,λi x=>?_,a5⟩
    have:=u i ((l+t)/2) `o `o
    omega
 ·rintro c st' ⟨rfl,l,t,rfl,a1,a2,a3,a4,a5⟩
  have:l=t:=by omega
  subst this;exact h l l a2 a4 a5
theorem jI.bub{N lo k d:Nat}{p:Array Nat}(h:PM N p)(hk:k<N)(hd:lo+d<=k):jI N lo p (bubble p k d):=⟨(bubble_perm p k d).trans h,λi hi=>by
 have:=ul (r:=id) (p:=p) (src:=k) (d:=d) (by rw[h.size];exact hk) `o i
 rw[if_neg `o,if_neg `o]at this;exact this⟩
theorem ng(hc:bz (Pk prog w A κ it) r N s){p:Array Nat}(hp:PM N p){lo n ok:Nat}(h0:lo+n<=N)(h1:1<=ok)(h2:ok<=n)(u:Av r lo p ok){Q:Bool->O8->Prop}
  (h:∀p',jI N lo p p'->Av r lo p' n->Q true (Zs κ it pd g p')):wpS `g A E s (binarySort' lo n ok) Q (Zs κ it pd g p):=by
 rw[nF];refine O9 (Pa (Pb (I:=λk c st'=>c=(none,())/\∃p',st'=Zs κ it pd g p'/\jI N lo p p'/\Av r lo p' k)
  (Q:=λc st'=>c=(none,())/\∃p',st'=Zs κ it pd g p'/\jI N lo p p'/\Av r lo p' n) ?_ ?_ ⟨rfl,p,rfl,⟨hp,λ_ _=>rfl⟩,by rw[show max ok 1=ok by omega];exact u⟩) ?_)
 ·rintro k c st' k1 k2 ⟨rfl,p',rfl,S,u'⟩;have hs:=S.pm.size;refine O9 (Bs hc S.pm `o u' λl t hl d e'=>?_);dsimp only;refine O9 (yR (Ph ⟨rfl,_,rfl,S.trans (jI.bub S.pm `o `o),λi j hij hj=>?_⟩));rw[ul `o `o,ul `o `o,show lo+k-(lo+k-(lo+l))=lo+l by omega];have U:=u';by_cases i1:i=l
  ·rw[if_pos `o];by_cases j1:j=l
   ·rw[if_pos `o];exact Ka _
   ·rw[if_neg `o,if_pos `o]
    have:=e' (j-1) `o `o
    rw[show lo+(j-1)=lo+j-1 by omega]at this;exact JZ this
  ·rw[if_neg `o];by_cases i2:l<i/\i<=k
   ·rw[if_pos `o,if_neg `o,if_pos `o]
    have:=U (i-1) (j-1) `o `o
    rwa [show lo+(i-1)=lo+i-1 by omega,show lo+(j-1)=lo+j-1 by omega]at this
   ·rw[if_neg `o];by_cases j1:j=l
    ·rw[if_pos `o];exact d i `o
    ·rw[if_neg `o];by_cases j2:l<j/\j<=k
     ·rw[if_pos `o]
      have:=U i (j-1) `o `o
      rwa [show lo+(j-1)=lo+j-1 by omega]at this
     ·rw[if_neg `o];exact U _ _ hij `o
 ·rintro c st' ⟨rfl,p',rfl,S,u'⟩;rw[show max (max ok 1) n=n by omega]at u';exact⟨rfl,p',rfl,S,u'⟩
 ·rintro c st' ⟨rfl,p',rfl,S,u'⟩;exact Ph (h p' S u')
end
end TG
namespace TG
open PySem PySem.Spec PyProof.Rows PySem.W L2
variable[aj]
noncomputable def Gm(o:Nat)(z:Array O7)(a:Array O7):Array O7:=z.toList.zipIdx.foldl (λa x=>a.setIfInBounds (o+x.2) x.1) a
noncomputable def Hx(st:O8)(sa na sb nb:Nat):StateT O8 Sem Bool:=do
 let y<-elem' (arrOf st) sb
 let c<-dY false y (arrOf st) sa na 0
 match c with
 |some k=>
  if(na-k==0)=true then pure true
  else do
   let x<-elem' (arrOf st) (sa+k+(na-k)-1)
   let c<-dY true x (arrOf st) sb nb (nb-1)
   match c with
   |some m=>
    if(m==0)=true then pure true
    else do
     let z<-if na-k<=m then mD ((arrOf st).extract (sa+k) sb) ((arrOf st).extract sb (sb+m))else mC ((arrOf st).extract (sa+k) sb) ((arrOf st).extract sb (sb+m))
     modify λs=>setArr s (Gm (sa+k) z (arrOf s))
     let s<-get
     pure (failedOf s).isNone
   |_=>pure false
 |_=>pure false
theorem sE(i:Nat):mergeAt' i=(do
 let s<-get
 match(pendingOf s)[i]?,(pendingOf s)[i+1]? with
 |some (sa,na,power),some (sb,nb,_)=>do
  set (setPending s (((pendingOf s).setIfInBounds i (sa,na+nb,power)).eraseIdxIfInBounds (i+1)))
  Hx s sa na sb nb
 |_,_=>liftM (unsupported "internal:list.sort.pending":Sem Bool)):=by kernel_rfl
section
variable{f:Nat->O7}
theorem ya(o:Nat):∀(l:aR)(j:Nat)(p:Array Nat),((l.map f).zipIdx j).foldl (λa x=>a.setIfInBounds (o+x.2) x.1) (p.map f)=((l.zipIdx j).foldl (λa x=>a.setIfInBounds (o+x.2) x.1) p).map f
 |[],_,_=>rfl
 |x::l,j,p=>by
  rw[Kw,LY,LY,LZ,LZ];have e:(p.map f).setIfInBounds (o+j) (f x)=(p.setIfInBounds (o+j) x).map f:=by simp
  show(((l.map f).zipIdx (j+1)).foldl _ ((p.map f).setIfInBounds (o+j) (f x)))=_;rw[e];exact ya o l (j+1) _
theorem uX(o:Nat):∀(l:aR)(j:Nat)(p:Array Nat)(X m Y:aR),p.toList=X++m++Y->X.length=o+j->m.length=l.length->((l.zipIdx j).foldl (λa x=>a.setIfInBounds (o+x.2) x.1) p).toList=X++l++Y
 |[],_,p,X,m,Y,e,_,h=>by
  rw[KC,L0]at h;subst h;exact e
 |x::l,j,p,X,[],Y,_,_,h=>by cases h
 |x::l,j,p,X,y::m,Y,e,hX,h=>by
  rw[LY,LZ];have z:(p.setIfInBounds (o+j) x).toList=(X++[x])++m++Y:=by
   rw[Array.toList_setIfInBounds,e,<-hX];simp
  have:=uX o l (j+1) _ (X++[x]) m Y z (by rw[Kl,Ku];omega) (by simpa using h)
  rw[this];simp
end
theorem gD(p:Array Nat)(k:Nat):p.getD k 0=(p.toList[k]?).getD 0:=by simp
theorem yh{p:Array Nat}{X Z:aR}(e:p.toList=X++Z)(i:Nat):p.getD (X.length+i) 0=(Z[i]?).getD 0:=by
 rw[gD,e,Kf `o,LQ]
theorem g8{r:Nat->Nat}{L:aR}(h:L.Pairwise λx y=>r x<=r y){i j:Nat}(hij:i<=j)(hj:j<L.length):r ((L[i]?).getD 0)<=r ((L[j]?).getD 0):=by
 have hi:i<L.length:=by omega
 rw[KY hi,KY hj];by_cases z:i=j
 ·subst z;exact Ka _
 ·exact List.pairwise_iff_getElem.mp h i j hi hj `o
theorem xP.of{r:Nat->Nat}{a:Array Nat}{L:aR}(e:a.toList=L)(h:L.Pairwise λx y=>r x<=r y):xP r a:=λi j hij hj=>by
 have hl:L.length=a.size:=by rw[<-e,Array.length_toList]
 rw[gD,gD,e];exact g8 h hij `o
section
variable{prog:NV}{w:NU}{A:N4}{E:az}{s:NT}{κ:Pj}{it:Array O7}{r:Nat->Nat}{N:Nat}{pd pd':Array (Nat×Nat×Nat)}{g:Nat}
theorem D8(hc:bz (Pk prog w A κ it) r N s){p:Array Nat}{X L M Y:aR}(hp:PM N p)(e:p.toList=X++(L++M)++Y)(hL:L.Pairwise λx y=>r x<=r y)(hM:M.Pairwise λx y=>r x<=r y)(nL:0<L.length)(nM:0<M.length){Q:Bool->O8->Prop}
  (h:∀p' W g',p'.toList=X++W++Y->W.Perm (L++M)->(W.Pairwise λx y=>r x<=r y)->Q true (Zs κ it pd' g' p')):wpS `g A E s (Hx (Zs κ it pd g p) X.length L.length (X.length+L.length) M.length) Q (Zs κ it pd' g p):=by
 have hs:=hp.size;have sz:p.size=X.length+(L.length+M.length)+Y.length:=by
  rw[<-Array.length_toList,e];simp;omega
 have hq:∀x∈p.toList,x<N:=λx hx=>by
  obtain⟨i,hi,rfl⟩:=LI hx;rw[Array.length_toList]at hi
  have:=hp.lt (i:=i) `o
  have z:p.getD i 0=p[i]:=by simp[Array.getD,hi]
  rw[z]at this
  simpa using this
 have eL:∀i,i<L.length->p.getD (X.length+i) 0=(L[i]?).getD 0:=λi hi=>by
  rw[yh (X:=X) (Z:=(L++M)++Y) (by rw[e,Li]),Li,Kh hi]
 have eM:∀i,i<M.length->p.getD (X.length+L.length+i) 0=(M[i]?).getD 0:=λi hi=>by
  have:=yh (p:=p) (X:=X++L) (Z:=M++Y) (by rw[e];simp) i
  rw[Kl]at this;rw[this,Kh hi]
 have e0:p.getD (X.length+L.length) 0=(M[0]?).getD 0:=eM 0 nM;have mL:∀x∈L,∃i,i<L.length/\x=(L[i]?).getD 0:=λx hx=>by
  obtain⟨i,hi,rfl⟩:=LI hx;exact⟨i,hi,by rw[KY hi];rfl⟩
 have mM:∀x∈M,∃i,i<M.length/\x=(M[i]?).getD 0:=λx hx=>by
  obtain⟨i,hi,rfl⟩:=LI hx;exact⟨i,hi,by rw[KY hi];rfl⟩
 have all:(∀x∈L,∀y∈M,r x<=r y)->∀g',Q true (Zs κ it pd' g' p):=λq g'=>h p (L++M) g' e (List.Perm.refl _) (List.pairwise_append.mpr ⟨hL,hM,q⟩);unfold Hx;refine O9 (aJ (q:=p) `o ?_);refine O9 (ie (q:=p) (left:=false) (k:=p.getD (X.length+L.length) 0) (base:=X.length) (n:=L.length) (hint:=0) hc (hp.lt `o) `o nL hq (λi j hij hj=>by rw[eL i `o,eL j hj];exact g8 hL hij hj) rfl λk k1 k2 k3=>?_);dsimp only;have le:∀i,i<k->r ((L[i]?).getD 0)<=r ((M[0]?).getD 0):=λi hi=>by
  have:=k2 i hi
  rw[eL i `o,e0]at this
  simpa [rK]using this
 have gt:∀i,k<=i->i<L.length->r ((M[0]?).getD 0)<r ((L[i]?).getD 0):=λi hi hj=>by
  have:=k3 i hi hj
  rw[eL i hj,e0]at this
  simpa [rK]using this
 by_cases z:L.length-k=0
 ·rw[if_pos (by simpa using z)];refine Ph (all (λx hx y hy=>?_) g);obtain⟨i,hi,rfl⟩:=mL x hx;obtain⟨j,hj,rfl⟩:=mM y hy;exact JY (le i `o) (g8 hM (KH _) hj)
 ·rw[if_neg (by simpa using z)];have el:p.getD (X.length+k+(L.length-k)-1) 0=(L[L.length-1]?).getD 0:=by
   rw[show X.length+k+(L.length-k)-1=X.length+(L.length-1)by omega];exact eL _ `o
  refine O9 (aJ (q:=p) `o ?_);refine O9 (ie (q:=p) (left:=true) (k:=p.getD (X.length+k+(L.length-k)-1) 0) (base:=X.length+L.length) (n:=M.length) (hint:=M.length-1) hc (hp.lt `o) `o `o hq (λi j hij hj=>by rw[eM i `o,eM j hj];exact g8 hM hij hj) rfl λm m1 m2 m3=>?_);dsimp only;have lt:∀i,i<m->r ((M[i]?).getD 0)<r ((L[L.length-1]?).getD 0):=λi hi=>by
   have:=m2 i hi
   rw[eM i `o,el]at this
   simpa [rK]using this
  have ge:∀i,m<=i->i<M.length->r ((L[L.length-1]?).getD 0)<=r ((M[i]?).getD 0):=λi hi hj=>by
   have:=m3 i hi hj
   rw[eM i hj,el]at this
   simpa [rK]using this
  by_cases y:m=0
  ·rw[if_pos (by simpa using y)];refine Ph (all (λx hx y hy=>?_) g);obtain⟨i,hi,rfl⟩:=mL x hx;obtain⟨j,hj,rfl⟩:=mM y hy;exact JY (g8 hL `o `o) (ge j `o hj)
  ·rw[if_neg (by simpa using y)];have ea:(p.extract (X.length+k) (X.length+L.length)).toList=L.drop k:=by
    rw[eJ,e,show X.length+L.length-(X.length+k)=L.length-k by omega,<-LK,Li,L1,Li,List.drop_append_of_le_length `o];exact List.take_left' (by rw[Kq])
   have eb:(p.extract (X.length+L.length) (X.length+L.length+m)).toList=M.take m:=by
    rw[eJ,e,LQ,<-LK,Li,L1,Li,L1,List.take_append_of_le_length m1]
   have sa:(p.extract (X.length+k) (X.length+L.length)).size=L.length-k:=(by rw[<-Array.length_toList,ea,Kq]);have sb:(p.extract (X.length+L.length) (X.length+L.length+m)).size=m:=(by rw[<-Array.length_toList,eb,Ke];omega);have T:v4 r N (p.extract (X.length+k) (X.length+L.length)) (p.extract (X.length+L.length) (X.length+L.length+m)):=⟨xP.of ea (List.Pairwise.sublist (L3 _ _) hL),xP.of eb (List.Pairwise.sublist (Kj _ _) hM),
    λx hx=>by rw[ea]at hx;exact hq x (by rw[e];simp[LO hx]),λx hx=>by rw[eb]at hx;exact hq x (by rw[e];simp[LX hx])⟩
   have la:(p.extract (X.length+k) (X.length+L.length)).getD ((p.extract (X.length+k) (X.length+L.length)).size-1) 0=(L[L.length-1]?).getD 0:=by
    rw[gD,ea,sa,La,show k+(L.length-k-1)=L.length-1 by omega]
   have fb:(p.extract (X.length+L.length) (X.length+L.length+m)).getD 0 0=(M[0]?).getD 0:=by
    rw[gD,eb,L4,if_pos `o]
   have fa:(p.extract (X.length+k) (X.length+L.length)).getD 0 0=(L[k]?).getD 0:=by
    rw[gD,ea,La,Nat.add_zero]
   have hl:∀y∈(p.extract (X.length+L.length) (X.length+L.length+m)).toList,r y<=r ((p.extract (X.length+k) (X.length+L.length)).getD ((p.extract (X.length+k) (X.length+L.length)).size-1) 0):=λy hy=>by
    rw[la];rw[eb]at hy;obtain⟨i,hi,rfl⟩:=LI hy;rw[Ke]at hi
    have:=lt i `o
    rw[KY (show i<M.length by omega)]at this;rw[LJ];exact JZ this
   have hf:∀x∈(p.extract (X.length+k) (X.length+L.length)).toList,r ((p.extract (X.length+L.length) (X.length+L.length+m)).getD 0 0)<=r x:=λx hx=>by
    rw[fb];rw[ea]at hx;obtain⟨i,hi,rfl⟩:=LI hx;rw[Kq]at hi
    have:=gt (k+i) `o `o
    rw[KY (show k+i<L.length by omega)]at this;rw[L5];exact JZ this
   have fin:∀x g',fg it r ((p.extract (X.length+k) (X.length+L.length)).toList++(p.extract (X.length+L.length) (X.length+L.length+m)).toList) x->wpS `g A E s (do modify (λs=>setArr s (Gm (X.length+k) x (arrOf s)));let s<-get;pure (failedOf s).isNone) Q (setG (Zs κ it pd' g p) g'):=λx g' F=>by
    obtain⟨q,rfl,q1,q2⟩:=F;rw[ea,eb]at q2;have ew:Gm (X.length+k) (q.map (Pl it)) (p.map (Pl it))=((q.toList.zipIdx).foldl (λa x=>a.setIfInBounds (X.length+k+x.2) x.1) p).map (Pl it):=by
     unfold Gm;rw[Array.toList_map];exact ya _ _ _ _
    have el:((q.toList.zipIdx).foldl (λa x=>a.setIfInBounds (X.length+k+x.2) x.1) p).toList=(X++L.take k)++q.toList++(M.drop m++Y):=by
     refine uX _ _ 0 p (X++L.take k) (L.drop k++M.take m) (M.drop m++Y) ?_ (by rw[Kl,Ke];omega) (q2.length_eq).symm;rw[e,show X++L.take k++(L.drop k++M.take m)++(M.drop m++Y)=X++((L.take k++L.drop k)++(M.take m++M.drop m))++Y by simp only[Li],LL,LL]
    refine O9 (Pq (O9 (Pm (Ph ?_))))
    have:=h _ (L.take k++q.toList++M.drop m) g' (by rw[el];simp) (by
     conv=>rhs;rw[<-LL k L,<-LL m M]
     rw[Li,Li];refine List.Perm.append_left _ ?_;rw[<-Li];exact List.Perm.append_right _ q2) (by
     have mq:∀y∈q.toList,y∈L.drop k\/y∈M.take m:=λy hy=>List.mem_append.mp (q2.mem_iff.mp hy);have atk:∀x∈L.take k,∃i,i<k/\i<L.length/\x=(L[i]?).getD 0:=λx hx=>by
      obtain⟨i,hi,rfl⟩:=LI hx;rw[Ke]at hi;exact⟨i,by omega,by omega,by rw[LJ,KY (show i<L.length by omega)];rfl⟩
     have amd:∀x∈M.drop m,∃i,m<=i/\i<M.length/\x=(M[i]?).getD 0:=λx hx=>by
      obtain⟨i,hi,rfl⟩:=LI hx;rw[Kq]at hi;exact⟨m+i,by omega,by omega,by rw[L5,KY (show m+i<M.length by omega)];rfl⟩
     refine List.pairwise_append.mpr ⟨List.pairwise_append.mpr ⟨List.Pairwise.sublist (Kj _ _) hL,q1,λx hx y hy=>?_⟩,List.Pairwise.sublist (L3 _ _) hM,λx hx y hy=>?_⟩
     ·obtain⟨i,i1,i2,rfl⟩:=atk x hx;rcases mq y hy with w|w
      ·obtain⟨j,hj,rfl⟩:=LI w;rw[Kq]at hj
       have:=g8 hL (i:=i) (j:=k+j) `o `o
       rw[KY (show k+j<L.length by omega)]at this;rw[L5];exact this
      ·obtain⟨j,hj,rfl⟩:=mM y (LX w);exact JY (le i i1) (g8 hM (KH _) hj)
     ·obtain⟨j,j1,j2,rfl⟩:=amd y hy;rcases List.mem_append.mp hx with w|w
      ·obtain⟨i,i1,i2,rfl⟩:=atk x w;exact JY (le i i1) (g8 hM (KH _) j2)
      ·rcases mq x w with v|v
       ·obtain⟨i,hi,rfl⟩:=mL x (LO v);exact JY (g8 hL `o `o) (ge j j1 j2)
       ·obtain⟨i,hi,rfl⟩:=LI v;rw[Ke]at hi
        have:=g8 hM (i:=i) (j:=j) `o j2
        rw[KY (show i<M.length by omega)]at this;rw[LJ];exact this)
    show Q true (SortSt.mk' κ (Gm (X.length+k) (q.map (Pl it)) (p.map (Pl it))) pd' g' none);rw[ew];exact this
   rw[cW,cW];by_cases v:L.length-k<=m
   ·rw[if_pos v];exact O9 (tX (st:=Zs κ it pd' g p) hc rfl hl (by rw[fb,fa];exact JZ (gt k (Ka _) `o)) T `o `o fin)
   ·rw[if_neg v];exact O9 (tS (st:=Zs κ it pd' g p) hc rfl hl hf T `o `o fin)
end
end TG
namespace TG
open PySem PySem.Spec PyProof.Rows PySem.W L2
variable[aj]
noncomputable def Ea(size pw:Nat):StateT O8 Sem (Option Unit×Unit):=forIn [0:size] ((none,()):Option Unit×Unit) λ_ _=>do
 let s<-get
 match if(pendingOf s).size>1 then(pendingOf s)[(pendingOf s).size-2]? else none with
 |some (_,_,older)=>
  if older<=pw then pure (.done (none,()))
  else do
   let b<-mergeAt' ((pendingOf s).size-2)
   if(!b)=true then pure (.done (some (),()))else pure (.yield (none,()))
 |_=>pure (.done (none,()))
noncomputable def putL(lo n:Nat):StateT O8 Sem (ForInStep (Option Unit×Nat)):=do
 modify λs=>setPending s ((pendingOf s).push (lo,n,0))
 pure (.yield (none,lo+n))
noncomputable def CN(size lo n:Nat):StateT O8 Sem (ForInStep (Option Unit×Nat)):=do
 let s<-get
 match(pendingOf s).back? with
 |some (s1,n1,_)=>do
  let c<-Ea size (power' size (2*s1+n1) (2*s1+n1+n1+n) size)
  match c.1 with
  |some r=>pure (.done (some r,lo))
  |none=>do
   modify λs=>setPending s ((pendingOf s).modify ((pendingOf s).size-1) λx=>(x.1,x.2.1,power' size (2*s1+n1) (2*s1+n1+n1+n) size))
   putL lo n
 |_=>putL lo n
noncomputable def CD(size mr lo:Nat):StateT O8 Sem (ForInStep (Option Unit×Nat)):=
 if lo>=size then pure (.done (none,lo))
 else do
  let x<-countRun' lo (size-lo)
  match x with
  |some n=>
   if n<mr then do
    liftM (rule "list.sort.binary-insertion")
    let b<-binarySort' lo (min (size-lo) mr) n
    if(!b)=true then pure (.done (some (),lo))else CN size lo (min (size-lo) mr)
   else CN size lo n
  |_=>pure (.done (some (),lo))
noncomputable def endL(size:Nat):StateT O8 Sem (Option Unit×Unit):=forIn [0:size] ((none,()):Option Unit×Unit) λ_ _=>do
 let s<-get
 if(pendingOf s).size<=1 then pure (.done (none,()))
 else do
  let b<-mergeAt' (if Option.any (λx=>decide (x<(pendingOf s)[(pendingOf s).size-2+1]?.elim 0 λx=>x.2.1)) (if(pendingOf s).size-2>0 then Option.map (λx=>x.2.1) (pendingOf s)[(pendingOf s).size-2-1]? else none)=true then(pendingOf s).size-2-1 else(pendingOf s).size-2)
  if(!b)=true then pure (.done (some (),()))else pure (.yield (none,()))
theorem pL:sortRuns'=(do
  let s<-get
  let c<-forIn [0:(arrOf s).size] ((none,0):Option Unit×Nat) λ_ c=>CD (arrOf s).size (minRun' (arrOf s).size (arrOf s).size 0) c.2
  match c.1 with
  |some r=>pure r
  |none=>do
   let d<-endL (arrOf s).size
   match d.1 with
   |some r=>pure r
   |none=>pure ()):=by kernel_rfl
noncomputable def cU(r:Nat->Nat):Nat->List (aR)->List (Nat×Nat×Nat)->Prop
 |_,[],[]=>True
 |s,L::Ls,t::ts=>t.1=s/\t.2.1=L.length/\0<L.length/\(L.Pairwise λx y=>r x<=r y)/\cU r (s+L.length) Ls ts
 |_,_,_=>False
section
variable{r:Nat->Nat}
theorem cU.length:∀{Rs:List aR}{ts:List (Nat×Nat×Nat)}{s:Nat},cU r s Rs ts->Rs.length=ts.length
 |[],[],_,_=>rfl
 |_::_,_::_,_,h=>by rw[KA,KA,cU.length h.2.2.2.2]
 |[],_::_,_,h=>h.elim
 |_::_,[],_,h=>h.elim
theorem cU.split:∀{R1 R2:List aR}{ts:List (Nat×Nat×Nat)}{s:Nat},cU r s (R1++R2) ts->∃t1 t2,ts=t1++t2/\t1.length=R1.length/\cU r s R1 t1/\cU r (s+R1.flatten.length) R2 t2
 |[],R2,ts,s,h=>⟨[],ts,rfl,rfl,True.intro,h⟩
 |L::R1,R2,[],s,h=>h.elim
 |L::R1,R2,t::ts,s,h=>by
  obtain⟨h1,h2,h3,h4,h5⟩:=h;obtain⟨t1,t2,rfl,e,a,b⟩:=cU.split h5;refine⟨t::t1,t2,rfl,by rw[KA,KA,e],⟨h1,h2,h3,h4,a⟩,?_⟩;rw[L6,Kl,<-L7];exact b
theorem cU.join:∀{R1 R2:List aR}{t1 t2:List (Nat×Nat×Nat)}{s:Nat},cU r s R1 t1->cU r (s+R1.flatten.length) R2 t2->cU r s (R1++R2) (t1++t2)
 |[],R2,[],t2,s,_,h=>h
 |[],_,_::_,_,_,h,_=>h.elim
 |_::_,_,[],_,_,h,_=>h.elim
 |L::R1,R2,t::t1,t2,s,h,h'=>by
  obtain⟨h1,h2,h3,h4,h5⟩:=h;refine⟨h1,h2,h3,h4,cU.join h5 ?_⟩;rw[L6,Kl,<-L7]at h';exact h'
theorem cU.last{f:Nat×Nat×Nat->Nat×Nat×Nat}(hf:∀x,(f x).1=x.1/\(f x).2.1=x.2.1):∀{Rs:List aR}{ts:List (Nat×Nat×Nat)}{s:Nat}(i:Nat),cU r s Rs ts->cU r s Rs (ts.modify i f)
 |[],[],_,_,_=>by simp[cU]
 |L::Rs,t::ts,s,0,h=>by
  obtain⟨h1,h2,h3,h4,h5⟩:=h;exact⟨(hf t).1.trans h1,(hf t).2.trans h2,h3,h4,h5⟩
 |L::Rs,t::ts,s,i+1,h=>by
  obtain⟨h1,h2,h3,h4,h5⟩:=h;exact⟨h1,h2,h3,h4,cU.last hf i h5⟩
 |[],_::_,_,_,h=>h.elim
 |_::_,[],_,_,h=>h.elim
end
section
variable{prog:NV}{w:NU}{A:N4}{E:az}{s:NT}{κ:Pj}{it:Array O7}{r:Nat->Nat}{N:Nat}
noncomputable def eN(κ:Pj)(it:Array O7)(r:Nat->Nat)(N m lo:Nat)(Y:aR)(st:O8):Prop:=∃(p:Array Nat)(pd:Array (Nat×Nat×Nat))(g:Nat)(Rs:List aR),st=Zs κ it pd g p/\PM N p/\p.toList=Rs.flatten++Y/\Rs.flatten.length=lo/\cU r 0 Rs pd.toList/\Rs.length=m
theorem m8(hc:bz (Pk prog w A κ it) r N s){m lo i:Nat}{Y:aR}{st:O8}(h:eN κ it r N m lo Y st)(hi:i+1<m){Q:Bool->O8->Prop}(hQ:∀st',eN κ it r N (m-1) lo Y st'->Q true st'):wpS `g A E s (mergeAt' i) Q st:=by
 obtain⟨p,pd,g,Rs,rfl,hp,e,el,hR,em⟩:=h;obtain⟨R1,L,M,R2,rfl,e1⟩:∃R1 L M R2,Rs=R1++L::M::R2/\R1.length=i:=by
  refine⟨Rs.take i,Rs[i],Rs[i+1],Rs.drop (i+2),?_,by rw[Ke];omega⟩;rw[<-Lg,<-Lg,LL]
 obtain⟨t1,t2,et,e2,q1,q2⟩:=cU.split hR
 match t2,q2 with
 |(sa,na,pw)::(sb,nb,pw')::t3,q2=>
  obtain⟨a1,a2,a3,a4,b1,b2,b3,b4,b5⟩:=q2;rw[LV]at a1 b1;have a1:sa=R1.flatten.length:=a1;have a2:na=L.length:=a2;have b1:sb=R1.flatten.length+L.length:=b1;have b2:nb=M.length:=b2;subst a1 a2 b1 b2;have g1:pd[i]?=some (R1.flatten.length,L.length,pw):=by
   rw[<-Array.getElem?_toList,et,Kf `o,show i-t1.length=0 by omega];rfl
  have g2:pd[i+1]?=some (R1.flatten.length+L.length,M.length,pw'):=by
   rw[<-Array.getElem?_toList,et,Kf `o,show i+1-t1.length=1 by omega];rfl
  have ep:((pd.setIfInBounds i (R1.flatten.length,L.length+M.length,pw)).eraseIdxIfInBounds (i+1)).toList=t1++(R1.flatten.length,L.length+M.length,pw)::t3:=by
   have:i=t1.length:=(by omega);subst this;simp[et];rw[show t1.length+1=t1.length+1 from rfl,List.eraseIdx_append_of_length_le `o,show t1.length+1-t1.length=1 by omega];rfl
  rw[sE];refine O9 (Pm ?_);show wpS _ _ _ _ (match pd[i]?,pd[i+1]? with
   |some (sa,na,power),some (sb,nb,_)=>do
    set (setPending (Zs κ it pd g p) ((pd.setIfInBounds i (sa,na+nb,power)).eraseIdxIfInBounds (i+1)))
    Hx (Zs κ it pd g p) sa na sb nb
   |_,_=>liftM (unsupported "internal:list.sort.pending":Sem Bool)) Q _
  rw[g1,g2];dsimp only;refine O9 ?_;have ws:∀(st1 st0:O8)(Q:PUnit->O8->Prop),Q ⟨⟩ st1->wpS `g A E s (set st1:StateT O8 Sem PUnit) Q st0:=λst1 st0 Q h=>by
   unfold wpS;rw[StateT.run_set];exact Oi ⟨rfl,h⟩
  refine ws _ _ _ ?_;show wpS _ _ _ _ _ Q (Zs κ it ((pd.setIfInBounds i (R1.flatten.length,L.length+M.length,pw)).eraseIdxIfInBounds (i+1)) g p);have e':p.toList=R1.flatten++(L++M)++(R2.flatten++Y):=by rw[e];simp
  refine D8 (X:=R1.flatten) hc hp e' a4 b4 a3 b3 λp' W g' z1 z2 z3=>hQ _ ⟨p',_,g',R1++W::R2,rfl,?_,by rw[z1];simp,?_,?_,?_⟩
  ·refine Array.Perm.trans ?_ hp;refine Array.perm_iff_toList_perm.mpr ?_;rw[z1,e'];exact List.Perm.append_right _ (List.Perm.append_left _ z2)
  ·have:=z2.length_eq
   rw[Kl]at this;simp[this]at el ⊢;omega
  ·rw[ep];have wl:=z2.length_eq;rw[Kl]at wl;refine cU.join q1 ⟨by simp,wl.symm,by omega,z3,?_⟩;rw[wl,<-L7];exact b5
  ·simp at em ⊢;omega
 |[],q2=>exact q2.elim
 |[_],q2=>exact(q2.2.2.2.2).elim
theorem AF(hc:bz (Pk prog w A κ it) r N s){size pw m lo:Nat}{Y:aR}{st:O8}(h:eN κ it r N m lo Y st)(hm:0<m){Q:Option Unit×Unit->O8->Prop}(hQ:∀m' st',0<m'->m'<=m->eN κ it r N m' lo Y st'->Q (none,()) st'):wpS `g A E s (Ea size pw) Q st:=by
 unfold Ea;refine Pb (I:=λ_ c st'=>c=(none,())/\∃m',0<m'/\m'<=m/\eN κ it r N m' lo Y st') ?_ ?_ ⟨rfl,m,hm,Ka _,h⟩
 ·rintro x c st' _ _ ⟨rfl,m',h1,h2,S⟩;have S':=S;obtain⟨p,pd,g,Rs,rfl,hp,e,el,hR,em⟩:=S';have sz:pd.size=m':=by rw[<-Array.length_toList,<-hR.length,em]
  refine O9 (Pm ?_);rw[show pendingOf (Zs κ it pd g p)=pd from rfl];by_cases z:pd.size>1
  ·rw[if_pos z,getElem?_pos pd (pd.size-2) `o];dsimp only;split
   ·exact Ph (hQ m' _ h1 h2 S)
   ·refine O9 (m8 hc S `o λst' S'=>?_);simp only[LA,KL,if_false];exact Ph ⟨rfl,m'-1,by omega,by omega,S'⟩
  ·rw[if_neg z];exact Ph (hQ m' _ h1 h2 S)
 ·rintro c st' ⟨rfl,m',h1,h2,S⟩;exact hQ m' st' h1 h2 S
theorem Cp(hc:bz (Pk prog w A κ it) r N s){size m lo:Nat}{Y:aR}{st:O8}(h:eN κ it r N m lo Y st)(hm:0<m)(hs:m<=size){Q:Option Unit×Unit->O8->Prop}(hQ:∀st',eN κ it r N 1 lo Y st'->Q (none,()) st'):wpS `g A E s (endL size) Q st:=by
 unfold endL;refine Pb (I:=λx c st'=>c=(none,())/\∃m',0<m'/\(m'=1\/m'+x<=m)/\eN κ it r N m' lo Y st') ?_ ?_ ⟨rfl,m,hm,.inr `o,h⟩
 ·rintro x c st' _ _ ⟨rfl,m',h1,h2,S⟩;have S':=S;obtain⟨p,pd,g,Rs,rfl,hp,e,el,hR,em⟩:=S';have sz:pd.size=m':=by rw[<-Array.length_toList,<-hR.length,em]
  refine O9 (Pm ?_);rw[show pendingOf (Zs κ it pd g p)=pd from rfl];by_cases z:pd.size<=1
  ·rw[if_pos z]
   have:m'=1:=(by omega);subst this;exact Ph (hQ _ S)
  ·rw[if_neg z];refine O9 (m8 hc S ?_ λst' S'=>?_)
   ·have:∀(b:Prop)[Decidable b],(if b then pd.size-2-1 else pd.size-2)+1<m':=λb _=>by split<;>omega
    exact this _
   ·simp only[LA,KL,if_false];exact Ph ⟨rfl,m'-1,by omega,by omega,S'⟩
 ·rintro c st' ⟨rfl,m',h1,h2,S⟩
  have:m'=1:=by omega
  subst this;exact hQ st' S
noncomputable abbrev D7(κ:Pj)(it:Array O7)(r:Nat->Nat)(N lo n:Nat)(Y:aR)(c:ForInStep (Option Unit×Nat))(st':O8):Prop:=∃m,c=.yield (none,lo+n)/\0<m/\eN κ it r N m (lo+n) Y st'
theorem vD{m lo:Nat}{L Y:aR}{st:O8}(h:eN κ it r N m lo (L++Y) st)(hL:L.Pairwise λx y=>r x<=r y)(h0:0<L.length):wpS `g A E s (putL lo L.length) (D7 κ it r N lo L.length Y) st:=by
 obtain⟨p,pd,g,Rs,rfl,hp,e,el,hR,em⟩:=h;unfold putL;refine O9 (Pq (Ph ⟨m+1,rfl,by omega,p,pd.push (lo,L.length,0),g,Rs++[L],rfl,hp,by rw[e];simp,by simp;simp at el;omega,?_,by simp[em]⟩));rw[Array.toList_push];exact cU.join hR ⟨by rw[LV];exact el.symm,rfl,h0,hL,True.intro⟩
theorem uU(hc:bz (Pk prog w A κ it) r N s){size m lo:Nat}{L Y:aR}{st:O8}(h:eN κ it r N m lo (L++Y) st)(hL:L.Pairwise λx y=>r x<=r y)(h0:0<L.length):wpS `g A E s (CN size lo L.length) (D7 κ it r N lo L.length Y) st:=by
 have h':=h;obtain⟨p,pd,g,Rs,rfl,hp,e,el,hR,em⟩:=h';have sz:pd.size=m:=by rw[<-Array.length_toList,<-hR.length,em]
 unfold CN;refine O9 (Pm ?_);rw[show pendingOf (Zs κ it pd g p)=pd from rfl];cases hb:pd.back? with
 |none=>exact vD h hL h0
 |some t=>
  obtain⟨s1,n1,o⟩:=t;have m0:0<m:=by
   rcases L8 m with z|z
   ·rw[Array.back?_eq_getElem?,getElem?_neg pd _ `o]at hb;cases hb
   ·exact z
  dsimp only;refine O9 (AF hc h m0 λm' st' h1 h2 S=>?_);dsimp only;obtain⟨p',pd',g',Rs',rfl,hp',e',el',hR',em'⟩:=S;refine O9 (Pq ?_);refine vD (m:=m') ⟨p',pd'.modify (pd'.size-1) λx=>(x.1,x.2.1,power' size (2*s1+n1) (2*s1+n1+n1+L.length) size),g',Rs',rfl,hp',e',el',?_,em'⟩ hL h0
  have:(pd'.modify (pd'.size-1) λx=>(x.1,x.2.1,power' size (2*s1+n1) (2*s1+n1+n1+L.length) size)).toList=pd'.toList.modify (pd'.size-1) λx=>(x.1,x.2.1,power' size (2*s1+n1) (2*s1+n1+n1+L.length) size):=by simp
  rw[this];exact cU.last (f:=λx=>(x.1,x.2.1,power' size (2*s1+n1) (2*s1+n1+n1+L.length) size)) (λx=>⟨rfl,rfl⟩) _ hR'
theorem o4{m lo n:Nat}{Y:aR}{p p':Array Nat}{pd:Array (Nat×Nat×Nat)}{g:Nat}{Rs:List aR}(hp:PM N p)(e:p.toList=Rs.flatten++Y)(el:Rs.flatten.length=lo)(hR:cU r 0 Rs pd.toList)(em:Rs.length=m)(S:jI N lo p p')(u:Av r lo p' n)(hn:lo+n<=N):
  ∃L Y',L.length=n/\(L.Pairwise λx y=>r x<=r y)/\eN κ it r N m lo (L++Y') (Zs κ it pd g p'):=by
 have hs:=hp.size;have hs':=S.pm.size;have tk:p'.toList.take lo=Rs.flatten:=by
  have t0:p.toList.take lo=Rs.flatten:=by rw[e,<-el,L9]
  rw[<-t0];refine Mb λi=>?_;rw[L4,L4];by_cases z:i<lo
  ·rw[if_pos z,if_pos z];have q:=S.eq i z;rw[gD,gD,KY (by rw[Array.length_toList];omega),KY (by rw[Array.length_toList];omega)]at q;rw[KY (by rw[Array.length_toList];omega),KY (by rw[Array.length_toList];omega)];exact congrArg some q
  ·rw[if_neg z,if_neg z]
 have sp:p'.toList=Rs.flatten++p'.toList.drop lo:=by rw[<-tk,LL]
 have ln:((p'.toList.drop lo).take n).length=n:=by rw[Ke,Kq,Array.length_toList];omega
 refine⟨(p'.toList.drop lo).take n,(p'.toList.drop lo).drop n,ln,List.pairwise_iff_getElem.mpr λi j hi hj hij=>?_,p',pd,g,Rs,rfl,S.pm,by rw[LL];exact sp,el,hR,em⟩;rw[ln]at hi hj;have q:=u i j `o hj;have ga:∀k (hk:k<((p'.toList.drop lo).take n).length),p'.getD (lo+k) 0=((p'.toList.drop lo).take n)[k]:=λk hk=>by
  rw[ln]at hk;rw[gD,KY (by rw[Array.length_toList];omega),LJ,L5];rfl
 show r _<=r _;rw[<-ga,<-ga];exact q
theorem CA(hc:bz (Pk prog w A κ it) r N s){mr m lo:Nat}{Y:aR}{st:O8}(h:eN κ it r N m lo Y st)(hlo:lo<N):wpS `g A E s (CD N mr lo) (λc st'=>∃n Y',0<n/\lo+n<=N/\D7 κ it r N lo n Y' c st') st:=by
 obtain⟨p,pd,g,Rs,rfl,hp,e,el,hR,em⟩:=h;unfold CD;rw[if_neg `o];refine O9 (qA hc hp `o `o λn p' S n1 n2 u=>?_);dsimp only;by_cases z:n<mr
 ·rw[if_pos z];refine O9 (Pn (O2 ⟨rfl,?_⟩));refine O9 (ng hc S.pm `o n1 `o u λp2 S2 u2=>?_);simp only[LA,KL,if_false];obtain⟨L,Y',l1,l2,l3⟩:=o4 (κ:=κ) (it:=it) (m:=m) (g:=g) hp e el hR em (S.trans S2) u2 `o
  have:=uU (E:=E) (size:=N) hc l3 l2 `o
  rw[l1]at this;exact Pa this λc st' q=>⟨_,Y',by omega,by omega,q⟩
 ·rw[if_neg z];obtain⟨L,Y',l1,l2,l3⟩:=o4 (κ:=κ) (it:=it) (m:=m) (g:=g) hp e el hR em S u `o
  have:=uU (E:=E) (size:=N) hc l3 l2 `o
  rw[l1]at this;exact Pa this λc st' q=>⟨_,Y',by omega,by omega,q⟩
theorem qH:∀{Rs:List aR}{ts:List (Nat×Nat×Nat)}{s:Nat},cU r s Rs ts->Rs.length<=Rs.flatten.length
 |[],[],_,_=>Ka _
 |L::Rs,t::ts,_,h=>by
  obtain⟨_,_,h3,_,h5⟩:=h
  have:=qH h5
  rw[KA,L6,Kl];omega
 |[],_::_,_,h=>h.elim
 |_::_,[],_,h=>h.elim
theorem sK(hc:bz (Pk prog w A κ it) r N s)(h1:1<=N){p:Array Nat}(hp:PM N p){Q:Unit->O8->Prop}(h:∀p' pd g,PM N p'->Up r p' N->Q () (Zs κ it pd g p')):wpS `g A E s sortRuns' Q (Zs κ it #[] 7 p):=by
 have hs:=hp.size;rw[pL];refine O9 (Pm ?_);have sz:(arrOf (Zs κ it #[] 7 p)).size=N:=by show(p.map (Pl it)).size=N;rw[Array.size_map,hs]
 rw[sz];refine O9 (Pa (Pb (I:=λx c st'=>∃lo m Y,c=(none,lo)/\lo<=N/\x<=lo/\eN κ it r N m lo Y st')
  (Q:=λc st'=>∃m Y,c=(none,N)/\eN κ it r N m N Y st') ?_ ?_ ⟨0,0,p.toList,rfl,by omega,by omega,p,#[],7,[],rfl,hp,rfl,rfl,True.intro,rfl⟩) ?_)
 ·rintro x c st' _ hx ⟨lo,m,Y,rfl,l1,l2,S⟩;dsimp only;by_cases z:lo<N
  ·refine Pa (CA hc S z) λc st' q=>?_;obtain⟨n,Y',n1,n2,m',rfl,m0,S'⟩:=q;exact⟨lo+n,m',Y',rfl,n2,by omega,S'⟩
  ·have:lo=N:=(by omega);subst this;unfold CD;rw[if_pos (Ka _)];exact Ph ⟨m,Y,rfl,S⟩
 ·rintro c st' ⟨lo,m,Y,rfl,l1,l2,S⟩
  have:lo=N:=by omega
  subst this;exact⟨m,Y,rfl,S⟩
 ·rintro c st' ⟨m,Y,rfl,S⟩;dsimp only;have S':=S;obtain⟨p',pd,g,Rs,rfl,hp',e,el,hR,em⟩:=S';have few:=qH hR;have m0:0<m:=by
   rcases L8 m with z|z
   ·rw[z,L0]at em;subst em
    have:(0:Nat)=N:=el
    omega
   ·exact z
  refine O9 (Cp hc S m0 `o λst' S'=>?_);obtain⟨p',pd,g,Rs,rfl,hp',e,el,hR,em⟩:=S'
  match Rs,em with
  |[L],_=>
   dsimp only;refine Ph (h p' pd g hp' λi j hij hj=>?_)
   match hpd:pd.toList,hR with
   |t::ts,hR=>
    have hL:=hR.2.2.2.1;have e:p'.toList=L++Y:=(by rw[e];simp);have ll:L.length=N:=(by simpa using el);show r _<=r _;rw[gD,gD,e,Kh `o,Kh `o];exact g8 hL hij `o
   |[],hR=>exact hR.elim
end
end TG
namespace TG
open PySem PySem.Spec PyProof.Rows PySem.W L2
variable[aj]
section
variable{prog:NV}{w:NU}{A:N4}{E:az}{s:NT}{κ:Pj}{ks vs:aE}{r:Nat->Nat}
theorem vC(hl:ks.length=vs.length)(h1:1<=vs.length)(hr:bz (Pr prog w A κ ks) r vs.length s){Q:O8->bn}
  (hQ:∀p st',arrOf st'=p.map (Pl (ks.toArray.zip vs.toArray))->failedOf st'=none->PM vs.length p->Up r p vs.length->Q st' s):
  N7 `g A ((sortRuns').run (SortSt.mk' κ (ks.toArray.zip vs.toArray) #[] 7 none)) (λr s'=>Q r.2 s') E s:=by
 rw[kat_ask_eq hl]at hr;have e:=kas_range (ks.toArray.zip vs.toArray);rw[show(ks.toArray.zip vs.toArray).size=vs.length by simp[hl]]at e;have run:=sK (E:=E) (Q:=λ_ st'=>Q st' s) hr h1 (p:=List.toArray (List.range vs.length)) (Array.Perm.refl _) λp' pd g hp hu=>hQ p' _ rfl rfl hp hu;unfold wpS at run;have est:SortSt.mk' κ (ks.toArray.zip vs.toArray) #[] 7 none=Zs κ (ks.toArray.zip vs.toArray) #[] 7 (List.toArray (List.range vs.length)):=by
  show SortSt.mk' κ (ks.toArray.zip vs.toArray) #[] 7 none=SortSt.mk' κ ((List.toArray (List.range vs.length)).map (Pl (ks.toArray.zip vs.toArray))) #[] 7 none;rw[e]
 rw[est];refine N9 run (λr s' q=>?_) λ_ _ z=>z;obtain⟨rfl,q⟩:=q;exact q
end
end TG
namespace TG
open PySem PySem.Spec PyProof.Rows PySem.W L2
variable[aj]
section
variable{prog:NV}{w:NU}{A:N4}{E:az}{s:NT}
theorem nO{a:NQ}{vs:aE}{n:Nat}{P:PySem.Fin->bn}{κ:Pj}{r:Nat->Nat}(ho:s.heap.get? a=some (seqObj "list" vs.toArray n))(h64:vs.length<1000)
  (hk:2<=vs.length->∀h':NX,(∀b o,b≠a->s.heap.get? b=some o->h'.get? b=some o)->∀(Q:Pj->bn),Q κ {s with heap:=h'}->N7 `g A (keyKind' vs.toArray) Q E {s with heap:=h'})
  (hr:2<=vs.length->∀h':NX,(∀b o,b≠a->s.heap.get? b=some o->h'.get? b=some o)->bz (Pr prog w A κ vs) r vs.length {s with heap:=h'})
  (h:∀p:Array Nat,PM vs.length p->Up r p vs.length->P (.done (.ret .none)) {s with heap:=sortedHeap s.heap a vs (List.toArray (p.toList.map λi=>vs.getD i Value.none))}):
  N7 `g A (Builtin.«list.sort» ⟨[.ref a],[]⟩) P E s:=by
 rw[list_sort_plain];have ha:a<s.heap.objs.size:=M8 ho;refine Oj (listItems_at ho rfl ?_);refine Oj (Pt ho rfl ?_ (by rw[Ko,Ot];omega) (KH _));obtain⟨e1,ho1⟩:∃e1,(s.heap.update a (Obj.mapSeq λ_=>(#[]:cw))).get? a=some (seqObj "list" #[] e1):=⟨_,Pu ho (λ_=>#[])⟩
 refine Oj (Pw ho1 rfl ?_);refine Oj (wpAny_newTuple ?_ (by show vs.length<=_;rw[Ot];omega));refine Oj (Px ?_ (KH _));refine OI ?_;have ho6:(((s.heap.update a (Obj.mapSeq λ_=>(#[]:cw))).push (seqObj "tuple" vs.toArray 0)).push (seqObj "list" #[] 0)).get? a=some (seqObj "list" #[] e1):=by
  rw[Nk _ _ _ (by rw[size_push',Nm];exact JX (KN ha)),Nk _ _ _ (by rw[Nm];exact JX ha)];exact ho1
 have kept:∀b o,b≠a->s.heap.get? b=some o->(((s.heap.update a (Obj.mapSeq λ_=>(#[]:cw))).push (seqObj "tuple" vs.toArray 0)).push (seqObj "list" #[] 0)).get? b=some o:=λb o hb e=>
  Nf _ (Nf _ (by rw[Nn _ _ _ _ hb];exact e))
 show N7 `g A _ P E {s with heap:=((s.heap.update a (Obj.mapSeq λ_=>(#[]:cw))).push (seqObj "tuple" vs.toArray 0)).push (seqObj "list" #[] 0)};dsimp only;have hsz:vs.toArray.size=vs.length:=by simp
 by_cases h2:vs.toArray.size<2
 ·rw[if_pos h2,if_pos h2];refine Oj (Oi ?_);rw[StateT.run_pure];refine Oj (Oi ?_);dsimp only;refine Oj (Pw ho6 rfl ?_);have hout:(arrOf (SortSt.mk' general' (vs.toArray.zip vs.toArray) #[] 7 none)).map (·.2)=List.toArray ((List.toArray (List.range vs.length)).toList.map λi=>vs.getD i Value.none):=by
   refine kat_snds rfl ?_;show vs.toArray.zip vs.toArray=_;have e:=kas_range (vs.toArray.zip vs.toArray);rw[show(vs.toArray.zip vs.toArray).size=vs.length by simp]at e;exact e.symm
  rw[hout];refine Oj (Pt ho6 rfl ?_ (KH _) (by rw[Ko,Km,Ot];simp;omega));simp only[bne_self_eq_false,KL,if_false];refine Oi (h _ (Array.Perm.refl _) λi j hij hj=>?_)
  have:i=j:=by omega
  subst this;exact Ka _
 ·rw[if_neg h2,if_neg h2];have h2':2<=vs.length:=by omega
  refine Oj (hk h2' _ kept _ ?_);refine Oj (N9 (vC (Q:=λst' s'=>∃p:Array Nat,arrOf st'=p.map (Pl (vs.toArray.zip vs.toArray))/\failedOf st'=none/\PM vs.length p/\Up r p vs.length/\s'={s with heap:=((s.heap.update a (Obj.mapSeq λ_=>(#[]:cw))).push (seqObj "tuple" vs.toArray 0)).push (seqObj "list" #[] 0)})
   rfl `o (hr h2' _ kept) λp st' a1 a2 a3 a4=>⟨p,a1,a2,a3,a4,rfl⟩) ?_ λ_ _ e=>e)
  rintro⟨⟨⟩,st'⟩ s' ⟨p,har,hf,hp,hu,rfl⟩;dsimp only;refine Oj (Pw ho6 rfl ?_);have hout:=kat_snds rfl har;rw[hout];refine Oj (Pt ho6 rfl ?_ (KH _) (by rw[Ko,Km,Array.length_toList,hp.size,Ot];omega));rw[hf];simp only[bne_self_eq_false,KL,if_false];exact Oi (h p hp hu)
theorem mY{s0:NT}{src:NN}{vs:aE}{Q:az}{κ:Pj}{r:Nat->Nat}(h64:vs.length<1000)
  (hcol:∀(Q':aE->bn),(∀h' tk,(∀b o,s.heap.get? b=some o->h'.get? b=some o)->Q' vs {s with heap:=h',toks:=tk})->N7 `g A.in1 (collect src) Q' E s0)
  (hk:2<=vs.length->∀(h':NX)(tk:Nat),(∀b o,s.heap.get? b=some o->h'.get? b=some o)->∀(Q:Pj->bn),Q κ {s with heap:=h',toks:=tk}->N7 `g A.in1.in1 (keyKind' vs.toArray) Q E {s with heap:=h',toks:=tk})
  (hr:2<=vs.length->∀(h':NX)(tk:Nat),(∀b o,s.heap.get? b=some o->h'.get? b=some o)->bz (Pr prog w A.in1.in1 κ vs) r vs.length {s with heap:=h',toks:=tk})
  (h:∀(p:Array Nat)(h1 h':NX)(l:NQ)(e tk:Nat),PM vs.length p->Up r p vs.length->(∀b o,s.heap.get? b=some o->h1.get? b=some o)->(∀b o,h1.get? b=some o->h'.get? b=some o)->h1.objs.size<=l->h'.get? l=some (seqObj "list" (List.toArray (p.toList.map λi=>vs.getD i Value.none)) e)->Q (.ref l) {s with heap:=h',toks:=tk}):
  N7 `g A (call (.builtin "sorted") [src]) Q E s0:=by
 refine Calls.call_function_entry kind_sorted plain_sorted entry_sorted (args_sorted1 _) ?_;unfold Builtin.«sorted»;refine Oj (m:=checkCount "sorted" 1 1 _) (Oi ?_);refine Oj (hcol _ λh1 tk k1=>?_);refine Oj (Px ?_ (by rw[Ot];omega));have hoL:(h1.push (seqObj "list" vs.toArray 0)).get? h1.objs.size=some (seqObj "list" vs.toArray 0):=Ng _ rfl;have k2:∀b o,s.heap.get? b=some o->(h1.push (seqObj "list" vs.toArray 0)).get? b=some o:=λb o e=>Nf _ (k1 b o e);have ne:∀b o,s.heap.get? b=some o->b≠h1.objs.size:=λb o e=>JX (M8 (k1 b o e));refine Oj (OI (OL slot_list_sort ⟨_,hoL,rfl⟩ entry_list_sort (nO (s:={s with heap:=h1.push (seqObj "list" vs.toArray 0),toks:=tk}) (r:=r) (κ:=κ) hoL h64
  (λh2 h' k=>hk h2 h' tk λb o e=>k b o (ne b o e) (k2 b o e)) (λh2 h' k=>hr h2 h' tk λb o e=>k b o (ne b o e) (k2 b o e)) λp hp hu=>⟨_,rfl,?_⟩) (args_list_sort _)))
 refine Oi ⟨_,rfl,?_⟩;obtain⟨e,he⟩:=sortedHeap_at (vs:=vs) (out:=List.toArray (p.toList.map λi=>vs.getD i Value.none)) hoL;exact h p h1 _ h1.objs.size e tk hp hu k1 (λb o q=>by rw[sortedHeap_old (JX (M8 q)) (by rw[size_push'];exact KN (M8 q))];exact Nf _ q) (Ka _) he
end
noncomputable def bq:D->List D
 |.tup ks=>ks
 |_=>[]
noncomputable def oneOf(d:D):List D:=[d]
noncomputable def tG(xs:List D):Prop:=xs.length<1000/\∃σ:bb,σ≠[]/\(∀x∈xs,∃k,x=.tup k/\Sh σ k)/\xs.Pairwise λx y=>bq x≠bq y
noncomputable def II(xs:List D):Prop:=xs.length<1000/\∃b:Bool,(∀x∈xs,Sh [b] [x])/\xs.Pairwise λx y=>oneOf x≠oneOf y
open Classical in
noncomputable def i5(xs:List D):aW:=if tG xs then some (.lst (aY bq xs))else if II xs then some (.lst (aY oneOf xs))else none
noncomputable def iy:List D->aW
 |[.lst xs]=>i5 xs
 |[.tup xs]=>i5 xs
 |_=>none
theorem li{prog:NV}{w:NU}{A:N4}{s:NT}{Q:Bool->bn}{fin:Bool}(hf:fin=false){σ:bb}{ns ms:List D}{xs ys:aE}{i:Nat}(h1:Sh σ ns)(h2:Sh σ ms)(f1:dh xs ns)(f2:dh ys ms)(h:Q (kLt ns ms) s):KatLex prog w A true fin Q (xs.zip ys) i s:=by
 induction h1 generalizing ms xs ys i with
 |nil=>
  cases h2;cases f1;cases f2;subst hf;exact kat_nil (by simpa [kLt,cJ]using h)
 |int a h1 ih=>
  cases h2 with|int c h2=>
  cases f1 with|int _ t f1=>
  cases f2 with|int _ u f2=>
  rw[Lp];obtain⟨e,he,hiff⟩:=C7 A s a t c u;refine kat_cons (he prog w _ _ ?_);cases e with
  |true=>
   have ac:=hiff.mp rfl;refine kat_yes (ih h2 f1 f2 ?_);unfold kLt at h ⊢;rw[mB,if_pos ac]at h;exact h
  |false=>
   have ac:¬a=c:=λq=>absurd (hiff.mpr q) J8;have h':Q (decide (a<c)) s:=by
    unfold kLt at h;rw[mB,if_neg ac]at h;cases hd:decide (a<c)<;>rw[hd]at h<;>exact h
   refine kat_no ?_;cases hi:(i==0)with
   |true=>exact oneLt_int h'
   |false=>exact kat_one _ _ (PySem.P.lt_int (show M3 Q (.bool _) s from h'))
 |str a h1 ih=>
  cases h2 with|str c h2=>
  cases f1 with|str _ t f1=>
  cases f2 with|str _ u f2=>
  rw[Lp];obtain⟨e,he,hiff⟩:=Dj A s a t c u;refine kat_cons (he prog w _ _ ?_);cases e with
  |true=>
   have ac:=hiff.mp rfl;refine kat_yes (ih h2 f1 f2 ?_);unfold kLt at h ⊢;rw[mU,if_pos ac]at h;exact h
  |false=>
   have ac:¬a=c:=λq=>absurd (hiff.mpr q) J8;have h':Q (decide (a.cps.toList<c.cps.toList)) s:=by
    unfold kLt at h;rw[mU,if_neg ac]at h;cases hd:decide (a.cps.toList<c.cps.toList)<;>rw[hd]at h<;>exact h
   refine kat_no ?_;cases hi:(i==0)with
   |true=>exact oneLt_str h'
   |false=>exact kat_one _ _ (PySem.P.lt_str (show M3 Q (.bool _) s from h'))
theorem jg{h:NX}{PT:NN->Prop}:∀{its:aE},(∀v∈its,∃a o xs n f,v=.ref a/\h.get? a=some o/\o.cls=.type "tuple"/\o.data=.seq xs n/\xs[0]?=some f/\PT f)->∃fs,KatTups h its fs/\fs.length=its.length/\∀f∈fs,PT f
 |[],_=>⟨[],.nil,rfl,λ_ h=>nomatch h⟩
 |v::its,hh=>by
  obtain⟨a,o,xs,n,f,rfl,h1,h2,h3,h4,h5⟩:=hh v J3;obtain⟨fs,k1,k2,k3⟩:=jg (its:=its) λu hu=>hh u (J4 _ hu);refine⟨f::fs,.cons h1 h2 h3 h4 k1,by rw[KA,KA,k2],λg hg=>?_⟩;rcases List.mem_cons.mp hg with rfl|z
  ·exact h5
  ·exact k3 g z
theorem dh.first{σ:bb}{b:Bool}{xs:aE}{ns:List D}(f:dh xs ns)(h:Sh (b::σ) ns):∃v,xs[0]?=some v/\typeOf v=pure (.type (if b then"int"else"str")):=by
 cases f with
 |nil=>cases h
 |int i t f=>cases h;exact⟨_,rfl,rfl⟩
 |str i t f=>cases h;exact⟨_,rfl,rfl⟩
theorem k7{key:D->List D}{σ:bb}{ds:List D}(h:∀x∈ds,Sh σ (key x))(pw:ds.Pairwise λx y=>key x≠key y){p:Array Nat}(hp:PM ds.length p)(hu:Up (rank (ds.map key)) p ds.length):p.toList.map (λi=>ds.getD i .non)=aY key ds:=by
 have hr:p.toList.Perm (List.range ds.length):=by
  have:=Array.perm_iff_toList_perm.mp hp
  simpa using this
 have hmap:(List.range ds.length).map (λi=>ds.getD i .non)=ds:=by
  apply List.ext_getElem
  ·simp
  ·intro i h1 h2;simp at h1;simp[h1]
 have hperm:(p.toList.map λi=>ds.getD i .non).Perm ds:=by
  have:=hr.map (λi=>ds.getD i .non)
  rwa [hmap]at this
 have hn:p.toList.Nodup:=hr.nodup_iff.mpr Md;refine(jp h pw ?_ hperm).symm;have hl:p.toList.length=ds.length:=by rw[hr.length_eq,Lb]
 have kd:∀i,i<ds.length->(ds.map key).getD i []=key (ds.getD i .non):=λi hi=>by simp[hi]
 have hsh:∀k∈ds.map key,Sh σ k:=λk hk=>by
  obtain⟨x,hx,rfl⟩:=List.mem_map.mp hk;exact h x hx
 unfold nh;rw[Mf,List.pairwise_iff_getElem];intro i j hi hj hij;have hi':p.toList[i]<ds.length:=by simpa using hr.mem_iff.mp (Ly hi)
 have hj':p.toList[j]<ds.length:=by simpa using hr.mem_iff.mp (Ly hj)
 have ne:p.toList[i]≠p.toList[j]:=List.pairwise_iff_getElem.mp hn i j hi hj hij;have up:=hu i j `o `o;have gi:p.getD i 0=p.toList[i]:=by
  have:i<p.size:=by rw[<-Array.length_toList];exact hi
  simp[Array.getD,this]
 have gj:p.getD j 0=p.toList[j]:=by
  have:j<p.size:=by rw[<-Array.length_toList];exact hj
  simp[Array.getD,this]
 unfold Rk at up;rw[gi,gj]at up;have rl:=lG hsh (i:=p.toList[j]) (j:=p.toList[i]) (by rw[Km];exact hj') (by rw[Km];exact hi');rw[kd _ hj',kd _ hi',decide_eq_false `o]at rl;have ei:ds.getD p.toList[i] .non=ds[p.toList[i]]:=by rw[Mg,KY hi'];rfl
 have ej:ds.getD p.toList[j] .non=ds[p.toList[j]]:=by rw[Mg,KY hj'];rfl
 have s1:=h _ (show ds.getD p.toList[i] .non∈ds by rw[ei];exact Ly hi');have s2:=h _ (show ds.getD p.toList[j] .non∈ds by rw[ej];exact Ly hj');rcases lF s1 s2 with⟨z,_⟩|z|⟨z,_⟩
 ·exact z
 ·exfalso;have pw':=List.pairwise_iff_getElem.mp pw;rw[ei,ej]at z;rcases Nat.lt_or_gt_of_ne ne with q|q
  ·exact pw' _ _ hi' hj' q z
  ·exact pw' _ _ hj' hi' q z.symm
 ·rw[AI.mpr z]at rl;cases rl
theorem kM{vs:aG}{us:aE}(r:Vals vs us):∀l:aR,(∀i∈l,i<vs.length)->Vals (l.map λi=>vs.getD i .non) (l.map λi=>us.getD i Value.none)
 |[],_=>.nil
 |i::l,h=>by
  have hi:=h i J3;obtain⟨u,e,q⟩:=r.get (i:=i) (x:=vs[i]) (by simp[hi]);refine .cons ?_ (kM r l λj hj=>h j (J4 _ hj));have e1:vs.getD i .non=vs[i]:=by simp[hi]
  have e2:us.getD i Value.none=u:=by simp[Mg,e]
  show L2.RelV (vs.getD i .non) (us.getD i Value.none);rw[e1,e2];exact q
theorem kJ{K:MT}{H:Hp}{ds:List D}{vs:aG}(g:aB K H ds vs):∀l:aR,(∀i∈l,i<ds.length)->aB K H (l.map λi=>ds.getD i .non) (l.map λi=>vs.getD i .non)
 |[],_=>bG.mpr rfl
 |i::l,h=>by
  have hi:=h i J3;obtain⟨v,e,q⟩:=g.get (i:=i) (d:=ds[i]) (by simp[hi]);refine aM.mpr ⟨_,_,rfl,?_,kJ g l λj hj=>h j (J4 _ hj)⟩;have e1:ds.getD i .non=ds[i]:=by simp[hi]
  have e2:vs.getD i .non=v:=by simp[Mg,e]
  show bo K H (ds.getD i .non) (vs.getD i .non);rw[e1,e2];exact q
section
variable{X:Cx}{pins:aL}{s:NT}{σ:L2.St}{H:Hp}{O:ak}
theorem iK{s0:NT}{u:NN}{ds:List D}{vs:aG}{its:aE}{d:D}{Q:VK}(I:`h)(hO:bJ H O)(dn:aB X.K (hid H O) ds vs)(rv:Vals vs its)(hs:i5 ds=some d)
  (hcol:∀(Q':aE->bn),(∀h' tk,(∀b o,s.heap.get? b=some o->h'.get? b=some o)->Q' its {s with heap:=h',toks:=tk})->N7 `i X.A.in1 (collect u) Q' X.xe s0)
  (q:∀v H',aF H H'->bo X.K (hid H' O) d v->Q v H'):N7 `i X.A (call (.builtin "sorted") [u]) (EP X pins σ Q) X.xe s0:=by
 have l1:=dn.length;have l2:=rv.length;have fin:∀(key:D->List D)(σ':bb),(∀x∈ds,Sh σ' (key x))->ds.Pairwise (λx y=>key x≠key y)->ds.length<1000->d=.lst (aY key ds)->∀(p:Array Nat)(h1 h':NX)(l:NQ)(e tk:Nat),PM its.length p->Up (rank (ds.map key)) p its.length->(∀b o,s.heap.get? b=some o->h1.get? b=some o)->(∀b o,h1.get? b=some o->h'.get? b=some o)->h1.objs.size<=l->
   h'.get? l=some (seqObj "list" (List.toArray (p.toList.map λi=>its.getD i Value.none)) e)->EP X pins σ Q (.ref l) {s with heap:=h',toks:=tk}:=by
  intro key σ' hsh pw h64 ed p h1 h' l e tk hp hu k1 k2 hl he;have el:its.length=ds.length:=by omega
  rw[el]at hp hu;have ps:=k7 hsh pw hp hu;have hr:p.toList.Perm (List.range ds.length):=by
   have:=Array.perm_iff_toList_perm.mp hp
   simpa using this
  have hlt:∀i∈p.toList,i<ds.length:=λi hi=>by simpa using hr.mem_iff.mp hi
  have I1:Inv X pins σ H {s with heap:=h1,toks:=tk}:=I.kept k1;have hn:H l=none:=I1.hok.fresh hl;have rv':=kM rv p.toList λi hi=>by have:=hlt i hi;omega
  have dn':=kJ dn p.toList hlt;have hlen:p.toList.length=ds.length:=by rw[hr.length_eq,Lb]
  refine⟨.ref l,_,Inv.laid (s:={s with heap:=h1,toks:=tk}) (t':=tk) I1 k2 hl (show bA X.prog X.w _ h' _ (.lst (p.toList.map λi=>vs.getD i .non))from⟨by rw[Km,hlen,Ot];omega,_,e,rv',he⟩),rfl,?_⟩;refine q _ _ (bh hn _) ?_;rw[ed,<-ps];exact cS hO hn dn'
 unfold i5 at hs;split at hs
 ·rename_i h;cases hs;obtain⟨h64,σ',hσ,hsh,pw⟩:=h;obtain⟨b,σ1,rfl⟩:∃b σ1,σ'=b::σ1:=by
   cases σ' with
   |nil=>exact absurd rfl hσ
   |cons b σ1=>exact⟨b,σ1,rfl⟩
  have hsh':∀x∈ds,Sh (b::σ1) (bq x):=λx hx=>by
   obtain⟨k,rfl,hk⟩:=hsh x hx;exact hk
  have at':∀i (hi:i<ds.length),∃a o xs n,its[i]?=some (.ref a)/\s.heap.get? a=some o/\o.cls=.type "tuple"/\o.data=.seq xs n/\dh xs.toList (bq ds[i]):=λi hi=>by
   obtain⟨v,e1,dv⟩:=dn.get (i:=i) (d:=ds[i]) (by simp[hi]);obtain⟨w,e2,rw'⟩:=rv.get e1;obtain⟨k,ek,hk⟩:=hsh _ (Ly hi);rw[ek]at dv ⊢;obtain⟨a,ws,rfl,ha,dk⟩:=bv.mp dv;cases rw';obtain⟨it2,r2,⟨o,ho,hc,n,hd⟩,_⟩:=I.tuple (aZ (ai H O) ha);exact⟨a,o,_,n,e2,ho,hc,hd,by simpa [bq]using fw (lL hk) dk r2⟩
  refine mY (κ:=tuples' true) (r:=rank (ds.map bq)) `o hcol (λh2 h' tk kp Q' hQ=>?_) (λh2 h' tk kp i j C hi hj hC=>?_) (fin bq _ hsh' pw h64 rfl)
  ·obtain⟨fs,t1,t2,t3⟩:=jg (h:=h') (PT:=λf=>typeOf f=pure (.type (if b then"int"else"str"))) (its:=its) λv hv=>by
    obtain⟨i,hi,rfl⟩:=LI hv;obtain⟨a,o,xs,n,e1,ho,hc,hd,ff⟩:=at' i `o;obtain⟨f,ef,tf⟩:=ff.first (hsh' _ (Ly _));refine⟨a,o,xs,n,f,?_,kp _ _ ho,hc,hd,by simpa using ef,tf⟩
    have:=KY hi
    rw[e1]at this;exact(Option.some.inj this).symm
   refine kat_kind (T:=.type (if b then"int"else"str")) t1 `o (λf hf=>Looks.of_pure (t3 f hf)) (by cases b<;>rfl) ?_
   have:(Value.type (if b then"int"else"str") !=Value.type "tuple")=true:=(by cases b<;>rfl);rw[this];exact hQ
  ·obtain⟨a,o,xs,n,e1,ho,hc,hd,ff⟩:=at' i `o;obtain⟨a2,o2,xs2,n2,e2,ho2,hc2,hd2,ff2⟩:=at' j `o;unfold Pr;have g1:its.getD i Value.none=.ref a:=(by simp[Mg,e1]);have g2:its.getD j Value.none=.ref a2:=(by simp[Mg,e2]);rw[g1,g2];have hi':i<ds.length:=(by omega);have hj':j<ds.length:=(by omega);have sh1:=hsh' _ (Ly hi');have sh2:=hsh' _ (Ly hj');have rl:=lG (ks:=ds.map bq) (σ:=b::σ1) (λk hk=>by obtain⟨x,hx,rfl⟩:=List.mem_map.mp hk;exact hsh' x hx) (i:=i) (j:=j) (by rw[Km];exact hi') (by rw[Km];exact hj');have k1:(ds.map bq).getD i []=bq ds[i]:=(by simp[hi']);have k2:(ds.map bq).getD j []=bq ds[j]:=(by simp[hj']);rw[k1,k2]at rl;rw[rl]at hC;refine kat_lt (kp _ _ ho) hd (kp _ _ ho2) hd2 (li ?_ sh1 sh2 ff ff2 hC);have z1:xs.size=(bq ds[i]).length:=(by have:=ff.length;simpa using this);have z2:xs2.size=(bq ds[j]).length:=(by have:=ff2.length;simpa using this);have z3:(bq ds[i]).length=(bq ds[j]).length:=(by rw[Sh.length sh1,Sh.length sh2]);exact decide_eq_false `o
 ·split at hs
  ·rename_i _ h;cases hs;obtain⟨h64,b,hsh,pw⟩:=h;have at':∀i (hi:i<ds.length),(∃(n:Int)(t:Tok),b=true/\its[i]?=some (.int n t)/\ds[i]=.int n)\/∃(x:Str)(t:Tok),b=false/\its[i]?=some (.str x t)/\ds[i]=.str x:=λi hi=>by
    obtain⟨v,e1,dv⟩:=dn.get (i:=i) (d:=ds[i]) (by simp[hi]);obtain⟨w,e2,rw'⟩:=rv.get e1;have hk:=hsh _ (Ly hi);generalize ds[i]=di at dv hk;cases hk with
    |int n _=>
     rw[c6]at dv;subst dv;obtain⟨t,rfl⟩:=rw';exact .inl ⟨n,t,rfl,e2,rfl⟩
    |str x _=>
     rw[c9]at dv;subst dv;obtain⟨t,rfl⟩:=rw';exact .inr ⟨x,t,rfl,e2,rfl⟩
   refine mY (κ:=oneType') (r:=rank (ds.map oneOf)) `o hcol (λh2 h' tk kp Q' hQ=>?_) (λh2 h' tk kp i j C hi hj hC=>?_) (fin oneOf [b] hsh pw h64 rfl)
   ·refine kas_kind (T:=.type (if b then"int"else"str")) h2 (λv hv=>?_) (by cases b<;>rfl) (by cases b<;>rfl) hQ;obtain⟨i,hi,rfl⟩:=LI hv;have hg:=KY hi;rcases at' i `o with⟨n,t,rfl,e,_⟩|⟨x,t,rfl,e,_⟩
    ·rw[hg]at e;rw[Option.some.inj e];exact Looks.of_pure rfl
    ·rw[hg]at e;rw[Option.some.inj e];exact Looks.of_pure rfl
   ·have hi':i<ds.length:=(by omega);have hj':j<ds.length:=(by omega);unfold Pr;have rl:=lG (ks:=ds.map oneOf) (σ:=[b]) (λk hk=>by obtain⟨x,hx,rfl⟩:=List.mem_map.mp hk;exact hsh x hx) (i:=i) (j:=j) (by rw[Km];exact hi') (by rw[Km];exact hj');have k1:(ds.map oneOf).getD i []=[ds[i]]:=(by simp[hi',oneOf]);have k2:(ds.map oneOf).getD j []=[ds[j]]:=(by simp[hj',oneOf]);rw[k1,k2]at rl;rw[rl]at hC;rcases at' i hi' with⟨n,t,hb,e1,q1⟩|⟨x,t,hb,e1,q1⟩
    ·rcases at' j hj' with⟨n2,t2,hb2,e2,q2⟩|⟨x2,t2,hb2,e2,q2⟩
     ·have g1:its.getD i Value.none=.int n t:=(by simp[Mg,e1]);have g2:its.getD j Value.none=.int n2 t2:=(by simp[Mg,e2]);rw[g1,g2,keyLt'_oneType];refine oneLt_int ?_;rw[q1,q2]at hC;unfold kLt at hC;rw[mB]at hC;by_cases z:n=n2
      ·rw[if_pos z]at hC;rw[decide_eq_false `o];exact hC
      ·rw[if_neg z]at hC;cases hd:decide (n<n2)<;>rw[hd]at hC<;>exact hC
     ·rw[hb]at hb2;cases hb2
    ·rcases at' j hj' with⟨n2,t2,hb2,e2,q2⟩|⟨x2,t2,hb2,e2,q2⟩
     ·rw[hb]at hb2;cases hb2
     ·have g1:its.getD i Value.none=.str x t:=(by simp[Mg,e1]);have g2:its.getD j Value.none=.str x2 t2:=(by simp[Mg,e2]);rw[g1,g2,keyLt'_oneType];refine oneLt_str ?_;rw[q1,q2]at hC;unfold kLt at hC;rw[mU]at hC;by_cases z:x=x2
      ·rw[if_pos z]at hC;rw[decide_eq_false (by rw[z];exact mI _)];exact hC
      ·rw[if_neg z]at hC;cases hd:decide (x.cps.toList<x2.cps.toList)<;>rw[hd]at hC<;>exact hC
  ·cases hs
theorem qg:eV X (.builtin "sorted") (CK X.K iy):=by
 rintro pins s σ H xs us Q I r ⟨O,ds,d,hO,hd,hg,q⟩;unfold iy at hg;split at hg
 ·obtain⟨v,rfl,h1⟩:=hd.one;obtain⟨p,ws,rfl,g1,g2⟩:=bI.mp h1;obtain⟨u,rfl,ru⟩:=vals1 r;cases ru;obtain⟨its,rv,pl,hz⟩:=I.list ((ai H O).seq g1);have hlen:=rv.length;obtain⟨o,ho,hc,n,hd'⟩:=pl.isList;exact iK I hO g2 rv hg (λQ' hQ=>Py p (.inl rfl) ho hc hd' (λh' k=>by simpa using hQ h' s.toks k) (by simp only[Ko]<;>omega)) q
 ·obtain⟨v,rfl,h1⟩:=hd.one;obtain⟨p,ws,rfl,g1,g2⟩:=bv.mp h1;obtain⟨u,rfl,ru⟩:=vals1 r;cases ru;obtain⟨its,rv,⟨o,ho,hc,n,hd'⟩,hz⟩:=I.tuple (aZ (ai H O) g1);have hlen:=rv.length;exact iK I hO g2 rv hg (λQ' hQ=>Py p (.inr rfl) ho hc hd' (λh' k=>by simpa using hQ h' s.toks k) (by simp only[Ko]<;>omega)) q
 ·cases hg
end
end TG
namespace TG
open PySem PySem.Spec L2
variable[aj]
section
variable{X:Cx}{tg:NR}
end
end TG
namespace TG
open PySem PySem.Spec L2
variable[aj]
end TG
namespace TG
open PySem PySem.Spec L2
variable[aj]
end TG
namespace TG
open PySem PySem.Spec L2
variable[aj]
noncomputable def keyOf:D->Option Key
 |.int i=>some (.inl i)
 |.str x=>some (.inr x)
 |_=>none
noncomputable def keysOf:List D->Option (ay)
 |[]=>some []
 |d::r=>(keyOf d).bind λk=>(keysOf r).map (k::·)
noncomputable def cM:D->Option (ay)
 |.tup ds=>keysOf ds
 |_=>none
theorem yY{d:D}{k:Key}(h:keyOf d=some k):d=aC k:=by
 cases d with
 |int i=>cases h;rfl
 |str x=>cases h;rfl
 |_=>cases h
theorem o6:∀{ds:List D}{ks:ay},keysOf ds=some ks->ds=ks.map aC
 |[],_,h=>by cases h;rfl
 |d::r,ks,h=>by
  unfold keysOf at h;cases e1:keyOf d with
  |none=>rw[e1]at h;cases h
  |some k=>
   rw[e1]at h;cases e2:keysOf r with
   |none=>rw[e2]at h;cases h
   |some ks'=>rw[e2]at h;cases h;rw[yY e1,o6 e2];rfl
theorem eT{d:D}{k:ay}(h:cM d=some k):d=.tup (k.map aC):=by
 cases d with
 |tup ds=>rw[o6 (show keysOf ds=some k from h)]
 |_=>cases h
theorem cy:∀ks:ay,keysOf (ks.map aC)=some ks
 |[]=>rfl
 |k::r=>by
  show(keyOf (aC k)).bind _=_;have e:keyOf (aC k)=some k:=by cases k<;>rfl
  rw[e];show(keysOf (r.map aC)).map (k::·)=_;rw[cy r];rfl
theorem As{K:MT}{H:Hp}{k:Key}{v:V}(h:bo K H (aC k) v):v=kV k:=by
 cases k with
 |inl i=>exact c6.mp h
 |inr x=>exact c9.mp h
theorem cA{K:MT}{H:Hp}:∀{ks:ay}{vs:aG},aB K H (ks.map aC) vs->vs=ks.map kV
 |[],vs,h=>by rw[Kv,bG]at h;exact h
 |k::r,vs,h=>by
  rw[Kw,aM]at h;obtain⟨v,r',e1,h1,h2⟩:=h;rw[e1,As h1,cA h2];rfl
section
variable{P:NV}{w:NU}{H H':Hp}{h:NX}{a:NQ}
theorem yi(x:bA P w H h a (.dK [])):bA P w H' h a (.dT []):=by
 obtain⟨z,hd,vs,rel,o,es,ep,h1,h2,h3,h4,h5,h6⟩:=x;have e:vs=[]:=by have:=rel.length;simpa using this.symm
 subst e;refine⟨KH _,hd,[],.nil,o,es,ep,h1,h2,h3,?_,by simp⟩
 have:=h5.length
 simpa using this
theorem zD(x:bA P w H h a (.dT [])):bA P w H' h a (.dK []):=by
 obtain⟨z,hd,xs,rel,o,es,ep,h1,h2,h3,h4,h5⟩:=x;have e:xs=[]:=by have:=rel.length;simpa using this.symm
 subst e;have e2:es=#[]:=by simpa using h4
 subst e2;exact⟨KH _,hd,[],.nil,o,#[],ep,h1,h2,h3,λe he=>by simp at he,.nil,by simp⟩
end
section
variable{X:Cx}{pins:aL}{σ:St}{H:Hp}{s:NT}{a:NQ}
theorem sA(I:`h)(h1:H a=some (.dK [])):Inv X pins σ (upd H a (.dT [])) s:=by
 have hx:=I.hok a _ h1;have hq:∃q,s.heap.get? a=some q:=by obtain⟨_,_,_,_,o,_,_,e,_⟩:=id hx;exact⟨o,e⟩
 exact ii (ob:=.dT []) (h':=s.heap) (t':=s.toks) I (by rw[h1];exact trivial) ⟨rfl,λ_ _=>rfl⟩ hq (yi hx)
theorem Gk(I:`h)(h1:H a=some (.dT [])):Inv X pins σ (upd H a (.dK [])) s:=by
 have hx:=I.hok a _ h1;have hq:∃q,s.heap.get? a=some q:=by obtain⟨_,_,_,_,o,_,_,e,_⟩:=id hx;exact⟨o,e⟩
 exact ii (ob:=.dK []) (h':=s.heap) (t':=s.toks) I (by rw[h1];exact trivial) ⟨rfl,λ_ _=>rfl⟩ hq (zD hx)
end
theorem qY{H:Hp}{a:NQ}{o1 o2:HO}(h:H a=some o1):upd (upd H a o2) a o1=H:=by
 funext b;by_cases e:b=a
 ·subst e;rw[aq,h]
 ·rw[ao e,ao e]
noncomputable def dZ:List D->List D->Option (bu)
 |[],[]=>some []
 |k::ks,d::ds=>(cM k).bind λk=>(dZ ks ds).map ((k,d)::·)
 |_,_=>none
noncomputable abbrev encK(al:bu):List D:=al.map λp=>.tup (p.1.map aC)
noncomputable abbrev aA(al:bu):D:=.dct (encK al) (al.map (·.2))
theorem d7:∀{ks ds:List D}{al:bu},dZ ks ds=some al->ks=encK al/\ds=al.map (·.2)
 |[],[],_,h=>by cases h;exact⟨rfl,rfl⟩
 |k::ks,d::ds,al,h=>by
  unfold dZ at h;cases e1:cM k with
  |none=>rw[e1]at h;cases h
  |some k'=>
   rw[e1]at h;cases e2:dZ ks ds with
   |none=>rw[e2]at h;cases h
   |some al'=>
    rw[e2]at h;cases h;obtain⟨h1,h2⟩:=d7 e2;rw[eT e1,h1,h2];exact⟨rfl,rfl⟩
 |[],_::_,_,h=>by cases h
 |_::_,[],_,h=>by cases h
theorem cI:∀al:bu,dZ (encK al) (al.map (·.2))=some al
 |[]=>rfl
 |p::r=>by
  show(cM (.tup (p.1.map aC))).bind _=_;have e:cM (.tup (p.1.map aC))=some p.1:=cy p.1;rw[e];show(dZ (encK r) (r.map (·.2))).map ((p.1,p.2)::·)=_;rw[cI r];rfl
theorem hZ:∀{al:bu}{ks:List ay},encK al=ks.map (λk=>.tup (k.map aC))->al.map (·.1)=ks
 |[],[],_=>rfl
 |p::r,k::ks,h=>by
  have h:D.tup (p.1.map aC)::encK r=D.tup (k.map aC)::ks.map (λk=>.tup (k.map aC)):=h;injection h with h1 h2;injection h1 with h1;have e:some p.1=some k:=by rw[<-cy p.1,h1,cy k]
  rw[Kw,Option.some.inj e,hZ h2]
 |[],_::_,h=>by cases h
 |_::_,[],h=>by cases h
theorem Ag{K:MT}{H:Hp}{O:ak}{a:NQ}{al:bu}(h:bX K H O a (aA al)):
  (∃kvs:List (List Key×V),H a=some (.dT kvs)/\kvs.map (·.1)=al.map (·.1)/\aB K (hid H O) (al.map (·.2)) (kvs.map (·.2)))\/(H a=some (.dK [])/\al=[]):=by
 obtain⟨o,vs,h1,h2,h3⟩:=h;rcases h3 with⟨kvs,e,e1,e2⟩|⟨kvs,e,e1,e2⟩
 ·subst e;cases kvs with
  |nil=>
   refine .inr ⟨h1,?_⟩
   simpa using e1
  |cons p r=>
   cases al with
   |nil=>cases e1
   |cons q r'=>
    have e1:D.tup (q.1.map aC)::encK r'=aC p.1::r.map (λp=>aC p.1):=e1;injection e1 with e1 _;rcases p with⟨k,v⟩
    cases k<;>cases e1
 ·subst e;refine .inl ⟨kvs,h1,?_,by rw[<-e2];exact h2⟩;exact(hZ (ks:=kvs.map (·.1)) (by rw[Mh];exact e1)).symm
noncomputable def GQ(ks ds:List D)(k:D):aW:=(dZ ks ds).bind λal=>(cM k).bind λk=>some (.bl (al.any λp=>decide (p.1=k)))
noncomputable def Ju(i:Nat)(f:FX):FX:=λρ=>(f ρ).bind λk=>match ρ[i]? with
 |some (some (.own (.dct ks ds)))=>rO (GQ ks ds k)
 |_=>un
noncomputable def bV(al:bu)(k:ay)(v:D):bu:=if(al.any λp=>decide (p.1=k))=true then al.map (λp=>if p.1=k then(p.1,v)else p)else al++[(k,v)]
noncomputable def gU(ks ds:List D)(k v:D):Option (bu):=(dZ ks ds).bind λal=>(cM k).bind λk=>if small al.length then some (bV al k v)else none
noncomputable def gS(i:Nat)(fk fv:FX):bB:=λk ρ=>match ρ[i]? with
 |some (some (.own (.dct ks ds)))=>nH ((fv ρ).bind λv=>(fk ρ).bind λq=>rO (gU ks ds q v)) k ρ λal=>k.nx (ρ.set i (some (.own (aA al))))
 |_=>un
theorem mV{ks ds:List D}{k v:D}{al':bu}(h:gU ks ds k v=some al'):∃al q,ks=encK al/\ds=al.map (·.2)/\k=.tup (q.map aC)/\small al.length=true/\al'=bV al q v:=by
 unfold gU at h;cases e1:dZ ks ds with
 |none=>rw[e1]at h;cases h
 |some al=>
  rw[e1]at h;cases e2:cM k with
  |none=>rw[e2]at h;cases h
  |some q=>
   rw[e2]at h;obtain⟨h3,h4⟩:=bC (show(if small al.length then some (bV al q v)else none)=some al' from h);obtain⟨h1,h2⟩:=d7 e1;exact⟨al,q,h1,h2,eT e2,h3,h4.symm⟩
theorem mh{kvs:List (List Key×V)}{al:bu}(e:kvs.map (·.1)=al.map (·.1))(k:ay)(w:V)(d:D):(putK kvs k w).map (·.1)=(bV al k d).map (·.1):=by
 have e2:(kvs.any λp=>decide (p.1=k))=(al.any λp=>decide (p.1=k)):=by
  have:=congrArg (λl=>l.any λq=>decide (q=k)) e
  simpa [List.any_map,Function.comp_def]using this
 unfold putK bV;rw[e2];split
 ·have e3:∀(l:List (List Key×V)),(l.map λkv=>if kv.1=k then(kv.1,w)else kv).map (·.1)=l.map (·.1):=λl=>by
   rw[Mh];refine K8 λp _=>?_;show(if p.1=k then(p.1,w)else p).1=p.1;split<;>rfl
  have e4:∀(l:bu),(l.map λkv=>if kv.1=k then(kv.1,d)else kv).map (·.1)=l.map (·.1):=λl=>by
   rw[Mh];refine K8 λp _=>?_;show(if p.1=k then(p.1,d)else p).1=p.1;split<;>rfl
  rw[e3,e4,e]
 ·rw[K9,K9,e];rfl
theorem qX{K:MT}{H:Hp}{k:ay}{w:V}{d:D}(hw:bo K H d w):∀{kvs:List (List Key×V)}{al:bu},kvs.map (·.1)=al.map (·.1)->aB K H (al.map (·.2)) (kvs.map (·.2))->
  aB K H ((al.map λp=>if p.1=k then(p.1,d)else p).map (·.2)) ((kvs.map λp=>if p.1=k then(p.1,w)else p).map (·.2))
 |[],[],_,h=>h
 |p::r,q::r',e,h=>by
  rw[Kw,Kw]at e;injection e with e1 e2;rw[Kw,Kw,aM]at h;obtain⟨v,ws,h0,h1,h2⟩:=h;injection h0 with h0 h0';subst h0 h0';have ih:=qX (k:=k) hw e2 h2;rw[Kw,Kw,Kw,Kw,aM];refine⟨_,_,rfl,?_,ih⟩;rw[e1];split
  ·exact hw
  ·exact h1
 |[],_::_,e,_=>by cases e
 |_::_,[],e,_=>by cases e
theorem pK{K:MT}{H:Hp}{k:ay}{w:V}{d:D}(hw:bo K H d w){kvs:List (List Key×V)}{al:bu}(e:kvs.map (·.1)=al.map (·.1))(h:aB K H (al.map (·.2)) (kvs.map (·.2))):
  aB K H ((bV al k d).map (·.2)) ((putK kvs k w).map (·.2)):=by
 have e2:(kvs.any λp=>decide (p.1=k))=(al.any λp=>decide (p.1=k)):=by
  have:=congrArg (λl=>l.any λq=>decide (q=k)) e
  simpa [List.any_map,Function.comp_def]using this
 unfold putK bV;rw[e2];split
 ·exact qX hw e h
 ·rw[K9,K9];exact h.append (aM.mpr ⟨w,[],rfl,hw,bG.mpr rfl⟩)
theorem jd{kvs:List (List Key×V)}{al:bu}(e:kvs.map (·.1)=al.map (·.1)):encK al=kvs.map λp=>D.tup (p.1.map aC):=by
 have:=congrArg (List.map λk:ay=>D.tup (k.map aC)) e
 rw[Mh,Mh]at this;exact this.symm
theorem m5{H:Hp}{a:NQ}{o1 o2:HO}:upd (upd H a o1) a o2=upd H a o2:=by
 funext b;by_cases e:b=a
 ·subst e;rw[aq,aq]
 ·rw[ao e,ao e,ao e]
noncomputable def Dw(td ty tv:TE):TS:=λD σ H=>tv σ H λv H1=>td σ H1 λx H2=>ty σ H2 λy H3=>∃a k b kvs,x=.ref a/\y=.ref b/\H3 b=some (.tup (k.map kV))/\(H3 a=some (.dT kvs)\/(H3 a=some (.dK [])/\kvs=[]))/\kvs.length<NY/\D.nx σ (upd H3 a (.dT (putK kvs k v)))
section
variable{X:Cx}{o idx value:NR}{pos pos':Pos}{td ty tv:TE}
theorem q5(hu:X.A.units+1<Ov)(ho:PE X o td)(hi:PE X idx ty)(hv:PE X value tv)(hs:swapsWith value (some (.Subscript o idx pos')) pos.line X.env=pure false):PS X (.Assign [.Subscript o idx pos'] value pos) (Dw td ty tv):=by
 intro pins s σ H D I h;refine wpAny_Assign_Subscript (cD (hv pins s σ H _ I h) λr s1 zq=>zq.elim λv zq=>zq.elim λH1 zq=>zq.elim λI1 zq=>zq.elim λrv q1=>cD (ho pins s1 σ H1 _ I1 q1) λu s2 zq=>zq.elim λx zq=>zq.elim λH2 zq=>zq.elim λI2 zq=>zq.elim λrx q2=>cD (hi pins s2 σ H2 _ I2 q2) λiv s3 h3=>?_) hs;obtain⟨y,H3,I3,ry,a,k,b,kvs,ex,ey,hb,ha,hl,q3⟩:=h3;subst ex ey;obtain rfl:u=Value.ref a:=rx;rcases ha with ha|⟨ha,rfl⟩
 ·exact nY hu I3 (Gw.t ha hb hl) ry rv λs4 I4=>⟨σ,_,I4,q3⟩
 ·have ne:b≠a:=λz=>by rw[z,ha]at hb;cases hb
  refine nY hu (sA I3 ha) (Gw.t aq (by rw[ao ne];exact hb) hl) ry rv λs4 I4=>⟨σ,_,I4,?_⟩
  rw[m5];exact q3
end
end TG
namespace TG
open PySem PySem.Spec L2
variable[aj]
end TG
namespace TG
open PySem PySem.Spec PySem.W PySem.Calls PyProof.Rows Builtin Builtin.ObjectAttr Builtin.Getset_descriptor
variable[aj]
end TG
namespace TG
open PySem PySem.Spec PySem.W PySem.Calls PyProof.Rows Builtin Builtin.ObjectAttr Builtin.Getset_descriptor
end TG
namespace TG
open PySem PySem.Spec L2
variable[aj]
open PyProof.Rows (AllBare OwnCls)
end TG
namespace TG
open PySem PySem.Spec L2
variable[aj]
end TG
namespace TG
open PySem PySem.Spec L2
variable[aj]
end TG
namespace TG
open PySem PySem.Spec L2
variable[aj]
end TG
namespace TG
open PySem PySem.Spec L2
noncomputable def kP(P:NQ)(pos:Pos)(q:Str):(NQ->Prop)->NX->Prop:=λS h=>h.get? P=some (M4 #[])\/∃c,S c/\h.get? P=some (M4 #[rawInt pos.line,rawInt pos.col,.ref c])/\h.CodeRec (.ref c) q
theorem kP.stay{P:NQ}{pos:Pos}{q:Str}{S1 S2:NQ->Prop}{h1 h2:NX}(x:kP P pos q S1 h1)(s:∀b,S1 b->S2 b)(k:∀b o,(b=P\/S1 b)->h1.get? b=some o->h2.get? b=some o):kP P pos q S2 h2:=by
 rcases x with e|⟨c,hc,e,c',o,vs,t,ec,e1,r⟩
 ·exact .inl (k _ _ (.inl rfl) e)
 ·cases ec;exact .inr ⟨c,s c hc,k _ _ (.inl rfl) e,c,o,vs,t,rfl,k _ _ (.inr hc) e1,r⟩
theorem kP.ok{Pg:NV}{w:NU}{H:Hp}{h:NX}{P:NQ}{pos:Pos}{q:Str}(x:kP P pos q (λb=>H b=some (.own P)) h):bA Pg w H h P (.ext (kP P pos q)):=
 ⟨x,by rcases x with e|⟨_,_,e,_⟩<;>exact⟨_,e⟩,λ_ _ _ _ x s k=>x.stay s k⟩
noncomputable abbrev qu(P:NQ)(pos:Pos)(q:Str):aj:=⟨λH=>H P=some (.ext (kP P pos q)),λh e=>e _ _ h,λ{H p o o'} h hp m=>by
 rw[ao]
 ·exact h
 ·rintro rfl;rw[h]at hp;cases hp;exact m⟩
open PySem PySem.Spec PyProof.Rows PySem.W L2
variable[aj]
noncomputable def nR(key:List D)(h:NX)(k:NN):Prop:=∃b o xs n,k=.ref b/\h.get? b=some o/\o.cls=.type "tuple"/\o.data=.seq xs n/\dh xs.toList key
theorem nR.keep{key:List D}{h h':NX}{k:NN}(x:nR key h k)(kp:∀b o,h.get? b=some o->h'.get? b=some o):nR key h' k:=by
 obtain⟨b,o,xs,n,e,ho,r⟩:=x;exact⟨b,o,xs,n,e,kp _ _ ho,r⟩
theorem nR.stay{key:List D}{h h':NX}{k:NN}{c:NQ}{xs:cw}{n:Nat}(x:nR key h k)(hc:h.get? c=some (seqObj "list" xs n))(kp:∀b o,b≠c->h.get? b=some o->h'.get? b=some o):nR key h' k:=by
 obtain⟨b,o,ys,m,e,ho,hk,r⟩:=x;refine⟨b,o,ys,m,e,kp _ _ (λz=>?_) ho,hk,r⟩;subst z;rw[hc]at ho;cases ho;revert hk;show¬(Value.type "list"=Value.type "tuple");simp
section
variable{prog:NV}{w:NU}{A:N4}{E:az}{s:NT}
theorem wx{ks:aE}{keys:List (List D)}{σ:bb}{b:Bool}{Q:Pj->bn}(hl:ks.length=keys.length)(hsh:∀k∈keys,Sh (b::σ) k)(h1:1<=ks.length)
  (hk:∀i,i<ks.length->nR (keys.getD i []) s.heap (ks.getD i Value.none)) (h:Q (tuples' true) s):N7 `g A (keyKind' ks.toArray) Q E s:=by
 obtain⟨fs,t1,t2,t3⟩:=jg (h:=s.heap) (PT:=λf=>typeOf f=pure (.type (if b then"int"else"str"))) (its:=ks) λv hv=>by
  obtain⟨i,hi,rfl⟩:=LI hv;obtain⟨a,o,xs,n,e1,ho,hc,hd,ff⟩:=hk i hi;have hi':i<keys.length:=by omega
  have gk:keys.getD i []=keys[i]:=by simp[hi']
  rw[gk]at ff;obtain⟨f,ef,tf⟩:=ff.first (hsh _ (Ly hi'));have gv:ks.getD i Value.none=ks[i]:=by simp[hi]
  rw[gv]at e1;exact⟨a,o,xs,n,f,e1,ho,hc,hd,by simpa using ef,tf⟩
 refine kat_kind (T:=.type (if b then"int"else"str")) t1 `o (λf hf=>Looks.of_pure (t3 f hf)) (by cases b<;>rfl) ?_
 have:(Value.type (if b then"int"else"str") !=Value.type "tuple")=true:=by cases b<;>rfl
 rw[this];exact h
theorem tV{ks:aE}{keys:List (List D)}{σ:bb}{b:Bool}(hl:ks.length=keys.length)(hsh:∀k∈keys,Sh (b::σ) k)
  (hk:∀i,i<ks.length->nR (keys.getD i []) s.heap (ks.getD i Value.none)):bz (Pr prog w A (tuples' true) ks) (rank keys) ks.length s:=by
 intro i j C hi hj hC;obtain⟨a,o,xs,n,e1,ho,hc,hd,ff⟩:=hk i hi;obtain⟨a2,o2,xs2,n2,e2,ho2,hc2,hd2,ff2⟩:=hk j hj;unfold Pr;rw[e1,e2];have hi':i<keys.length:=by omega
 have hj':j<keys.length:=by omega
 have gi:keys.getD i []=keys[i]:=by simp[hi']
 have gj:keys.getD j []=keys[j]:=by simp[hj']
 have sh1:=hsh _ (Ly hi');have sh2:=hsh _ (Ly hj');have rl:=lG (ks:=keys) hsh hi' hj';rw[rl]at hC;rw[gi]at ff;rw[gj]at ff2;rw[gi,gj]at hC;refine kat_lt ho hd ho2 hd2 (li ?_ sh1 sh2 ff ff2 hC);have z1:xs.size=keys[i].length:=by have:=ff.length;simpa using this
 have z2:xs2.size=keys[j].length:=by have:=ff2.length;simpa using this
 have z3:keys[i].length=keys[j].length:=by rw[Sh.length sh1,Sh.length sh2]
 exact decide_eq_false `o
theorem yU{f:NN}{a:NQ}{vs:aE}{n:Nat}{keys:List (List D)}{σ:bb}{b:Bool}{P:PySem.Fin->bn}
  (ho:s.heap.get? a=some (seqObj "list" vs.toArray n)) (h64:vs.length<1000) (hl:keys.length=vs.length) (hsh:∀k∈keys,Sh (b::σ) k)
  (hc:∀ (i:Nat) (v:NN) (h':NX) (tk:Nat) (Q':az),vs[i]?=some v->(∀ c o,c≠a->s.heap.get? c=some o->h'.get? c=some o) ->
   (∀k h'' tk',(∀c o,h'.get? c=some o->h''.get? c=some o)->nR (keys.getD i []) h'' k->Q' k {s with heap:=h'',toks:=tk'})->N7 `g A (call f [v]) Q' (λ_ _=>False) {s with heap:=h',toks:=tk})
  (h:∀ (p:Array Nat) (h':NX) (e tk:Nat),PM vs.length p->Up (rank keys) p vs.length->(∀ c o,c≠a->s.heap.get? c=some o->h'.get? c=some o)->h'.get? a=some (seqObj "list" (List.toArray (p.toList.map fun i=>vs.getD i Value.none)) e) ->
   P (.done (.ret .none)) {s with heap:=h',toks:=tk}):N7 `g A (ksk_tree a f false) P E s:=by
 have ha:a<s.heap.objs.size:=M8 ho;obtain⟨e1,ho1⟩:∃e1,(s.heap.update a (Obj.mapSeq λ_=>(#[]:cw))).get? a=some (seqObj "list" #[] e1):=⟨_,Pu ho (λ_=>#[])⟩
 unfold ksk_tree;refine Oj (listItems_at ho rfl ?_);refine Oj (Pt ho rfl ?_ (by rw[Ko,Ot];omega) (KH _));refine Oj (Pw ho1 rfl ?_);refine Oj (wpAny_newTuple ?_ (by show vs.length<=_;rw[Ot];omega));refine Oj (Px ?_ (KH _));refine OI ?_;have hkS:((s.heap.update a (Obj.mapSeq λ_=>(#[]:cw))).push (seqObj "tuple" vs.toArray 0)).objs.size=s.heap.objs.size+1:=by rw[size_push',Nm]
 show N7 `g A (ksk_rest a f false vs.toArray e1 (.ref ((s.heap.update a (Obj.mapSeq λ_=>(#[]:cw))).push (seqObj "tuple" vs.toArray 0)).objs.size)) P E {s with heap:=((s.heap.update a (Obj.mapSeq λ_=>(#[]:cw))).push (seqObj "tuple" vs.toArray 0)).push (seqObj "list" #[] 0)};rw[hkS];have hS0:(((s.heap.update a (Obj.mapSeq λ_=>(#[]:cw))).push (seqObj "tuple" vs.toArray 0)).push (seqObj "list" #[] 0)).get? (s.heap.objs.size+1)=some (seqObj "list" #[] 0):=by rw[<-hkS];exact Ng _ rfl
 have hA0:(((s.heap.update a (Obj.mapSeq λ_=>(#[]:cw))).push (seqObj "tuple" vs.toArray 0)).push (seqObj "list" #[] 0)).get? a=some (seqObj "list" #[] e1):=Nf _ (Nf _ ho1);have hK0:∀b o,b≠a->s.heap.get? b=some o->(((s.heap.update a (Obj.mapSeq λ_=>(#[]:cw))).push (seqObj "tuple" vs.toArray 0)).push (seqObj "list" #[] 0)).get? b=some o:=λb o hb e=>
  Nf _ (Nf _ (by rw[Nn _ _ _ _ hb];exact e))
 have hne:a≠s.heap.objs.size+1:=JX (KN ha);have hold:∀c o,s.heap.get? c=some o->c≠s.heap.objs.size+1:=λc o e=>JX (KN (M8 e));generalize (((s.heap.update a (Obj.mapSeq λ_=>(#[]:cw))).push (seqObj "tuple" vs.toArray 0)).push (seqObj "list" #[] 0))=h0 at hS0 hA0 hK0;generalize s.heap.objs.size+1=kS at hS0 hne hold;unfold ksk_rest;refine Oj (O2 ?_)
 first
  |rw[List.forIn_toArray]
  |(rw[<-Array.forIn_toList];simp only[Mi])
  |rw[<-Array.forIn_toList]
 refine Oj (ksk_fold (λi s'=>∃(ks:aE)(e:Nat)(h':NX)(tk:Nat),s'={s with heap:=h',toks:=tk}/\ks.length=i/\i<=vs.length/\h'.get? kS=some (seqObj "list" (List.toArray ks) e)/\h'.get? a=some (seqObj "list" #[] e1)/\
  (∀c o,c≠a->s.heap.get? c=some o->h'.get? c=some o)/\∀j,j<i->nR (keys.getD j []) h' (ks.getD j Value.none)) vs 0 _ ⟨[],0,h0,s.toks,rfl,rfl,KH _,hS0,hA0,hK0,λj hj=>absurd hj (Mj _)⟩ ?_ ?_)
 ·rintro j x s' hx ⟨ks,e,h',tk,rfl,hlen,hle,hS,hA,hK,hT⟩;rw[LV]at hlen hle hT;have hj:j<vs.length:=by
   rcases Mk j vs.length with z|z
   ·exact z
   ·rw[Ml z]at hx;cases hx
  refine Oj (Pp (N9 (hc j x h' tk (λk s''=>∃h'' tk',s''={s with heap:=h'',toks:=tk'}/\(∀c o,h'.get? c=some o->h''.get? c=some o)/\nR (keys.getD j []) h'' k) hx hK λk h'' tk' kp tK=>⟨h'',tk',rfl,kp,tK⟩) (λk s'' hk=>?_) λ_ _ hF=>hF.elim));obtain⟨h'',tk',rfl,kp,tK⟩:=hk;have nk:=kp _ _ hS;have s1:∀c o,c≠kS->h''.get? c=some o->(h''.update kS (Obj.mapSeq (·.push k))).get? c=some o:=λc o hc' e=>by rw[Nn _ _ _ _ hc'];exact e
  have ea:(List.toArray ks).push k=List.toArray (ks++[k]):=by simp
  obtain⟨c2,hc2⟩:∃c2,(h''.update kS (Obj.mapSeq (·.push k))).get? kS=some (seqObj "list" (List.toArray (ks++[k])) c2):=⟨_,by rw[<-ea];exact Pu nk (·.push k)⟩
  try dsimp only
  refine Oj (Pt nk rfl ?_ (by rw[Ko,Ot];omega) (JY (Ld (Array.size_push ..)) (by rw[Ko,Ot];omega)));refine Oi ⟨rfl,ks++[k],c2,_,tk',rfl,by rw[Kl,Ku];omega,by omega,hc2,s1 _ _ hne (kp _ _ hA),λc o h1 h2=>s1 _ _ (hold c o h2) (kp _ _ (hK c o h1 h2)),λi hi=>?_⟩;refine nR.stay (c:=kS) ?_ nk s1;by_cases z:i=j
  ·subst z
   have:(ks++[k]).getD i Value.none=k:=(by simp[Mg,<-hlen]);rw[this];exact tK
  ·have hi':i<ks.length:=by omega
   have:(ks++[k]).getD i Value.none=ks.getD i Value.none:=(by simp[Mg,Kh hi']);rw[this];exact(hT i `o).keep kp
 ·rintro s' ⟨ks,e,h',tk,rfl,hlen,hle,hS,hA,hK,hT⟩;rw[LV]at hlen hT
  try dsimp only
  refine Oj (listItems_at hS rfl ?_);have tail:∀(p:Array Nat)(st:O8),(arrOf st).map (·.2)=List.toArray (p.toList.map λi=>vs.getD i Value.none)->failedOf st=none->PM vs.length p->Up (rank keys) p vs.length->N7 `g A (ksk_tail a false e1 (.ref kS) st) P E {s with heap:=h',toks:=tk}:=by
   intro p st hout hf hp hu;obtain⟨ck,hck⟩:∃ck,(h'.update kS (Obj.mapSeq λ_=>(#[]:cw))).get? kS=some (seqObj "list" #[] ck):=⟨_,Pu hS λ_=>#[]⟩
   have hA2:(h'.update kS (Obj.mapSeq λ_=>(#[]:cw))).get? a=some (seqObj "list" #[] e1):=(by rw[Nn _ _ _ _ hne];exact hA);obtain⟨c2,hc2⟩:∃c2,((h'.update kS (Obj.mapSeq λ_=>(#[]:cw))).update a (Obj.mapSeq λ_=>List.toArray (p.toList.map λi=>vs.getD i Value.none))).get? a=some (seqObj "list" (List.toArray (p.toList.map λi=>vs.getD i Value.none)) c2):=⟨_,Pu hA2 λ_=>List.toArray (p.toList.map λi=>vs.getD i Value.none)⟩
   unfold ksk_tail
   try dsimp only
   rw[hout];refine Oj (Pt hS rfl ?_ (by rw[Ko,Ot];omega) (KH _));refine Oj (wpAny_letGo ?_);refine Oj (Pw hA2 rfl ?_);simp only[KL,if_false];refine Oj (Pt hA2 rfl ?_ (KH _) (by rw[Ko,Km,Array.length_toList,hp.size,Ot];omega));rw[hf];simp only[bne_self_eq_false,KL,if_false];exact Oi (h p _ c2 tk hp hu (λc o h1 h2=>by rw[Nn _ _ _ _ h1,Nn _ _ _ _ (hold c o h2)];exact hK c o h1 h2) hc2)
  unfold ksk_end
  try dsimp only
  simp only[KL,if_false];have hl2:ks.length=vs.length:=hlen;by_cases h2:vs.toArray.size<2
  ·rw[if_pos h2,if_pos h2];refine Oj (Oi ?_);rw[StateT.run_pure];refine Oj (Oi ?_);dsimp only;refine tail (List.toArray (List.range vs.length)) _ ?_ rfl (Array.Perm.refl _) λi j hij hj=>?_
   ·refine kat_snds hl2 ?_;show(List.toArray ks).zip vs.toArray=_;have e:=kas_range ((List.toArray ks).zip vs.toArray);rw[show((List.toArray ks).zip vs.toArray).size=vs.length by simp[hl2]]at e;exact e.symm
   ·have:vs.length<2:=by simpa using h2
    have:i=j:=(by omega);subst this;exact Ka _
  ·have h2':2<=vs.length:=by
    have:¬vs.length<2:=(by simpa using h2);omega
   rw[if_neg h2,if_neg h2];refine Oj (wx (s:={s with heap:=h',toks:=tk}) `o hsh `o (λi hi=>hT i `o) ?_);refine Oj (N9 (vC (Q:=λst' s'=>∃p:Array Nat,arrOf st'=p.map (Pl ((List.toArray ks).zip vs.toArray))/\failedOf st'=none/\PM vs.length p/\Up (rank keys) p vs.length/\s'={s with heap:=h',toks:=tk}) hl2 `o (by
     have:=tV (prog:=prog) (w:=w) (A:=A) (s:={s with heap:=h',toks:=tk}) (ks:=ks) (keys:=keys) `o hsh (λi hi=>hT i `o)
     rw[hl2]at this;exact this) λp st' a1 a2 a3 a4=>⟨p,a1,a2,a3,a4,rfl⟩) ?_ λ_ _ e=>e)
   rintro⟨⟨⟩,st'⟩ s' ⟨p,har,hf,hp,hu,rfl⟩;dsimp only;exact tail p st' (kat_snds hl2 har) hf hp hu
theorem sG{src:NN}{f:NQ}{vs:aE}{keys:List (List D)}{σ:bb}{b:Bool}{Q:az}(h64:vs.length<1000)(hl:keys.length=vs.length)(hsh:∀k∈keys,Sh (b::σ) k)
  (hcol:∀(Q':aE->bn),(∀h' tk,(∀b o,s.heap.get? b=some o->h'.get? b=some o)->Q' vs {s with heap:=h',toks:=tk})->N7 `g A.in1 (collect src) Q' E s)
  (hc:∀ (i:Nat) (v:NN) (h':NX) (tk:Nat) (Q':az),vs[i]?=some v->(∀ c o,s.heap.get? c=some o->h'.get? c=some o) ->
   (∀k h'' tk',(∀c o,h'.get? c=some o->h''.get? c=some o)->nR (keys.getD i []) h'' k->Q' k {s with heap:=h'',toks:=tk'})->N7 `g A.in1.in1 (call (.ref f) [v]) Q' (λ_ _=>False) {s with heap:=h',toks:=tk})
  (h:∀(p:Array Nat)(h1 h':NX)(l:NQ)(e tk:Nat),PM vs.length p->Up (rank keys) p vs.length->(∀b o,s.heap.get? b=some o->h1.get? b=some o)->(∀b o,h1.get? b=some o->h'.get? b=some o)->h1.objs.size<=l->h'.get? l=some (seqObj "list" (List.toArray (p.toList.map λi=>vs.getD i Value.none)) e)->Q (.ref l) {s with heap:=h',toks:=tk}):
  N7 `g A (call (.builtin "sorted") [src] [(Str.ofString "key",.ref f)]) Q E s:=by
 refine PyProof.Rows.call_function_entry_kw kind_sorted plain_sorted entry_sorted (ksk_s1 _ _) ?_;unfold Builtin.«sorted»;refine Oj (m:=checkCount "sorted" 1 1 _) (Oi ?_);refine Oj (hcol _ λh1 tk k1=>?_);refine Oj (Px ?_ (by rw[Ot];omega));have hoL:(h1.push (seqObj "list" vs.toArray 0)).get? h1.objs.size=some (seqObj "list" vs.toArray 0):=Ng _ rfl;have k2:∀b o,s.heap.get? b=some o->(h1.push (seqObj "list" vs.toArray 0)).get? b=some o:=λb o e=>Nf _ (k1 b o e);have ne:∀b o,s.heap.get? b=some o->b≠h1.objs.size:=λb o e=>JX (M8 (k1 b o e));refine Oj (OI (wpAny_call_entry_kw slot_list_sort ⟨_,hoL,rfl⟩ entry_list_sort ?body (ksk_l1 _ _)))
 case body=>
  show N7 `g A.in1.in1 (Builtin.«list.sort» ⟨[.ref h1.objs.size],[(Str.ofString "key",.ref f)]⟩) _ _ _;rw[ksk_t1];refine yU (s:={s with heap:=h1.push (seqObj "list" vs.toArray 0),toks:=tk}) hoL h64 hl hsh (λi v h' tk' Q' hv hk hq=>hc i v h' tk' Q' hv (λc o e=>hk c o (ne c o e) (k2 c o e)) hq) λp h' e tk' hp hu hk he=>⟨_,rfl,?_⟩
  refine Oi ⟨_,rfl,?_⟩;exact h p h1 h' h1.objs.size e tk' hp hu k1 (λb o q=>hk b o (JX (M8 q)) (Nf _ q)) (Ka _) he
end
end TG
namespace TG
open PySem PySem.Spec PyProof.Rows PySem.W L2
variable[aj]
noncomputable abbrev cutE(row many:Str)(np mp p2 pos:Pos):NR:=.Subscript (.Name row np) (.Slice none (some (.Name many mp)) none p2) pos
section
variable{prog:NV}{w:NU}{A:N4}{E:az}{s:NT}
theorem Au{env:Env}{row many:Str}{np mp p2 pos:Pos}{r c:NQ}{items:cw}{i:Int}{t:Tok}{m:bS}{Q:az}
  (hk:env.scope.kind=.function) (hr:env.kindOf row=some .local) (hm:env.kindOf many=some .free) (hn:s.heap.Ns env.locals m) (hrow:m row=some (.ref r)) (hc:env.cells.lookup many=some c) (hcell:s.heap.IsCell c (some (.int i t)))
  (ht:NZ s.heap r items) (hz:items.size<=NY) (d1:(row==("__debug__":Str))=false) (d2:(many==("__debug__":Str))=false) (d3:(many==("__classdict__":Str))=false)
  (h:∀b h',(∀c o,s.heap.get? c=some o->h'.get? c=some o)->NZ h' b (List.toArray (items.toList.take (HT.sIx items.size items.size (some i))))->Q (.ref b) {s with heap:=h'}):
  N7 `g A (eval (cutE row many np mp p2 pos) env) Q E s:=by
 refine OS (Oa (wpAny_loadName_local hk hr hn hrow ?_) d1);refine wpAny_Slice ?_;rw[OQ,evalPart_some];refine Oi (Oa (wpAny_loadName_free hk hm hc hcell ?_ d3) d2);refine Oi ?_;have kp:∀c o,s.heap.get? c=some o->(s.heap.push {cls:=.type "slice",data:=.fields #[.none,.int i t,.none]}).get? c=some o:=λc o q=>Nf _ q;have ht':NZ (s.heap.push {cls:=.type "slice",data:=.fields #[.none,.int i t,.none]}) r items:=by
  obtain⟨o,e,q⟩:=ht;exact⟨o,kp _ _ e,q⟩
 have hs:(s.heap.push {cls:=.type "slice",data:=.fields #[.none,.int i t,.none]}).IsSliceOf s.heap.objs.size .none (.int i t) .none:=Heap.IsSliceOf.new ..
 show N7 `g A (subscriptTail (.Name row np) (.Slice none (some (.Name many mp)) none p2) (.ref r) (.ref s.heap.objs.size)) Q E {s with heap:=s.heap.push {cls:=.type "slice",data:=.fields #[.none,.int i t,.none]}};refine tail_any (ops:=[.ref s.heap.objs.size,.ref r]) ht'.typeIs slot_tuple_getitem.lookup ?_ (by with_unfolding_all rfl);by_cases hw:HT.sIx items.size 0 none=0/\HT.sIx items.size items.size (some i)=items.size
 ·refine dX (s:={s with heap:=s.heap.push {cls:=.type "slice",data:=.fields #[.none,.int i t,.none]}}) ht' hs .none (.int i t) hw ?_;refine h r _ kp ?_;rw[hw.2]
  have:items.toList.take items.size=items.toList:=LD (by simp)
  rw[this]
  simpa using ht'
 ·refine HT.vg (s:={s with heap:=s.heap.push {cls:=.type "slice",data:=.fields #[.none,.int i t,.none]}}) ht' hs .none (.int i t) hw ?_ hz;refine h _ _ (λc o q=>Nf _ (kp c o q)) ?_;have e0:HT.sIx items.size 0 none=0:=rfl;rw[e0,KS,Lc];exact⟨_,Ng _ rfl,rfl,_,rfl⟩
theorem yM{f c' cc r:NQ}{row many qual:Str}{params:Oz}{scope:N5}{np mp p2 pos:Pos}{pm ctv:NN}{items:cw}{i:Int}{t:Tok}{Q:az}
  (hf:s.heap.get? f=some (Pz "<lambda>" qual params (cutE row many np mp p2 pos) scope [(many,cc)] pm c' ctv)) (hcd:s.heap.CodeRec (.ref c') qual) (hroom:A.depth<Ou) (hlim:s.heap.NoLimit)
  (hbind:∀v,bindArgs (kla_fn "<lambda>" qual params (cutE row many np mp p2 pos) scope [(many,cc)] pm (.ref c') ctv) ⟨[v],[]⟩=pure [(row,v)])
  (hco:scope.isCoroutine=false) (hgen:scope.isGenerator=false) (hk:scope.kind=.function) (hno:∀x∈scope.names,x.2≠.cell) (hr:scope.names.lookup row=some .local) (hm:scope.names.lookup many=some .free)
  (hcell:s.heap.IsCell cc (some (.int i t))) (ht:NZ s.heap r items) (hz:items.size<=NY) (d1:(row==("__debug__":Str))=false) (d2:(many==("__debug__":Str))=false) (d3:(many==("__classdict__":Str))=false)
  (h:∀b h' tk,(∀c o,s.heap.get? c=some o->h'.get? c=some o)->NZ h' b (List.toArray (items.toList.take (HT.sIx items.size items.size (some i))))->Q (.ref b) {s with heap:=h',toks:=tk}):
  N7 `g A (call (.ref f) [.ref r]) Q E s:=by
 refine wpAny_call (kla_callFunE hroom hf rfl hco hgen rfl hcd ?_);rw[hbind];refine Oi (wpAny_newFunctionEnv hno (λx hx=>?_) (λh₁ hns hsb=>⟨hlim.fresh _ hsb,?_⟩) hk)
 ·rw[Mm]at hx;subst hx;exact hr
 ·show Oy _ _ (.expr (cutE row many np mp p2 pos) (envX qual scope s.heap.objs.size f (.ref c') [(many,cc)])) _ _;have hk₁:∀b o,s.heap.get? b=some o->h₁.get? b=some o:=λb o e=>hsb.extBut b o (JX (M8 e)) (Nf _ e);refine kla_codeExpr (Au (m:=λx=>[(row,Value.ref r)].reverse.lookup x) (r:=r) (c:=cc) (t:=t) hk hr hm hns ?_ ?_ ?_ ?_ hz d1 d2 d3 λb h' kp tb=>h b h' _ (λc o e=>kp c o (hk₁ c o e)) tb)
  ·simp
  ·simp
  ·obtain⟨o,e,q⟩:=hcell;exact⟨o,hk₁ _ _ e,q⟩
  ·obtain⟨o,e,q⟩:=ht;exact⟨o,hk₁ _ _ e,q⟩
end
end TG
namespace TG
open PySem PySem.Spec PyProof.Rows PySem.W L2
variable[aj]
noncomputable def zX(mg:bS)(base:NX)(c P:NQ):Prop:=CodeHd base c P/\∃bm ob,mg "__builtins__"=some (.ref bm)/\bm≠N2/\base.get? bm=some ob/\ob.cls=.type "module"/\ob.dict=some N2/\ob.data=.plain
section
variable{fs ex:ak}{Pg:NV}{w:NU}{H:Hp}{h h':NX}{P c':NQ}{φ:(NQ->Prop)->NX->Prop}
theorem FH(hP:H P=some (.ext φ))(k:∀b o,b≠P->h.get? b=some o->h'.get? b=some o)(hp:∃o,h'.get? P=some o)(hc:h.objs.size<=c')(hn:H c'=none):Un fs ex H (upd H c' (.own P)) h h' where
 keep:=λb u q n _ _=>k b u (λz=>by rw[z,hP]at n;cases n) q
 slot:=λb u q n _ _=>⟨u.slots,k b u (λz=>by rw[z,hP]at n;cases n) q⟩
 free:=λb u q n _=>by rw[ao (JX (JV (M8 q) hc))];exact n
 there:=λb u q _=>by
  by_cases z:b=P
  ·rw[z];exact hp
  ·exact⟨u,k b u z q⟩
 tups:=λb xs q=>by rw[ao (aI q hn)];exact q
 frzs:=λb u xs q=>by rw[ao (aI q hn)];exact q
 tbls:=λb ps q=>⟨#[],by rw[ao (aI q hn),q];simp⟩
theorem BD(x:jS Pg w H h)(hP:H P=some (.ext φ))(k:∀b o,b≠P->h.get? b=some o->h'.get? b=some o)(hc:h.objs.size<=c')(ho:∃o,h'.get? c'=some o)(new:bA Pg w (upd H c' (.own P)) h' P (.ext φ)):jS Pg w (upd H c' (.own P)) h':=λb u e=>by
 have hn:=x.fresh hc;by_cases hb:b=c'
 ·subst hb;rw[aq]at e;cases e;exact ho
 ·rw[ao hb]at e;by_cases hb2:b=P
  ·subst hb2;rw[hP]at e;cases e;exact new
  ·refine(x b u e).stay (λc v hc' q=>k c v ?_ q) (λc q=>by rw[ao (aI q hn)];exact q) λc xs q=>by rw[ao (aI q hn)];exact q
   rcases hc' with rfl|hc'
   ·exact hb2
   ·rintro rfl;rw[hP]at hc';cases hc'
end
theorem zX.blt{mg:bS}{base h:NX}{c P:NQ}{m:bS}(B:zX mg base c P)(kp:∀b o,base.get? b=some o->h.get? b=some o)(hP:base.get? P=none)(hg:base.Ns N1 m):h.BuiltinsAt mg P:=by
 obtain⟨_,bm,ob,b1,b2,b3,b4,b5,b6⟩:=B;refine⟨bm,ob,b1,b2,λz=>?_,λz=>?_,kp _ _ b3,b4,b5,b6⟩
 ·subst z;obtain⟨o,es,ep,e,hd,_⟩:=hg;rw[e]at b3;cases b3;rw[hd]at b6;cases b6
 ·subst z;rw[hP]at b3;cases b3
section
variable{X:Cx}{pins:aL}{s:NT}{σ:L2.St}{H:Hp}{E:az}
theorem zx{c P:NQ}{lpos:Pos}{params:Oz}{body:NR}{scope:N5}{clos:jN}{Q:az}(I:`h)(B:zX X.mg X.base c P)(hcode:X.env.code=.ref c)(hP:H P=some (.ext (kP P lpos (X.env.qual++"<lambda>"))))
  (hdef:defaultsOf params X.env=([],[])) (hcl:closureFor scope X.env=pure clos)
  (h:∀f c' ctv s' H',Inv X pins σ H' s'->aF H H'->s'.heap.get? f=some (Pz "<lambda>" (X.env.qual++"<lambda>") params body scope clos ((X.mg "__name__").getD .none) c' ctv)->s'.heap.CodeRec (.ref c') (X.env.qual++"<lambda>")->Q (.ref f) s'):
  N7 `i X.A (eval (.Lambda params body scope lpos) X.env) Q E s:=by
 have hg:s.heap.Ns N1 X.mg:=I.mod.glob.keeps I.bk;have hPn:X.base.get? P=none:=by
  cases q:X.base.get? P with
  |none=>rfl
  |some o=>have:=(I.bs P o q).2;rw[hP]at this;cases this
 have hgP:N1≠P:=λz=>by
  obtain⟨o,es,ep,e,_⟩:=I.mod.glob;rw[z,hPn]at e;cases e
 have hb:=B.blt I.bk hPn I.mod.glob;have C:=B.1.keeps I.bk;obtain⟨tb,_,_⟩:=I.hok P _ hP;refine kla_eval hdef ?_;rcases tb with e|⟨c',hc',e,hrec⟩
 ·refine kla_makeFunction hcl I.ok.glob hg hcode C e trivial rfl hgP hb λc' ctv h' tk hx hge hlt hrec htb=>?_;have hn:=I.hok.fresh hge;have htb':h'.get? P=some (tabObj #[rawInt lpos.line,rawInt lpos.col,.ref c']):=by simpa using htb
  have kp:∀b o,b≠P->s.heap.get? b=some o->(h'.push (Pz "<lambda>" (X.env.qual++"<lambda>") params body scope clos ((X.mg "__name__").getD .none) c' ctv)).get? b=some o:=λb o hb' q=>Nf _ (hx b o hb' q);have hrec':(h'.push (Pz "<lambda>" (X.env.qual++"<lambda>") params body scope clos ((X.mg "__name__").getD .none) c' ctv)).CodeRec (.ref c') (X.env.qual++"<lambda>"):=by
   obtain⟨c2,oc,vs,t,ec,eo,r⟩:=hrec;exact⟨c2,oc,vs,t,ec,Nf _ eo,r⟩
  have hco:∃o,(h'.push (Pz "<lambda>" (X.env.qual++"<lambda>") params body scope clos ((X.mg "__name__").getD .none) c' ctv)).get? c'=some o:=by
   obtain⟨c2,oc,vs,t,ec,eo,r⟩:=hrec;cases ec;exact⟨oc,Nf _ eo⟩
  refine h _ c' ctv _ (upd H c' (.own P)) (I.un (FH hP kp ⟨_,Nf _ htb'⟩ hge hn) (BD I.hok hP kp hge hco (kP.ok (.inr ⟨c',aq,Nf _ htb',hrec'⟩)))) (bh hn _) (Ng _ rfl) hrec'
 ·refine kla_makeFunctionHit (cv:=.ref c') hcl I.ok.glob hg hcode C e trivial ?_ hb λctv h' tk hk hsz=>?_
  ·show(if((lpos.line:Int)==(lpos.line:Int)&&(lpos.col:Int)==(lpos.col:Int))=true then some (Value.ref c')else _)=_;simp
  ·have kp:∀b o,s.heap.get? b=some o->(h'.push (Pz "<lambda>" (X.env.qual++"<lambda>") params body scope clos ((X.mg "__name__").getD .none) c' ctv)).get? b=some o:=λb o q=>Nf _ (hk b o q);refine h _ c' ctv _ H (I.kept kp) (aF.refl H) (Ng _ rfl) ?_;obtain⟨c2,oc,vs,t,ec,eo,r⟩:=hrec;exact⟨c2,oc,vs,t,ec,kp _ _ eo,r⟩
end
noncomputable def iX(m:Nat):D->List D
 |.tup ks=>ks.take m
 |_=>[]
noncomputable def Gx(m:Nat)(xs:List D):Prop:=xs.length<1000/\∃σ:bb,σ≠[]/\(∀x∈xs,∃k,x=.tup k/\Sh σ (k.take m))/\xs.Pairwise λx y=>iX m x≠iX m y
open Classical in
noncomputable def mF(m:Nat)(xs:List D):aW:=if Gx m xs then some (.lst (aY (iX m) xs))else none
noncomputable def ka:D->D->aW
 |.lst xs,.int i=>if 0<=i then mF i.toNat xs else none
 |.tup xs,.int i=>if 0<=i then mF i.toNat xs else none
 |_,_=>none
theorem ou:∀{vs:aG}{us:aE}(n:Nat),Vals vs us->Vals (vs.take n) (us.take n)
 |_,_,0,_=>by rw[KQ,KQ];exact .nil
 |_,_,_+1,.nil=>.nil
 |_,_,n+1,.cons r t=>by rw[KR,KR];exact .cons r (ou n t)
theorem Bm{i:Int}(h:0<=i)(n:Nat):HT.sIx n n (some i)=min i.toNat n:=by
 show(if i<0 then _ else _)=_;rw[if_neg `o]
theorem d8:N3 "sorted"=some (.builtin "sorted"):=by first|rfl|decide +kernel
section
variable{X:Cx}{pins:aL}{s:NT}{σ:L2.St}{H:Hp}{O:ak}
theorem sU{u:NN}{ds:List D}{vs:aG}{its:aE}{d:D}{i:Int}{t:Tok}{c' cc f:NQ}{row many qual:Str}{params:Oz}{scope:N5}{np mp p2 pos:Pos}{pm ctv:NN}{Q:VK}
  (I:`h) (hO:bJ H O) (dn:aB X.K (hid H O) ds vs) (rv:Vals vs its) (h0:0<=i) (hs:mF i.toNat ds=some d)
  (hf:s.heap.get? f=some (Pz "<lambda>" qual params (cutE row many np mp p2 pos) scope [(many,cc)] pm c' ctv)) (hcd:s.heap.CodeRec (.ref c') qual) (hroom:X.A.depth<Ou)
  (hbind:∀v,bindArgs (kla_fn "<lambda>" qual params (cutE row many np mp p2 pos) scope [(many,cc)] pm (.ref c') ctv) ⟨[v],[]⟩=pure [(row,v)])
  (hco:scope.isCoroutine=false) (hgen:scope.isGenerator=false) (hk:scope.kind=.function) (hno:∀x∈scope.names,x.2≠.cell) (hr:scope.names.lookup row=some .local) (hm:scope.names.lookup many=some .free)
  (hcell:s.heap.IsCell cc (some (.int i t))) (d1:(row==("__debug__":Str))=false) (d2:(many==("__debug__":Str))=false) (d3:(many==("__classdict__":Str))=false)
  (hcol:∀(Q':aE->bn),(∀h' tk,(∀b o,s.heap.get? b=some o->h'.get? b=some o)->Q' its {s with heap:=h',toks:=tk})->N7 `i X.A.in1 (collect u) Q' X.xe s)
  (q:∀v H',aF H H'->bo X.K (hid H' O) d v->Q v H'):N7 `i X.A (call (.builtin "sorted") [u] [(Str.ofString "key",.ref f)]) (EP X pins σ Q) X.xe s:=by
 have l1:=dn.length;have l2:=rv.length;unfold mF at hs;split at hs
 ·rename_i hS;cases hs;obtain⟨h64,σ',hσ,hsh,pw⟩:=hS;obtain⟨b,σ1,rfl⟩:∃b σ1,σ'=b::σ1:=by
   cases σ' with
   |nil=>exact absurd rfl hσ
   |cons b σ1=>exact⟨b,σ1,rfl⟩
  have hsh':∀x∈ds,Sh (b::σ1) (iX i.toNat x):=λx hx=>by
   obtain⟨k,rfl,hk⟩:=hsh x hx;exact hk
  refine sG (keys:=ds.map (iX i.toNat)) (σ:=σ1) (b:=b) `o (by rw[Km];omega) (λk hk=>by obtain⟨x,hx,rfl⟩:=List.mem_map.mp hk;exact hsh' x hx) hcol (λj v h' tk Q' hv kp hq=>?_) λp h1 h' l e tk hp hu k1 k2 hl he=>?_
  ·have hj:j<its.length:=by
    rcases Mk j its.length with z|z
    ·exact z
    ·rw[Ml z]at hv;cases hv
   have hj':j<ds.length:=(by omega);obtain⟨v0,e1,dv⟩:=dn.get (i:=j) (d:=ds[j]) (by simp[hj']);obtain⟨w,e2,rw'⟩:=rv.get e1;rw[hv]at e2;cases e2;obtain⟨k,ek,hk'⟩:=hsh _ (Ly hj');have ekey:(ds.map (iX i.toNat)).getD j []=k.take i.toNat:=by
    have:(ds.map (iX i.toNat)).getD j []=iX i.toNat ds[j]:=(by simp[hj']);rw[this,ek];rfl
   rw[ekey]at hq;rw[ek]at dv;obtain⟨a,ws,rfl,ha,dk⟩:=bv.mp dv;cases rw';obtain⟨it2,r2,ht,hz⟩:=I.tuple (aZ (ai H O) ha);have hz':it2.toArray.size<=NY:=(by rw[Ko,<-r2.length];exact hz);refine yM (s:={s with heap:=h',toks:=tk}) (i:=i) (t:=t) (kp _ _ hf) ?_ hroom (I.nolimit.keeps kp) hbind hco hgen hk hno hr hm ?_ (items:=it2.toArray) ?_ hz' d1 d2 d3 λb2 h'' tk' kp2 tb=>?_
   ·obtain⟨c2,oc,vs',t',ec,eo,r⟩:=hcd;exact⟨c2,oc,vs',t',ec,kp _ _ eo,r⟩
   ·obtain⟨o,e,q⟩:=hcell;exact⟨o,kp _ _ e,q⟩
   ·obtain⟨o,e,q⟩:=ht;exact⟨o,kp _ _ e,q⟩
   ·refine hq _ h'' tk' kp2 ?_;obtain⟨o,eo,hc,n,hd⟩:=tb;refine⟨b2,o,_,n,rfl,eo,hc,hd,?_⟩;have e3:(List.toArray (it2.toArray.toList.take (HT.sIx it2.toArray.size it2.toArray.size (some i)))).toList=it2.take i.toNat:=by
     rw[Bm h0];simp only[Ko,Mi];rcases Nat.le_total i.toNat it2.length with z|z
     ·rw[LU z]
     ·rw[Nat.min_eq_right z,LD (Ka _),LD z]
    rw[e3];exact fw (lL hk') (dk.take i.toNat) (ou i.toNat r2)
  ·have el:its.length=ds.length:=(by omega);rw[el]at hp hu;have ps:=k7 (key:=iX i.toNat) hsh' pw hp hu;have hr:p.toList.Perm (List.range ds.length):=by
    have:=Array.perm_iff_toList_perm.mp hp
    simpa using this
   have hlt:∀i∈p.toList,i<ds.length:=λi hi=>by simpa using hr.mem_iff.mp hi
   have I1:Inv X pins σ H {s with heap:=h1,toks:=tk}:=I.kept k1;have hn:H l=none:=I1.hok.fresh hl;have rv':=kM rv p.toList λi hi=>by have:=hlt i hi;omega
   have dn':=kJ dn p.toList hlt;have hlen:p.toList.length=ds.length:=(by rw[hr.length_eq,Lb]);refine⟨.ref l,_,Inv.laid (s:={s with heap:=h1,toks:=tk}) (t':=tk) I1 k2 hl (show bA X.prog X.w _ h' _ (.lst (p.toList.map λi=>vs.getD i .non))from⟨by rw[Km,hlen,Ot];omega,_,e,rv',he⟩),rfl,?_⟩;refine q _ _ (bh hn _) ?_;rw[<-ps];exact cS hO hn dn'
 ·cases hs
end
end TG
namespace TG
open PySem PySem.Spec PyProof.Rows PySem.W L2
section
variable[aj]{P:NV}{w:NU}{K:MT}{mg:bS}{base:NX}
noncomputable def nX(K:MT)(f:NQ)(cdv:NN):Prop:=∃oc od fd sl,K.lookup f=some ⟨oc,od,.func fd,sl⟩/\fd.code=cdv
theorem nX.one{f:NQ}{a b:NN}(h:nX K f a)(h':nX K f b):a=b:=by
 obtain⟨oc,od,fd,sl,e,r⟩:=h;obtain⟨oc',od',fd',sl',e',r'⟩:=h';rw[e]at e';cases e';rw[<-r,<-r']
structure qx(P:NV)(w:NU)(K:MT)(mg:bS)(base:NX)(k:Nat)(N:aH)(qual:Str)(st:NS)(f:NQ)(B:bB):Prop where
 h:∀(cdv:NN)(A:N4)(outer:List Env)(s:NT)(H:Hp)(E:XK),nX K f cdv->eO k (A.deeper (envOfC qual (af st) s.heap.objs.size f cdv))->Og (model P w) (A.deeper (envOfC qual (af st) s.heap.objs.size f cdv)) (envOfC qual (af st) s.heap.objs.size f cdv) (dW (gM P w) P w K mg base N qual (af st) f cdv A outer s H E).xe->
  Ic (dW (gM P w) P w K mg base N qual (af st) f cdv A outer s H E) (b8 st) B
theorem yB{x qual:Str}{st:NS}{f:NQ}{fd:Ow}{N ps:aH}{k:Nat}{B:bB}(F:tW K x qual st f fd)(SC:cu N ps (af st))(hb:qx P w K mg base k N qual st f B):
  iY P w K mg base (gM P w) (k+1) f fd ps (Ay K ps.length (aP B ps.length N.length)):=by
 obtain⟨oc,od,kV,doc,pm,an,cd,ct,osl,rfl,lk,hcd⟩:=F.ex;refine Dq lk hcd SC (λvs H Q E h=>?_) λA outer s H vs Q E hr h=>?_
 ·obtain⟨O,ds,h1,_⟩:=h;exact h1
 ·obtain⟨O,ds,h1,h2,h3,h4⟩:=h;have hl:ds.length=ps.length:=h3.length.trans h1;have e4:aP B ps.length N.length ds=B K0 (env0 N.length ds):=by unfold aP;rw[if_pos hl]
  rw[e4]at h4;refine⟨_,hb.h cd A outer s H E ⟨_,_,_,_,lk,rfl⟩ hr PassesOwn.leaving H O,O,env0 N.length ds,K0,_,⟨i9 h2 h3,⟨aF.refl H,λ_ z=>z,λa z=>.inl z⟩,λi xs a e=>?_,λi d e=>by obtain⟨d',_,e2⟩:=eP i _ e;cases e2⟩,rfl,?_⟩
  ·obtain⟨d',_,e2⟩:=eP i _ e;cases e2
  ·generalize B K0 (env0 N.length ds)=r at h4;refine⟨λz=>by rw[z]at h4;exact h4,λO' ρ' σ' H' S e=>?_,λO' ρ' σ' H' S e=>?_,λO' ρ' σ' H' S e=>?_,λd O' v H' e b dv=>?_,λO' ρ' σ' H' x S e=>?_⟩
   ·have e:(.ok .non:R D)=r:=e;subst e;exact h4 .non H' S.base.same (gq.mpr rfl)
   ·have e:(un:R D)=r:=e;subst e;exact h4.elim
   ·have e:(un:R D)=r:=e;subst e;exact h4.elim
   ·subst e;exact h4 v H' b.same (dv.mono (f7 b.sub))
   ·have e:(.error (some x):R D)=r:=e;subst e;exact sN h4 S.base.same S.base.sub
theorem tD{x qual:Str}{st:NS}{f:NQ}{fd:Ow}{N ps:aH}{k:Nat}{B:bB}(F:tW K x qual st f fd)(b:Binds K fd ps [])(m:mg x=some (.ref f))(SC:cu N ps (af st))(hb:qx P w K mg base k N qual st f B):
  Callee P w K mg base (k+1) x ps (aP B ps.length N.length):=⟨f,fd,yB F SC hb,b,F.kp,m⟩
end
noncomputable def sQ(mg:bS)(base:NX):Prop:=∃bm ob,mg "__builtins__"=some (.ref bm)/\bm≠N2/\base.get? bm=some ob/\ob.cls=.type "module"/\ob.dict=some N2/\ob.data=.plain
theorem CI{K:MT}{mg:bS}{base:NX}{c P:NQ}(X:K.In base)(e:codeHdIn K c P=true)(b:sQ mg base):zX mg base c P:=⟨codeHd_of_K X e,b⟩
theorem A9{P:NV}{w:NU}{K:MT}{mg mb:bS}{CX:yC}{k:Nat}{fa a c T:NQ}{lpos:Pos}{q:Str}{fd:Ow}{x:Str}{sp:Sp}{s₁:NT}{vs:aE}{ns:List Int}
  (KX:K.In s₁.heap) (hns:s₁.heap.Ns N1 mg) (hb:s₁.heap.Ns N2 mb) (hbb:∀x:Str,x≠"__name__"->mb x=N3 x) (hlim:s₁.heap.NoLimit) (hg:s₁.gens=#[]) (hbm:sQ mg s₁.heap)
  (hT:s₁.heap.get? T=some (tabObj #[])) (hC:codeHdIn K c T=true) (hKT:K.lookup T=none)
  (ha:s₁.heap.get? a=some {cls:=.type "list",data:=.seq vs.toArray}) (hi:IntsAre vs ns) (hl:ns.length<=NY) (hr:eO k callerA)
  (F:∀base:NX,K.In base->base.Ns N1 mg->sQ mg base->iY P w K mg base CX k fa fd [x] sp) (hbind:∀(s:NT)(u:NN),Ox s fd ⟨[u],[]⟩ [(x,u)])
  (hsp:∀H:Hp,H T=some (.ext (kP T lpos q))->lu K H a (ns.map V.int)->sp [.ref a] H (λv H'=>v=.bl true/\aF H H') λ_ _ _=>False)
  (hCX:∀H e s',CX [] H s₁ (λ_ _ _=>False) e s'->False):
  Oy (model P w) callerA (.call (.ref fa) ⟨[.ref a],[]⟩) (λr s'=>r=.ok (.ret (.bool true))/\OldK s₁.heap s'.heap/\s'.os=s₁.os/\AllBare s'.gens) s₁:=by
 have rv:=pf hi;have lenV:=hi.length;have aT:a≠T:=λz=>by rw[z,hT]at ha;cases ha
 obtain⟨H,hH⟩:∃H:Hp,H=λb=>if b=T then some (.ext (kP T lpos q))else if b=a/\(K.lookup a).isNone=true then some (.frz {cls:=.type "list",data:=.seq vs.toArray} (.lst (ns.map V.int)))else none:=⟨_,rfl⟩
 have hHT:H T=some (.ext (kP T lpos q)):=by rw[hH];exact if_pos rfl
 have cases':∀b u,H b=some u->(b=T/\u=.ext (kP T lpos q))\/(b=a/\K.lookup a=none/\u=.frz {cls:=.type "list",data:=.seq vs.toArray} (.lst (ns.map V.int))):=λb u e=>by
  rw[hH]at e;by_cases z:b=T
  ·have e:=(if_pos z).symm.trans e;cases e;exact .inl ⟨z,rfl⟩
  ·have e:=(if_neg z).symm.trans e;by_cases z':b=a/\(K.lookup a).isNone=true
   ·have e:=(if_pos z').symm.trans e;cases e;exact .inr ⟨z'.1,by simpa using z'.2,rfl⟩
   ·have e:=(if_neg z').symm.trans e;cases e
 have free:∀b o,s₁.heap.get? b=some o->o.cls≠.none->o.cls≠.type "list"->H b=none:=λb o e h1 h2=>by
  cases z:H b with
  |none=>rfl
  |some u=>
   rcases cases' b u z with⟨e1,_⟩|⟨e1,_⟩
   ·rw[e1,hT]at e;cases e;exact absurd rfl h1
   ·rw[e1,ha]at e;cases e;exact absurd rfl h2
 have freeD:∀b o es ep,s₁.heap.get? b=some o->o.data=.dict es ep->H b=none:=λb o es ep e d=>by
  cases z:H b with
  |none=>rfl
  |some u=>
   rcases cases' b u z with⟨e1,_⟩|⟨e1,_⟩
   ·rw[e1,hT]at e;cases e;cases d
   ·rw[e1,ha]at e;cases e;have d':Data.seq vs.toArray _=Data.dict es ep:=d;cases d'
 have hS:lu K H a (ns.map V.int):=by
  cases hk:K.lookup a with
  |some o=>
   have e:=KX a o hk;rw[ha]at e;cases e;exact .inr ⟨_,vs.toArray,_,hk,rfl,rfl,rfl,by rw[Ko,lenV];exact hl,by simpa using rv⟩
  |none=>
   refine .inl (.inr ⟨{cls:=.type "list",data:=.seq vs.toArray},?_⟩);rw[hH];exact(if_neg aT).trans (if_pos ⟨rfl,by rw[hk];rfl⟩)
 have hok:jS P w H s₁.heap:=λb u e=>by
  rcases cases' b u e with⟨e1,e2⟩|⟨e1,_,e2⟩
  ·subst e1 e2;exact kP.ok (.inl hT)
  ·subst e1 e2;exact⟨ha,by rw[Km];exact hl,vs,_,rv,ha⟩
 have nsK:∀{b:NQ}{m:bS},s₁.heap.Ns b m->(qo s₁.heap H).Ns b m:=λ{b m} ⟨o,es,ep,e,d,r⟩=>⟨o,es,ep,nu e (freeD b o es ep e d),d,r⟩
 have hKb:K.In (qo s₁.heap H):=λb o e=>nu (KX b o e) (by
  cases z:H b with
  |none=>rfl
  |some u=>
   rcases cases' b u z with⟨e1,_⟩|⟨e1,e2,_⟩
   ·rw[e1,hKT]at e;cases e
   ·rw[e1,e2]at e;cases e)
 have hbm':sQ mg (qo s₁.heap H):=by
  obtain⟨bm,ob,b1,b2,b3,b4,b5,b6⟩:=hbm;refine⟨bm,ob,b1,b2,nu b3 (free bm ob b3 ?_ ?_),b4,b5,b6⟩
  ·rw[b4];simp
  ·rw[b4];simp
 have hM:Mod K mg (qo s₁.heap H):=⟨hKb,nsK hns,⟨mb,nsK hb,hbb⟩,let ⟨mc,h1,h2⟩:=hlim;⟨mc,nsK h1,h2⟩⟩
 have e0:BO P w K mg (qo s₁.heap H) callerA [] s₁ H:=⟨rfl,hM,λb o e=>Ck e,Ld (wg _ _),trivial,λb hb=>absurd (show b∈([]:ak)from hb) (by simp),hok,.of_eq hg⟩
 refine OW ((F _ hKb (nsK hns) hbm').run callerA [] s₁ H ⟨[.ref a],[]⟩ [.ref a] [.ref a] _ _ hr e0 (hbind s₁ (.ref a)) (.cons rfl .nil) (hsp H hHT hS)) λr s' h=>?_;cases r with
 |error e=>exact(hCX H e s' h).elim
 |ok fl=>
  cases fl with
  |next=>exact False.elim h
  |brk=>exact False.elim h
  |cont=>exact False.elim h
  |ret u=>
   obtain⟨v,H',os,bare,unn,hok',r',q'⟩:=h;obtain⟨ev,sm⟩:v=.bl true/\aF H H':=q';subst ev;obtain rfl:u=Value.bool true:=r';have tb:=(hok' T _ (sm _ _ hHT)).1;obtain⟨ps,hps⟩:∃ps,s'.heap.get? T=some (tabObj ps):=by
    rcases tb with e|⟨_,_,e,_⟩
    ·exact⟨_,e⟩
    ·exact⟨_,e⟩
   have keep:∀b o,b≠T->s₁.heap.get? b=some o->s'.heap.get? b=some o:=λb o hb e=>by
    cases z:H b with
    |none=>exact unn.keep b o e z (by intro z;exact absurd (show b∈([]:ak)from z) (by simp)) (by simp)
    |some u=>
     rcases cases' b u z with⟨e1,_⟩|⟨e1,_,e2⟩
     ·exact absurd e1 hb
     ·subst e2;have z2:=sm _ _ z;obtain⟨e3,_⟩:=hok' b _ z2;rw[e1,ha]at e;cases e;exact e3
   refine⟨rfl,⟨λb o e=>?_,λb o e=>?_⟩,os,bare⟩
   ·by_cases hb:b=T
    ·subst hb;rw[hT]at e;cases e;exact .inr (.inl ⟨((codeHd_of_K KX hC).tab hT).isCodeTable,rfl,#[],ps,rfl,by rw[Array.empty_append];exact hps⟩)
    ·exact .inl (keep b o hb e)
   ·by_cases hb:b=T
    ·subst hb;exact⟨_,hps⟩
    ·exact⟨o,keep b o hb e⟩
theorem zS{l:M5}{n k:Nat}{q:NV}{loose:aH}{XP:(bS)->NX->Prop}{YP:NU->NX->Prop}{d:DefRec}{K:Params->MT}{CX:NU->yC}{sp:NU->Sp}{x qn:Str}{T:NQ}{lpos:Pos}
  (hn:l.most=some n) (hn2:n<=NY) (hdf:d.params.defaults=[]) (hr:eO k callerA)
  (hY:∀(w:NU)(h:NX),YP w h->(K w.params).In h/\h.get? T=some (tabObj #[]))
  (F:∀ (w:NU) (mg:bS) (fa:NQ) (h:NX),(K w.params).In h->h.Ns N1 mg->mg d.name=some (.ref fa) ->
   (∃c,codeHdIn (K w.params) c T=true)/\(K w.params).lookup T=none/\∃fd:Ow,(∀(s:NT)(u:NN),Ox s fd ⟨[u],[]⟩ [(x,u)])/\
    ∀base:NX,(K w.params).In base->base.Ns N1 mg->sQ mg base->iY l.prog w (K w.params) mg base (CX w) k fa fd [x] (sp w))
  (hsp:∀(w:NU)(H:Hp)(a:NQ)(ns:List Int),ns.length<=n->H T=some (.ext (kP T lpos qn))->lu (K w.params) H a (ns.map V.int)->sp w [.ref a] H (λv H'=>v=.bl true/\aF H H') λ_ _ _=>False)
  (hCX:∀(w:NU)(H:Hp)(s:NT)(e:NN)(s':NT),CX w [] H s (λ_ _ _=>False) e s'->False):
  PySem.W.WalkO q loose XP YP l.row.toRowW d [] (λf vs=>PySem.call f vs):=by
 refine Att.C8 hn hdf λw s₀ s₁ mg mb fa o pm cd doc a vs ns G Y ho hd hcd hmg hobj hints hlen hg=>?_;obtain⟨KX,hT⟩:=hY w _ Y;obtain⟨⟨c,hC⟩,hKT,fd,hb,hF⟩:=F w mg fa _ KX G.T.g hmg;exact A9 KX G.T.g G.T.b G.T.builtins G.T.nolimit hg G.T.bmain hT hC hKT hobj hints (JY hlen hn2) hr hF hb (λH hO hS=>hsp w H a ns hlen hO hS) λH e s'=>hCX w H s₁ e s'
end TG
namespace TG
open PySem PySem.Spec PySem.Calls L2
open PySem.SeqAt (EqAt list_indexAt)
variable[aj]
section
variable{X:Cx}{p pos:Pos}{e:NR}
end
end TG
namespace TG
open PySem PySem.Spec L2
variable[aj]
end TG
namespace TG
open PySem PySem.Spec PySem.Calls L2
open PySem.SeqAt (EqAt list_countAt)
variable[aj]
end TG
namespace TG
open PySem PySem.Spec L2
variable[aj]
end TG
namespace TG
open PySem PySem.Spec PySem.Calls L2
variable[aj]
theorem wV:typeLookup (.type "list") "keys"=pure none:=by rw[PB,PD];kernel_rfl
theorem AC{prog:NV}{w:NU}{A:N4}{E:az}{s:NT}{a:NQ}{o:Obj}{xs:cw}{k:Nat}{u:Tok}{Q:az}
  (hx:s.heap.get? a=some o) (hc:o.cls=.type "list") (hdat:o.data=.seq xs k) (hd:o.dict=none) (hA:A.handled=none)
  (h:∀h' tk e,Heap.NewExcOf s.heap h' e "AttributeError"->E (.ref e) {s with heap:=h',toks:=tk}):
  N7 `g A (getAttrBy (.ref a) (.str "keys" u) false) Q E s:=by
 obtain⟨c,dct,dat,sl⟩:=o;simp only at hc hdat hd;subst hc hdat hd;obtain⟨hp,g,d,tk,os⟩:=s;have hT:∀tk',(⟨hp,g,d,tk',os⟩:NT).TypeIs (.ref a) "list":=λ_=>⟨_,hx,rfl⟩
 have f1:=sub_AttributeError;have f3:=F.slot_list_getattribute.lookup;have f4:=F.slot_list_getattribute.bind (.ref a);have f5:=am_list_getattr_none;unfold getAttrBy
 repeat (any_goals (first|assumption|exact hT _|((with_reducible show N7 _ _ (call (Value.builtin "list.__getattribute__") _ _) _ _ _);refine call_meets F.slot_list_getattribute (hT _) am_entry_list_getattribute (F.args_list_getattribute_2 _ _) (meets_getattribute_miss_list a xs k sl "keys" _ wV (by decide +kernel) (by decide +kernel)) ⟨hx,hA,λh' tk' e hx'=>?_⟩)|wp_step))
 obtain⟨t',u',he⟩:=hx'.there;show N7 _ _ (getattributeRaised _ _ _ _ _ _ _) _ _ _;unfold getattributeRaised
 repeat (any_goals (first|assumption|wp_step))
 exact h _ _ _ hx'.of
theorem Cb{prog:NV}{w:NU}{A:N4}{E:az}{s:NT}{a:NQ}{o:Obj}{xs:cw}{k:Nat}{Q:gx->bn}
  (hx:s.heap.get? a=some o) (hc:o.cls=.type "list") (hdat:o.data=.seq xs k) (hd:o.dict=none) (hA:A.handled=none)
  (h:∀h' tk,(∀b o,s.heap.get? b=some o->h'.get? b=some o)->Q none {s with heap:=h',toks:=tk}):
  N7 `g A (getAttr? (.ref a) "keys") Q E s:=by
 obtain⟨hp,g,d,tk,os⟩:=s;have f1:=sub_AttributeError;unfold getAttr? getAttrBy?;refine Oj (wpAny_mkText ?_);refine Oj (Pp (AC (s:=⟨hp,g,d,tk+1,os⟩) hx hc hdat hd hA λh' tk' e ne=>?_));obtain⟨ob,vs,e1,e2,_⟩:=ne.there;refine Oj (PF (s:=⟨h',g,d,tk',os⟩) ⟨ob,e1,e2⟩ f1 ?_);exact Oi (h h' tk' ne.keeps)
noncomputable abbrev Keeps(h0 h:NX):Prop:=∀b o,h0.get? b=some o->h.get? b=some o
section
variable{prog:NV}{w:NU}{A:N4}{E:az}{K:Type}[DecidableEq K]{knd:HeapKind prog w K}{d:NQ}{h0:NX}
noncomputable def DI(knd:HeapKind prog w K)(h0:NX)(d:NQ)(h:NX)(xs:List (K×NQ×NN)):Prop:=
 (∃o es ep,h.get? d=some o/\o.ExactDict/\o.data=.dict es ep/\es.toList=xs.map (entryOfKey knd)/\(xs.map (·.1)).Nodup)/\∀x∈xs,∀h,Keeps h0 h->knd.is h x.1 x.2.1
theorem DI.dict{h:NX}{xs:List (K×NQ×NN)}(x:DI knd h0 d h xs)(k:Keeps h0 h):h.DictOfH knd d xs:=by
 obtain⟨⟨o,es,ep,h1,h2,h3,h4,h5⟩,h6⟩:=x;exact⟨o,es,ep,h1,h2,h3,h4,λy hy=>h6 y hy h k,h5⟩
theorem DI.stay{h h':NX}{xs:List (K×NQ×NN)}(x:DI knd h0 d h xs)(k:∀o,h.get? d=some o->h'.get? d=some o):DI knd h0 d h' xs:=by
 obtain⟨⟨o,es,ep,h1,r⟩,h6⟩:=x;exact⟨⟨o,es,ep,k o h1,r⟩,h6⟩
theorem mem_storedH{xs:List (K×NQ×NN)}{k:K}{a:NQ}{v:NN}{x:K×NQ×NN}(h:x∈storedH xs k a v):(∃y∈xs,y.1=x.1/\y.2.1=x.2.1)\/(x.1=k/\x.2.1=a):=by
 unfold storedH at h;split at h
 ·obtain⟨y,hy,rfl⟩:=List.mem_map.mp h;refine .inl ⟨y,hy,?_⟩;unfold putAt;split<;>exact⟨rfl,rfl⟩
 ·rcases List.mem_append.mp h with z|z
  ·exact .inl ⟨x,z,rfl,rfl⟩
  ·rw[Mm]at z;subst z;exact .inr ⟨rfl,rfl⟩
theorem DI.put{h h':NX}{xs:List (K×NQ×NN)}{k:K}{a:NQ}{v:NN}(x:DI knd h0 d h xs)(hk:∀h,Keeps h0 h->knd.is h k a)(dd:h'.DictOfH knd d (storedH xs k a v)):DI knd h0 d h' (storedH xs k a v):=by
 obtain⟨o,es,ep,h1,h2,h3,h4,_,h5⟩:=dd;refine⟨⟨o,es,ep,h1,h2,h3,h4,h5⟩,λy hy g kg=>?_⟩;rcases mem_storedH hy with⟨z,hz,e1,e2⟩|⟨e1,e2⟩
 ·rw[<-e1,<-e2];exact x.2 z hz g kg
 ·rw[e1,e2];exact hk g kg
theorem sC(xs:List (K×NQ×NN))(k:K)(a:NQ)(v:NN):(storedH xs k a v).length<=xs.length+1:=by
 unfold storedH;split
 ·rw[Km];omega
 ·simp
theorem rP:entryFor table "dict.update.loop"=some Builtin.«dict.update.loop»:=entryFor_of_tree (by kernel_rfl)
theorem jE:plainId "dict.update.loop"=true:=by decide +kernel
theorem xq{R:Result->bn}{I:NQ}{fp wr:ak}{P:Nat->NN->Prop}{St:Nat->NX->Prop}{L:List (K×NQ×NN)}(W:Walks prog w A.in1 I fp wr L.length P St)(hwr:∀b∈wr,h0.get? b=none)(hdn:h0.get? d=none)(hdf:d∉fp)
  (hn:L.length<=NY) (hu:knd.room A.in1) (hP:∀i v,P i v->∃x t,L[i]?=some x/\v=.ref t/\∀h,Keeps h0 h->h.IsTuple t #[.ref x.2.1,x.2.2]) (hK:∀x∈L,∀h,Keeps h0 h->knd.is h x.1 x.2.1) (res:NN):
  ∀(m i:Nat)(s:NT)(xs:List (K×NQ×NN))(j:Int)(u:Tok),i+m=L.length->St i s.heap->Keeps h0 s.heap->DI knd h0 d s.heap xs->xs.length<=i->
  (∀h' tk,Keeps h0 h'->DI knd h0 d h' ((L.drop i).foldl (λxs x=>storedH xs x.1 x.2.1 x.2.2) xs)->R (.ok (.ret res)) {s with heap:=h',toks:=tk})->
  Oy `g A (.builtin "dict.update.loop" ⟨[.ref d,.ref I,.int j u,res],[]⟩) R s:=by
 have hdw:d∉wr:=λh=>hdf (W.sub _ h);intro m
 induction m with
 |zero=>
  intro i s xs j u hi st kp di hl hR;have hin:i=L.length:=by omega
  subst hin;refine PH rP ?_;rw[Around.under_plainId jE _];show N7 _ A.in1 (pyNext (.ref I) >>= _) _ _ s;refine Oj (W.done s _ _ st λh' tk hk=>?_);refine Oj (Oi (Oi ?_))
  have:=hR h' tk (λb o q=>hk b o (λz=>by have:=hwr b z;rw[q]at this;cases this) (kp b o q)) (by
   rw[Lj,List.foldl_nil];exact di.stay λo q=>hk d o hdw q)
  exact this
 |succ m ih=>
  intro i s xs j u hi st kp di hl hR;refine PH rP ?_;rw[Around.under_plainId jE _];show N7 _ A.in1 (pyNext (.ref I) >>= _) _ _ s;refine Oj (W.item i s _ _ `o st λv h' tk hv st' hk=>?_);obtain⟨x,t,hx,rfl,ht⟩:=hP i v hv;have kp':Keeps h0 h':=λb o q=>hk b o (λz=>by have:=hwr b z;rw[q]at this;cases this) (kp b o q);obtain⟨o,ho,hc,n,hd⟩:=ht h' kp';have xm:x∈L:=Kk hx;refine Oj (OI (Oj (wpAny_tryCatch ?_)));unfold Builtin.Dict.pairItems;refine Oj (OM (T:="tuple") ⟨o,ho,hc⟩ ?_);rw[if_pos (by decide)];refine Oj (wpAny_seqItems ho hd (Oi ?_));show N7 _ _ (holding [.ref x.2.1,x.2.2] (dictSet d (.ref x.2.1) x.2.2)) _ _ _;have di':DI knd h0 d h' xs:=di.stay λo q=>hk d o hdw q;refine OI (wpAny_dictSet_heap (s:={s with heap:=h',toks:=tk}) (hsz:=by omega) hu (hK x xm h' kp') (di'.dict kp') λh2 dd sb=>?_);have kp2:Keeps h0 h2:=λb o q=>(sb.2 b (λz=>by rw[z,hdn]at q;cases q)).trans (kp' b o q);refine Oi ⟨PJ jE _,?_⟩;refine ih (i+1) _ (storedH xs x.1 x.2.1 x.2.2) (j+1) 0 `o (W.frame _ _ _ st' λb hb o q=>(sb.2 b (λz=>hdf (by rw[<-z];exact hb))).trans q) kp2 (di'.put (hK x xm) dd) (by have:=sC xs x.1 x.2.1 x.2.2;omega) λh3 tk3 kp3 di3=>?_;refine hR h3 tk3 kp3 ?_;have e:L.drop i=x::L.drop (i+1):=by
   have hil:i<L.length:=(by omega);rw[Lg hil];rw[KY hil]at hx;rw[Option.some.inj hx]
  rw[e,LZ];exact di3
theorem g6{s:NT}{Q:az}{l:NQ}{o:Obj}{items:cw}{n:Nat}{L:List (K×NQ×NN)}(ho:s.heap.get? l=some o)(hc:o.cls=.type "list")(hd:o.data=.seq items n)(hdd:o.dict=none)(hh:A.handled=none)(hu:knd.room A.in1.in1)
  (hl:items.size=L.length) (hn:L.length<=NY) (hP:∀(i:Nat) v,items[i]?=some v->∃x t,L[i]?=some x/\v=.ref t/\s.heap.IsTuple t #[.ref x.2.1,x.2.2]) (hK:∀x∈L,∀h,Keeps s.heap h->knd.is h x.1 x.2.1)
  (hQ:∀h' tk,Keeps s.heap h'->DI knd s.heap s.heap.objs.size h' (L.foldl (λxs x=>storedH xs x.1 x.2.1 x.2.2) [])->Q (.ref s.heap.objs.size) {s with heap:=h',toks:=tk}):
  N7 `g A (call (.type "dict") [.ref l]) Q E s:=by
 refine callType_codes (Q₁:=λobj s₁=>obj=.ref s.heap.objs.size/\s₁={s with heap:=s.heap.push {cls:=.type "dict",data:=.dict #[]}}) F.kt_called_dict (F.kt_typeCall_dict_1 _) F.entry_dict_init (kt_code_dict_new _ ⟨rfl,rfl⟩) ?_;rintro obj s₁ ⟨rfl,rfl⟩;have hnew:(s.heap.push {cls:=.type "dict",data:=.dict #[]}).DictOfH knd s.heap.objs.size []:=Heap.DictOfH.new s.heap;have hlt:=M8 ho;have hl1:(s.heap.push {cls:=.type "dict",data:=.dict #[]}).get? l=some o:=Nf _ ho;refine⟨hnew.typeIs,F.args_dict_init_2 _ _,?_⟩;unfold Builtin.«dict.__init__»;refine Oj ?_;unfold Builtin.Dict.selfAndRest;refine Oj (PK hnew.typeIs ?_);show N7 _ _ (pure (s.heap.objs.size,[Value.ref l])) _ _ _;refine Oi ?_;show N7 _ _ (Builtin.Dict.updateFrom "dict.__init__" s.heap.objs.size (.ref l) [] .none) _ _ _;unfold Builtin.Dict.updateFrom;refine Oj (OM (T:="list") ⟨o,hl1,hc⟩ ?_);rw[if_pos (by decide)];refine Oj (Cb hl1 hc hd hdd hh λh1 tk1 k1=>?_);rw[if_pos (show(none:gx).isNone=true from rfl)];refine Oj (O2 ?_);have hd1:h1.get? s.heap.objs.size=some {cls:=.type "dict",data:=.dict #[]}:=k1 _ _ (Ng _ rfl);have hl2:h1.IsList l items:=⟨o,k1 _ _ hl1,hc,n,hd⟩
 have dlt:=M8 hd1;refine Oj (Om (s:={s with heap:=h1,toks:=tk1}) hl2 ?_);refine Oi ⟨PJ jE _,?_⟩;have W:=Walks.list (prog:=prog) (w:=w) (A:=A.in1.in1) hh h1.objs.size l (JX (KG hlt dlt)) items;rw[hl]at W;refine xq (A:=A.in1) (knd:=knd) (h0:=s.heap) (d:=s.heap.objs.size) W (λb hb=>?_) (M9 (Ka _)) (λz=>?_) hn hu (λi v hv=>?_) hK .none L.length 0 _ [] 0 0 `o ?_ (λb o q=>?_) ⟨⟨_,#[],0,Nf _ hd1,⟨rfl,rfl,rfl⟩,rfl,rfl,KI⟩,λx hx=>by simp at hx⟩ (Ka _) λh' tk kp di=>?_
 ·rw[Mm]at hb;subst hb;exact M9 (JZ dlt)
 ·simp only[Mo,Mp,or_false]at z;rcases z with z|z
  ·exact absurd z (JX dlt)
  ·exact absurd z.symm (JX hlt)
 ·obtain⟨x,t,e1,e2,e3⟩:=hP i v hv;obtain⟨ob,q1,q2⟩:=e3;exact⟨x,t,e1,e2,λh kh=>⟨ob,kh _ _ q1,q2⟩⟩
 ·exact⟨⟨_,Ng _ rfl,rfl,rfl⟩,let ⟨ob,q1,q2⟩:=hl2;⟨ob,Nf _ q1,q2⟩⟩
 ·exact Nf _ (k1 _ _ (Nf _ q))
 ·exact⟨rfl,hQ h' tk kp di⟩
end
noncomputable def rn:D->Option (List Key×D)
 |.tup [k,v]=>(cM k).map λq=>(q,v)
 |_=>none
noncomputable def eY:List D->Option (bu)
 |[]=>some []
 |d::r=>(rn d).bind λp=>(eY r).map (p::·)
noncomputable def lm(ps:bu):bu:=ps.foldl (λal p=>bV al p.1 p.2) []
noncomputable def eZ:List D->aW
 |[.lst xs]=>(eY xs).bind λps=>if small ps.length then some (aA (lm ps))else none
 |_=>none
theorem y8{d:D}{p:List Key×D}(h:rn d=some p):d=.tup [.tup (p.1.map aC),p.2]:=by
 unfold rn at h;split at h
 ·rename_i k v;cases e:cM k with
  |none=>rw[e]at h;cases h
  |some q=>rw[e]at h;cases h;rw[eT e]
 ·cases h
theorem kD:∀{xs:List D}{ps:bu},eY xs=some ps->xs=ps.map λp=>.tup [.tup (p.1.map aC),p.2]
 |[],_,h=>by cases h;rfl
 |d::r,ps,h=>by
  unfold eY at h;cases e1:rn d with
  |none=>rw[e1]at h;cases h
  |some p=>
   rw[e1]at h;cases e2:eY r with
   |none=>rw[e2]at h;cases h
   |some ps'=>rw[e2]at h;cases h;rw[y8 e1,kD e2];rfl
section
variable{X:Cx}
theorem kz{pins:aL}{σ:St}{H:Hp}{s:NT}{O:ak}(I:L2.Inv X pins σ H s):∀{ps:bu}{ws:aG}{its:aE},aB X.K (hid H O) (ps.map λp=>.tup [.tup (p.1.map aC),p.2]) ws->Vals ws its->
  ∃(L:List (List Key×NQ×NN))(ks:List (List Key×V)),its.length=L.length/\(∀(i:Nat)(v:NN),its[i]?=some v->∃(x:List Key×NQ×NN)(t:NQ),L[i]?=some x/\v=.ref t/\s.heap.IsTuple t #[.ref x.2.1,x.2.2])/\KT H ks L/\ks.map (·.1)=ps.map (·.1)/\aB X.K (hid H O) (ps.map (·.2)) (ks.map (·.2))
 |[],ws,its,h,r=>by
  rw[Kv,bG]at h;subst h;cases r;exact⟨[],[],rfl,(λi v e=>by simp at e),.nil,rfl,bG.mpr rfl⟩
 |p::ps,ws,its,h,r=>by
  rw[Kw,aM]at h;obtain⟨w,ws',rfl,h1,h2⟩:=h;cases r with
  |@cons _ u _ us ru rr=>
   obtain⟨L,ks,l1,l2,l3,l4,l5⟩:=kz I h2 rr;obtain⟨t,vs,rfl,t1,t2⟩:=bv.mp h1;obtain⟨v1,v2,rfl,d1,d2⟩:=t2.two;obtain⟨a,ks1,rfl,a1,a2⟩:=bv.mp d1;rw[cA a2]at a1;obtain⟨its',r',⟨o,q1,q2⟩,_⟩:=I.tuple (aZ (K:=X.K) (ai H O) t1);obtain⟨x1,x2,rfl,rx1,rx2⟩:=vals2 r';cases rx1;obtain rfl:u=Value.ref t:=ru;refine⟨(p.1,a,x2)::L,(p.1,v2)::ks,by rw[KA,KA,l1],λi v e=>?_,.cons ⟨rfl,(ai H O) _ _ a1,rx2⟩ l3,by rw[Kw,Kw,l4],aM.mpr ⟨v2,_,rfl,d2,l5⟩⟩;cases i with
   |zero=>
    have e:Value.ref t=v:=(by simpa using e);subst e;exact⟨_,t,rfl,rfl,o,q1,q2⟩
   |succ i=>exact l2 i v (by simpa using e)
theorem lX{K:MT}{H:Hp}{H0:Hp}:∀{ps:bu}{ks:List (List Key×V)}{L:List (List Key×NQ×NN)}{al:bu}{kvs:List (List Key×V)}{xs:List (List Key×NQ×NN)},KT H ks L->ks.map (·.1)=ps.map (·.1)->aB K H0 (ps.map (·.2)) (ks.map (·.2))->
  KT H kvs xs->kvs.map (·.1)=al.map (·.1)->aB K H0 (al.map (·.2)) (kvs.map (·.2))->
  KT H (ks.foldl (λm p=>putK m p.1 p.2) kvs) (L.foldl (λxs x=>storedH xs x.1 x.2.1 x.2.2) xs)/\(ks.foldl (λm p=>putK m p.1 p.2) kvs).map (·.1)=(ps.foldl (λal p=>bV al p.1 p.2) al).map (·.1)/\
   aB K H0 ((ps.foldl (λal p=>bV al p.1 p.2) al).map (·.2)) ((ks.foldl (λm p=>putK m p.1 p.2) kvs).map (·.2))/\(ks.foldl (λm p=>putK m p.1 p.2) kvs).length<=kvs.length+ks.length
 |[],[],_,al,kvs,xs,.nil,_,_,h1,h2,h3=>⟨h1,h2,h3,by simp⟩
 |p::ps,q::ks,_,al,kvs,xs,.cons (b:=x) hq hr,e,d,h1,h2,h3=>by
  rw[Kw,Kw]at e;injection e with e1 e2;rw[Kw,Kw,aM]at d;obtain⟨v,vs,d0,d1,d2⟩:=d;injection d0 with d0 d0';subst d0 d0';obtain⟨y1,y2,y3⟩:=hq;have z1:=KT.put h1 q.1 y2 y3;rw[y1]at z1;have z2:=mh h2 q.1 q.2 p.2;have z3:=pK (k:=q.1) d1 h2 h3
  have:=lX (kvs:=putK kvs q.1 q.2) (al:=bV al q.1 p.2) (xs:=storedH xs x.1 x.2.1 x.2.2) hr e2 d2 (by rw[y1];exact z1) z2 z3
  rw[LZ,LZ,LZ,<-e1];refine⟨this.1,this.2.1,this.2.2.1,JY this.2.2.2 ?_⟩
  have:=gQ kvs q.1 q.2
  rw[KA];omega
 |[],_::_,_,_,_,_,_,e,_,_,_,_=>by cases e
 |_::_,[],_,_,_,_,_,e,_,_,_,_=>by cases e
theorem uw(hc:X.calm=true)(hu:X.A.units+64<Ov):eV X (.type "dict") (CK X.K eZ):=by
 rintro pins s σ H xs us Q I r ⟨O,ds,d,hO,hd,hg,q⟩;unfold eZ at hg;split at hg
 ·rename_i ys;cases hp:eY ys with
  |none=>rw[hp]at hg;cases hg
  |some ps=>
   rw[hp]at hg;obtain⟨sm,rfl⟩:=bC (show(if small ps.length then some (aA (lm ps))else none)=some d from hg);obtain⟨v,rfl,h1⟩:=hd.one;obtain⟨p,ws,rfl,g1,g2⟩:=bI.mp h1;obtain⟨u,rfl,ru⟩:=vals1 r;cases ru;obtain⟨its,rv,⟨o,n,ho,hcl,hd',hdd⟩,hz⟩:=I.list ((ai H O).seq g1);rw[kD hp]at g2;obtain⟨L,ks,l1,l2,l3,l4,l5⟩:=kz I g2 rv;have kl:ks.length=ps.length:=(by have:=congrArg List.length l4;simpa using this);have ll:ks.length=L.length:=Paired.length l3;have key:∀{ks:List (List Key×V)}{L:List (List Key×NQ×NN)},KT H ks L->∀x∈L,∀h,Keeps s.heap h->(tupleKind (aN X.prog X.w)).is h x.1 x.2.1:=λ{ks L} kt=>by
    induction kt with
    |nil=>intro x hx;cases hx
    |cons hq _ ih=>
     intro x hx h kh;rcases List.mem_cons.mp hx with z|z
     ·subst z;obtain⟨e1,e2,_⟩:=hq;rw[e1]at e2;obtain⟨o,xs,n,k1,k2⟩:=gA I.hok e2;exact⟨o,xs,n,kh _ _ k1,k2⟩
     ·exact ih x z h kh
   obtain⟨f1,f2,f3,f4⟩:=lX (K:=X.K) (H:=H) (H0:=hid H O) (al:=[]) (kvs:=[]) (xs:=[]) l3 l4 l5 .nil rfl (bG.mpr rfl);have hsz:ps.length<=100000:=of_decide_eq_true sm;have sl:NY=16777216:=Ot;refine g6 (knd:=tupleKind (aN X.prog X.w)) (L:=L) ho hcl hdd hd' (I.ok.hd hc) (OX (by rw[in1_units];omega)) (by simpa using l1) `o (λi v e=>l2 i v (by simpa using e)) (key l3) λh' tk kp di=>?_;have hf:=I.hok.fresh (Ka s.heap.objs.size);obtain⟨⟨od,es,ep,k1,k2,k3,k4,k5⟩,_⟩:=di;have kt':KT (upd H s.heap.objs.size (.dT (ks.foldl (λm p=>putK m p.1 p.2) []))) (ks.foldl (λm p=>putK m p.1 p.2) []) (L.foldl (λxs x=>storedH xs x.1 x.2.1 x.2.2) []):=KT.keeps f1 λb ys eb=>by rw[ao (λz=>by rw[z,hf]at eb;cases eb)];exact eb
   refine⟨.ref s.heap.objs.size,_,I.laid (t':=tk) kp (Ka _) (show bA X.prog X.w _ h' _ (.dT (ks.foldl (λm p=>putK m p.1 p.2) []))from⟨by simp only[KC]at f4;omega,beq_eq_false_iff_ne.mpr (Ne.symm (JX I.big)),_,kt',od,es,ep,k1,k2,k3,k4,k5⟩),rfl,?_⟩;refine q _ _ (bh hf _) ?_;have pO:=hO.not hf;refine Hl.mpr ⟨s.heap.objs.size,_,rfl,f3.mono (pR hf),.inr (.inl ⟨_,by rw[dO pO];exact aq,jd f2,rfl⟩)⟩
 ·cases hg
end
noncomputable def uC(H:Hp)(a:NQ)(y:V)(r:Option V):Prop:=uk H a y r\/(H a=some (.dK [])/\r=none/\∃b k,y=.ref b/\H b=some (.tup (List.map kV k)))
noncomputable def bW(al:bu)(q:ay):aW:=(al.find? λp=>decide (p.1=q)).map (·.2)
noncomputable def rQ(ks ds:List D)(k x:D):aW:=(dZ ks ds).bind λal=>(cM k).bind λq=>some ((bW al q).getD x)
noncomputable def g7(fo fk fx:FX):FX:=λρ=>(fo ρ).bind λdd=>match dd with
 |.dct ks ds=>(fk ρ).bind λk=>(fx ρ).bind λx=>rO (rQ ks ds k x)
 |_=>un
theorem rB{K:MT}{H:Hp}{v:V}{al:bu}(h:bo K H (aA al) v):
  ∃a,v=.ref a/\((∃kvs:List (List Key×V),H a=some (.dT kvs)/\kvs.map (·.1)=al.map (·.1)/\aB K H (al.map (·.2)) (kvs.map (·.2)))\/(H a=some (.dK [])/\al=[])):=by
 obtain⟨a,vs,e0,h2,h3⟩:=Hl.mp h;refine⟨a,e0,?_⟩;rcases h3 with⟨kvs,e,e1,e2⟩|⟨kvs,e,e1,e2⟩|⟨kvs,o,e,e1,e2⟩
 rotate_left 2
 ·cases al with
  |nil=>cases e1
  |cons _ _=>injection e1 with e1 _;cases e1
 ·cases kvs with
  |nil=>exact .inr ⟨e,by simpa using e1⟩
  |cons p r=>
   cases al with
   |nil=>cases e1
   |cons q r'=>
    have e1:D.tup (q.1.map aC)::encK r'=aC p.1::r.map (λp=>aC p.1):=e1;injection e1 with e1 _;rcases p with⟨k,v⟩
    cases k<;>cases e1
 ·refine .inl ⟨kvs,e,?_,by rw[<-e2];exact h2⟩;exact(hZ (ks:=kvs.map (·.1)) (by rw[Mh];exact e1)).symm
theorem jK{K:MT}{H:Hp}(q:ay):∀{kvs:List (List Key×V)}{al:bu},kvs.map (·.1)=al.map (·.1)->aB K H (al.map (·.2)) (kvs.map (·.2))->(gB kvs q=none/\bW al q=none)\/∃v d,gB kvs q=some v/\bW al q=some d/\bo K H d v
 |[],[],_,_=>.inl ⟨rfl,rfl⟩
 |p::r,a::al,e,h=>by
  rw[Kw,Kw]at e;injection e with e1 e2;rw[Kw,Kw,aM]at h;obtain⟨v,ws,h0,h1,h2⟩:=h;injection h0 with h0 h0';subst h0 h0';by_cases z:p.1=q
  ·refine .inr ⟨p.2,a.2,jH z,?_,h1⟩;unfold bW;rw[Mq (by rw[<-e1];simpa using z)];rfl
  ·have ih:=jK q e2 h2;have g:bW (a::al) q=bW al q:=by
    unfold bW;rw[Mr (by rw[<-e1];simpa using z)]
   rw[ji z,g];exact ih
 |[],_::_,e,_=>by cases e
 |_::_,[],e,_=>by cases e
theorem sW{ks ds:List D}{k x d:D}(h:rQ ks ds k x=some d):∃al q,ks=encK al/\ds=al.map (·.2)/\k=.tup (q.map aC)/\d=(bW al q).getD x:=by
 unfold rQ at h;cases e1:dZ ks ds with
 |none=>rw[e1]at h;cases h
 |some al=>
  rw[e1]at h;cases e2:cM k with
  |none=>rw[e2]at h;cases h
  |some q=>
   rw[e2]at h;cases h;obtain⟨h1,h2⟩:=d7 e1;exact⟨al,q,h1,h2,eT e2,rfl⟩
section
variable{X:Cx}{o e f:NR}{apos cpos:Pos}
theorem Bt{pins:aL}{σ:St}{H:Hp}{s:NT}{a:NQ}{y d:V}{u r:NN}{w:Option V}{A:N4}{E:az}{Q:az}(hu:A.units+1<Ov)(I:L2.Inv X pins σ H s)(g:uC H a y w)(ry:RelV y u)(rd:RelV d r)(h:∀w' s',L2.Inv X pins σ H s'->RelV (w.getD d) w'->Q w' s'):
  N7 `i A (call (.builtin "dict.get") [.ref a,u,r]) Q E s:=by
 rcases g with g|⟨h1,rfl,b,k,rfl,hb⟩
 ·exact yD hu I g ry rd h
 ·have ne:b≠a:=λz=>by rw[z,h1]at hb;cases hb
  refine yD (o:=gB [] k) hu (sA I h1) (uk.t aq (by rw[ao ne];exact hb)) ry rd λw' s' I4 rw'=>h w' s' ?_ rw';have I5:=Gk I4 aq;rw[qY h1]at I5;exact I5
noncomputable def Bp(td ty tx:TE):TE:=λσ H Q=>td σ H λx H1=>∃a,x=.ref a/\IZ H1 a/\ty σ H1 λy H2=>tx σ H2 λz H3=>∃o,uC H3 a y o/\Q (o.getD z) H3
theorem vW{td ty tx:TE}(hu:X.A.units+1<Ov)(ho:PE X o td)(he:PE X e ty)(hf:PE X f tx)(m:M2 X o "get" apos e f cpos):PE X (.Call (.Attribute o "get" apos) [e,f] [] cpos) (Bp td ty tx):=by
 intro pins s σ H Q I h;refine wpAny_Call_method m.base m.few m.line NF NB NI (cD (ho pins s σ H _ I h) λu s1 zq=>zq.elim λx zq=>zq.elim λH1 zq=>zq.elim λI1 zq=>zq.elim λrx zq=>zq.elim λa zq=>zq.elim λex zq=>zq.elim λd q1=>?_);subst ex;obtain rfl:u=Value.ref a:=rx;obtain⟨t1,t2,_⟩:=zn I1 d;refine⟨t1,t2,?_⟩;rw[m.trees];refine Calls.callWith_builtin rfl (Calls.evalArgs_plain (Calls.spliced_cons (cD (he pins s1 σ H1 _ I1 q1) λiv s2 zq=>zq.elim λy zq=>zq.elim λH2 zq=>zq.elim λI2 zq=>zq.elim λry q2=>
  Calls.spliced_cons (cD (hf pins s2 σ H2 _ I2 q2) λfv s3 zq=>zq.elim λz zq=>zq.elim λH3 zq=>zq.elim λI3 zq=>zq.elim λrz zq=>zq.elim λov zq=>zq.elim λg q3=>Calls.spliced_nil ?_))))
 exact Bt hu I3 g ry rz λw' s4 I4 rw'=>⟨_,H3,I4,rw',q3⟩
end
end TG
namespace TG
open PySem PySem.Spec L2
variable[aj]
end TG
namespace TG
open PySem PySem.Spec L2
variable[aj]
end TG
namespace TG
open PySem PySem.Spec L2
variable[aj]
end TG
namespace TG
open PySem PySem.Spec PySem.Calls L2
theorem wB{o:Option V}{w:NN}(h:qe o (some w)):∃v,o=some v/\RelV v w:=by
 cases o with
 |none=>exact h.elim
 |some v=>exact⟨v,rfl,h⟩
theorem xg{o:Option V}(h:qe o none):o=none:=by
 cases o with
 |none=>rfl
 |some v=>exact h.elim
variable[aj]
end TG
namespace TG
open PySem PySem.Spec L2
variable[aj]
theorem bE.setN{K:MT}{Hb:Hp}{Ob O O':ak}{H H':Hp}{ρ:ah}{σ:St}(S:bE K Hb Ob O H ρ σ){i:Nat}{d d':D}(hi:ρ[i]?=some (some (.nest d)))(sub:∀b∈O,b∈O')(s:aF (hid H O) (hid H' O'))(hb:Base Hb Ob H' O')(all:bJ H' O')
  (keep:∀(j:Nat) xs b,ρ[j]?=some (some (.own xs))->σ[j]?=some (some (.ref b))->H b=H' b) (new:vB K Hb Ob O' H' (ρ.set i (some (.nest d'))) σ i d'):bE K Hb Ob O' H' (ρ.set i (some (.nest d'))) σ:=by
 have own:∀(j:Nat) xs,(ρ.set i (some (.nest d')))[j]?=some (some (.own xs))->ρ[j]?=some (some (.own xs)):=λj xs e=>by
  rcases ax e with⟨_,q⟩|⟨_,q⟩
  ·cases q
  ·exact q
 refine⟨⟨λj d1 e=>?_,λj xs e=>?_,λj l xs ys a e1 e2 e3 e4=>S.env.one j l xs ys a (own j xs e1) (own l ys e2) e3 e4,all⟩,hb,λj xs a e1 e2=>S.mine j xs a (own j xs e1) e2,λj dn e=>?_⟩
 ·rcases ax e with⟨_,q⟩|⟨_,q⟩
  ·cases q
  ·obtain⟨v,q1,q2⟩:=S.env.val j d1 q;exact⟨v,q1,q2.mono s⟩
 ·obtain⟨a,q1,q2,q3⟩:=S.env.own j xs (own j xs e);exact⟨a,q1,sub a q2,q3.mono (keep j xs a (own j xs e) q1) s⟩
 ·rcases ax e with⟨hj,q⟩|⟨ne,q⟩
  ·cases q;rw[hj];exact new
  ·obtain⟨_,_,_,_,_,_,one⟩:=S.nst i d hi;exact absurd (one j dn q) ne
noncomputable def Bi:ah->Bool
 |[]=>true
 |some (.nest _)::_=>false
 |_::ρ=>Bi ρ
theorem iu:∀{ρ:ah},Bi ρ=true->∀(j:Nat) d,ρ[j]?≠some (some (.nest d))
 |[],_,j,d,e=>by simp at e
 |none::ρ,h,j,d,e=>by
  cases j with
  |zero=>simp at e
  |succ j=>exact iu (ρ:=ρ) h j d (by simpa using e)
 |some (.val _)::ρ,h,j,d,e=>by
  cases j with
  |zero=>simp at e
  |succ j=>exact iu (ρ:=ρ) h j d (by simpa using e)
 |some (.own _)::ρ,h,j,d,e=>by
  cases j with
  |zero=>simp at e
  |succ j=>exact iu (ρ:=ρ) h j d (by simpa using e)
 |some (.nest _)::ρ,h,j,d,e=>by cases h
end TG
namespace TG
open PySem PySem.Spec L2
variable[aj]
theorem mw.imp{K:MT}{H H':Hp}{O O':ak}:∀{bs:ak}{xs:List D},mw K H O bs xs->(∀c∈bs,∀x,bX K H O c x->bX K H' O' c x)->mw K H' O' bs xs
 |[],[],_,_=>trivial
 |b::bs,x::xs,h,f=>⟨f b J3 x h.1,mw.imp h.2 λc hc=>f c (J4 _ hc)⟩
 |[],_::_,h,_=>h.elim
 |_::_,[],h,_=>h.elim
end TG
namespace TG
open PySem PySem.Spec L2
variable[aj]
noncomputable abbrev cT(al:bu):D:=.dct (.non::encK al) (al.map (·.2))
theorem ux{X:Cx}{pins:aL}{σ:St}{H:Hp}{s:NT}{a:NQ}{o:Obj}{kvs:List (List Key×V)}(I:`h)(e:H a=some (.frz o (.dT kvs))):s.heap.get? a=some o/\o.ExactDict/\(a==sysModules)=false/\∃es ep xs,o.data=.dict es ep/\KT H kvs xs/\es.toList=xs.map (entryOfKey (tupleKind (aN X.prog X.w))):=by
 obtain⟨ho,z,hd,xs,rel,o',es,ep,h1,h2,h3,h4,h5⟩:=(show bA X.prog X.w H s.heap a (.frz o (.dT kvs))from I.hok a _ e)
 rw[ho]at h1;cases h1;exact⟨ho,h2,hd,es,ep,xs,h3,rel,h4⟩
theorem nc{α β:Type}{R:α->β->Prop}:∀{xs:List α}{ys:List β},NW R xs ys->∀{i:Nat}{x:α},xs[i]?=some x->∃y,ys[i]?=some y/\R x y:=λh=>by
 induction h with
 |nil=>intro i x e;simp at e
 |cons hq _ ih=>
  intro i x e;cases i with
  |zero=>rw[Ms]at e;cases e;exact⟨_,rfl,hq⟩
  |succ i=>rw[Mt]at e ⊢;exact ih e
theorem lN{K:MT}{H:Hp}:∀q:ay,aB K H (q.map aC) (q.map kV)
 |[]=>bG.mpr rfl
 |k::q=>aM.mpr ⟨kV k,_,rfl,by cases k with|inl i=>exact c6.mpr rfl|inr x=>exact c9.mpr rfl,lN q⟩
theorem qT{K:MT}{H:Hp}{v:V}{al:bu}(h:bo K H (cT al) v):∃a o kvs,v=.ref a/\H a=some (.frz o (.dT kvs))/\kvs.map (·.1)=al.map (·.1)/\aB K H (al.map (·.2)) (kvs.map (·.2)):=by
 obtain⟨a,vs,e0,h2,h3⟩:=Hl.mp h;rcases h3 with⟨kvs,e,e1,e2⟩|⟨kvs,e,e1,e2⟩|⟨kvs,o,e,e1,e2⟩
 ·cases kvs with
  |nil=>cases e1
  |cons p r=>
   injection e1 with e1 _;rcases p with⟨k,v⟩
   cases k<;>cases e1
 ·cases kvs with
  |nil=>cases e1
  |cons p r=>injection e1 with e1 _;cases e1
 ·injection e1 with _ e1;subst e2;exact⟨a,o,kvs,e0,e,(hZ (ks:=kvs.map (·.1)) (by rw[Mh];exact e1)).symm,h2⟩
theorem Ac{X:Cx}{pins:aL}{σ:St}{H:Hp}{s:NT}{a:NQ}{kvs:List (List Key×V)}(I:`h)(h1:H a=some (.dT kvs)):∃o,Inv X pins σ (upd H a (.frz o (.dT kvs))) s:=by
 obtain⟨z,hd,xs,rel,o,es,ep,g1,g2⟩:=(show bA X.prog X.w H s.heap a (.dT kvs)from I.hok a _ h1)
 refine⟨o,ii (ob:=.frz o (.dT kvs)) (h':=s.heap) (t':=s.toks) I (by rw[h1];exact trivial) ⟨rfl,λ_ _=>rfl⟩ ⟨o,g1⟩ ⟨g1,z,hd,xs,KT.keeps rel λb ys eb=>?_,o,es,ep,g1,g2⟩⟩;rw[ao (yu eb h1 (λz=>nomatch z))];exact eb
end TG
namespace TG
open PySem PySem.Spec L2
section
variable{prog:NV}{w:NU}{A:N4}{E:az}{s:NT}{it d:NQ}{i ep:Nat}{o:Obj}{es:Array PL}
theorem xx{Q:az}(hd:(d==sysModules)=false)(ho:s.heap.get? d=some o)(hx:o.ExactDict)(hdat:o.data=.dict es ep)
  (hQ:Q (.ref s.heap.objs.size) {s with heap:=s.heap.push {cls:=.type "dict_keyiterator",data:=.fields #[.ref d,.int 0 0,.int es.size 0,.int ep 0]}}):N7 `g A (pyIter (.ref d)) Q E s:=by
 have hT:s.TypeIs (.ref d) "dict":=⟨o,ho,hx.1⟩
 refine PN hT F.slot_dict_iter (OL F.slot_dict_iter hT F.entry_dict_iter ?_ (F.args_dict_iter_1 _));unfold Builtin.«dict.__iter__»;refine Oj ?_;unfold Builtin.Dict.dictSlotNone;refine Oj (PK hT ?_);show N7 _ _ (pure (Value.ref d)) _ _ s;refine Oi ?_;show N7 _ _ (Builtin.Dict.showsAll d >>= _) _ _ s;unfold Builtin.Dict.showsAll;rw[if_neg (by rw[hd];exact J8)];refine Oj (Oi (Oj (PP ho hdat (Oj (PQ ho hdat ?_)))));refine Oj (OO (Oi ⟨_,rfl,"dict_keyiterator",_,⟨_,Ng _ rfl,rfl⟩,F.slot_dict_keyiterator_next.lookup,?_⟩));simpa [rawInt]using hQ
theorem wQ{Q:gx->bn}(hit:s.heap.IsKeyIter it d i es.size ep)(hod:s.heap.get? d=some o)(hdd:o.data=.dict es ep)(hlt:i<es.size)
  (hQ:∀h',h'.IsKeyIter it d (i+1) es.size ep->Nc it s.heap h'->Q (some es[i].key) {s with heap:=h'}):N7 `g A (pyNext (.ref it)) Q E s:=by
 obtain⟨oi,ho,hc,hd⟩:=id hit;unfold pyNext;refine Oj (Pp (OJ (name:=Str.ofString "__next__") hit.typeIs F.slot_dict_keyiterator_next (OL F.slot_dict_keyiterator_next hit.typeIs F.entry_dict_keyiterator_next ?_ (F.args_dict_keyiterator_next_1 _))));refine Oj (Oi (Oj (Oj ?_)));first|refine Oj (PR hit.typeIs (Oi ?_))|refine Oj (PV hit.typeIs (Oi ?_))
 refine Oj (PX ho hd ?_);have hown:Builtin.Dict_items.ownsTuple "dict_keyiterator"=false:=by decide
 simp only[hown,KL,if_false];show N7 _ _ (if(Value.ref d==Value.none)=true then _ else _) _ _ s;rw[if_neg (show¬((Value.ref d==Value.none)=true)from J8)];refine Oj (Oi (Oj (PP hod hdd ?_)));rw[if_neg (by simp)];refine Oj (Oi (Oj (PQ hod hdd ?_)));rw[if_neg (by simp)];refine Oi ?_;simp only[show¬((i:Int)<0)from by omega,if_false,Kp,Array.getElem?_eq_getElem hlt];refine Oj ?_;first|refine Oj (PR hit.typeIs (Oi ?_))|refine Oj (PV hit.typeIs (Oi ?_))
 refine Oj (wpAny_isOneOf_keyiter hit.typeIs ?_);show N7 _ _ (setField (.ref it) 1 (rawInt ((i:Int)+1)) >>= _) _ _ s;refine Oj (PY ho hd (by simp) ?_);have hit':(s.heap.update it (Obj.mapFields (·.setIfInBounds 1 (rawInt ((i:Int)+1))))).IsKeyIter it d (i+1) es.size ep:=⟨_,Np _ ho (Obj.isFreed_of_fields (Obj.data_mapFields hd _)),(Obj.cls_mapFields ..).trans hc,by rw[Obj.data_mapFields hd];simp[rawInt]⟩
 refine Oj (OI (Oj (wpAny_isOneOf_keyiter (s:={s with heap:=s.heap.update it (Obj.mapFields (·.setIfInBounds 1 (rawInt ((i:Int)+1))))}) hit'.typeIs ?_)));show N7 _ _ (pure es[i].key) _ _ _;exact Oi (Oi ⟨_,rfl,Oi (hQ _ hit' (Heap.SameBut.update ..))⟩)
theorem Aj{Q:gx->bn}(hh:A.handled=none)(hit:s.heap.IsKeyIter it d i es.size ep)(hod:s.heap.get? d=some o)(hdd:o.data=.dict es ep)(hge:es.size<=i)(hQ:∀h',Nq it s.heap h'->Q none {s with heap:=h'}):N7 `g A (pyNext (.ref it)) Q E s:=by
 obtain⟨oi,ho,hc,hd⟩:=id hit;unfold pyNext;refine Oj (Pp (OJ (name:=Str.ofString "__next__") hit.typeIs F.slot_dict_keyiterator_next (OL F.slot_dict_keyiterator_next hit.typeIs F.entry_dict_keyiterator_next ?_ (F.args_dict_keyiterator_next_1 _))));refine Oj (Oi (Oj (Oj ?_)));first|refine Oj (PR hit.typeIs (Oi ?_))|refine Oj (PV hit.typeIs (Oi ?_))
 refine Oj (PX ho hd ?_);have hown:Builtin.Dict_items.ownsTuple "dict_keyiterator"=false:=by decide
 simp only[hown,KL,if_false];show N7 _ _ (if(Value.ref d==Value.none)=true then _ else _) _ _ s;rw[if_neg (show¬((Value.ref d==Value.none)=true)from J8)];refine Oj (Oi (Oj (PP hod hdd ?_)));rw[if_neg (by simp)];refine Oj (Oi (Oj (PQ hod hdd ?_)));rw[if_neg (by simp)];refine Oi ?_;simp only[show¬((i:Int)<0)from by omega,if_false,Kp,Array.getElem?_eq_none hge];refine Oj ?_;first|refine Oj (PR hit.typeIs (Oi ?_))|refine Oj (PV hit.typeIs (Oi ?_))
 show N7 _ _ (setField (.ref it) 0 .none >>= _) _ _ s;refine Oj (PY ho hd (by simp) ?_);show N7 _ _ (newExc (.type "StopIteration") [] >>= _) _ _ _;refine Oj ?_;simp only[newExc,newTuple];refine Oj (OO ?_ (by size_fits));refine Oj (m:=firstArgMember _ _) (PZ (a:=Value.none) (by first|rfl|(simp only[firstArgMember];rfl)) ?_);refine OO ?_ (by size_fits);simp only[raiseNew];refine Oj (P0 ?_);rw[show A.in1.handled=none from hh];refine Oj (Oi (wpAny_throw ?_));refine Oj (PF (T:="StopIteration") (b:=true) ⟨_,Ng _ rfl,rfl⟩ P1 ?_);exact Oi (hQ _ (((Heap.SameBut.update ..).extBut.push _).push _))
noncomputable def Ds(d:NQ)(o:Obj)(es:Array PL)(ep:Nat)(h:NX):Prop:=h.get? d=some o/\o.ExactDict/\o.data=.dict es ep
theorem ue(hh:A.handled=none)(I:NQ)(hne:d≠I):Walks prog w A I [I,d] [I] es.size (λi v=>∃e,es[i]?=some e/\v=e.key) (λi h=>h.IsKeyIter I d i es.size ep/\Ds d o es ep h)where
 sub:=λb hb=>by simp at hb;simp[hb]
 frame:=λ_ _ _ st hk=>⟨st.1.at λo e=>hk I (by simp) o e,hk d (by simp) _ st.2.1,st.2.2⟩
 item:=λi s Q E hi st hQ=>wQ st.1 st.2.1 st.2.2.2 hi λh' hit' hs'=>hQ _ h' s.toks ⟨es[i],by simp[hi],rfl⟩ ⟨hit',(hs'.2 d hne).trans st.2.1,st.2.2⟩ λb o hb e=>hs'.extBut b o (λh=>hb (by simp[h])) e
 done:=λs Q E st hQ=>Aj hh st.1 st.2.1 st.2.2.2 (Ka _) λh' he'=>hQ h' s.toks λb o hb e=>he' b o (λh=>hb (by simp[h])) e
 self:=λ_ _ _ _ st hQ=>wpAny_pyIter_keyiter st.1 hQ
theorem qG(lo:(d==sysModules)=false):PySem.W.KdlSrc prog w "dict" d d es.size (λi v=>∃e,es[i]?=some e/\v=e.key) (Ds d o es ep)where
 type:=λ_ hm=>⟨o,hm.1,hm.2.1.1⟩
 there:=λ_ hm=>⟨M8 hm.1,M8 hm.1⟩
 keep:=λ_ _ hm hk=>⟨hk d (.inl rfl) o hm.1,hm.2⟩
 notList:=by decide
 notTuple:=by decide
 hint:=λ_ _ _ _ hm hq=>PySem.W.kdl_hint_dict ⟨o,hm.1,hm.2.1.1⟩ hq
 iter:=λ_ _ hh hm=>⟨_,_,(λ_ _ hq=>xx lo hm.1 hm.2.1 hm.2.2 hq),ue (ep:=ep) (o:=o) hh _ (JX (M8 hm.1)),⟨⟨_,Ng _ rfl,rfl,rfl⟩,Nf _ hm.1,hm.2⟩⟩
end
variable[aj]
noncomputable def rC:List D->List D->Option (bu)
 |.non::ks,ds=>dZ ks ds
 |ks,ds=>dZ ks ds
theorem lK{K:MT}{H:Hp}{v:V}{ks ds:List D}{al:bu}(h:bo K H (.dct ks ds) v)(e:rC ks ds=some al):
  ∃a,v=.ref a/\((∃kvs:List (List Key×V),Rd H a (.dT kvs)/\kvs.map (·.1)=al.map (·.1)/\aB K H (al.map (·.2)) (kvs.map (·.2)))\/(H a=some (.dK [])/\al=[])):=by
 unfold rC at e;split at e
 ·obtain⟨f1,f2⟩:=d7 e;subst f1 f2;obtain⟨a,o,kvs,q1,q2,q3,q4⟩:=qT h;exact⟨a,q1,.inl ⟨kvs,.inr ⟨o,q2⟩,q3,q4⟩⟩
 ·obtain⟨f1,f2⟩:=d7 e;subst f1 f2;obtain⟨a,q1,q2⟩:=rB h;rcases q2 with⟨kvs,q2,q3⟩|q2
  ·exact⟨a,q1,.inl ⟨kvs,.inl q2,q3⟩⟩
  ·exact⟨a,q1,.inr q2⟩
section
variable{X:Cx}
noncomputable def gz:List D->aW
 |[.dct ks ds]=>(rC ks ds).bind λal=>some (.lst (encK al))
 |_=>none
theorem sJ{pins:aL}{σ:St}{H:Hp}{s:NT}(I:`h){a:NQ}{kvs:List (List Key×V)}(e:Rd H a (.dT kvs)):kvs.length<=NY/\(a==sysModules)=false/\∃o es ep,Ds a o es ep s.heap/\es.size=kvs.length/\∀(i:Nat) u,es[i]?=some u->∃b q,u.key=.ref b/\kvs[i]?.map (·.1)=some q/\H b=some (.tup (q.map kV)):=by
 obtain⟨z,hd,xs,rel,o,es,ep,h1,h2,h3,h4,_⟩:=lZ I.hok e;have hl:es.size=kvs.length:=by rw[<-Array.length_toList,h4,Km];exact(Paired.length rel).symm
 refine⟨z,hd,o,es,ep,⟨h1,h2,h3⟩,hl,λi u eu=>?_⟩;have hi:i<kvs.length:=by
  have:=(Array.getElem?_eq_some_iff.mp eu).1
  omega
 obtain⟨x,ex,f1,f2,f3⟩:=nc rel (i:=i) (x:=kvs[i]) (by simp[hi])
 have:es.toList[i]?=some (entryOfKey (tupleKind (aN X.prog X.w)) x):=by rw[h4,Ki,ex];rfl
 rw[Array.getElem?_toList,eu]at this;cases this;exact⟨x.2.1,kvs[i].1,rfl,by simp[hi],f2⟩
theorem uo(hc:X.calm=true):eV X (.type "list") (CK X.K gz):=by
 rintro pins s σ H xs us Q I r ⟨O,ds,d,hO,hd,hg,q⟩;unfold gz at hg;split at hg
 ·rename_i ks vs0;cases hk:rC ks vs0 with
  |none=>rw[hk]at hg;cases hg
  |some al=>
   rw[hk]at hg;cases hg;obtain⟨v,ev,h1⟩:=hd.one;subst ev;obtain⟨a,ea,hh⟩:=lK h1 hk;subst ea;obtain⟨u,rfl,ru⟩:=vals1 r;cases ru;have fin:∀(H0:Hp)(kvs:List (List Key×V)),Inv X pins σ H0 s->Rd H0 a (.dT kvs)->kvs.map (·.1)=al.map (·.1)->(∀b ys,H0 b=some (.tup ys)->H b=some (.tup ys))->N7 `i X.A (call (.type "list") [.ref a]) (EP X pins σ Q) X.xe s:=λH0 kvs I0 hr hk2 ht=>by
    obtain⟨z,hs,o,es,ep,raw,hsz,hkey⟩:=sJ I0 hr;have hl:al.length=kvs.length:=(by have:=congrArg List.length hk2;simpa using this.symm);refine PySem.W.kdl_call (qG hs) (I.ok.hd hc) raw (by rw[hsz];exact z) λh' tk acc' c' kp e2 it=>?_;have key:∃ws:aG,Vals ws acc'.toList/\aB X.K (hid H O) (encK al) ws:=by
     have hlen:acc'.toList.length=al.length:=(by rw[Array.length_toList,it.1,hsz,hl]);have each:∀(j:Nat)(u:NN),acc'.toList[j]?=some u->∃b q,u=.ref b/\al[j]?.map (·.1)=some q/\H b=some (.tup (q.map kV)):=λj u e=>by
      obtain⟨en,e3,e4⟩:=it.2 j u (by rw[<-Array.getElem?_toList];exact e);obtain⟨b,q,w1,w2,w3⟩:=hkey j en e3;refine⟨b,q,by rw[e4,w1],?_,ht _ _ w3⟩
      have:=congrArg (λl=>l[j]?) hk2
      simp only[Ki]at this;rw[<-this];exact w2
     clear it e2;generalize acc'.toList=us at hlen each;clear hk hl hk2 h1 hh q
     induction us generalizing al with
     |nil=>
      cases al with
      |nil=>exact⟨[],.nil,bG.mpr rfl⟩
      |cons _ _=>cases hlen
     |cons u us ih=>
      cases al with
      |nil=>cases hlen
      |cons p al=>
       obtain⟨ws,w1,w2⟩:=ih (al:=al) (by simpa using hlen) λj u e=>by
        have:=each (j+1) u (by rw[Mt];exact e)
        rw[Mt]at this;exact this
       obtain⟨b,q,e1,e2,e3⟩:=each 0 u rfl;cases e2;have bO:b∉O:=λz=>by
        obtain⟨u',q1,q2⟩:=hO.2 b z;rw[e3]at q1;cases q1;exact q2
       exact⟨.ref b::ws,.cons (by rw[e1];rfl) w1,aM.mpr ⟨.ref b,ws,rfl,bv.mpr ⟨b,_,rfl,by rw[dO bO];exact e3,lN p.1⟩,w2⟩⟩
    obtain⟨ws,rv,dn⟩:=key;have wl:ws.length<=NY:=(by rw[<-dn.length,Km,hl];exact z);refine⟨.ref s.heap.objs.size,_,I.laid (t':=tk) kp (Ka _) (show bA X.prog X.w _ h' _ (.lst ws)from⟨wl,acc'.toList,c',rv,by simpa using e2⟩),rfl,?_⟩;have hf:=I.hok.fresh (Ka s.heap.objs.size);exact q _ _ (bh hf _) (cS hO hf dn)
   rcases hh with⟨kvs,hr,e1,_⟩|⟨hr,e1⟩
   ·refine fin H kvs I ?_ e1 λ_ _ z=>z;rcases hr with hr|⟨o,hr⟩
    ·exact .inl ((ai H O) _ _ hr)
    ·exact .inr ⟨o,(ai H O) _ _ hr⟩
   ·have ha:=(ai H O) _ _ hr;refine fin _ [] (sA I ha) (.inl aq) (by rw[e1];rfl) λb ys eb=>?_;by_cases z:b=a
    ·rw[z,aq]at eb;cases eb
    ·rw[ao z]at eb;exact eb
 ·cases hg
end
end TG
namespace TG
open PySem PySem.Spec PySem.Calls L2
variable[aj]
noncomputable def nS(dd k:D):aW:=match dd with
 |.dct ks ds=>(rC ks ds).bind λal=>(cM k).bind λq=>bW al q
 |_=>none
theorem t8{H:Hp}{O:ak}{a:NQ}{u:HO}(h:Rd (hid H O) a u):Rd H a u:=by
 rcases h with h|⟨o,h⟩
 ·exact .inl ((ai H O) _ _ h)
 ·exact .inr ⟨o,(ai H O) _ _ h⟩
end TG
namespace L2
open PySem PySem.Spec PyProof.Rows
end L2
namespace TG
open PySem PySem.Spec L2
variable[aj]
end TG
namespace TG
open PySem PySem.Spec L2
variable[aj]
section
variable{K:MT}{Hb H:Hp}{Ob O:ak}{ρ:ah}{σ:St}
theorem bE.hide(E:bE K Hb Ob O H ρ σ){p:NQ}{o:HO}(m:jr o)(hp:H p=none):bE K Hb Ob (p::O) (upd H p o) ρ σ:=
 ⟨E.env.hideNew m hp,⟨E.base.same.trans (bh hp o),fun a ha=>J4 _ (E.base.sub a ha),fun a ha=>by
  rcases List.mem_cons.mp ha with z|z
  ·rw[z];exact .inr (E.base.same.free hp)
  ·exact E.base.new a z⟩,E.mine,λj d q=>(E.nst j d q).to rfl (fP hp) (λb q1 q2 q3 q4 zq=>zq.elim λo' ho=>⟨ao (aI ho hp),J4 _ q1,q2,q4⟩) λl d' w=>⟨d',w⟩⟩
theorem bE.new(E:bE K Hb Ob O H ρ σ){p:NQ}(hp:H p=none):Hb p=none/\p∉Ob/\∀(j:Nat) d',ρ[j]?=some (some (.own d'))->σ[j]?≠some (some (.ref p)):=by
 have pO:=E.env.all.not hp;refine⟨E.base.same.free hp,λz=>pO (E.base.sub p z),λj d' w z=>?_⟩;obtain⟨c,e1,e2,_⟩:=E.env.own j d' w;rw[z]at e1;cases e1;exact pO e2
theorem bE.setL(E:bE K Hb Ob O H ρ σ){i:Nat}(hi:i<σ.length)(hn:Bi ρ=true){p:NQ}{bs:ak}{d:D}(new:rT K H O p bs d)(nd:(p::bs).Nodup)(hb:∀b∈p::bs,b∈O/\Hb b=none/\b∉Ob/\∀(j:Nat) d',ρ[j]?=some (some (.own d'))->σ[j]?≠some (some (.ref b))):
  bE K Hb Ob O H (ρ.set i (some (.nest d))) (σ.set i (some (.ref p))):=by
 have key:∀(j:Nat)(x:S),(ρ.set i (some (.nest d)))[j]?=some (some x)->(j=i/\x=.nest d)\/(j≠i/\ρ[j]?=some (some x)/\(σ.set i (some (.ref p)))[j]?=σ[j]?):=λj x e=>by
  rcases ax e with⟨hj,q⟩|⟨ne,q⟩
  ·cases q;exact .inl ⟨hj,rfl⟩
  ·exact .inr ⟨ne,q,J7 (Ne.symm ne)⟩
 have own:∀(j:Nat) xs,(ρ.set i (some (.nest d)))[j]?=some (some (.own xs))->ρ[j]?=some (some (.own xs))/\(σ.set i (some (.ref p)))[j]?=σ[j]?:=λj xs e=>by
  rcases key j _ e with⟨_,q⟩|⟨_,q⟩
  ·cases q
  ·exact q
 refine⟨⟨λj d1 e=>?_,λj xs e=>?_,λj l xs ys a e1 e2 e3 e4=>?_,E.env.all⟩,E.base,λj xs a e1 e2=>?_,λj dn e=>?_⟩
 ·rcases key j _ e with⟨_,q⟩|⟨_,q,w⟩
  ·cases q
  ·rw[w];exact E.env.val j d1 q
 ·obtain⟨q,w⟩:=own j xs e;rw[w];exact E.env.own j xs q
 ·obtain⟨q1,w1⟩:=own j xs e1;obtain⟨q2,w2⟩:=own l ys e2;rw[w1]at e3;rw[w2]at e4;exact E.env.one j l xs ys a q1 q2 e3 e4
 ·obtain⟨q,w⟩:=own j xs e1;rw[w]at e2;exact E.mine j xs a q e2
 ·rcases key j _ e with⟨hj,q⟩|⟨_,q,_⟩
  ·cases q;subst hj;refine⟨p,bs,J6 hi,new,nd,λb h=>?_,λl d' w=>?_⟩
   ·obtain⟨w1,w2,w3,w4⟩:=hb b h;exact⟨w1,w2,w3,λl d' w=>by obtain⟨q,z⟩:=own l d' w;rw[z];exact w4 l d' q⟩
   ·rcases key l _ w with⟨hl,_⟩|⟨_,q,_⟩
    ·exact hl
    ·exact absurd q (iu hn l d')
  ·exact absurd q (iu hn j dn)
theorem qN:∀{bs:ak}{xs:List D}{c:Nat}{x:D},mw K H O bs xs->bs.Nodup->xs[c]?=some x->∃b,bs[c]?=some b/\bX K H O b x/\∀(H':Hp)(O':ak)(x':D),(∀c'∈bs,c'≠b->∀z,bX K H O c' z->bX K H' O' c' z)->bX K H' O' b x'->mw K H' O' bs (xs.set c x')
 |b::bs,y::xs,0,x,h,nd,e=>by
  cases e;exact⟨b,rfl,h.1,λH' O' x' f n=>⟨n,h.2.imp λc hc=>f c (J4 _ hc) λz=>(List.nodup_cons.mp nd).1 (by rw[<-z];exact hc)⟩⟩
 |b::bs,y::xs,c+1,x,h,nd,e=>by
  obtain⟨b',q1,q2,q3⟩:=qN h.2 (List.nodup_cons.mp nd).2 (show xs[c]?=some x from e);exact⟨b',q1,q2,λH' O' x' f n=>⟨f b J3 (λz=>(List.nodup_cons.mp nd).1 (by rw[z];exact Kk q1)) _ h.1,q3 H' O' x' (λc' hc=>f c' (J4 _ hc)) n⟩⟩
 |[],_::_,_,_,h,_,_=>h.elim
 |[],[],_,_,_,_,e=>by simp at e
end
end TG
namespace TG
open PySem PySem.Spec L2
variable[aj]
end TG
namespace TG
open PySem PySem.Spec L2
variable[aj]
end TG
namespace TG
open PySem PySem.Spec L2
variable[aj]
noncomputable def hK0(k:Ks):Ks:=⟨k.nx,k.bk,k.ct,λ_ _=>un⟩
end TG
namespace L2
open PySem PySem.Spec PyProof.Rows
end L2
namespace TG
open PySem PySem.Spec L2
variable[aj]
end TG
namespace TG
open PySem PySem.Spec PySem.Calls L2
variable[aj]
end TG
namespace TG
open PySem PySem.Spec PySem.Calls L2
variable[aj]
end TG
namespace TG
open PySem PySem.Spec L2
variable[aj]
end TG
namespace TG
open PySem PySem.Spec PySem.Calls L2
variable[aj]
end TG
namespace TG
open PySem PySem.Spec PySem.Calls L2
variable[aj]
end TG
namespace L2
open PySem PySem.Spec PyProof.Rows
end L2
namespace TG
open PySem PySem.Spec L2
variable[aj]
end TG
namespace TG
open PySem PySem.Spec PySem.Calls L2
variable[aj]
end TG
namespace TG
open PySem PySem.Spec PyProof.Rows L2
end TG
namespace TG
open PySem PySem.Spec L2
variable[aj]
theorem bE.rewr{K:MT}{Hb H:Hp}{Ob O:ak}{ρ:ah}{σ:St}(S:bE K Hb Ob O H ρ σ)(hn:Bi ρ=true){p:NQ}{o:HO}(m:jr o)(hp:p∈O)(hb:Hb p=none)(hs:∀(j:Nat) d',ρ[j]?=some (some (.own d'))->σ[j]?≠some (some (.ref p))):bE K Hb Ob O (upd H p o) ρ σ:=
 ⟨S.env.rewrite m hp hs,⟨fun c u h=>by
  have cp:c≠p:=λz=>by rw[z,hb]at h;cases h
  rw[ao cp];exact S.base.same c u h,S.base.sub,S.base.new⟩,S.mine,λj d q=>absurd q (iu hn j d)⟩
theorem mP{K:MT}{H:Hp}{O:ak}:∀{bs:ak}{ds:List D},bs.length=ds.length->(∀b∈bs,H b=some (.dT []))->mw K H O bs (ds.map λ_=>.dct [] [])
 |[],[],_,_=>trivial
 |b::bs,_::ds,e,h=>⟨⟨.dT [],[],h b J3,bG.mpr rfl,.inr ⟨[],rfl,rfl,rfl⟩⟩,mP (Nat.succ.inj e) λb hb=>h b (J4 _ hb)⟩
 |[],_::_,e,_=>by cases e
 |_::_,[],e,_=>by cases e
noncomputable def gR(i:Nat)(G:aV):bB:=λk ρ=>(qC (G ρ)).bind λds=>if Bi ρ&&small ds.length then k.nx (ρ.set i (some (.nest (.lst (ds.map λ_=>.dct [] [])))))else un
theorem xF{K:MT}{H:Hp}{O:ak}{σ:St}(h:bJ H O):cm K O H [none] σ:=by
 have no:∀(i:Nat) x,([none]:ah)[i]?≠some (some x):=λi x z=>by
  cases i with
  |zero=>cases z
  |succ i=>cases z
 exact⟨λi d e=>absurd e (no _ _),λi d e=>absurd e (no _ _),λi j xs ys a e=>absurd e (no _ _),h⟩
theorem F5{X:Cx}{tg iter:NR}{scope:N5}{N:aH}{G:aV}{i:Nat}{y:Str}{dp lpos py spos:Pos}(hN:X.N.Nodup)(hi':X.N[i]?=some y)(hx:Loc X.env.scope y)
  (hc:X.calm=true) (ok:iP X scope N [none]) (hi:FI X tg iter G) (hb:∀cl C' fp s H E,FG (bf X scope N cl C' fp s H E) tg (gN 0))
  (hsw:swapsWith (.ListComp (.Dict [] [] dp) [⟨tg,iter,[],0⟩] scope lpos) (some (.Name y py)) spos.line X.env=pure true:=by rfl)
  (hs:∀x,Oo iter X.env x=pure x:=by intro _;rfl)
  (hf:X.fn y=true\/X.env.scope.names.lookup y=some .local:=by first|exact .inl rfl|exact .inr rfl|assumption):
  FS X (.Assign [.Name y py] (.ListComp (.Dict [] [] dp) [⟨tg,iter,[],0⟩] scope lpos) spos) (gR i G):=λHb Ob pins s σ H E I zq=>zq.elim λO zq=>zq.elim λρ zq=>zq.elim λk zq=>zq.elim λr zq=>zq.elim λS zq=>zq.elim λhF hk=>by
 unfold gR at hF;cases eG:G ρ with
 |error z=>rw[eG]at hF;exact absurd hF.symm hk.ne
 |ok ds=>
 rw[eG]at hF;have hF:(if Bi ρ&&small ds.length then k.nx (ρ.set i (some (.nest (.lst (ds.map λ_=>.dct [] [])))))else un)=r:=hF;cases hn':Bi ρ&&small ds.length with
 |false=>rw[hn']at hF;exact absurd hF.symm hk.ne
 |true=>
 rw[hn',if_pos rfl]at hF;obtain⟨hn,hz⟩:=Kr _ _ ▸ hn';refine Ai (wi:=Hu X G) (g:=GA X.K (gN 0)) (tc:=A5 X.K bH) (te:=zp) hN hi' hx hc ok.cell ok.kind ok.names ok.free ok.ix hi (λcl C' fp s H E=>⟨hb cl C' fp s H E,λpins s σ H Q I zq=>zq.elim λO zq=>zq.elim λρ zq=>zq.elim λb zq=>zq.elim λe1 zq=>zq.elim λe2 q=>A1 pins s σ H Q I ⟨O,ρ,e1,by rw[e2];exact q⟩,xS⟩) hsw hs hf pins s σ H E I ?_;refine⟨O,ρ,S.env,?_⟩;rw[eG];intro J H1 s1 wk D hD;have S1:=S.same s1;obtain⟨d1,d2,d3⟩:=S1.new hD;refine⟨λi m σ' H'=>m=ds.length-i/\i<=ds.length/\∃O' bs,bs.length=i/\bE X.K Hb Ob O' H' ρ σ/\aF (hid H1 O) (hid H' O')/\H' D=some (.lst (bs.map .ref))/\(D::bs).Nodup/\(∀b∈D::bs,b∈O'/\Hb b=none/\b∉Ob/\∀(j:Nat) d',ρ[j]?=some (some (.own d'))->σ[j]?≠some (some (.ref b)))/\∀b∈bs,H' b=some (.dT []),
  ⟨ds.length,by rw [Lc],KH _,D::O,[],rfl,S1.hide trivial hD,fP hD,aq,by simp,fun b hb=>by
   rw[List.mem_singleton.mp hb];exact⟨J3,d1,d2,d3⟩,λb hb=>nomatch hb⟩,?_⟩
 rintro i m σ' H' ⟨rfl,hi,O',bs,hl,S',sH,hacc,nd,hbs,hem⟩;by_cases hlt:i<ds.length
 ·right;obtain⟨go,yl⟩:=(wk H' O' i S'.env.all sH).1 ds[i] (by simp[hlt]);refine⟨go,λx H2 y=>?_⟩;obtain⟨s2,dx'⟩:=yl x H2 y;refine⟨O',[none],ds[i],[some (.val ds[i])],xF (S'.env.all.same s2),dx',rfl,λσ3 E3 _=>?_⟩;refine⟨O',_,true,E3,rfl,λH4 s4=>zB λp hp=>?_⟩;have s24:=s2.trans s4;have S4:=S'.same s24;obtain⟨p1,p2,p3⟩:=S4.new hp;have a4:=s24 _ _ hacc;have Dp:D≠p:=aI a4 hp;have bp:∀b∈bs,b≠p:=λb hb=>aI (s24 _ _ (hem b hb)) hp;have hzl:ds.length<NY:=Lh (of_decide_eq_true hz) (by decide);have S5:=S4.hide (o:=.dT []) trivial hp;obtain⟨D1,D2,D3,D4⟩:=hbs D J3;have S6:=S5.rewr hn (o:=.lst (bs.map .ref++[.ref p])) trivial (J4 _ D1) D2 D4;refine⟨bs.map .ref,by rw[ao Dp];exact a4,by rw[Km];omega,ds.length-(i+1),by omega,rfl,hlt,p::O',bs++[p],by rw[Kl,hl];rfl,S6,?_,?_,?_,λb hb=>?_,λb hb=>?_⟩
  ·exact((sH.trans (aQ s24)).trans (fP hp)).trans (eU (J4 _ D1))
  ·rw[aq,K9];rfl
  ·obtain⟨n1,n2⟩:=List.nodup_cons.mp nd;refine List.nodup_cons.mpr ⟨λz=>?_,?_⟩
   ·rcases List.mem_append.mp z with z|z
    ·exact n1 z
    ·exact Dp (List.mem_singleton.mp z)
   ·exact List.nodup_append.mpr ⟨n2,by simp,λa ha b hb=>by rw[List.mem_singleton.mp hb];exact bp a ha⟩
  ·rcases List.mem_cons.mp hb with z|z
   ·rw[z];exact⟨J4 _ D1,D2,D3,D4⟩
   ·rcases List.mem_append.mp z with z|z
    ·obtain⟨q1,q2⟩:=hbs b (J4 _ z);exact⟨J4 _ q1,q2⟩
    ·rw[List.mem_singleton.mp z];exact⟨J3,p1,p2,p3⟩
  ·have bD:b≠D:=λz=>by
    rcases List.mem_append.mp hb with q|q
    ·exact(List.nodup_cons.mp nd).1 (by rw[<-z];exact q)
    ·exact Dp (by rw[<-z];exact List.mem_singleton.mp q)
   rw[ao bD];rcases List.mem_append.mp hb with z|z
   ·rw[ao (bp b z)];exact s24 _ _ (hem b z)
   ·rw[List.mem_singleton.mp z];exact aq
 ·left;have ei:i=ds.length:=by omega
  subst ei;refine⟨(wk H' O' ds.length S'.env.all sH).2 rfl,?_⟩;refine hk.nx _ _ _ _ (S'.setL (by rw[I.len];exact(List.getElem?_eq_some_iff.mp hi').1) hn (bs:=bs) ⟨_,mP hl hem,.inl ⟨rfl,hacc⟩⟩ nd hbs) hF
end TG
namespace TG
open PySem PySem.Spec L2
variable[aj]
theorem bE.putN{K:MT}{Hb H:Hp}{Ob O:ak}{ρ:ah}{σ:St}(S:bE K Hb Ob O H ρ σ){i c:Nat}{xs:List D}{x:D}(hi:ρ[i]?=some (some (.nest (.lst xs))))(hc:xs[c]?=some x):
  ∃(a:NQ)(bs:ak)(l:NQ),σ[i]?=some (some (.ref a))/\H a=some (.lst (bs.map .ref))/\bs[c]?=some l/\l∈O/\bX K H O l x/\∀(H2:Hp)(o':HO)(x':D),aF H H2->jr o'->bX K (upd H2 l o') O l x'->bE K Hb Ob O (upd H2 l o') (ρ.set i (some (.nest (.lst (xs.set c x'))))) σ:=by
 obtain⟨a,bs,ha,⟨xs',hO,hat⟩,nd,hbs,one⟩:=S.nst i _ hi;obtain⟨rfl,hHa⟩:xs'=xs/\H a=some (.lst (bs.map .ref)):=by
  rcases hat with⟨e,q⟩|⟨_,e,_⟩|⟨e,_⟩
  ·cases e;exact⟨rfl,q⟩
  ·cases e
  ·cases e
 obtain⟨na,nb⟩:=List.nodup_cons.mp nd;obtain⟨aO,aHb,aOb,aS⟩:=hbs a J3;obtain⟨l,hl,hat,new⟩:=qN hO nb hc;have lb:=Kk hl;have la:l≠a:=λz=>na (by rw[<-z];exact lb);obtain⟨lO,lHb,lOb,lS⟩:=hbs l (J4 _ lb);refine⟨a,bs,l,ha,hHa,hl,lO,hat,λH2 o' x' s2 mo ow=>?_⟩;have sm5:aF (hid H O) (hid (upd H2 l o') O):=(aQ s2).trans (eU lO);refine S.setN hi (λc hc=>hc) sm5 ⟨λc u h=>?_,S.base.sub,S.base.new⟩ ((S.env.all.same s2).upd lO mo) (λj xs c w1 w2=>?_) ?_
 ·have cl:c≠l:=λz=>by rw[z,lHb]at h;cases h
  rw[ao cl];exact s2 _ _ (S.base.same c u h)
 ·obtain⟨c',q1,q2,q3⟩:=S.env.own j xs w1;rw[w2]at q1;cases q1;obtain⟨o,ho⟩:=q3.some;have cl:c≠l:=λz=>lS j xs w1 (by rw[<-z];exact w2);rw[ho,ao cl];exact(s2 _ _ ho).symm
 ·have own:∀(j:Nat) d' d2,(ρ.set i (some (.nest d2)))[j]?=some (some (.own d'))->ρ[j]?=some (some (.own d')):=λj d' d2 w=>by
   rcases ax w with⟨_,z⟩|⟨_,z⟩
   ·cases z
   ·exact z
  refine⟨a,bs,ha,⟨_,new _ _ x' (λc hc ne x hx=>hx.mono ?_ sm5) ow,.inl ⟨rfl,?_⟩⟩,nd,λc hc=>?_,λj d' w=>?_⟩
  ·obtain⟨o,ho⟩:=hx.some;rw[ao ne,ho,s2 _ _ ho]
  ·rw[ao (Ne.symm la)];exact s2 _ _ hHa
  ·obtain⟨w1,w2,w3,w4⟩:=hbs c hc;exact⟨w1,w2,w3,λj d' w=>w4 j d' (own j d' _ w)⟩
  ·rcases ax w with⟨hj,_⟩|⟨_,z⟩
   ·exact hj
   ·exact one j d' z
noncomputable def gY(xs:List D)(c k v:D):Option (List D):=match c with
 |.int (.ofNat c)=>(match xs[c]? with
  |some (.dct ks ds)=>(gU ks ds k v).map λal=>xs.set c (aA al)
  |_=>none)
 |_=>none
theorem sF{xs xs':List D}{c k v:D}(h:gY xs c k v=some xs'):∃c' ks ds al,c=.int (Int.ofNat c')/\xs[c']?=some (.dct ks ds)/\gU ks ds k v=some al/\xs'=xs.set c' (aA al):=by
 unfold gY at h;split at h
 ·split at h
  ·rename_i e;obtain⟨al,q,z⟩:=Option.map_eq_some_iff.mp h;exact⟨_,_,_,al,rfl,e,q,z.symm⟩
  ·cases h
 ·cases h
noncomputable def gK(i:Nat)(u:List D->D->D->D->Option (List D))(fe fk fv:FX):bB:=λk ρ=>match ρ[i]? with
 |some (some (.nest (.lst xs)))=>(qC (fv ρ)).bind λv=>(qC (fe ρ)).bind λc=>(qC (fk ρ)).bind λq=>(rO (u xs c q v)).bind λys=>k.nx (ρ.set i (some (.nest (.lst ys))))
 |_=>un
theorem me{i:Nat}{u:List D->D->D->D->Option (List D)}{fe fk fv:FX}{k:Ks}{ρ:ah}{r:R D}(h:gK i u fe fk fv k ρ=r)(hr:r≠un):∃xs v c q ys,ρ[i]?=some (some (.nest (.lst xs)))/\fv ρ=.ok v/\fe ρ=.ok c/\fk ρ=.ok q/\u xs c q v=some ys/\k.nx (ρ.set i (some (.nest (.lst ys))))=r:=by
 unfold gK at h;split at h
 ·rename_i xs hi;cases e1:fv ρ with
  |error z=>rw[e1]at h;exact absurd h.symm hr
  |ok v=>
  cases e2:fe ρ with
  |error z=>rw[e1,e2]at h;exact absurd h.symm hr
  |ok c=>
  cases e3:fk ρ with
  |error z=>rw[e1,e2,e3]at h;exact absurd h.symm hr
  |ok q=>
  rw[e1,e2,e3]at h;have h:(rO (u xs c q v)).bind (λys=>k.nx (ρ.set i (some (.nest (.lst ys)))))=r:=h;cases e4:u xs c q v with
  |none=>rw[e4]at h;exact absurd h.symm hr
  |some ys=>rw[e4]at h;exact⟨xs,v,c,q,ys,hi,rfl,rfl,rfl,e4,h⟩
 ·exact absurd h.symm hr
end TG
namespace TG
open PySem PySem.Spec PySem.Calls L2
section
variable{prog:NV}{w:NU}{K:Type}[DecidableEq K]{knd:HeapKind prog w K}{A:N4}{E:az}{s:NT}{d a:NQ}{k:K}{xs:List (K×NQ×NN)}
noncomputable def tY(xs:List (K×NQ×NN))(k:K):List (K×NQ×NN):=xs.filter λx=>decide (x.1≠k)
theorem Ed:∀{xs:List (K×NQ×NN)}{k:K}{j:Nat}{p:NQ×NN},(xs.map (·.1)).Nodup->xs[j]?=some (k,p)->xs.eraseIdx j=tY xs k:=by
 intro xs
 induction xs with
 |nil=>intro k j p _ h;simp at h
 |cons x xs ih=>
  intro k j p hn h;rw[Kw,List.nodup_cons]at hn;cases j with
  |zero=>
   cases(show x=(k,p)from Option.some.inj h);unfold tY;rw[List.eraseIdx_cons_zero,Lx (by simp),List.filter_eq_self.mpr];intro y hy;exact decide_eq_true λz=>hn.1 (List.mem_map.mpr ⟨y,hy,z⟩)
  |succ j=>
   have hj:xs[j]?=some (k,p):=h;have hx:x.1≠k:=λz=>hn.1 (List.mem_map.mpr ⟨(k,p),Kk hj,z.symm⟩);unfold tY;rw[List.eraseIdx_cons_succ,Lw (p:=λy:K×NQ×NN=>decide (y.1≠k)) (decide_eq_true hx),ih hn.2 hj];rfl
theorem yG{Q:Option PL->bn}(hu:knd.room A)(hkey:knd.is s.heap k a)(hm:s.heap.DictOfH knd d xs)(hsz:xs.length<=NY)
  (h1:∀p,atKey xs k=some p->∀h',h'.DictOfH knd d (tY xs k)->Nc d s.heap h'->Q (some (entryOfKey knd (k,p))) {s with heap:=h',toks:=s.toks+knd.draws k})
  (h2:atKey xs k=none->Q none {s with toks:=s.toks+knd.draws k}):
  N7 `g A (Builtin.Dict.takeOut d (.ref a)) Q E s:=by
 obtain⟨o,es,ep,ho,hc,hd,he,his,hn⟩:=hm;unfold Builtin.Dict.takeOut
 try with_reducible refine OI ?_
 refine Oj (knd.pyHash hu hkey (Oj (wpAny_dictFind_heap (s:={s with toks:=s.toks+knd.draws k}) hu hkey ho hd he his hn (λhno=>?_) λj p hj=>?_)))
 ·exact Oi (h2 (atKey_none_of_get hno))
 ·refine Oj (PP (s:={s with toks:=s.toks+knd.draws k}) ho hd ?_);rw[entry_at he j,hj];refine Oj (wpAny_updateDictKeys (hz:=by have e:=size_of_entries he;omega) (s:={s with toks:=s.toks+knd.draws k}) ho hd (Oi (h1 p (atKey_of_get hn hj) _ ⟨_,_,ep+1,Np _ ho (Obj.isFreed_of_dict (Obj.data_mapDictKeys hd _)),hc.mapDictKeys _,Obj.data_mapDictKeys hd _,?_,?_,?_⟩ (Heap.SameBut.update ..))))
  ·obtain⟨l⟩:=es;have he:l=xs.map (entryOfKey knd):=he;simp only[List.eraseIdxIfInBounds_toArray];rw[he,<-Ed hn hj,Mu,Mu,K9,Mv,Mw]
  ·intro x hx;exact knd.keeps (his x (List.mem_filter.mp hx).1) ho hd (Heap.SameBut.update ..)
  ·exact hn.sublist (List.Sublist.map _ Mx)
theorem wR{x:NN}{Q:az}(hu:knd.room A.in1)(hkey:knd.is s.heap k a)(hm:s.heap.DictOfH knd d xs)(hsm:(d==sysModules)=false)(hsz:xs.length<=NY)
  (h1:∀p,atKey xs k=some p->∀h' t',h'.DictOfH knd d (tY xs k)->Nc d s.heap h'->Q p.2 {s with heap:=h',toks:=t'})
  (h2:atKey xs k=none->∀t',Q x {s with toks:=t'}):
  N7 `g A (call (.builtin "dict.pop") [.ref d,.ref a,x]) Q E s:=by
 refine OL PySem.F.slot_dict_pop hm.typeIs PySem.F.entry_dict_pop ?_ (PySem.F.args_dict_pop_3 _ _ _);unfold Builtin.«dict.pop»;refine Oj ?_;unfold Builtin.Dict.keyAndDefault;refine Oj (PK hm.typeIs ?_);show N7 _ _ (pure (d,Value.ref a,some x)) _ _ s;refine Oi ?_;have hp:(keyPart (Value.ref a)).isSome=false:=rfl;simp only[hp,KL,if_false];obtain⟨o,es,ep,ho,hc,hd,he,his,hn⟩:=id hm;refine Oj (PP ho hd (Oj (Oi ?_)));cases hem:es.isEmpty with
 |true=>
  have:xs=[]:=by
   obtain⟨l⟩:=es
   have:l=[]:=(by simpa using hem);subst this;cases xs with
   |nil=>rfl
   |cons y ys=>cases he
  subst this;rw[if_pos rfl];refine Oj (O2 (Oj (Oi ?_)));simp only[My,if_true];refine Oj (P2 hsm ?_);exact Oj (O2 (Oi ⟨_,rfl,h2 rfl _⟩))
 |false=>
  rw[if_neg J8];refine Oj (yG hu hkey hm hsz (λp hp h' hm' hs'=>?_) λhno=>?_)
  ·simp only[Option.isNone_some,KL,if_false];exact Oj (wpAny_letGo (Oi ⟨_,rfl,h1 p hp _ _ hm' hs'⟩))
  ·simp only[My,if_true];refine Oj (P2 hsm ?_);exact Oj (O2 (Oi ⟨_,rfl,h2 hno _⟩))
end
theorem KT.out{H:Hp}{kvs:List (List Key×V)}{xs:List (List Key×NQ×NN)}(r:KT H kvs xs)(k:ay):KT H (jl kvs k) (tY xs k):=by
 induction r with
 |nil=>exact .nil
 |@cons p q ps qs h t ih=>
  unfold jl tY;by_cases e:p.1=k
  ·rw[Lx (by simp[e]),Lx (by simp[<-h.1,e])];exact ih
  ·rw[Lw (by simp[e]),Lw (by simp[<-h.1,e])];exact .cons h ih
theorem yc{X:Cx}{pins:aL}{σ:St}{H:Hp}{s:NT}{a b:NQ}{k:ay}{kvs:List (List Key×V)}{v:V}{r:NN}{A:N4}{E:az}{Q:az}(hu:A.units+1<Ov)(I:`h)(e:H a=some (.dT kvs))(eb:H b=some (.tup (k.map kV)))(rv:RelV v r)
  (h:∀v' w' s',(gB kvs k).getD v=v'->Inv X pins σ (upd H a (.dT (jl kvs k))) s'->RelV v' w'->Q w' s'):
  N7 `i A (call (.builtin "dict.pop") [.ref a,.ref b,r]) Q E s:=by
 obtain⟨z,hd,xs,rel,dd⟩:=De I.hok e;have hz:xs.length<=NY:=by rw[<-Paired.length rel];exact z
 have hl2:(jl kvs k).length<=NY:=JY (Mz _ _) z;have q:=rel.val k;refine wR (OX hu) (gA I.hok eb) dd hd hz (λp hp h' t' dd' hs=>?_) λhn t'=>?_
 ·rw[hp]at q;obtain⟨v',ev,rv'⟩:=wB q;refine h v' _ _ (by rw[ev];rfl) ?_ rv';obtain⟨q,es,ep,hq,g2,g3,g4,_,g5⟩:=dd';refine ii I (by rw[e];exact True.intro) hs ⟨q,hq⟩ ⟨hl2,hd,_,(KT.out rel k).keeps λc ys ec=>?_,q,es,ep,hq,g2,g3,g4,g5⟩;rw[ao (yu ec e (λz=>nomatch z))];exact ec
 ·rw[hn]at q;have ev:=xg q;refine h v r _ (by rw[ev];rfl) ?_ rv
  have:jl kvs k=kvs:=List.filter_eq_self.mpr λy hy=>decide_eq_true λz=>by
   have:=List.find?_eq_none.mp (Option.map_eq_none_iff.mp ev) y hy
   simp[z]at this
  rw[this,show upd H a (.dT kvs)=H from funext λc=>if hc:c=a then by rw[hc,e,aq]else by rw[ao hc]];exact I.tok _
variable[aj]
noncomputable def Gf:V->aG->Hp->VK->Prop:=λx vs H Q=>∃a b k kvs v,x=.ref a/\vs=[.ref b,v]/\H b=some (.tup (k.map kV))/\(H a=some (.dT kvs)\/(H a=some (.dK [])/\kvs=[]))/\Q ((gB kvs k).getD v) (upd H a (.dT (jl kvs k)))
theorem Cm{X:Cx}(hu:X.A.units+64<Ov):Jc X "dict.pop" Gf:=by
 intro pins s σ H x vs v us Q I rx rv h;obtain⟨a,b,k,kvs,v',rfl,rfl,hb,ha,h1⟩:=h;cases rx;obtain⟨u1,u,rfl,r1,ru⟩:=rv.two;obtain rfl:u1=Value.ref b:=r1;rcases ha with ha|⟨ha,rfl⟩
 ·exact yc `o I ha hb ru λv1 w1 s1 e I1 r=>⟨v1,_,I1,r,by rw[<-e];exact h1⟩
 ·have ne:b≠a:=λz=>by rw[z,ha]at hb;cases hb
  refine yc `o (sA I ha) aq (by rw[ao ne];exact hb) ru λv1 w1 s1 e I1 r=>⟨v1,_,by rw[m5]at I1;exact I1,r,by rw[<-e];exact h1⟩
end TG
namespace TG
open PySem PySem.Spec L2
variable[aj]
noncomputable def gV(al:bu)(q:ay):bu:=al.filter λp=>decide (p.1≠q)
theorem yo{K:MT}{H:Hp}(q:ay):∀{kvs:List (List Key×V)}{al:bu},kvs.map (·.1)=al.map (·.1)->aB K H (al.map (·.2)) (kvs.map (·.2))->(jl kvs q).map (·.1)=(gV al q).map (·.1)/\aB K H ((gV al q).map (·.2)) ((jl kvs q).map (·.2)):=by
 intro kvs
 induction kvs with
 |nil=>
  intro al e h;cases al with
  |nil=>exact⟨rfl,bG.mpr rfl⟩
  |cons=>cases e
 |cons p kvs ih=>
  intro al e h;cases al with
  |nil=>cases e
  |cons x al=>
   rw[Kw,Kw]at e h;injection e with e1 e2;obtain⟨v,vs,q1,q2,q3⟩:=aM.mp h;injection q1 with q1 q4;subst q1 q4;obtain⟨i1,i2⟩:=ih e2 q3;unfold jl gV at i1 i2 ⊢;by_cases z:x.1=q
   ·rw[Lx (by simp[e1,z]),Lx (by simp[z])];exact⟨i1,i2⟩
   ·rw[Lw (by simp[e1,z]),Lw (by simp[z]),Kw,Kw,Kw,Kw,i1,e1];exact⟨rfl,aM.mpr ⟨_,_,rfl,q2,i2⟩⟩
noncomputable def h7(xs:List D)(c k v:D):Option (List D):=match c with
 |.int (.ofNat c)=>(match xs[c]? with
  |some (.dct ks ds)=>(dZ ks ds).bind λal=>(cM k).map λq=>xs.set c (aA (gV al q))
  |_=>none)
 |_=>none
theorem sx{xs xs':List D}{c k v:D}(h:h7 xs c k v=some xs'):∃c' al q,c=.int (Int.ofNat c')/\xs[c']?=some (aA al)/\k=.tup (q.map aC)/\xs'=xs.set c' (aA (gV al q)):=by
 unfold h7 at h;split at h
 ·split at h
  ·rename_i e;obtain⟨al,q,z⟩:=Option.bind_eq_some_iff.mp h;obtain⟨k',q2,z2⟩:=Option.map_eq_some_iff.mp z;obtain⟨e1,e2⟩:=d7 q;refine⟨_,al,k',rfl,?_,eT q2,z2.symm⟩;rw[e,e1,e2]
  ·cases h
 ·cases h
end TG
namespace TG
open PySem PySem.Spec L2
variable[aj]
section
variable{X:Cx}{o e:NR}{apos cpos:Pos}
theorem Ct{pins:aL}{σ:St}{H:Hp}{s:NT}{a:NQ}{y:V}{u:NN}{w:Option V}{A:N4}{E:az}{Q:az}(hu:A.units+1<Ov)(I:L2.Inv X pins σ H s)(g:uC H a y w)(ry:RelV y u)(h:∀w' s',L2.Inv X pins σ H s'->RelV (w.getD .non) w'->Q w' s'):
  N7 `i A (call (.builtin "dict.get") [.ref a,u]) Q E s:=by
 rcases g with g|⟨h1,rfl,b,k,rfl,hb⟩
 ·exact Am hu I g ry h
 ·have ne:b≠a:=λz=>by rw[z,h1]at hb;cases hb
  refine Am (o:=gB [] k) hu (sA I h1) (uk.t aq (by rw[ao ne];exact hb)) ry λw' s' I4 rw'=>h w' s' ?_ rw';have I5:=Gk I4 aq;rw[qY h1]at I5;exact I5
noncomputable def BQ(td ty:TE):TE:=λσ H Q=>td σ H λx H1=>∃a,x=.ref a/\IZ H1 a/\ty σ H1 λy H2=>∃o,uC H2 a y o/\Q (o.getD .non) H2
theorem wA{td ty:TE}(hu:X.A.units+1<Ov)(ho:PE X o td)(he:PE X e ty)(m:M1 X o "get" apos e cpos):PE X (.Call (.Attribute o "get" apos) [e] [] cpos) (BQ td ty):=by
 intro pins s σ H Q I h;refine wpAny_Call_method m.base m.few m.line NF NB NI (cD (ho pins s σ H _ I h) λu s1 zq=>zq.elim λx zq=>zq.elim λH1 zq=>zq.elim λI1 zq=>zq.elim λrx zq=>zq.elim λa zq=>zq.elim λex zq=>zq.elim λd q1=>?_);subst ex;obtain rfl:u=Value.ref a:=rx;obtain⟨t1,t2,_⟩:=zn I1 d;refine⟨t1,t2,?_⟩;rw[m.trees];refine Calls.callWith_builtin rfl (Calls.evalArgs_plain (Calls.spliced_cons (cD (he pins s1 σ H1 _ I1 q1) λiv s2 zq=>zq.elim λy zq=>zq.elim λH2 zq=>zq.elim λI2 zq=>zq.elim λry zq=>zq.elim λov zq=>zq.elim λg q2=>Calls.spliced_nil ?_)));exact Ct hu I2 g ry λw' s4 I4 rw'=>⟨_,H2,I4,rw',q2⟩
noncomputable def yr(ks ds:List D)(k:D):aW:=(rC ks ds).bind λal=>(cM k).map λq=>(bW al q).getD .non
noncomputable def dG(fo fk:FX):FX:=λρ=>(fo ρ).bind λdd=>match dd with
 |.dct ks ds=>(fk ρ).bind λk=>rO (yr ks ds k)
 |_=>un
end
end TG
namespace TG
open PySem PySem.Spec L2
variable[aj]
theorem bE.frzB{K:MT}{Hb:Hp}{Ob O:ak}{H H':Hp}{ρ:ah}{σ:St}(E:bE K Hb Ob O H ρ σ){i:Nat}{d d':D}(hd:ρ[i]?=some (some (.nest d))){a:NQ}{bs:ak}(h1:σ[i]?=some (some (.ref a)))(h4:∀b∈a::bs,b∈O/\Hb b=none/\b∉Ob/\∀(j:Nat) d',ρ[j]?=some (some (.own d'))->σ[j]?≠some (some (.ref b)))(h5:∀(j:Nat) d',ρ[j]?=some (some (.nest d'))->j=i)
  (hH:∀b,b∉a::bs->H' b=H b) (tab:aj.tab H') (dn:aF (hid H O) (hid H' (O.filter λb=>decide (b∉a::bs)))->(∀b∈a::bs,b∉O.filter λb=>decide (b∉a::bs))->bo K (hid H' (O.filter λb=>decide (b∉a::bs))) d' (.ref a)):bE K Hb Ob (O.filter λb=>decide (b∉a::bs)) H' (TG.setV i d' ρ) σ:=by
 have sub:∀b∈O.filter (λb=>decide (b∉a::bs)),b∈O:=λb hb=>(List.mem_filter.mp hb).1;have na:∀b∈a::bs,b∉O.filter λb=>decide (b∉a::bs):=λb hb z=>(of_decide_eq_true (List.mem_filter.mp z).2) hb;have s:aF (hid H O) (hid H' (O.filter λb=>decide (b∉a::bs))):=λb u e=>by
  unfold hid at e ⊢;by_cases hb:b∈O
  ·rw[if_pos hb]at e;cases e
  ·rw[if_neg hb]at e;rw[if_neg λz=>hb (sub b z),hH b λz=>hb (h4 b z).1];exact e
 have bk:∀(l:Nat) x,(TG.setV i d' ρ)[l]?=some (some x)->(∀d,x≠.val d)->ρ[l]?=some (some x):=λl x e nv=>by
  rcases ax e with⟨_,q⟩|⟨_,q⟩
  ·cases q;exact absurd rfl (nv _)
  ·exact q
 refine⟨⟨λj d1 e=>?_,λj xs e=>?_,λj l xs ys b e1 e2 e3 e4=>E.env.one j l xs ys b (bk j _ e1 (λ_ z=>nomatch z)) (bk l _ e2 (λ_ z=>nomatch z)) e3 e4,⟨tab,λb hb=>?_⟩⟩,⟨λb u e=>?_,λb hb=>?_,λb hb=>E.base.new b (sub b hb)⟩,λj xs b e1 e2=>E.mine j xs b (bk j _ e1 (λ_ z=>nomatch z)) e2,λj dn e=>?_⟩
 ·rcases ax e with⟨hj,q⟩|⟨ne,q⟩
  ·cases q;rw[hj];exact⟨.ref a,h1,dn s na⟩
  ·obtain⟨w,q1,q2⟩:=E.env.val j d1 q;exact⟨w,q1,q2.mono s⟩
 ·obtain⟨b,q1,q2,q3⟩:=E.env.own j xs (bk j _ e (λ_ z=>nomatch z));have nb:b∉a::bs:=λz=>(h4 b z).2.2.2 j xs (bk j _ e (λ_ z=>nomatch z)) q1;exact⟨b,q1,List.mem_filter.mpr ⟨q2,decide_eq_true nb⟩,q3.mono (hH b nb).symm s⟩
 ·rw[hH b (of_decide_eq_true (List.mem_filter.mp hb).2)];exact E.env.all.2 b (sub b hb)
 ·rw[hH b λz=>by rw[(h4 b z).2.1]at e;cases e];exact E.base.same b u e
 ·exact List.mem_filter.mpr ⟨E.base.sub b hb,decide_eq_true λz=>(h4 b z).2.2.1 hb⟩
 ·have q:=bk j _ e (λ_ z=>nomatch z);have hj:=h5 j dn q;subst hj;rcases ax e with⟨_,q⟩|⟨ne,_⟩
  ·cases q
  ·exact absurd rfl ne
noncomputable def ox:List D->Option (List bu)
 |[]=>some []
 |.dct ks ds::xs=>(dZ ks ds).bind λal=>(ox xs).map (al::·)
 |_::_=>none
theorem qE:∀{xs:List D}{as:List bu},ox xs=some as->xs=as.map aA
 |[],as,h=>by cases h;rfl
 |.dct ks ds::xs,as,h=>by
  obtain⟨al,e1,h⟩:=Option.bind_eq_some_iff.mp (show((dZ ks ds).bind λal=>(ox xs).map (al::·))=some as from h);obtain⟨r,e2,rfl⟩:=Option.map_eq_some_iff.mp h;obtain⟨f1,f2⟩:=d7 e1;rw[qE e2,f1,f2];rfl
 |.non::_,_,h=>by cases h
 |.bl _::_,_,h=>by cases h
 |.int _::_,_,h=>by cases h
 |.str _::_,_,h=>by cases h
 |.lst _::_,_,h=>by cases h
 |.tup _::_,_,h=>by cases h
 |.obj ..::_,_,h=>by cases h
 |.exc ..::_,_,h=>by cases h
noncomputable def Fu(K:MT)(Hd H:Hp):ak->List (bu)->Prop
 |[],[]=>True
 |b::bs,al::as=>(∃o kvs,H b=some (.frz o (.dT kvs))/\kvs.map (·.1)=al.map (·.1)/\aB K Hd (al.map (·.2)) (kvs.map (·.2)))/\Fu K Hd H bs as
 |_,_=>False
theorem Fu.den{K:MT}{Hd H':Hp}{O':ak}(s:aF Hd (hid H' O')):∀{bs:ak}{as:List bu},Fu K Hd H' bs as->(∀b∈bs,b∉O')->aB K (hid H' O') (as.map cT) (bs.map .ref)
 |[],[],_,_=>bG.mpr rfl
 |b::bs,al::as,h,n=>by
  obtain⟨⟨o,kvs,e1,e2,e3⟩,h2⟩:=h;refine aM.mpr ⟨.ref b,_,rfl,Hl.mpr ⟨b,_,rfl,e3.mono s,.inr (.inr ⟨kvs,o,by rw[dO (n b J3)];exact e1,by rw[jd e2],rfl⟩)⟩,Fu.den s h2 λb hb=>n b (J4 _ hb)⟩
 |[],_::_,h,_=>h.elim
 |_::_,[],h,_=>h.elim
theorem uJ{X:Cx}{pins:aL}{σ:St}{s:NT}{H:Hp}{O:ak}:∀{bs:ak}{as:List bu}{H0:Hp},mw X.K H O bs (as.map aA)->bs.Nodup->(∀b∈bs,H0 b=H b)->(∀b∈bs,b∈O)->bJ H O->Inv X pins σ H0 s->aj.tab H0->∃H1,Inv X pins σ H1 s/\aj.tab H1/\(∀b,b∉bs->H1 b=H0 b)/\Fu X.K (hid H O) H1 bs as
 |[],[],H0,_,_,_,_,_,I,t=>⟨H0,I,t,λ_ _=>rfl,trivial⟩
 |b::bs,al::as,H0,h,nd,e0,hO,ok,I,t=>by
  obtain⟨n1,n2⟩:=List.nodup_cons.mp nd;have eb:=e0 b J3;obtain⟨u,m1,m2⟩:=ok.2 b (hO b J3);obtain⟨H1,o,kvs,I1,q1,q2,q3,q4⟩:∃H1 o kvs,Inv X pins σ H1 s/\H1 b=some (.frz o (.dT kvs))/\kvs.map (·.1)=al.map (·.1)/\aB X.K (hid H O) (al.map (·.2)) (kvs.map (·.2))/\H1=upd H0 b (.frz o (.dT kvs)):=by
   rcases Ag h.1 with⟨kvs,k1,k2,k3⟩|⟨k1,rfl⟩
   ·obtain⟨o,I1⟩:=Ac I (eb.trans k1);exact⟨_,o,kvs,I1,aq,k2,k3,rfl⟩
   ·obtain⟨o,I1⟩:=Ac (sA I (eb.trans k1)) aq;rw[m5]at I1;exact⟨_,o,[],I1,aq,rfl,bG.mpr rfl,rfl⟩
  have t1:aj.tab H1:=by rw[q4];exact aj.own t (eb.trans m1) m2
  have k1:∀c,c≠b->H1 c=H0 c:=λc hc=>by rw[q4,ao hc]
  obtain⟨H2,I2,t2,k2,f2⟩:=uJ (as:=as) h.2 n2 (H0:=H1) (λc hc=>(k1 c λz=>n1 (by rw[<-z];exact hc)).trans (e0 c (J4 _ hc))) (λc hc=>hO c (J4 _ hc)) ok I1 t1;exact⟨H2,I2,t2,λc hc=>(k2 c λz=>hc (J4 _ z)).trans (k1 c λz=>hc (by rw[z];exact J3)),⟨o,kvs,(k2 b n1).trans q1,q2,q3⟩,f2⟩
 |[],_::_,_,h,_,_,_,_,_,_=>h.elim
 |_::_,[],_,h,_,_,_,_,_,_=>h.elim
noncomputable def Ad(i:Nat)(ρ:ah):ah:=match ρ[i]? with
 |some (some (.nest (.lst xs)))=>match ox xs with
  |some as=>setV i (.lst (as.map cT)) ρ
  |none=>ρ
 |_=>ρ
noncomputable def j8(i:Nat)(F:bB):bB:=λk ρ=>F k (Ad i ρ)
end TG
namespace TG
open PySem PySem.Spec L2
variable[aj]
end TG
namespace TG
open PySem PySem.Spec L2
noncomputable def fU:List D->aW
 |[.dct ks ds]=>(rC ks ds).bind λal=>i5 (encK al)
 |_=>none
variable[aj]
section
variable{X:Cx}
theorem zY{K:MT}{H:Hp}{O:ak}(hO:bJ H O):∀{al:bu}{us:aE},us.length=al.length->(∀(j:Nat)(u:NN),us[j]?=some u->∃b q,u=.ref b/\al[j]?.map (·.1)=some q/\H b=some (.tup (q.map kV)))->∃ws:aG,Vals ws us/\aB K (hid H O) (encK al) ws:=by
 intro al us
 induction us generalizing al with
 |nil=>
  intro hlen _;cases al with
  |nil=>exact⟨[],.nil,bG.mpr rfl⟩
  |cons _ _=>cases hlen
 |cons u us ih=>
  intro hlen each;cases al with
  |nil=>cases hlen
  |cons p al=>
   obtain⟨ws,w1,w2⟩:=ih (al:=al) (by simpa using hlen) λj u e=>by
    have:=each (j+1) u (by rw[Mt];exact e)
    rw[Mt]at this;exact this
   obtain⟨b,q,e1,e2,e3⟩:=each 0 u rfl;cases e2;have bO:b∉O:=λz=>by
    obtain⟨u',q1,q2⟩:=hO.2 b z;rw[e3]at q1;cases q1;exact q2
   exact⟨.ref b::ws,.cons (by rw[e1];rfl) w1,aM.mpr ⟨.ref b,ws,rfl,bv.mpr ⟨b,_,rfl,by rw[dO bO];exact e3,lN p.1⟩,w2⟩⟩
theorem pJ(hc:X.calm=true):eV X (.builtin "sorted") (CK X.K fU):=by
 rintro pins s σ H xs us Q I r ⟨O,ds,d,hO,hd,hg,q⟩;unfold fU at hg;split at hg
 ·rename_i ks vs0;obtain⟨al,hk,hg⟩:=Option.bind_eq_some_iff.mp hg;obtain⟨v,ev,h1⟩:=hd.one;subst ev;obtain⟨a,ea,hh⟩:=lK h1 hk;subst ea;obtain⟨u,rfl,ru⟩:=vals1 r;cases ru;have fin:∀(H0:Hp)(kvs:List (List Key×V)),Inv X pins σ H0 s->Rd H0 a (.dT kvs)->kvs.map (·.1)=al.map (·.1)->(∀b ys,H0 b=some (.tup ys)->H b=some (.tup ys))->N7 `i X.A (call (.builtin "sorted") [.ref a]) (EP X pins σ Q) X.xe s:=λH0 kvs I0 hr hk2 ht=>by
   obtain⟨z,hs,o,es,ep,raw,hsz,hkey⟩:=sJ I0 hr;have hl:al.length=kvs.length:=(by have:=congrArg List.length hk2;simpa using this.symm);obtain⟨ws,w1,w2⟩:=zY (K:=X.K) hO (al:=al) (us:=es.toList.map (·.key)) (by rw[Km,Array.length_toList,hsz,hl]) λj u e=>by
    rw[Ki,Array.getElem?_toList]at e;obtain⟨en,e3,rfl⟩:=Option.map_eq_some_iff.mp e;obtain⟨b,q,w1,w2,w3⟩:=hkey j en e3;refine⟨b,q,w1,?_,ht _ _ w3⟩
    have:=congrArg (λl=>l[j]?) hk2
    simp only[Ki]at this;rw[<-this];exact w2
   refine iK I hO w2 w1 hg (λQ' hQ=>PySem.W.kdu_collect (qG hs) (I.ok.hd hc) raw (by rw[hsz];exact z) λh' tk acc kp it=>?_) q
   have:acc.toList=es.toList.map (·.key):=by
    refine Mb λj=>?_;rw[Ki,Array.getElem?_toList,Array.getElem?_toList];by_cases hj:j<acc.size
    ·obtain⟨en,e3,e4⟩:=it.2 j acc[j] (by simp[hj]);rw[e3,Array.getElem?_eq_getElem hj,e4];rfl
    ·have h2:¬j<es.size:=(by rw[<-it.1];exact hj);rw[Array.getElem?_eq_none `o,Array.getElem?_eq_none `o];rfl
   rw[this];exact hQ h' tk kp
  rcases hh with⟨kvs,hr,e1,_⟩|⟨hr,e1⟩
  ·exact fin H kvs I (t8 hr) e1 λ_ _ z=>z
  ·have ha:=(ai H O) _ _ hr;refine fin _ [] (sA I ha) (.inl aq) (by rw[e1];rfl) λb ys eb=>?_;by_cases z:b=a
   ·rw[z,aq]at eb;cases eb
   ·rw[ao z]at eb;exact eb
 ·cases hg
noncomputable def Fx(K:MT):aG->Hp->VK->Prop:=λvs H Q=>∃(O:ak)(ps:bu)(ws:aG)(p:NQ),vs=[.ref p]/\bJ H O/\lu K H p ws/\aB K (hid H O) (ps.map λp=>.tup [.tup (p.1.map aC),p.2]) ws/\small ps.length=true/\∀(l:NQ)(kvs':List (List Key×V)),H l=none->kvs'.map (·.1)=(lm ps).map (·.1)->aB K (hid H O) ((lm ps).map (·.2)) (kvs'.map (·.2))->Q (.ref l) (upd H l (.dT kvs'))
theorem uc(hc:X.calm=true)(hu:X.A.units+64<Ov):eV X (.type "dict") (Fx X.K):=by
 rintro pins s σ H xs us Q I r ⟨O,ps,ws,p,rfl,hO,g1,g2,sm,q⟩;obtain⟨u,rfl,ru⟩:=vals1 r;cases ru;obtain⟨its,rv,⟨o,n,ho,hcl,hd',hdd⟩,hz⟩:=I.list g1;obtain⟨L,ks,l1,l2,l3,l4,l5⟩:=kz I g2 rv;have kl:ks.length=ps.length:=by have:=congrArg List.length l4;simpa using this
 have ll:ks.length=L.length:=Paired.length l3;have key:∀{ks:List (List Key×V)}{L:List (List Key×NQ×NN)},KT H ks L->∀x∈L,∀h,Keeps s.heap h->(tupleKind (aN X.prog X.w)).is h x.1 x.2.1:=λ{ks L} kt=>by
  induction kt with
  |nil=>intro x hx;cases hx
  |cons hq _ ih=>
   intro x hx h kh;rcases List.mem_cons.mp hx with z|z
   ·subst z;obtain⟨e1,e2,_⟩:=hq;rw[e1]at e2;obtain⟨o,xs,n,k1,k2⟩:=gA I.hok e2;exact⟨o,xs,n,kh _ _ k1,k2⟩
   ·exact ih x z h kh
 obtain⟨f1,f2,f3,f4⟩:=lX (K:=X.K) (H:=H) (H0:=hid H O) (al:=[]) (kvs:=[]) (xs:=[]) l3 l4 l5 .nil rfl (bG.mpr rfl);have hsz:ps.length<=100000:=of_decide_eq_true sm;have sl:NY=16777216:=Ot;refine g6 (knd:=tupleKind (aN X.prog X.w)) (L:=L) ho hcl hdd hd' (I.ok.hd hc) (OX (by rw[in1_units];omega)) (by simpa using l1) `o (λi v e=>l2 i v (by simpa using e)) (key l3) λh' tk kp di=>?_;have hf:=I.hok.fresh (Ka s.heap.objs.size);obtain⟨⟨od,es,ep,k1,k2,k3,k4,k5⟩,_⟩:=di;have kt':KT (upd H s.heap.objs.size (.dT (ks.foldl (λm p=>putK m p.1 p.2) []))) (ks.foldl (λm p=>putK m p.1 p.2) []) (L.foldl (λxs x=>storedH xs x.1 x.2.1 x.2.2) []):=KT.keeps f1 λb ys eb=>by rw[ao (λz=>by rw[z,hf]at eb;cases eb)];exact eb
 refine⟨.ref s.heap.objs.size,_,I.laid (t':=tk) kp (Ka _) (show bA X.prog X.w _ h' _ (.dT (ks.foldl (λm p=>putK m p.1 p.2) []))from⟨by simp only[KC]at f4;omega,beq_eq_false_iff_ne.mpr (Ne.symm (JX I.big)),_,kt',od,es,ep,k1,k2,k3,k4,k5⟩),rfl,?_⟩;exact q _ _ hf f2 f3
end
end TG
namespace TG
open PySem PySem.Spec L2
variable[aj]
noncomputable def Ib(K:MT)(n:Nat)(g:List D->R D):Sp:=λvs H Q E=>∃O ds,vs.length=n/\bJ H O/\aB K (hid H O) ds vs/\match g ds with
 |.ok d=>∀p H',aF H H'->H p=none->(∃o,H' p=some o/\jr o)->bX K H' (p::O) p d->Q (.ref p) H'
 |.error (some x)=>HF K H O x E
 |.error none=>False
theorem vT{X:Cx}{n:Nat}{g:List D->R D}{f:aV}(hn:∀ds,g ds≠un->ds.length=n):∀σ H Q,Hs X (fR g f) σ H Q->t7 X (Ib X.K n g) (Hy X f) σ H Q:=λσ H Q zq=>zq.elim λO zq=>zq.elim λρ zq=>zq.elim λE hF=>
 ⟨O,ρ,E,(gL.bind hF).imp fun ds hF vs H1 s1 d1=>by
  cases hg:g ds with
  |ok d=>
   rw[hg]at hF;refine⟨E0,u0,O,ds,by rw[<-d1.length];exact hn ds (by rw[hg];intro z;cases z),E.all.same s1,d1,?_⟩;rw[hg];exact λp H2 s2 hp ho own=>hF p H2 (s1.trans s2) (s1.free hp) ho own
  |error z=>
   rw[hg]at hF;cases z with
   |none=>exact hF.elim
   |some x=>
    refine⟨uS X O H1 x,va (FR.mono hF s1),O,ds,by rw[<-d1.length];exact hn ds (by rw[hg];intro z;cases z),E.all.same s1,d1,?_⟩;rw[hg];exact qU⟩
noncomputable def vH(P:NV)(w:NU)(K:MT)(mg:bS)(base:NX)(k:Nat)(x:Str)(ps:aH)(g:List D->R D):Prop:=
 ∃f fd,iY P w K mg base (gM P w) k f fd ps (Ib K ps.length g)/\Binds K fd ps []/\MV K (.ref f)=true/\mg x=some (.ref f)
section
variable{P:NV}{w:NU}{K:MT}{mg:bS}{base:NX}
theorem Ak{x qual:Str}{st:NS}{f:NQ}{fd:Ow}{N ps:aH}{k:Nat}{e:NR}{rp:Pos}{fx:FX}(F:tW K x qual st f fd)(SC:cu N ps (af st))(hbd:b8 st=[.Return (some e) rp])
  (hb:∀ (cdv:NN) (A:N4) (outer:List Env) (s:NT) (H:Hp) (E:XK),eO k (A.deeper (Nv qual (af st) s.heap.objs.size f cdv))->Og (model P w) (A.deeper (Nv qual (af st) s.heap.objs.size f cdv)) (Nv qual (af st) s.heap.objs.size f cdv) (dW (gM P w) P w K mg base N qual (af st) f cdv A outer s H E).xe ->
   FN (dW (gM P w) P w K mg base N qual (af st) f cdv A outer s H E) e fx):
  iY P w K mg base (gM P w) (k+1) f fd ps (Ib K ps.length (aP (cf fx) ps.length N.length)):=by
 refine F8 F SC (λvs H Q E h=>?_) λcdv A outer s H vs Q E hr h=>?_
 ·obtain⟨O,ds,h1,_⟩:=h;exact h1
 ·obtain⟨O,ds,h1,h2,h3,h4⟩:=h;have hl:ds.length=ps.length:=h3.length.trans h1;have e4:aP (cf fx) ps.length N.length ds=nH (fx (env0 N.length ds)) K0 (env0 N.length ds) .ok:=by unfold aP;rw[if_pos hl];rfl
  rw[e4]at h4;have hp:=vv (Af (pos:=rp) (hb cdv A outer s H E hr PassesOwn.leaving));rw[<-hbd]at hp;refine⟨_,hp,O,env0 N.length ds,i9 h2 h3,?_⟩;generalize fx (env0 N.length ds)=r at h4
  match r,h4 with
  |.ok d,h4=>exact h4
  |.error (some x),h4=>exact sN h4 (aF.refl H) (λ_ z=>z)
  |.error none,h4=>exact h4.elim
end
end TG
namespace TG
open PySem PySem.Spec L2
section
variable{prog:NV}{w:NU}{A:N4}{E:az}{s:NT}{it d v:NQ}{i ep:Nat}{o:Obj}{es:Array PL}
theorem xH{Q:az}(ho:s.heap.get? d=some o)(hx:o.ExactDict)(hd:(d==sysModules)=false)(h:Q (.ref s.heap.objs.size) {s with heap:=s.heap.push {cls:=.type "dict_values",data:=.fields #[.ref d]}}):
  N7 `g A (call (.builtin "dict.values") [.ref d]) Q E s:=by
 refine OL PySem.F.slot_dict_values ⟨o,ho,hx.1⟩ PySem.F.entry_dict_values ?_ (PySem.F.args_dict_values_1 _);unfold Builtin.«dict.values»;refine Oj ?_;unfold Builtin.Dict.noArgs;refine Oj (PK ⟨o,ho,hx.1⟩ ?_);show N7 _ _ (pure d) _ _ s;refine Oi ?_;show N7 _ _ (Builtin.Dict.showsAll d >>= _) _ _ s;unfold Builtin.Dict.showsAll;rw[if_neg (by rw[hd];exact J8)];exact Oj (Oi (Oj (OO (Oi ⟨_,rfl,h⟩))))
theorem v7{Q:az}(hv:s.heap.IsValuesView v d)(ho:s.heap.get? d=some o)(hdat:o.data=.dict es ep)
  (hQ:Q (.ref s.heap.objs.size) {s with heap:=s.heap.push {cls:=.type "dict_valueiterator",data:=.fields #[.ref d,.int 0 0,.int es.size 0,.int ep 0]}}):N7 `g A (pyIter (.ref v)) Q E s:=by
 obtain⟨w1,hov,hcv,hdv⟩:=id hv;refine PN hv.typeIs F.slot_dict_values_iter (OL F.slot_dict_values_iter hv.typeIs F.entry_dict_values_iter ?_ (F.args_dict_values_iter_1 _));unfold Builtin.«dict_values.__iter__»;refine Oj (Oi (Oj ?_));unfold Builtin.Dict_items.dictOf;refine Oj (OH hov hdv (x:=.ref d) rfl (Oi (Oj ?_)));unfold Builtin.Dict_items.newIterator;refine Oj (PP ho hdat (Oj (PQ ho hdat ?_)));simp only[show Builtin.Dict_items.ownsTuple "dict_valueiterator"=false by decide,KL,if_false];refine OO (Oi ⟨_,rfl,"dict_valueiterator",_,⟨_,Ng _ rfl,rfl⟩,F.slot_dict_valueiterator_next.lookup,?_⟩)
 simpa [rawInt]using hQ
theorem xG{Q:gx->bn}(hit:s.heap.IsValIter it d i es.size ep)(hod:s.heap.get? d=some o)(hdd:o.data=.dict es ep)(hlt:i<es.size)
  (hQ:∀h',h'.IsValIter it d (i+1) es.size ep->Nc it s.heap h'->Q (some es[i].val) {s with heap:=h'}):N7 `g A (pyNext (.ref it)) Q E s:=by
 obtain⟨oi,ho,hc,hd⟩:=id hit;unfold pyNext;refine Oj (Pp (OJ (name:=Str.ofString "__next__") hit.typeIs F.slot_dict_valueiterator_next (OL F.slot_dict_valueiterator_next hit.typeIs F.entry_dict_valueiterator_next ?_ (F.args_dict_valueiterator_next_1 _))));refine Oj (Oi (Oj (Oj ?_)));first|refine Oj (P4 hit.typeIs (Oi ?_))|refine Oj (P5 hit.typeIs (Oi ?_))
 refine Oj (PX ho hd ?_);have hown:Builtin.Dict_items.ownsTuple "dict_valueiterator"=false:=by decide
 simp only[hown,KL,if_false];show N7 _ _ (if(Value.ref d==Value.none)=true then _ else _) _ _ s;rw[if_neg (show¬((Value.ref d==Value.none)=true)from J8)];refine Oj (Oi (Oj (PP hod hdd ?_)));rw[if_neg (by simp)];refine Oj (Oi (Oj (PQ hod hdd ?_)));rw[if_neg (by simp)];refine Oi ?_;simp only[show¬((i:Int)<0)from by omega,if_false,Kp,Array.getElem?_eq_getElem hlt];refine Oj ?_;first|refine Oj (P4 hit.typeIs (Oi ?_))|refine Oj (P5 hit.typeIs (Oi ?_))
 refine Oj (P6 hit.typeIs ?_);show N7 _ _ (setField (.ref it) 1 (rawInt ((i:Int)+1)) >>= _) _ _ s;refine Oj (PY ho hd (by simp) ?_);have hit':(s.heap.update it (Obj.mapFields (·.setIfInBounds 1 (rawInt ((i:Int)+1))))).IsValIter it d (i+1) es.size ep:=⟨_,Np _ ho (Obj.isFreed_of_fields (Obj.data_mapFields hd _)),(Obj.cls_mapFields ..).trans hc,by rw[Obj.data_mapFields hd];simp[rawInt]⟩
 refine Oj (OI (Oj (P6 (s:={s with heap:=s.heap.update it (Obj.mapFields (·.setIfInBounds 1 (rawInt ((i:Int)+1))))}) hit'.typeIs (Oj (P6 (s:={s with heap:=s.heap.update it (Obj.mapFields (·.setIfInBounds 1 (rawInt ((i:Int)+1))))}) hit'.typeIs ?_)))));show N7 _ _ (pure es[i].val) _ _ _;exact Oi (Oi ⟨_,rfl,Oi (hQ _ hit' (Heap.SameBut.update ..))⟩)
theorem zr{Q:gx->bn}(hh:A.handled=none)(hit:s.heap.IsValIter it d i es.size ep)(hod:s.heap.get? d=some o)(hdd:o.data=.dict es ep)(hge:es.size<=i)(hQ:∀h',Nq it s.heap h'->Q none {s with heap:=h'}):N7 `g A (pyNext (.ref it)) Q E s:=by
 obtain⟨oi,ho,hc,hd⟩:=id hit;unfold pyNext;refine Oj (Pp (OJ (name:=Str.ofString "__next__") hit.typeIs F.slot_dict_valueiterator_next (OL F.slot_dict_valueiterator_next hit.typeIs F.entry_dict_valueiterator_next ?_ (F.args_dict_valueiterator_next_1 _))));refine Oj (Oi (Oj (Oj ?_)));first|refine Oj (P4 hit.typeIs (Oi ?_))|refine Oj (P5 hit.typeIs (Oi ?_))
 refine Oj (PX ho hd ?_);have hown:Builtin.Dict_items.ownsTuple "dict_valueiterator"=false:=by decide
 simp only[hown,KL,if_false];show N7 _ _ (if(Value.ref d==Value.none)=true then _ else _) _ _ s;rw[if_neg (show¬((Value.ref d==Value.none)=true)from J8)];refine Oj (Oi (Oj (PP hod hdd ?_)));rw[if_neg (by simp)];refine Oj (Oi (Oj (PQ hod hdd ?_)));rw[if_neg (by simp)];refine Oi ?_;simp only[show¬((i:Int)<0)from by omega,if_false,Kp,Array.getElem?_eq_none hge];refine Oj ?_;first|refine Oj (P4 hit.typeIs (Oi ?_))|refine Oj (P5 hit.typeIs (Oi ?_))
 show N7 _ _ (setField (.ref it) 0 .none >>= _) _ _ s;refine Oj (PY ho hd (by simp) ?_);show N7 _ _ (newExc (.type "StopIteration") [] >>= _) _ _ _;refine Oj ?_;simp only[newExc,newTuple];refine Oj (OO ?_ (by size_fits));refine Oj (m:=firstArgMember _ _) (PZ (a:=Value.none) (by first|rfl|(simp only[firstArgMember];rfl)) ?_);refine OO ?_ (by size_fits);simp only[raiseNew];refine Oj (P0 ?_);rw[show A.in1.handled=none from hh];refine Oj (Oi (wpAny_throw ?_));refine Oj (PF (T:="StopIteration") (b:=true) ⟨_,Ng _ rfl,rfl⟩ P1 ?_);exact Oi (hQ _ (((Heap.SameBut.update ..).extBut.push _).push _))
end
variable[aj]
noncomputable def HP(a:NQ)(o:Obj)(kvs:List (List Key×V)):It:=
  ⟨fun i H=>H a=some (.frz o (.dT kvs))/\i < kvs.length,
   λi H v H'=>∃q,H'=H/\kvs[i]?=some (q,v),
   λi H=>H a=some (.frz o (.dT kvs))/\i=kvs.length⟩
theorem xJ{P:NV}{w:NU}{K:MT}{tg:NR}{a it:NQ}{o:Obj}{es:Array PL}{ep:Nat}{kvs:List (List Key×V)}(hda:o.data=.dict es ep):Turn P w K tg (HP a o kvs) [it] it (λi h=>h.IsValIter it a i es.size ep)where
 mem:=by simp
 obj:=λi h hz c hc=>by
  rw[List.mem_singleton.mp hc];obtain⟨o,e,_,d⟩:=hz;exact⟨o,e,λv q=>by rw[d]at q;cases q⟩
 keep:=λi h h' st k=>st.at λo e=>k it (by simp) o e
 item:=by
  rintro X hP hw hK hc i pins s σ H E I hf hit ⟨ha,hi⟩;subst hP hw hK;obtain⟨ho,hx,_,es2,ep2,xs,h3,rel,h4⟩:=ux I ha;rw[hda]at h3;cases h3;have hl:es.size=xs.length:=by rw[<-Array.length_toList,h4,Km]
  have hkl:kvs.length=xs.length:=Paired.length rel;have hlt:i<es.size:=by omega
  obtain⟨x,ex,f1,f2,f3⟩:=nc rel (i:=i) (x:=kvs[i]) (by simp[hi]);have ee:es[i]=entryOfKey (tupleKind (aN X.prog X.w)) x:=by
   have:es.toList[i]?=some (entryOfKey (tupleKind (aN X.prog X.w)) x):=(by rw[h4,Ki,ex];rfl);rw[Array.getElem?_toList,Array.getElem?_eq_getElem hlt]at this;exact Option.some.inj this
  obtain⟨g0,g1,g2,g3,g4,g5⟩:=hf it (by simp);refine xG hit ho hda hlt λh' st' sb=>?_;have I1:Inv X pins σ H {s with heap:=h'}:=I.turned (t':=s.toks) (λb o hb e=>(sb.2 b hb).trans e) g0 g1 g3 g4 g5;obtain⟨oi,e,c,d⟩:=id st';exact⟨_,rfl,uL (s:={s with heap:=h'}) e c d (by decide) ⟨kvs[i].2,H,I1,by rw[ee];exact f3,⟨kvs[i].1,rfl,by simp[hi]⟩,st',λb hb=>(hf b hb).1⟩⟩
 done:=by
  rintro X hP hw hK hc i pins s σ H E I hf hit ⟨ha,hi⟩;subst hP hw hK;obtain⟨ho,hx,_,es2,ep2,xs,h3,rel,h4⟩:=ux I ha;rw[hda]at h3;cases h3;have hl:es.size=xs.length:=by rw[<-Array.length_toList,h4,Km]
  have hkl:kvs.length=xs.length:=Paired.length rel;exact zr (I.ok.hd hc) hit ho hda `o λh' eb=>⟨rfl,Inv.turned0 (ch:=[it]) I hf λc u hc e=>eb c u (by simpa using hc) e⟩
 self:=λ_ _ _ _ _ st h=>wpAny_pyIter_valiter st h
theorem vR{K:MT}{Hd:Hp}{a:NQ}{o:Obj}{kvs:List (List Key×V)}{al:bu}(h:Hd a=some (.frz o (.dT kvs)))(e1:kvs.map (·.1)=al.map (·.1))(e2:aB K Hd (al.map (·.2)) (kvs.map (·.2))):Walk K Hd (HP a o kvs) (al.map (·.2)):=λHn O' i hO sm=>by
 have s':aF Hd Hn:=sm.trans (ai Hn O');have hl:kvs.length=al.length:=by have:=congrArg List.length e1;simpa using this
 refine⟨λd e=>?_,λhl'=>⟨s' _ _ h,by rw[hl',Km,hl]⟩⟩;have hi:i<al.length:=by have:=(List.getElem?_eq_some_iff.mp e).1;rw[Km]at this;exact this
 obtain⟨w',ew,dw⟩:=e2.get (i:=i) (d:=d) e;refine⟨⟨s' _ _ h,by omega⟩,λx H2 zq=>zq.elim λq zq=>zq.elim λeH ek=>?_⟩;subst eH;rw[Ki,ek]at ew;cases ew;exact⟨aF.refl _,dw.mono sm⟩
noncomputable def uK:D->Option (List D)
 |.dct (.non::ks) ds=>(dZ ks ds).map λal=>al.map (·.2)
 |_=>none
noncomputable def qV(f:FX):aV:=λρ=>(f ρ).bind λd=>rO (uK d)
end TG
namespace TG
open PySem PySem.Spec L2
variable[aj]
theorem bE.frzT{K:MT}{Hb:Hp}{Ob O:ak}{H H':Hp}{ρ:ah}{σ:St}(E:bE K Hb Ob O H ρ σ){i:Nat}{d d':D}(hd:ρ[i]?=some (some (.own d))){a:NQ}(h1:σ[i]?=some (some (.ref a)))
  (hH:∀b,b≠a->H' b=H b) (tab:aj.tab H') (dn:aF (hid H O) (hid H' (O.filter λb=>decide (b≠a)))->(a∉O.filter λb=>decide (b≠a))->bo K (hid H' (O.filter λb=>decide (b≠a))) d' (.ref a)):bE K Hb Ob (O.filter λb=>decide (b≠a)) H' (TG.setV i d' ρ) σ:=by
 have sub:∀b∈O.filter (λb=>decide (b≠a)),b∈O:=λb hb=>(List.mem_filter.mp hb).1;have na:a∉O.filter λb=>decide (b≠a):=λz=>absurd rfl (of_decide_eq_true (List.mem_filter.mp z).2);have aO:a∈O:=by
  obtain⟨a',e1,e2,_⟩:=E.env.own i d hd;rw[h1]at e1;cases e1;exact e2
 have mi:=E.mine i d a hd h1;have s:aF (hid H O) (hid H' (O.filter λb=>decide (b≠a))):=λb u e=>by
  unfold hid at e ⊢;by_cases hb:b∈O
  ·rw[if_pos hb]at e;cases e
  ·rw[if_neg hb]at e;rw[if_neg λz=>hb (sub b z),hH b λz=>hb (by rw[z];exact aO)];exact e
 have bk:∀(l:Nat) x,(TG.setV i d' ρ)[l]?=some (some x)->(∀d,x≠.val d)->ρ[l]?=some (some x)/\l≠i:=λl x e nv=>by
  rcases ax e with⟨_,q⟩|⟨ne,q⟩
  ·cases q;exact absurd rfl (nv _)
  ·exact⟨q,ne⟩
 refine⟨⟨λj d1 e=>?_,λj xs e=>?_,λj l xs ys b e1 e2 e3 e4=>E.env.one j l xs ys b (bk j _ e1 (λ_ z=>nomatch z)).1 (bk l _ e2 (λ_ z=>nomatch z)).1 e3 e4,⟨tab,λb hb=>?_⟩⟩,⟨λb u e=>?_,λb hb=>?_,λb hb=>E.base.new b (sub b hb)⟩,λj xs b e1 e2=>E.mine j xs b (bk j _ e1 (λ_ z=>nomatch z)).1 e2,λj dn e=>?_⟩
 ·rcases ax e with⟨hj,q⟩|⟨ne,q⟩
  ·cases q;rw[hj];exact⟨.ref a,h1,dn s na⟩
  ·obtain⟨w,q1,q2⟩:=E.env.val j d1 q;exact⟨w,q1,q2.mono s⟩
 ·obtain⟨q,ne⟩:=bk j _ e (λ_ z=>nomatch z);obtain⟨b,q1,q2,q3⟩:=E.env.own j xs q;have nb:b≠a:=λz=>ne (E.env.one j i xs d a q hd (by rw[<-z];exact q1) h1);exact⟨b,q1,List.mem_filter.mpr ⟨q2,decide_eq_true nb⟩,q3.mono (hH b nb).symm s⟩
 ·rw[hH b (of_decide_eq_true (List.mem_filter.mp hb).2)];exact E.env.all.2 b (sub b hb)
 ·rw[hH b λz=>by rw[z,mi.1]at e;cases e];exact E.base.same b u e
 ·exact List.mem_filter.mpr ⟨E.base.sub b hb,decide_eq_true λz=>mi.2 (by rw[<-z];exact hb)⟩
 ·refine(E.nst j dn (bk j _ e (λ_ z=>nomatch z)).1).to rfl s (λb w1 w2 w3 w4 _=>?_) λl d1 w=>⟨d1,(bk l _ w (λ_ z=>nomatch z)).1⟩
  have nb:b≠a:=λz=>w4 i d hd (by rw[z];exact h1);exact⟨hH b nb,List.mem_filter.mpr ⟨w1,decide_eq_true nb⟩,w2,λl d1 w=>w4 l d1 (bk l _ w (λ_ z=>nomatch z)).1⟩
noncomputable def frzT(i:Nat)(ρ:ah):ah:=match ρ[i]? with
 |some (some (.own (.dct ks ds)))=>match dZ ks ds with
  |some al=>setV i (cT al) ρ
  |none=>ρ
 |_=>ρ
noncomputable def mK(i:Nat)(F:bB):bB:=λk ρ=>F k (frzT i ρ)
end TG
namespace TG
open PySem PySem.SetTable
noncomputable def xN(m:Nat):Nat->Nat->Nat
 |0,s=>s
 |d+1,s=>xN m d ((s*5+1)%(m+1))
noncomputable def HR(m:Nat):Nat->Nat->List Nat
 |0,_=>[]
 |n+1,s=>s::HR m n ((s*5+1)%(m+1))
theorem uR{m:Nat}:∀{n s x:Nat},x∈HR m n s->∃d,d<n/\xN m d s=x
 |n+1,s,x,h=>by
  rcases List.mem_cons.mp h with z|z
  ·exact⟨0,MA _,z.symm⟩
  ·obtain⟨d,h1,h2⟩:=uR z;exact⟨d+1,Nat.succ_lt_succ h1,h2⟩
theorem lP(m:Nat):∀(a b s:Nat),xN m (a+b) s=xN m b (xN m a s)
 |0,b,s=>by rw[LV];rfl
 |a+1,b,s=>by
  rw[show a+1+b=(a+b)+1 by omega];exact lP m a b _
theorem cover{m:Nat}(h1:((List.range (m+1)).all λe=>(HR m (m+1) 0).contains e)=true)(h2:xN m (m+1) 0=0){s e:Nat}(hs:s<=m)(he:e<=m):∃d,d<=m/\xN m d s=e:=by
 have at':∀x,x<=m->∃d,d<m+1/\xN m d 0=x:=λx hx=>by
  have:=List.all_eq_true.mp h1 x (List.mem_range.mpr `o)
  exact uR (List.contains_iff_mem.mp this)
 obtain⟨a,a1,a2⟩:=at' s hs;obtain⟨b,b1,b2⟩:=at' e he;by_cases c:a<=b
 ·refine⟨b-a,by omega,?_⟩;rw[<-a2,<-lP,show a+(b-a)=b by omega];exact b2
 ·refine⟨m+1-a+b,by omega,?_⟩;rw[<-a2,<-lP,show a+(m+1-a+b)=(m+1)+b by omega,lP,h2];exact b2
noncomputable def AV(m:Nat):Prop:=m=7\/m=31\/m=127\/m=511
theorem xL{m:Nat}(h:AV m){s e:Nat}(hs:s<=m)(he:e<=m):∃d,d<=m/\xN m d s=e:=by
 rcases h with rfl|rfl|rfl|rfl
 ·exact cover (by decide +kernel) (by decide +kernel) hs he
 ·exact cover (by decide +kernel) (by decide +kernel) hs he
 ·exact cover (by decide +kernel) (by decide +kernel) hs he
 ·exact cover (by decide +kernel) (by decide +kernel) hs he
noncomputable def rs(m:Nat)(h:Int):Nat->Nat×Nat
 |0=>(bits h%(m+1),bits h)
 |r+1=>leap m (rs m h r).1 (rs m h r).2
theorem Dh(m:Nat)(h:Int):∀r,(rs m h r).1<=m
 |0=>MB (MC _ (MA _))
 |r+1=>MB (MC _ (MA _))
theorem vy(m:Nat)(h:Int):∀r,(rs m h r).2=bits h/32^r
 |0=>by rw[Nat.pow_zero,Nat.div_one];rfl
 |r+1=>by
  show(rs m h r).2/32=_;rw[vy m h r,Nat.div_div_eq_div_mul,Nat.pow_succ]
theorem CM(h:Int):bits h<2^64:=by
 unfold bits;have h1:=Int.emod_nonneg h (show(2^64:Int)≠0 by decide);have h2:=MD h (show(0:Int)<2^64 by decide)
 have:(2^64:Int)=((2^64:Nat):Int):=by decide
 omega
theorem D6(m:Nat)(h:Int)(d:Nat):(rs m h (13+d)).2=0:=by
 rw[vy];refine Nat.div_eq_of_lt (JV (CM h) ?_);rw[Nat.pow_add]
 have:1<=32^d:=Nat.pow_pos (by decide)
 calc 2^64<=32^13*1:=by decide
  _<=32^13*32^d:=Nat.mul_le_mul_left _ this
theorem rS(m:Nat):∀(d s:Nat),xN m (d+1) s=(xN m d s*5+1)%(m+1)
 |0,_=>rfl
 |d+1,s=>rS m d _
theorem z4(m:Nat)(h:Int):∀d,(rs m h (13+d)).1=xN m d (rs m h 13).1
 |0=>rfl
 |d+1=>by
  rw[rS,<-z4 m h d];show((rs m h (13+d)).1*5+1+(rs m h (13+d)).2/32)%(m+1)=_;rw[D6]
theorem uA{m:Nat}(mo:AV m)(h:Int){e:Nat}(he:e<=m):∃r,r<=m+13/\(rs m h r).1=e:=by
 obtain⟨d,d1,d2⟩:=xL mo (Dh m h 13) he;exact⟨13+d,by omega,by rw[z4];exact d2⟩
noncomputable def xO(m:Nat)(p:Probe):Probe:=advance ⟨m,#[],#[],0,false,0,false⟩ p
noncomputable def st(m:Nat)(h:Int):Nat->Probe
 |0=>{j:=bits h%(m+1),more:=runEnd m (bits h%(m+1))-bits h%(m+1),i:=bits h%(m+1),perturb:=bits h,dummy:=none}
 |n+1=>xO m (st m h n)
theorem wv(m:Nat)(p:Probe):(xO m p).dummy=p.dummy:=by
 unfold xO advance;split<;>rfl
theorem qZ(m:Nat)(h:Int):∀n,(st m h n).dummy=none
 |0=>rfl
 |n+1=>by
  show(xO m (st m h n)).dummy=none;rw[wv,qZ m h n]
theorem qO(m:Nat)(p:Probe)(h:p.more>0):xO m p={p with j:=p.j+1,more:=p.more-1}:=by
 unfold xO advance;rw[if_pos h]
theorem sy(m:Nat)(p:Probe)(h:p.more=0):xO m p={p with j:=(leap m p.i p.perturb).1,more:=runEnd m (leap m p.i p.perturb).1-(leap m p.i p.perturb).1,i:=(leap m p.i p.perturb).1,perturb:=(leap m p.i p.perturb).2}:=by
 unfold xO advance;rw[if_neg `o]
theorem xM(m i:Nat):runEnd m i-i<=9:=by unfold runEnd;split<;>omega
theorem wH(m i:Nat):i<=runEnd m i:=by unfold runEnd;split<;>omega
noncomputable def at0(m:Nat)(h:Int):Nat->Nat
 |0=>0
 |r+1=>at0 m h r+(runEnd m (rs m h r).1-(rs m h r).1)+1
theorem zk(m:Nat)(h:Int):∀r,at0 m h r<=10*r
 |0=>Ka _
 |r+1=>by
  have:=zk m h r
  have:=xM m (rs m h r).1
  show at0 m h r+(runEnd m (rs m h r).1-(rs m h r).1)+1<=_;omega
theorem vb{m:Nat}{h:Int}:∀r,(∀k,k<=runEnd m (rs m h r).1-(rs m h r).1->st m h (at0 m h r+k)=⟨(rs m h r).1+k,runEnd m (rs m h r).1-(rs m h r).1-k,(rs m h r).1,(rs m h r).2,none⟩):=by
 have run:∀r,st m h (at0 m h r)=⟨(rs m h r).1,runEnd m (rs m h r).1-(rs m h r).1,(rs m h r).1,(rs m h r).2,none⟩->∀k,k<=runEnd m (rs m h r).1-(rs m h r).1->st m h (at0 m h r+k)=⟨(rs m h r).1+k,runEnd m (rs m h r).1-(rs m h r).1-k,(rs m h r).1,(rs m h r).2,none⟩:=by
  intro r h0 k
  induction k with
  |zero=>intro _;exact h0
  |succ k ih=>
   intro hk;show xO m (st m h (at0 m h r+k))=_;rw[ih `o,qO _ _ (show runEnd m (rs m h r).1-(rs m h r).1-k>0 by omega)];rfl
 intro r
 induction r with
 |zero=>exact run 0 rfl
 |succ r ih=>
  refine run (r+1) ?_;show xO m (st m h (at0 m h r+(runEnd m (rs m h r).1-(rs m h r).1)))=_;rw[ih _ (Ka _),sy _ _ (ME _)];rfl
theorem DJ{m:Nat}{h:Int}(r:Nat):(st m h (at0 m h r)).j=(rs m h r).1:=by
 rw[show at0 m h r=at0 m h r+0 from rfl,vb r 0 (KH _)];rfl
theorem A4{m:Nat}(mo:AV m)(h:Int){e:Nat}(he:e<=m):∃n,n<10*turns m/\(st m h n).j=e:=by
 obtain⟨r,r1,r2⟩:=uA mo h he;refine⟨at0 m h r,?_,by rw[DJ];exact r2⟩
 have:=zk m h r
 unfold turns;omega
theorem getD_at{xs:Array Nat}{i:Nat}(j:Nat)(h:i<xs.size):xs.getD i j=xs[i]:=by
 rw[Array.getD_eq_getD_getElem?,Array.getElem?_eq_getElem h];rfl
theorem yZ{xs:Array Nat}{j:Nat}(up:xs.toList.Pairwise (·<·)):∀(fuel lo hi:Nat),hi-lo<=fuel->lo<=hi->hi<=xs.size->(∀(i:Nat)(h:i<xs.size),i<lo->xs[i]<j)->(∀(i:Nat)(h:i<xs.size),hi<=i->j<=xs[i])->
  below.go xs j fuel lo hi<=xs.size/\(∀(i:Nat)(h:i<xs.size),i<below.go xs j fuel lo hi->xs[i]<j)/\∀(i:Nat)(h:i<xs.size),below.go xs j fuel lo hi<=i->j<=xs[i]:=by
 have mono:∀(a b:Nat)(ha:a<xs.size)(hb:b<xs.size),a<=b->xs[a]<=xs[b]:=λa b ha hb hab=>by
  by_cases e:a=b
  ·subst e;exact Ka _
  ·have:=List.pairwise_iff_getElem.mp up a b (by simpa using ha) (by simpa using hb) `o
   simp only[Array.getElem_toList]at this;omega
 intro fuel
 induction fuel with
 |zero=>
  intro lo hi h1 h2 h3 h4 h5
  have:lo=hi:=by omega
  subst this;exact⟨h3,h4,h5⟩
 |succ fuel ih=>
  intro lo hi h1 h2 h3 h4 h5;unfold below.go;by_cases c:lo<hi
  ·rw[if_pos c];have hm:(lo+hi)/2<xs.size:=(by omega);dsimp only;rw[getD_at j hm];by_cases d:xs[(lo+hi)/2]<j
   ·rw[if_pos d];exact ih _ _ `o `o h3 (λi h hi=>Lh (mono i _ h hm `o) d) h5
   ·rw[if_neg d];exact ih _ _ `o `o `o h4 λi h hi=>JY `o (mono _ i hm h hi)
  ·rw[if_neg c]
   have:lo=hi:=(by omega);subst this;exact⟨h3,h4,h5⟩
theorem mR{xs:Array Nat}(up:xs.toList.Pairwise (·<·))(j:Nat):below xs j<=xs.size/\(∀(i:Nat)(h:i<xs.size),i<below xs j->xs[i]<j)/\∀(i:Nat)(h:i<xs.size),below xs j<=i->j<=xs[i]:=
 yZ up _ _ _ `o (KH _) (Ka _) (λi h hi=>absurd hi (Mj _)) λi h hi=>by omega
theorem below_at{xs:Array Nat}(up:xs.toList.Pairwise (·<·)){i j:Nat}(h:xs[i]?=some j):below xs j=i:=by
 obtain⟨hi,e⟩:=Array.getElem?_eq_some_iff.mp h;obtain⟨h1,h2,h3⟩:=mR up j;have a:¬i<below xs j:=λz=>by have:=h2 i hi z;omega
 by_cases c:below xs j=i
 ·exact c
 ·have hb:below xs j<xs.size:=by omega
  have:=h3 _ hb (Ka _)
  have p:=List.pairwise_iff_getElem.mp up (below xs j) i (by simpa using hb) (by simpa using hi) `o;simp only[Array.getElem_toList]at p;omega
theorem Ah{xs:Array Nat}(up:xs.toList.Pairwise (·<·)){j:Nat}(h:j∉xs.toList):xs[below xs j]?≠some j:=λz=>h (by
 rw[<-Array.getElem?_toList]at z;exact Kk z)
structure Tt(t:P7):Prop where
 mok:AV t.mask
 nod:t.dummies=#[]
 up:t.place.toList.Pairwise (·<·)
 le:∀j∈t.place.toList,j<=t.mask
 room:t.place.size*5<t.mask*3
theorem Tt.live{t:P7}(h:Tt t){i j:Nat}(e:t.place[i]?=some j):t.slot j=.live i:=by
 unfold slot;dsimp only;rw[below_at h.up e,e,if_pos (beq_self_eq_true _)]
theorem Tt.free{t:P7}(h:Tt t){j:Nat}(e:j∉t.place.toList):t.slot j=.empty:=by
 unfold slot;dsimp only;rw[if_neg (λz=>Ah h.up e (eq_of_beq z)),h.nod];rfl
theorem vX{t:P7}{j:Nat}(h:j∈t.place.toList):∃i:Nat,t.place[i]?=some j:=by
 obtain⟨i,e⟩:=List.mem_iff_getElem?.mp h;exact⟨i,by rw[<-Array.getElem?_toList];exact e⟩
theorem Tt.some_free{t:P7}(h:Tt t):∃e,e<=t.mask/\e∉t.place.toList:=by
 refine Classical.byContradiction λno=>?_;have all:∀e,e<=t.mask->e∈t.place.toList:=λe he=>Classical.byContradiction λz=>no ⟨e,he,z⟩
 have:=List.Nodup.length_le_of_subset (l₁:=List.range (t.mask+1)) (l₂:=t.place.toList) Md λe he=>all e (by have:=List.mem_range.mp he;omega)
 rw[Lb,Array.length_toList]at this
 have:=h.room
 omega
theorem Tt.hits{t:P7}(h:Tt t)(x:Int):∃n,n<10*turns t.mask/\(st t.mask x n).j∉t.place.toList:=by
 obtain⟨e,e1,e2⟩:=h.some_free;obtain⟨n,n1,n2⟩:=A4 h.mok x e1;exact⟨n,n1,by rw[n2];exact e2⟩
theorem Tt.go{t:P7}(T:Tt t)(hashAt:Nat->Int)(h:Int):∀(fuel n:Nat),(∃n0,n<=n0/\n0-n<fuel/\(st t.mask h n0).j∉t.place.toList)->
    ∃n',n<=n'/\(∀l,n<=l->l<n'->∃i:Nat,t.place[i]?=some (st t.mask h l).j/\hashAt i≠h)/\
      (((st t.mask h n').j∉t.place.toList/\probe.go t hashAt h fuel (st t.mask h n)=some (.empty (st t.mask h n').j none)) \/
       ∃i:Nat,t.place[i]?=some (st t.mask h n').j/\hashAt i=h/\probe.go t hashAt h fuel (st t.mask h n)=some (.candidate (st t.mask h n').j i (st t.mask h (n'+1)))):=by
  intro fuel
  induction fuel with
  |zero=>rintro n ⟨n0,_,h2,_⟩;omega
  |succ fuel ih=>
    rintro n ⟨n0,h1,h2,h3⟩;by_cases c:(st t.mask h n).j∈t.place.toList
    · obtain⟨i,hi⟩:=vX c
      by_cases e:hashAt i=h
      · refine⟨n,Ka _,λl a b=>by omega,.inr ⟨i,hi,e,?_⟩⟩
        unfold probe.go;rw[T.live hi];dsimp only;rw[if_pos (by rw[e];exact beq_self_eq_true _)];rfl
      · have nn:n≠n0:=λz=>by rw[z]at c;exact h3 c
        obtain⟨n',g1,g2,g3⟩:=ih (n+1) ⟨n0,by omega,by omega,h3⟩;have step:probe.go t hashAt h (fuel+1) (st t.mask h n)=probe.go t hashAt h fuel (st t.mask h (n+1)):=by
          rw[probe.go,T.live hi];dsimp only;rw[if_neg (λz=>e (eq_of_beq z))];rfl
        refine⟨n',by omega,λl a b=>?_,by rw[step];exact g3⟩;by_cases z:l=n
        ·rw[z];exact⟨i,hi,e⟩
        ·exact g2 l `o b
    · refine⟨n,Ka _,λl a b=>by omega,.inl ⟨c,?_⟩⟩
      rw[probe.go,T.free c];dsimp only;rw[qZ]
open PySem PySem.Spec PySem.SetTable L2
section
variable{prog:NV}{w:NU}{A:N4}{E:az}{s:NT}
noncomputable abbrev bQ(prog:NV)(w:NU):HeapKind prog w (ay):=tupleKind (aN prog w)
noncomputable abbrev SE:=Nat×List Key×NQ
structure Rep(prog:NV)(w:NU)(h:NX)(es:Array (Int×NN))(t:P7)(L:List SE):Prop where
 tt:Tt t
 pl:t.place.toList=L.map (·.1)
 es:es.toList=L.map λx=>((bQ prog w).hash x.2.1,Value.ref x.2.2)
 is:∀x∈L,(bQ prog w).is h x.2.1 x.2.2
 nd:(L.map (·.2.1)).Nodup
 path:∀x∈L,∃n,(st t.mask ((bQ prog w).hash x.2.1) n).j=x.1/\∀l,l<n->(st t.mask ((bQ prog w).hash x.2.1) l).j∈L.map (·.1)
theorem Rep.size{h:NX}{es:Array (Int×NN)}{t:P7}{L:List SE}(R:Rep prog w h es t L):es.size=L.length/\t.place.size=L.length:=by
 have h1:=congrArg List.length R.es;have h2:=congrArg List.length R.pl;rw[Array.length_toList,Km]at h1 h2;exact⟨h1,h2⟩
theorem Rep.fits{h:NX}{es:Array (Int×NN)}{t:P7}{L:List SE}(R:Rep prog w h es t L):t.fits es.size=true:=by
 obtain⟨h1,h2⟩:=R.size;unfold SetTable.fits SetTable.fill
 have:=R.tt.room
 rw[R.tt.nod,h1,h2,Kr];refine⟨beq_self_eq_true _,decide_eq_true ?_⟩;show L.length+0<=_;omega
theorem Rep.at{h:NX}{es:Array (Int×NN)}{t:P7}{L:List SE}(R:Rep prog w h es t L){i j:Nat}(e:t.place[i]?=some j):∃x,L[i]?=some x/\x.1=j/\es[i]?=some ((bQ prog w).hash x.2.1,Value.ref x.2.2):=by
 rw[<-Array.getElem?_toList,R.pl,Ki]at e;obtain⟨x,hx,rfl⟩:=Option.map_eq_some_iff.mp e;refine⟨x,hx,rfl,?_⟩;rw[<-Array.getElem?_toList,R.es,Ki,hx];rfl
theorem wL{ks:ay}:∀{vs:aE},ItemsAre (aN prog w) ks vs->∀v∈vs,∀b,v≠.ref b:=λ{vs} h=>by
 induction h with
 |nil=>intro v hv;cases hv
 |@cons k u ks vs hk _ ih=>
  intro v hv b e;rcases List.mem_cons.mp hv with z|z
  ·subst z;subst e
   have:(aN prog w).is k (.ref b)=false:=(by cases k<;>rfl);rw[this]at hk;cases hk
  ·exact ih v z b e
theorem rq{k:ay}{b:NQ}{Q:Bool->bn}(hk:(bQ prog w).is s.heap k b)(h:Q false s):N7 `g A (ofAClassStatement 8 (.ref b)) Q E s:=by
 obtain⟨o,items,n,h1,h2,h3,h4⟩:=hk;unfold ofAClassStatement;refine Oj (OM ⟨o,h1,h2⟩ ?_);dsimp only;have e1:(("tuple":String)=="tuple")=true:=by decide
 rw[e1];refine Oj (Oi ?_);rw[if_neg (show¬((!true)=true)from J8)];unfold seqItems?;refine Oj (Oj (Ol h1 ?_));rw[h3];refine Oi (Oj ?_);refine PySem.MeetsSeq2.wpAny_forIn_array _ (λrest r s'=>s'=s/\r=(none,())/\∀v∈rest,∀b,v≠.ref b) _ ?_ ?_ _ _ ⟨rfl,rfl,wL h4⟩
 ·rintro x rest r s' ⟨rfl,rfl,hr⟩;have hx:ofAClassStatement 7 x=pure false:=by
   cases x<;>first|rfl|exact absurd rfl (hr _ J3 _)
  rw[hx];exact Oj (Oi (Oi ⟨rfl,rfl,λv hv=>hr v (J4 _ hv)⟩))
 ·rintro r s' ⟨rfl,rfl,_⟩;exact Oi h
theorem zZ{k:ay}{b:NQ}{stored:aE}{Q:Bool->bn}(hk:(bQ prog w).is s.heap k b)(hst:∀v∈stored,∃k' b',v=.ref b'/\(bQ prog w).is s.heap k' b')(h:Q false s):N7 `g A (searchCouldBeSeen (.ref b) stored) Q E s:=by
 unfold searchCouldBeSeen;refine Oj ?_;refine wpAny_forIn_list _ (λrest r s'=>s'=s/\r=(none,())/\∀v∈rest,∃k' b',v=.ref b'/\(bQ prog w).is s.heap k' b') _ ?_ ?_ _ _ ⟨rfl,rfl,hst⟩
 ·rintro x rest r s' ⟨rfl,rfl,hr⟩;obtain⟨k',b',rfl,hb⟩:=hr x J3;have nx:∀v∈rest,∃k' b',v=Value.ref b'/\(bQ prog w).is s'.heap k' b':=λv hv=>hr v (J4 _ hv);dsimp only;split
  ·exact Oi ⟨rfl,rfl,nx⟩
  ·refine Oj ((bQ prog w).quiet hk ?_);rw[if_neg (show¬((!true)=true)from J8)];refine Oj ((bQ prog w).quiet hb ?_);rw[if_neg (show¬((!true)=true)from J8)];refine Oj (rq hk ?_);rw[if_neg J8];refine Oj (rq hb ?_);rw[if_neg J8];exact Oi ⟨rfl,rfl,nx⟩
 ·rintro r s' ⟨rfl,rfl,_⟩;exact Oi h
theorem wC{a b:NQ}{o:Obj}{es:Array (Int×NN)}{ep:Nat}{t:P7}{L:List SE}{k:ay}{Q:SetFound->bn}(hu:(bQ prog w).room A)(ho:s.heap.get? a=some o)(hd:o.data=.set es ep t)(R:Rep prog w s.heap es t L)(hk:(bQ prog w).is s.heap k b)
  (h1:k∈L.map (·.2.1)->Q (.there none) s) (h2:k∉L.map (·.2.1)->∀n,(st t.mask `j n).j∉L.map (·.1)->(∀l,l<n->(st t.mask `j l).j∈L.map (·.1))->Q (.free (st t.mask `j n).j false) s):
  N7 `g A (setSearch a (.ref b) `j true) Q E s:=by
 obtain⟨N0,n1,n2⟩:=R.tt.hits `j;rw[R.pl]at n2;have gw:t.gaveWay=false:=by
  unfold SetTable.gaveWay;rcases R.tt.mok with e|e|e|e<;>rw[e]<;>rfl
 have key:∀(fuel n:Nat)(p:Option Probe),p.getD (t.probeStart `j)=st t.mask `j n->N0-n<fuel->(∀l,l<n->(st t.mask `j l).j∈L.map (·.1))->(∀x∈L,x.2.1=k->∀l,(st t.mask `j l).j=x.1->(∀l',l'<l->(st t.mask `j l').j∈L.map (·.1))->n<=l)->N7 `g A (setSearchFrom a (.ref b) `j true fuel p) Q E s:=by
  intro fuel
  induction fuel with
  |zero=>intro n p _ hf;exact absurd hf (Mj _)
  |succ fuel ih=>
   intro n p hp hf occ lst;have nle:n<=N0:=Classical.byContradiction λz=>n2 (occ N0 `o);obtain⟨n',g1,g2,g3⟩:=R.tt.go (λi=>(es[i]?.map (·.1)).getD 0) `j (10*turns t.mask) n ⟨N0,nle,by omega,by rw[R.pl];exact n2⟩;have occ':∀l,l<n'->(st t.mask `j l).j∈L.map (·.1):=λl hl=>by
    by_cases c:l<n
    ·exact occ l c
    ·obtain⟨i,e,_⟩:=g2 l `o hl;obtain⟨x,hx,ex,_⟩:=R.at e;exact List.mem_map.mpr ⟨x,Kk hx,ex⟩
   have lst':∀x∈L,x.2.1=k->∀l,(st t.mask `j l).j=x.1->(∀l',l'<l->(st t.mask `j l').j∈L.map (·.1))->n'<=l:=λx hx ek l el al=>by
    have:=lst x hx ek l el al
    refine Classical.byContradiction λz=>?_;obtain⟨i,e,ne⟩:=g2 l `o `o;obtain⟨y,hy,ey,es'⟩:=R.at e;have xy:y=x:=by
     obtain⟨j,hj⟩:=List.mem_iff_getElem?.mp hx;have pj:t.place[j]?=some x.1:=(by rw[<-Array.getElem?_toList,R.pl,Ki,hj];rfl);rw[el]at e
     have:i=j:=(by rw[<-below_at R.tt.up e,<-below_at R.tt.up pj]);rw[this,hj]at hy;exact(Option.some.inj hy).symm
    rw[es',xy,ek]at ne;exact ne rfl
   rw[setSearchFrom];refine Oj (P8 ho hd R.fits ?_);dsimp only;rw[gw,if_neg J8,hp];generalize hpr:t.probe _ _ _=r;rcases g3 with⟨c1,c2⟩|⟨i,c1,c2,c3⟩
   ·have:r=some (Met.empty (st t.mask `j n').j none):=hpr.symm.trans c2
    subst this;rw[R.pl]at c1;refine Oi (h2 (λz=>?_) n' c1 occ');obtain⟨x,hx,ex⟩:=List.mem_map.mp z;obtain⟨l,el,al⟩:=R.path x hx;have ex:x.2.1=k:=ex;rw[ex]at el al
    have:=lst' x hx ex l el al
    have xm:x.1∈L.map (·.1):=List.mem_map.mpr ⟨x,hx,rfl⟩;by_cases q:n'=l
    ·rw[q,el]at c1;exact c1 xm
    ·exact c1 (al n' `o)
   ·have:r=some (Met.candidate (st t.mask `j n').j i (st t.mask `j (n'+1))):=hpr.symm.trans c3
    subst this;obtain⟨x,hx,ex,es'⟩:=R.at c1;have hxm:=Kk hx;have hy:=R.is x hxm;have sl:=R.tt.live c1;have sm:t.sameMemory t.moves t.mask=some true:=(by unfold SetTable.sameMemory;rw[if_pos (beq_self_eq_true _)]);have nn:n'≠N0:=λz=>n2 (by rw[<-z,<-ex];exact List.mem_map.mpr ⟨x,hxm,rfl⟩);have nlt:n'<N0:=Classical.byContradiction λz=>n2 (occ' N0 `o);have tail:N7 `g A (do
      let equal<-holding [Value.ref x.2.2] (eqBool (Value.ref x.2.2) (Value.ref b))
      let __x<-setState a
      if(true&&equal)=true then pure (SetFound.there none)
       else
        match __x.2.snd.sameMemory t.moves t.mask with
        |some same=>
         match if same=true then __x.2.snd.slot (st t.mask `j n').j else Slot.empty with
         |Slot.live i'=>
          match __x.fst[i']? with
          |some (fst,y')=>do
           let __do_lift<-isSame y' (Value.ref x.2.2)
           let still<-pure (if __do_lift=true then some i' else none)
           match still with
            |none=>do
             rule "set.search.anew"
             setSearchFrom a (Value.ref b) `j true fuel none
            |some i'=>
             if equal=true then pure (SetFound.there (some i'))
             else setSearchFrom a (Value.ref b) `j true fuel (some (st t.mask `j (n'+1)))
          |none=>do
           let still<-pure none
           match still with
            |none=>do
             rule "set.search.anew"
             setSearchFrom a (Value.ref b) `j true fuel none
            |some i'=>
             if equal=true then pure (SetFound.there (some i'))
             else setSearchFrom a (Value.ref b) `j true fuel (some (st t.mask `j (n'+1)))
         |x=>do
          let still<-pure none
          match still with
           |none=>do
            rule "set.search.anew"
            setSearchFrom a (Value.ref b) `j true fuel none
           |some i'=>
            if equal=true then pure (SetFound.there (some i'))
            else setSearchFrom a (Value.ref b) `j true fuel (some (st t.mask `j (n'+1)))
        |x=>unsupported "set.changed-during-lookup:is-the-new-block-at-the-old-address") Q E s:=by
     refine Oj (OI ((bQ prog w).eqBool hu hy hk ?_));refine Oj (P8 ho hd R.fits ?_);by_cases c:x.2.1=k
     ·rw[decide_eq_true c];exact Oi (h1 (List.mem_map.mpr ⟨x,hxm,c⟩))
     ·rw[decide_eq_false c];dsimp only;rw[if_neg (show¬((true&&false)=true)from J8),sm];dsimp only;rw[if_pos rfl,sl];dsimp only;rw[es'];dsimp only;refine Oj (wpAny_isSame_ref_self ?_);refine Oj (Oi ?_);rw[if_pos rfl];dsimp only;rw[if_neg J8];refine ih (n'+1) _ rfl `o (λl hl=>?_) λy hy' ek l el al=>?_
      ·by_cases z:l=n'
       ·rw[z,<-ex];exact List.mem_map.mpr ⟨x,hxm,rfl⟩
       ·exact occ' l `o
      ·have:=lst' y hy' ek l el al
       by_cases z:l=n'
       ·exfalso;obtain⟨j,hj⟩:=List.mem_iff_getElem?.mp hy';have pj:t.place[j]?=some y.1:=(by rw[<-Array.getElem?_toList,R.pl,Ki,hj];rfl);rw[<-z,el]at c1
        have:i=j:=(by rw[<-below_at R.tt.up c1,<-below_at R.tt.up pj]);rw[this,hj]at hx;rw[<-Option.some.inj hx]at c;exact c ek
       ·omega
    have es'':es[i]?=some (((bQ prog w).hash x.2.1),Value.ref x.2.2):=es';dsimp only;cases t.led with
    |true=>
     rw[if_neg (show¬((!true)=true)from J8),es''];exact tail
    |false=>
     rw[if_pos (show(!false)=true from rfl)];refine Oj (zZ hk (λv hv=>?_) ?_)
     ·obtain⟨e,he,rfl⟩:=List.mem_map.mp hv;have he:=(Array.mem_filter.mp (Array.mem_toList_iff.mp he)).1;rw[<-Array.mem_toList_iff,R.es]at he;obtain⟨y,hy,rfl⟩:=List.mem_map.mp he;exact⟨_,_,rfl,R.is y hy⟩
     ·rw[if_neg J8,es''];exact tail
 unfold setSearch;refine key 100000 0 none rfl ?_ (λl hl=>absurd hl (Mj _)) λ_ _ _ _ _ _=>KH _
 have:turns t.mask<=600:=by
  unfold turns;rcases R.tt.mok with e|e|e|e<;>rw[e]<;>decide
 omega
end
end TG
namespace TG
open PySem PySem.SetTable
structure nU(m:Nat)(owner:Array (Option Nat))(ss:List Nat):Prop where
 sz:owner.size=m+1
 at':∀(i j:Nat),ss[i]?=some j->owner[j]?=some (some i)
 no:∀j,j<=m->j∉ss->owner[j]?=some none
 nd:ss.Nodup
 le:∀j∈ss,j<=m
theorem nU.occ{m:Nat}{owner:Array (Option Nat)}{ss:List Nat}(h:nU m owner ss){j:Nat}(hj:j<=m):(owner.getD j (some 0)).isNone=decide (j∉ss):=by
 rw[Array.getD_eq_getD_getElem?];by_cases c:j∈ss
 ·obtain⟨i,hi⟩:=List.mem_iff_getElem?.mp c;rw[h.at' i j hi,decide_eq_false (λz=>z c)];rfl
 ·rw[h.no j hj c,decide_eq_true c];rfl
theorem pX{m:Nat}(h:Int)(r k:Nat)(hk:k<=runEnd m (rs m h r).1-(rs m h r).1):(rs m h r).1+k<=m:=by
 have h1:=Dh m h r;unfold runEnd at hk;split at hk<;>omega
theorem Bu{m:Nat}{owner:Array (Option Nat)}{ss:List Nat}(O:nU m owner ss)(h:Int):∀(fuel r:Nat),(∃r0,r<=r0/\r0-r<fuel/\(rs m h r0).1∉ss)->(∀l,l<at0 m h r->(st m h l).j∈ss)->
  ∃n,layClean.free m owner fuel (rs m h r).1 (rs m h r).2=some (st m h n).j/\(st m h n).j∉ss/\(st m h n).j<=m/\∀l,l<n->(st m h l).j∈ss:=by
 intro fuel
 induction fuel with
 |zero=>rintro r ⟨r0,_,h2,_⟩;omega
 |succ fuel ih=>
  rintro r ⟨r0,h1,h2,h3⟩ occ;rw[layClean.free];have len:runEnd m (rs m h r).1+1-(rs m h r).1=runEnd m (rs m h r).1-(rs m h r).1+1:=by have:=wH m (rs m h r).1;omega
  cases e:(List.range (runEnd m (rs m h r).1+1-(rs m h r).1)).find? λk=>(owner.getD ((rs m h r).1+k) (some 0)).isNone with
  |some k=>
   obtain⟨p1,p2,p3⟩:=List.find?_range_eq_some.mp e;have hk:k<=runEnd m (rs m h r).1-(rs m h r).1:=(by have:=List.mem_range.mp p2;omega);have jn:(st m h (at0 m h r+k)).j=(rs m h r).1+k:=(by rw[vb r k hk]);refine⟨at0 m h r+k,by rw[jn],?_,by rw[jn];exact pX h r k hk,λl hl=>?_⟩
   ·rw[jn];rw[O.occ (pX h r k hk)]at p1;exact of_decide_eq_true p1
   ·by_cases c:l<at0 m h r
    ·exact occ l c
    ·obtain⟨d,rfl⟩:∃d,l=at0 m h r+d:=⟨l-at0 m h r,by omega⟩
     have:=p3 d `o
     rw[O.occ (pX h r d `o)]at this;rw[vb r d `o];exact Classical.byContradiction λz=>by
      rw[decide_eq_true z]at this;cases this
  |none=>
   have all:=List.find?_range_eq_none.mp e;have full:∀k,k<=runEnd m (rs m h r).1-(rs m h r).1->(rs m h r).1+k∈ss:=λk hk=>by
    have:=all k `o
    rw[O.occ (pX h r k hk)]at this;exact Classical.byContradiction λz=>by
     rw[decide_eq_true z]at this;cases this
   have ne:r≠r0:=λz=>h3 (by rw[<-z];exact full 0 (KH _));obtain⟨n,q1,q2⟩:=ih (r+1) ⟨r0,by omega,by omega,h3⟩ λl hl=>by
    by_cases c:l<at0 m h r
    ·exact occ l c
    ·obtain⟨d,rfl⟩:∃d,l=at0 m h r+d:=⟨l-at0 m h r,by omega⟩
     have hd:d<=runEnd m (rs m h r).1-(rs m h r).1:=by
      have:at0 m h (r+1)=at0 m h r+(runEnd m (rs m h r).1-(rs m h r).1)+1:=rfl
      omega
     rw[vb r d hd];exact full d hd
   exact⟨n,q1,q2⟩
theorem nU.put{m:Nat}{owner:Array (Option Nat)}{ss:List Nat}(O:nU m owner ss){j:Nat}(hj:j<=m)(hn:j∉ss):nU m (owner.setIfInBounds j (some ss.length)) (ss++[j]):=by
 have sz:=O.sz;refine⟨by rw[Array.size_setIfInBounds];exact sz,λi l e=>?_,λl hl hm=>?_,?_,λl hl=>?_⟩
 ·by_cases c:i<ss.length
  ·rw[Kh c]at e;have ne:j≠l:=λz=>hn (by rw[z];exact Kk e);rw[Array.getElem?_setIfInBounds_ne ne];exact O.at' i l e
  ·have hi:i=ss.length:=by
    have:=(List.getElem?_eq_some_iff.mp e).1
    rw[Kl,Ku]at this;omega
   subst hi;rw[Kf (Ka _),ME]at e;cases e;rw[Array.getElem?_setIfInBounds_self_of_lt `o]
 ·have ne:j≠l:=λz=>hm (by rw[z];simp);rw[Array.getElem?_setIfInBounds_ne ne];exact O.no l hl λz=>hm (J5 _ z)
 ·exact List.nodup_append.mpr ⟨O.nd,by simp,λa ha b hb e=>by rw[List.mem_singleton.mp hb]at e;rw[e]at ha;exact hn ha⟩
 ·rcases List.mem_append.mp hl with z|z
  ·exact O.le l z
  ·rw[List.mem_singleton.mp z];exact hj
noncomputable def Jh(m:Nat)(h:Int)(ss:List Nat)(j:Nat):Prop:=∃n,(st m h n).j=j/\∀l,l<n->(st m h l).j∈ss
theorem xV{m:Nat}(mo:AV m):∀(hs:List Int)(owner:Array (Option Nat))(ss:List Nat),nU m owner ss->ss.length+hs.length<=m->
  ∃owner' ss',hs.foldl (λacc h=>do
    let (owner,k)<-acc
    let j<-layClean.free m owner (turns m) (bits h%(m+1)) (bits h)
    pure (owner.setIfInBounds j (some k),k+1)) (some (owner,ss.length))=some (owner',(ss++ss').length)/\nU m owner' (ss++ss')/\ss'.length=hs.length/\∀(i:Nat)(h:Int),hs[i]?=some h->∃j,ss'[i]?=some j/\Jh m h (ss++ss') j:=by
 intro hs
 induction hs with
 |nil=>intro owner ss O _;exact⟨owner,[],by rw[Kc];rfl,by rw[Kc];exact O,rfl,λi h e=>by simp at e⟩
 |cons h hs ih=>
  intro owner ss O hl;rw[KA]at hl;have fr:∃r0,0<=r0/\r0-0<turns m/\(rs m h r0).1∉ss:=by
   have:∃e,e<=m/\e∉ss:=Classical.byContradiction λno=>by
    have:=List.Nodup.length_le_of_subset (l₁:=List.range (m+1)) (l₂:=ss) Md λe he=>Classical.byContradiction λz=>no ⟨e,by have:=List.mem_range.mp he;omega,z⟩
    rw[Lb]at this;omega
   obtain⟨e,e1,e2⟩:=this;obtain⟨r,r1,r2⟩:=uA mo h e1;exact⟨r,KH _,by unfold turns;omega,by rw[r2];exact e2⟩
  obtain⟨n,q1,q2,q3,q4⟩:=Bu O h (turns m) 0 fr λl hl=>absurd hl (Mj _);obtain⟨owner',ss',f1,f2,f3,f4⟩:=ih _ _ (O.put q3 q2) (by rw[Kl,Ku];omega);refine⟨owner',(st m h n).j::ss',?_,?_,by rw[KA,KA,f3],λi x e=>?_⟩
  ·rw[LZ];have q1:layClean.free m owner (turns m) (bits h%(m+1)) (bits h)=some (st m h n).j:=q1;rw[show ss++(st m h n).j::ss'=ss++[(st m h n).j]++ss' by rw[Li];rfl,<-f1];congr 1;show(layClean.free m owner (turns m) (bits h%(m+1)) (bits h)).bind _=_;rw[q1,Kl];rfl
  ·rw[show ss++(st m h n).j::ss'=ss++[(st m h n).j]++ss' by rw[Li];rfl];exact f2
  ·rw[show ss++(st m h n).j::ss'=ss++[(st m h n).j]++ss' by rw[Li];rfl];cases i with
   |zero=>
    rw[Ms]at e;cases e;exact⟨_,rfl,n,rfl,λl hl=>J5 _ (J5 _ (q4 l hl))⟩
   |succ i=>exact f4 i x e
theorem sI{m:Nat}(mo:AV m)(hs:Array Int)(hl:hs.size<=m):∃owner ss,layClean m hs=some owner/\nU m owner ss/\ss.length=hs.size/\∀(i:Nat)(h:Int),hs[i]?=some h->∃j,ss[i]?=some j/\Jh m h ss j:=by
 obtain⟨owner,ss,f1,f2,f3,f4⟩:=xV mo hs.toList (Array.replicate (m+1) none) [] ⟨Array.size_replicate,λi j e=>by simp at e,λj hj _=>by rw[Array.getElem?_replicate,if_pos `o],KI,λj hj=>(nomatch hj)⟩ (by simpa using hl);refine⟨owner,ss,?_,f2,by rw[f3];exact Array.length_toList,λi h e=>f4 i h (by rw[Array.getElem?_toList];exact e)⟩;unfold layClean;rw[<-Array.foldl_toList];show Option.map _ (List.foldl _ _ _)=_;have f1:hs.toList.foldl _ (some (Array.replicate (m+1) none,0))=_:=f1;rw[f1];rfl
open PySem PySem.Spec PySem.SetTable L2
theorem nU.back{m:Nat}{owner:Array (Option Nat)}{ss:aR}(O:nU m owner ss){j i:Nat}(hj:j<=m)(e:owner.getD j none=some i):ss[i]?=some j:=by
 rw[Array.getD_eq_getD_getElem?]at e;by_cases c:j∈ss
 ·obtain⟨i0,h0⟩:=List.mem_iff_getElem?.mp c;rw[O.at' i0 j h0]at e
  have:i0=i:=Option.some.inj e
  rw[<-this];exact h0
 ·rw[O.no j hj c]at e;cases e
noncomputable def lv(m:Nat)(owner:Array (Option Nat)):List (Nat×Nat):=(List.range (m+1)).filterMap λj=>(owner.getD j none).map (j,·)
theorem my{m:Nat}{owner:Array (Option Nat)}{ss:aR}(O:nU m owner ss){j i:Nat}:(j,i)∈lv m owner↔ss[i]?=some j:=by
 unfold lv;rw[List.mem_filterMap];constructor
 ·rintro⟨j',hj,e⟩;obtain⟨i',e1,e2⟩:=Option.map_eq_some_iff.mp e;cases e2;exact O.back (by have:=List.mem_range.mp hj;omega) e1
 ·intro h;have hj:=O.le j (Kk h);refine⟨j,List.mem_range.mpr `o,?_⟩;rw[Array.getD_eq_getD_getElem?,O.at' i j h];rfl
theorem C1{m:Nat}{owner:Array (Option Nat)}:(lv m owner).Pairwise λa b=>a.1<b.1:=by
 unfold lv;rw[List.pairwise_filterMap];refine List.pairwise_lt_range.imp λ{a b} hab x hx y hy=>?_;obtain⟨i,_,rfl⟩:=Option.map_eq_some_iff.mp hx;obtain⟨i',_,rfl⟩:=Option.map_eq_some_iff.mp hy;exact hab
theorem B8{m:Nat}{owner:Array (Option Nat)}{ss:aR}(O:nU m owner ss):((lv m owner).map (·.2)).Perm (List.range ss.length):=by
 have nd:((lv m owner).map (·.2)).Nodup:=by
  unfold List.Nodup;rw[Mf];have hm:∀x∈lv m owner,ss[x.2]?=some x.1:=λx hx=>(my O).mp hx;refine List.Pairwise.imp_of_mem (R:=λa b=>a.1<b.1) (λ{a b} ha hb hab e=>?_) C1;have h1:=hm a ha;have h2:=hm b hb;rw[e,h2]at h1
  have:=Option.some.inj h1
  omega
 refine(MF nd Md).mpr λi=>?_;rw[MG,List.mem_range];constructor
 ·rintro⟨x,hx,rfl⟩;exact(List.getElem?_eq_some_iff.mp ((my O).mp hx)).1
 ·intro hi;exact⟨(ss[i],i),(my O).mpr (KY hi),rfl⟩
section
variable{prog:NV}{w:NU}
theorem yj{h:NX}{es:Array (Int×NN)}{t:P7}{L:List SE}{wanted m:Nat}(mo:AV m)(em:sizeAbove wanted-1=m)(room:L.length*5<m*3)(hes:es.toList=L.map λx=>((bQ prog w).hash x.2.1,Value.ref x.2.2))(his:∀x∈L,(bQ prog w).is h x.2.1 x.2.2)(hnd:(L.map (·.2.1)).Nodup):
  ∃t' order L',t.relaid (es.map (·.1)) wanted=some (t',order)/\(order.filterMap (es[·]?)).size=es.size/\Rep prog w h (order.filterMap (es[·]?)) t' L'/\(L'.map (·.2)).Perm (L.map (·.2))/\t'.led=t.led:=by
 have el:es.size=L.length:=by have:=congrArg List.length hes;rwa [Array.length_toList,Km]at this
 obtain⟨owner,ss,l1,O,l2,l3⟩:=sI mo (es.map (·.1)) (by rw[Array.size_map];omega);rw[Array.size_map]at l2;have hm:∀x∈lv m owner,ss[x.2]?=some x.1:=λx hx=>(my O).mp hx;have lt:∀x∈lv m owner,x.2<L.length:=λx hx=>by have:=(List.getElem?_eq_some_iff.mp (hm x hx)).1;omega
 have get:∀(i:Nat),i<L.length->∃y,L[i]?=some y/\L.getD i (0,[],0)=y/\es[i]?=some ((bQ prog w).hash y.2.1,Value.ref y.2.2)/\y∈L:=λi hi=>by
  refine⟨L[i],KY hi,by rw[Mg,KY hi];rfl,?_,Ly hi⟩;rw[<-Array.getElem?_toList,hes,Ki,KY hi];rfl
 have ordl:(((lv m owner).map (·.2)).toArray.filterMap (es[·]?)).toList=(lv m owner).map λx=>((bQ prog w).hash (L.getD x.2 (0,[],0)).2.1,Value.ref (L.getD x.2 (0,[],0)).2.2):=by
  rw[Array.toList_filterMap]
  have:∀l:List (Nat×Nat),(∀x∈l,x.2<L.length)->(l.map (·.2)).filterMap (es[·]?)=l.map λx=>((bQ prog w).hash (L.getD x.2 (0,[],0)).2.1,Value.ref (L.getD x.2 (0,[],0)).2.2):=by
   intro l
   induction l with
   |nil=>intro _;rfl
   |cons x l ih=>
    intro hl;obtain⟨y,_,y2,y3,_⟩:=get x.2 (hl x J3);rw[Kw,List.filterMap_cons_some y3,ih λz hz=>hl z (J4 _ hz),Kw,y2]
  exact this _ lt
 have pm:=B8 O;rw[l2,el]at pm;have lvl:(lv m owner).length=L.length:=by have:=pm.length_eq;rwa [Km,Lb]at this
 have L2:(((lv m owner).map λx=>((x.1,(L.getD x.2 (0,[],0)).2):SE)).map (·.2)).Perm (L.map (·.2)):=by
  rw[Mh];have e1:(lv m owner).map ((λx:SE=>x.2)∘λx=>((x.1,(L.getD x.2 (0,[],0)).2):SE))=((lv m owner).map (·.2)).map λi=>(L.getD i (0,[],0)).2:=by rw[Mh];rfl
  have e2:L.map (·.2)=(List.range L.length).map λi=>(L.getD i (0,[],0)).2:=by
   refine Mb λi=>?_;rw[Ki,Ki];by_cases c:i<L.length
   ·obtain⟨y,y1,y2,_⟩:=get i c;rw[y1,Le c];show some y.2=some (L.getD i (0,[],0)).2;rw[y2]
   ·rw[Ml `o,Ml (by rw[Lb];omega)];rfl
  rw[e1,e2];exact pm.map _
 refine⟨{mask:=m,place:=((lv m owner).map (·.1)).toArray,dummies:=#[],finger:=t.finger,led:=t.led,moves:=t.movedTo m,plain:=t.plain},((lv m owner).map (·.2)).toArray,(lv m owner).map λx=>(x.1,(L.getD x.2 (0,[],0)).2),?_,?_,⟨⟨?_,rfl,?_,?_,?_⟩,?_,?_,?_,?_,?_⟩,L2,rfl⟩
 ·unfold relaid laid;rw[em,l1];rfl
 ·rw[<-Array.length_toList];show((((lv m owner).map (·.2)).toArray.filterMap (es[·]?)).toList).length=_;rw[ordl,Km,lvl,el]
 ·exact mo
 ·show((lv m owner).map (·.1)).Pairwise _;rw[Mf];exact C1
 ·intro j hj;have hj:j∈(lv m owner).map (·.1):=hj;obtain⟨x,hx,rfl⟩:=List.mem_map.mp hj;exact O.le _ (Kk (hm x hx))
 ·show((lv m owner).map (·.1)).toArray.size*5<m*3;rw[Ko,Km,lvl];exact room
 ·show(lv m owner).map (·.1)=_;rw[Mh];rfl
 ·show(((lv m owner).map (·.2)).toArray.filterMap (es[·]?)).toList=_;rw[ordl,Mh];rfl
 ·intro x hx;obtain⟨p,hp,rfl⟩:=List.mem_map.mp hx;obtain⟨y,_,y2,_,y4⟩:=get p.2 (lt p hp);show(bQ prog w).is h (L.getD p.2 (0,[],0)).2.1 (L.getD p.2 (0,[],0)).2.2;rw[y2];exact his y y4
 ·have:(((lv m owner).map λx=>((x.1,(L.getD x.2 (0,[],0)).2):SE)).map (·.2.1)).Perm (L.map (·.2.1)):=by
   have:=L2.map (·.1)
   rw[Mh,Mh,Mh]at this;rw[Mh];exact this
  exact this.nodup_iff.mpr hnd
 ·intro x hx;obtain⟨p,hp,rfl⟩:=List.mem_map.mp hx;obtain⟨y,_,y2,y3,_⟩:=get p.2 (lt p hp);obtain⟨j,j1,j2⟩:=l3 p.2 ((bQ prog w).hash y.2.1) (by rw[Array.getElem?_map,y3];rfl);rw[hm p hp]at j1;cases j1;obtain⟨n,n1,n2⟩:=j2;refine⟨n,?_,λl hl=>?_⟩
  ·show(st m ((bQ prog w).hash (L.getD p.2 (0,[],0)).2.1) n).j=p.1;rw[y2];exact n1
  ·have:=n2 l hl
   show(st m ((bQ prog w).hash (L.getD p.2 (0,[],0)).2.1) l).j∈_;rw[y2,Mh];obtain⟨i,hi⟩:=List.mem_iff_getElem?.mp this;exact List.mem_map.mpr ⟨(_,i),(my O).mpr hi,rfl⟩
end
section
variable{prog:NV}{w:NU}{A:N4}{E:az}{s:NT}
theorem An{k:ay}{b:NQ}{Q:Bool->bn}(hk:(bQ prog w).is s.heap k b)(h:∀v,Q v s):N7 `g A (hashByValue 8 (.ref b)) Q E s:=by
 obtain⟨o,items,n,h1,h2,h3,h4⟩:=hk;unfold hashByValue;refine Oj (OY ⟨o,h1,h2⟩ F.slot_tuple_hash.lookup ?_);dsimp only;unfold seqItems?;refine Oj (Oj (Ol h1 ?_));rw[h3];refine Oi (Oj ?_);refine PySem.MeetsSeq2.wpAny_forIn_array _ (λrest r s'=>s'=s/\∀v∈rest,∃k,(aN prog w).is k v=true) _ ?_ ?_ _ _ ⟨rfl,?_⟩
 ·rintro x rest r s' ⟨rfl,hr⟩;obtain⟨k,hx⟩:=hr x J3;have hx:∃v,hashByValue 7 x=pure v:=by
   cases x<;>first|exact⟨_,rfl⟩|(exfalso;cases k<;>cases hx)
  obtain⟨v,hx⟩:=hx;rw[hx];refine Oj (Oi ?_);cases v with
  |true=>exact Oi ⟨rfl,λv hv=>hr v (J4 _ hv)⟩
  |false=>
   rw[if_pos (show(!false)=true from rfl)];refine Oi ?_;exact Oi (h _)
 ·rintro r s' ⟨rfl,_⟩;cases r.1 with
  |none=>exact Oi (h _)
  |some v=>exact Oi (h _)
 ·show∀v∈items.toList,_;clear h1 h3;generalize items.toList=l at h4
  induction h4 with
  |nil=>intro v hv;cases hv
  |cons hk _ ih=>
   intro v hv;rcases List.mem_cons.mp hv with z|z
   ·rw[z];exact⟨_,hk⟩
   ·exact ih v z
noncomputable def qM(prog:NV)(w:NU)(h:NX)(a:NQ)(L:List SE):Prop:=∃o es ep t,h.get? a=some o/\o.ExactSet/\o.data=.set es ep t/\Rep prog w h es t L/\t.led=!w.params.followText "set-order"
theorem gI{α:Type}(xs:Array α)(p:Nat)(x:α)(h:p<=xs.size):(SetTable.insertAt xs p x).toList=xs.toList.take p++x::xs.toList.drop p:=by
 unfold SetTable.insertAt;rw[Array.toList_append,Array.toList_push,Array.toList_extract,Array.toList_extract,Li];simp[List.extract,LD]
theorem sd{h h':NX}{k:ay}{b:NQ}(hk:(bQ prog w).is h k b)(e:∀o,h.get? b=some o->h'.get? b=some o):(bQ prog w).is h' k b:=by
 obtain⟨o,items,n,h1,h2⟩:=hk;exact⟨o,items,n,e o h1,h2⟩
theorem Dc{h:NX}{k:ay}{a b:NQ}{o:Obj}{es:Array (Int×NN)}{ep:Nat}{t:P7}(hk:(bQ prog w).is h k b)(ho:h.get? a=some o)(hd:o.data=.set es ep t):b≠a:=λz=>by
 obtain⟨o',items,n,h1,h2,h3,_⟩:=hk;rw[z,ho]at h1;cases h1;rw[hd]at h3;cases h3
theorem Bo{h:NX}{es:Array (Int×NN)}{t:P7}{L:List SE}(R:Rep prog w h es t L){k:ay}{b:NQ}(hk:(bQ prog w).is h k b)(hn:k∉L.map (·.2.1)){n:Nat}(h1:(st t.mask `j n).j∉L.map (·.1))(h2:∀l,l<n->(st t.mask `j l).j∈L.map (·.1))(hj:(st t.mask `j n).j<=t.mask):
  ∃L':List SE,(t.put (st t.mask `j n).j).1.mask=t.mask/\(t.put (st t.mask `j n).j).1.dummies=#[]/\(t.put (st t.mask `j n).j).1.place.toList=L'.map (·.1)/\(L'.map (·.1)).Pairwise (·<·)/\(∀x∈L',x.1<=t.mask)/\
   (SetTable.insertAt es (t.put (st t.mask `j n).j).2 ((bQ prog w).hash k,Value.ref b)).toList=L'.map (λx=>((bQ prog w).hash x.2.1,Value.ref x.2.2))/\(∀x∈L',(bQ prog w).is h x.2.1 x.2.2)/\(L'.map (·.2.1)).Nodup/\(L'.map (·.2)).Perm ((k,b)::L.map (·.2))/\
   ∀x∈L',∃n,(st t.mask ((bQ prog w).hash x.2.1) n).j=x.1/\∀l,l<n->(st t.mask ((bQ prog w).hash x.2.1) l).j∈L'.map (·.1):=by
 generalize ej:(st t.mask `j n).j=j at h1 hj ⊢;obtain⟨s1,s2⟩:=R.size;obtain⟨b1,b2,b3⟩:=mR R.tt.up j;have hp:below t.place j<=L.length:=by omega
 have pl:=R.pl;have get:∀(i:Nat)(hi:i<L.length),L[i].1=t.place[i]'`o:=λi hi=>by
  have:t.place.toList[i]?=some L[i].1:=by rw[pl,Ki,KY hi];rfl
  rw[Array.getElem?_toList,Array.getElem?_eq_getElem `o]at this;exact(Option.some.inj this).symm
 have lo:∀x∈L.take (below t.place j),x.1<j:=λx hx=>by
  obtain⟨i,hi,rfl⟩:=List.mem_take_iff_getElem.mp hx;rw[get i `o];exact b2 i `o `o
 have hi':∀x∈L.drop (below t.place j),j<x.1:=λx hx=>by
  obtain⟨i,hi,rfl⟩:=List.mem_drop_iff_getElem.mp hx
  have:=b3 (below t.place j+i) `o `o
  rw[<-get _ `o]at this;have ne:L[below t.place j+i].1≠j:=λz=>h1 (List.mem_map.mpr ⟨_,Ly _,z⟩);omega
 have sub:∀x,x∈L.take (below t.place j)++(j,k,b)::L.drop (below t.place j)->x=(j,k,b)\/x∈L:=λx hx=>by
  rcases List.mem_append.mp hx with z|z
  ·exact .inr (LX z)
  ·rcases List.mem_cons.mp z with z|z
   ·exact .inl z
   ·exact .inr (LO z)
 have sup:∀x,x∈L->x∈L.take (below t.place j)++(j,k,b)::L.drop (below t.place j):=λx hx=>by
  rw[<-LL (below t.place j) L]at hx;rcases List.mem_append.mp hx with z|z
  ·exact J5 _ z
  ·exact Kb _ (J4 _ z)
 have pm:(L.take (below t.place j)++(j,k,b)::L.drop (below t.place j)).Perm ((j,k,b)::L):=by
  have:=List.perm_middle (a:=((j,k,b):SE)) (l₁:=L.take (below t.place j)) (l₂:=L.drop (below t.place j))
  rwa [LL]at this
 have up:(L.map (·.1)).Pairwise (·<·):=by rw[<-pl];exact R.tt.up
 rw[Mf]at up;refine⟨L.take (below t.place j)++(j,k,b)::L.drop (below t.place j),rfl,?_,?_,?_,λx hx=>?_,?_,λx hx=>?_,?_,?_,λx hx=>?_⟩
 ·show(if has t.dummies j then _ else t.dummies)=#[];rw[R.tt.nod];rfl
 ·show(SetTable.insertAt t.place (below t.place j) j).toList=_;rw[gI _ _ _ b1,pl,K9,Kw,Mv,Mw]
 ·rw[Mf,List.pairwise_append];refine⟨up.sublist (Kj _ _),List.pairwise_cons.mpr ⟨λx hx=>hi' x hx,up.sublist (L3 _ _)⟩,λx hx y hy=>?_⟩;rcases List.mem_cons.mp hy with z|z
  ·rw[z];exact lo x hx
  ·exact KG (lo x hx) (hi' y z)
 ·rcases sub x hx with z|z
  ·rw[z];exact hj
  ·exact R.tt.le _ (by rw[pl];exact List.mem_map.mpr ⟨x,z,rfl⟩)
 ·show(SetTable.insertAt es (below t.place j) _).toList=_;rw[gI _ _ _ `o,R.es,K9,Kw,Mv,Mw]
 ·rcases sub x hx with z|z
  ·rw[z];exact hk
  ·exact R.is x z
 ·have:=(pm.map (λx:SE=>x.2.1)).nodup_iff.mpr (by rw[Kw];exact List.nodup_cons.mpr ⟨hn,R.nd⟩)
  exact this
 ·exact pm.map (λx:SE=>x.2)
 ·have big:∀y,y∈L.map (·.1)->y∈(L.take (below t.place j)++(j,k,b)::L.drop (below t.place j)).map (·.1):=λy hy=>by
   obtain⟨x,hx,rfl⟩:=List.mem_map.mp hy;exact List.mem_map.mpr ⟨x,sup x hx,rfl⟩
  rcases sub x hx with z|z
  ·rw[z];exact⟨n,ej,λl hl=>big _ (h2 l hl)⟩
  ·obtain⟨m,m1,m2⟩:=R.path x z;exact⟨m,m1,λl hl=>big _ (m2 l hl)⟩
end
theorem og{m i:Nat}(h:i<=m):runEnd m i<=m:=by unfold runEnd;split<;>omega
theorem CY(m:Nat)(h:Int):∀n,(st m h n).j+(st m h n).more<=m
 |0=>by
  have h1:bits h%(m+1)<=m:=MB (MC _ (MA _))
  have:=og h1
  show bits h%(m+1)+(runEnd m (bits h%(m+1))-bits h%(m+1))<=m;omega
 |n+1=>by
  have ih:=CY m h n;show(xO m (st m h n)).j+(xO m (st m h n)).more<=m;by_cases c:(st m h n).more>0
  ·rw[qO _ _ c];show(st m h n).j+1+((st m h n).more-1)<=m;omega
  ·rw[sy _ _ `o];have h1:(leap m (st m h n).i (st m h n).perturb).1<=m:=MB (MC _ (MA _))
   have:=og h1
   show(leap m (st m h n).i (st m h n).perturb).1+(runEnd m (leap m (st m h n).i (st m h n).perturb).1-(leap m (st m h n).i (st m h n).perturb).1)<=m;omega
theorem grows{m n:Nat}(mo:AV m)(h1:n*5<m*3)(h2:(n+1)*5>=m*3)(hn:n<300):∃m',AV m'/\sizeAbove (grown (n+1))-1=m'/\(n+1)*5<m'*3/\sizeAbove (grown (n+1))<=NY:=by
 rcases mo with rfl|rfl|rfl|rfl
 ·obtain rfl:n=4:=by omega
  exact⟨31,.inr (.inl rfl),by decide,by decide,by rw[Ot];decide⟩
 ·obtain rfl:n=18:=by omega
  exact⟨127,.inr (.inr (.inl rfl)),by decide,by decide,by rw[Ot];decide⟩
 ·obtain rfl:n=76:=by omega
  exact⟨511,.inr (.inr (.inr rfl)),by decide,by decide,by rw[Ot];decide⟩
 ·omega
section
variable{prog:NV}{w:NU}{A:N4}{E:az}{s:NT}
theorem Rep.keep{h h':NX}{es:Array (Int×NN)}{t:P7}{L:List SE}(R:Rep prog w h es t L)(e:∀x∈L,∀o,h.get? x.2.2=some o->h'.get? x.2.2=some o):Rep prog w h' es t L:=
 ⟨R.tt,R.pl,R.es,λx hx=>sd (R.is x hx) (e x hx),R.nd,R.path⟩
theorem uT{h:NX}{a:NQ}{o:Obj}{es:Array (Int×NN)}{ep:Nat}{t:P7}(es':Array (Int×NN))(t':P7)(ho:h.get? a=some o)(hd:o.data=.set es ep t):(h.update a (Obj.putSet es' t')).get? a=some {o with data:=.set es' (ep+1) t'}:=by
 rw[Np _ ho (by rw[putSet_of es' t' hd];rfl),putSet_of es' t' hd]
theorem DY{a b:NQ}{L:List SE}{k:ay}{Q:Bool->bn}(hu:(bQ prog w).room A)(H:qM prog w s.heap a L)(hl:L.length<300)(hk:(bQ prog w).is s.heap k b)
  (h:∀v h' L',Nc a s.heap h'->qM prog w h' a L'->((k∈L.map (·.2.1)/\L'=L)\/(k∉L.map (·.2.1)/\(L'.map (·.2)).Perm ((k,b)::L.map (·.2))))->Q v {s with heap:=h'}):
  N7 `g A (setAddHashed a (.ref b) `j) Q E s:=by
 obtain⟨o,es,ep,t,ho,hx,hd,R,led⟩:=H;obtain⟨sz1,sz2⟩:=R.size;unfold setAddHashed;refine OI ?_;rw[show(100000:Nat)=99999+1 from rfl,setAddHashedIn];refine Oj (P8 ho hd R.fits ?_);dsimp only;rw[show byScan (.ref b) es=false from rfl,if_neg J8];refine Oj (wC hu ho hd R hk (λhm=>?_) λhn n c1 c2=>?_)
 ·exact Oi (h false s.heap L (.refl ..) ⟨o,es,ep,t,ho,hx,hd,R,led⟩ (.inl ⟨hm,rfl⟩))
 ·dsimp only;refine Oj (P8 ho hd R.fits ?_);dsimp only;have hj:(st t.mask `j n).j<=t.mask:=by have:=CY t.mask `j n;omega
  obtain⟨L',p1,p2,p3,p4,p5,p6,p7,p8,p9,p10⟩:=Bo R hk hn c1 c2 hj;have p11:(t.put (st t.mask `j n).j).1.led=t.led:=rfl;generalize t.put (st t.mask `j n).j=tp at p1 p2 p3 p6 p11 ⊢;have len:L'.length=L.length+1:=by have:=p9.length_eq;rwa [Km,KA,Km]at this
  generalize he1:SetTable.insertAt es tp.snd ((bQ prog w).hash k,Value.ref b)=es1 at p6 ⊢;have sz:es1.size=L'.length:=by have:=congrArg List.length p6;rwa [Array.length_toList,Km]at this
  have room:=R.tt.room;have hsl:NY=16777216:=Ot;have fin:∀t1:P7,t1.mask=t.mask->t1.dummies=#[]->t1.place=tp.1.place->t1.led=t.led->N7 `g A (do
    storeSet a es1 t1
    if(!false&&t1.tooFull)=true then do
      setRelay a (grown (es.size+1))
      pure true
     else pure true) Q E s:=λt1 m1 m2 m3 m4=>by
   have pl1:t1.place.toList=L'.map (·.1):=(by rw[m3];exact p3);have ps:t1.place.size=L'.length:=(by have:=congrArg List.length pl1;rwa [Array.length_toList,Km]at this);refine Oj (wpAny_storeSet_of ho hd ?_ `o);have ho1:=uT es1 t1 ho hd;have sb:=Heap.SameBut.update s.heap a (Obj.putSet es1 t1);have is1:∀x∈L',(bQ prog w).is (s.heap.update a (Obj.putSet es1 t1)) x.2.1 x.2.2:=λx hx'=>sd (p7 x hx') λo' e=>by rw[sb.2 _ (Dc (p7 x hx') ho hd)];exact e
   have tf:t1.tooFull=decide (L'.length*5>=t.mask*3):=by
    unfold SetTable.tooFull SetTable.fill;rw[m2,ps,m1];rfl
   by_cases c:L'.length*5>=t.mask*3
   ·rw[tf,decide_eq_true c,if_pos (show(!false&&true)=true from rfl)];obtain⟨m',g1,g2,g3,g4⟩:=grows R.tt.mok (show L.length*5<t.mask*3 by omega) (by rw[<-len];exact c) hl;obtain⟨t',order,L2,r1,r2,r3,r4,r5⟩:=yj (t:=t1) (wanted:=grown (es.size+1)) g1 (by rw[sz1];exact g2) (by rw[len];exact g3) p6 is1 p8;unfold setRelay;have fit:t1.fits es1.size=true:=by
     unfold SetTable.fits SetTable.fill;rw[m2,ps,sz,m1,Kr];refine⟨beq_self_eq_true _,decide_eq_true ?_⟩;show L'.length+0<=_;omega
    refine Oj (Oj (P8 ho1 rfl fit ?_));dsimp only;rw[if_neg (by rw[sz1];omega),r1];refine Oj ?_;show N7 _ _ (if((order.filterMap (es1[·]?)).size !=es1.size)=true then _ else pure (order.filterMap (es1[·]?),t')) _ _ _;rw[r2,if_neg (by simp)];refine Oi ?_;dsimp only;refine wpAny_storeSet_of ho1 rfl ?_ (by rw[r2];omega);refine Oi (h true _ L2 (sb.trans (Heap.SameBut.update ..)) ⟨_,_,_,t',uT _ t' ho1 rfl,hx,rfl,r3.keep λx hx' o' e=>?_,by rw[r5,m4];exact led⟩ (.inr ⟨hn,r4.trans p9⟩));rw[(Heap.SameBut.update ..).2 _ (Dc (r3.is x hx') ho1 rfl)];exact e
   ·rw[tf,decide_eq_false c,if_neg (show¬((!false&&false)=true)from J8)];refine Oi (h true _ L' sb ⟨_,es1,_,t1,ho1,hx,rfl,⟨⟨by rw[m1];exact R.tt.mok,m2,by rw[pl1];exact p4,λj hj'=>?_,by rw[ps,m1];omega⟩,pl1,p6,is1,p8,by rw[m1];exact p10⟩,by rw[m4];exact led⟩ (.inr ⟨hn,p9⟩));rw[pl1]at hj';obtain⟨x,hx',rfl⟩:=List.mem_map.mp hj';rw[m1];exact p5 x hx'
  have both:∀v:Bool,N7 `g A (do
    storeSet a es1 (if v=true then tp.fst else{mask:=tp.fst.mask,place:=tp.fst.place,dummies:=tp.fst.dummies,finger:=tp.fst.finger,led:=tp.fst.led,moves:=tp.fst.moves,plain:=false})
    if(!false&&(if v=true then tp.fst else{mask:=tp.fst.mask,place:=tp.fst.place,dummies:=tp.fst.dummies,finger:=tp.fst.finger,led:=tp.fst.led,moves:=tp.fst.moves,plain:=false}).tooFull)=true then do
      setRelay a (grown (es.size+1))
      pure true
     else pure true) Q E s:=λv=>by
   cases v with
   |true=>exact fin _ p1 p2 rfl p11
   |false=>exact fin {mask:=tp.fst.mask,place:=tp.fst.place,dummies:=tp.fst.dummies,finger:=tp.fst.finger,led:=tp.fst.led,moves:=tp.fst.moves,plain:=false} p1 p2 rfl p11
  split
  ·exact Oj (An hk λv=>both v)
  ·exact Oj (Oi (both true))
end
open PySem PySem.Spec PySem.SetTable L2 PyProof.Rows
structure Acc(kb:Nat->List Key×NQ)(i:Nat)(L:List SE):Prop where
 ln:L.length<=i
 of:∀x∈L,∃j,j<i/\x.2=kb j
 has:∀j,j<i->(kb j).1∈L.map (·.2.1)
theorem Acc.step{kb:Nat->List Key×NQ}{i:Nat}{L L':List SE}(h:Acc kb i L)(e:((kb i).1∈L.map (·.2.1)/\L'=L)\/((kb i).1∉L.map (·.2.1)/\(L'.map (·.2)).Perm (((kb i).1,(kb i).2)::L.map (·.2)))):Acc kb (i+1) L':=by
 rcases e with⟨e1,rfl⟩|⟨e1,e2⟩
 ·refine⟨MH h.ln,λx hx=>let ⟨j,a,b⟩:=h.of x hx;⟨j,KN a,b⟩,λj hj=>?_⟩;by_cases c:j=i
  ·rw[c];exact e1
  ·exact h.has j `o
 ·have mm:∀k,k∈L'.map (·.2.1)↔k=(kb i).1\/k∈L.map (·.2.1):=λk=>by
   have:=(e2.map (·.1)).mem_iff (a:=k)
   rw[Mh,Kw,Mh,Mo]at this;exact this
  refine⟨by have:=e2.length_eq;rw[Km,KA,Km]at this;have:=h.ln;omega,λx hx=>?_,λj hj=>(mm _).mpr ?_⟩
  ·have:x.2∈((kb i).1,(kb i).2)::L.map (·.2):=e2.mem_iff.mp (List.mem_map.mpr ⟨x,hx,rfl⟩)
   rcases List.mem_cons.mp this with z|z
   ·exact⟨i,MI _,z⟩
   ·obtain⟨y,hy,ey⟩:=List.mem_map.mp z;obtain⟨j,a,b⟩:=h.of y hy;exact⟨j,KN a,ey.symm.trans b⟩
  ·by_cases c:j=i
   ·exact .inl (by rw[c])
   ·exact .inr (h.has j `o)
section
variable{prog:NV}{w:NU}{A:N4}{R:Result->bn}{J:NQ}{fp wr:ak}{G:Array GenState->Array GenState->Prop}{n:Nat}{P:Nat->NN->Prop}{St:Nat->bn}
theorem vV(W:WalksS prog w A.in1 J fp wr G n P St)(S:NQ)(hS0:S∉fp)(kb:Nat->List Key×NQ)(hv:∀i v,i<n->P i v->v=.ref (kb i).2)(hne:∀j,j<n->(kb j).2∉S::wr)(hb:n<300)(hu:A.in1.units<Ov):
  ∀(k i:Nat)(s:NT),n-i=k->i<=n->St i s->(∀j,j<n->(bQ prog w).is s.heap (kb j).1 (kb j).2)->∀L:List SE,qM prog w s.heap S L->Acc kb i L->
   (∀s' L',Moved (S::wr) G s s'->qM prog w s'.heap S L'->Acc kb n L'->R (.ok (.ret .none)) s')->
   Oy `g A (.builtin "set.update.loop" ⟨[.ref S,.ref J],[]⟩) R s:=by
 have hSw:S∉wr:=λh=>hS0 (W.sub _ h);have sub:∀b∈wr,b∈S::wr:=λb hb=>J4 _ hb;have keepI:∀{s s':NT},Moved wr G s s'->(∀j,j<n->(bQ prog w).is s.heap (kb j).1 (kb j).2)->∀j,j<n->(bQ prog w).is s'.heap (kb j).1 (kb j).2:=λhm h j hj=>sd (h j hj) λo e=>hm.heap _ _ (λz=>hne j hj (sub _ z)) e;have carry:∀{s s':NT}{L:List SE}{i:Nat},Moved wr G s s'->i<=n->Acc kb i L->qM prog w s.heap S L->qM prog w s'.heap S L:=λhm hi ha zq=>zq.elim λo zq=>zq.elim λes zq=>zq.elim λep zq=>zq.elim λt zq=>zq.elim λho r=>⟨o,es,ep,t,hm.heap S _ hSw ho,r.1,r.2.1,r.2.2.1.keep (λx hx o' e=>by
  obtain⟨j,j1,j2⟩:=ha.of x hx;exact hm.heap _ _ (λz=>hne j `o (sub _ (by rw[<-j2];exact z))) e),r.2.2.2⟩
 intro k
 induction k with
 |zero=>
  intro i s hk hi hst hI L hS ha hR;obtain rfl:i=n:=by omega
  refine PH PyProof.Rows.F.entry_set_update_loop ?_;rw[Around.under_plainId PyProof.Rows.F.plain_set_update_loop _];show N7 _ A.in1 (pyNext (.ref J) >>= _) _ _ s;refine Oj (W.done s _ _ hst λs' hm=>?_);show N7 _ A.in1 (ret Value.none) _ _ s';exact Oi (hR s' L (hm.mono sub) (carry hm (Ka _) ha hS) ha)
 |succ k ih=>
  intro i s hk hi hst hI L hS ha hR;have hlt:i<n:=by omega
  refine PH PyProof.Rows.F.entry_set_update_loop ?_;rw[Around.under_plainId PyProof.Rows.F.plain_set_update_loop _];show N7 _ A.in1 (pyNext (.ref J) >>= _) _ _ s;refine Oj (W.item i s _ _ hlt hst λv s' hP hst' hm=>?_);obtain rfl:=hv i v hlt hP;have hS':=carry hm hi ha hS;have hI':=keepI hm hI;show N7 _ A.in1 (holding [Value.ref (kb i).2] (setAdd S (.ref (kb i).2)) >>= _) _ _ s';refine Oj (OI ?_);unfold setAdd;refine OI ?_;refine Oj ((bQ prog w).pyHash hu (hI' i hlt) ?_);refine DY (s:={s' with toks:=s'.toks+(bQ prog w).draws (kb i).1}) hu hS' (by have:=ha.ln;omega) (hI' i hlt) λv h' L' hsb hS2 hc=>?_;refine Oi ⟨PJ PyProof.Rows.F.plain_set_update_loop _,ih (i+1) _ `o hlt (W.frame _ s' _ _ hst' (Nat.le_add_right _ _) λb hb o e=>by rw[hsb.2 b (λh:b=S=>hS0 (h ▸ hb))];exact e) (λj hj=>sd (hI' j hj) λo e=>by rw[hsb.2 _ (λz=>hne j hj (by rw[z];exact J3))];exact e) L' hS2 (ha.step hc) λs'' L'' hm2 hS3 ha3=>?_⟩;refine hR s'' L'' (Moved.trans W.gtrans ((hm.mono sub).then_heap (Nat.le_add_right _ _) λb o hb e=>?_) hm2) hS3 ha3;rw[hsb.2 b (λh:b=S=>hb (h ▸ J3))];exact e
end
section
variable{prog:NV}{w:NU}{A:N4}{E:az}{s:NT}
noncomputable abbrev jo(led:Bool):Obj:={cls:=.type "set",dict:=none,data:=.set #[] 0 (.fresh 0 0 led)}
theorem CC(a:NN){Q:az}(h:Q (.ref s.heap.objs.size) {s with heap:=s.heap.push (jo (!w.params.followText "set-order"))}):
  Oy `g A (.call (.builtin "set.__new__") ⟨[.type "set",a],[]⟩) (wants Q E) s:=by
 refine codeAny_of_tree ?_;show N7 _ A.in1 (checkBuiltinCall "set.__new__" ⟨[.type "set",a],[]⟩ >>= λ_=>again (.builtin "set.__new__" ⟨[.type "set",a],[]⟩)) _ _ s;refine Oj (PZ (F.newCall_set_1 a) (Oi ⟨PJ F.plain_set_new _,PH F.entry_set_new ?_⟩));rw[Around.under_plainId F.plain_set_new _];unfold Builtin.«set.__new__» Builtin.Frozenset.newClass;have hsub:=sub_set_self;obtain⟨hp,g,d,tk,os⟩:=s;dsimp only;wp_walk;refine P9 (Oi ?_);dsimp only;simp only[newObj];exact Oj (wpAny_alloc (Oi (Oi h)))
theorem xI{l:NQ}{its:cw}{kb:Nat->List Key×NQ}{Q:az}(hu:A.units+64<Ov)(hh:A.handled=none)(hl:s.heap.IsList l its)(hv:∀(i:Nat) v,its[i]?=some v->v=.ref (kb i).2/\(bQ prog w).is s.heap (kb i).1 (kb i).2)(hb:its.size<300)
  (h:∀(h':NX)(tk:Nat)(L:List SE),qM prog w h' s.heap.objs.size L->Acc kb its.size L->(∀b o,b<s.heap.objs.size->s.heap.get? b=some o->h'.get? b=some o)->Q (.ref s.heap.objs.size) {s with heap:=h',toks:=tk}):
  N7 `g A (call (.type "set") [.ref l]) Q E s:=by
 obtain⟨c,tl,hmro⟩:=F.called_set.mro;have hmade:=F.called_set.made;have hsub:=F.called_set.sub;refine wpAny_call (codeAny_of_tree ?_);show N7 _ _ (callAny (.type "set") _) _ _ _;refine Oi ⟨Code.quiet_builtin _ (by decide +kernel),PH F.entry_type_call ?_⟩;rw[Around.under_plain (weight_type_call_type "set" [.ref l] []) rfl];have h1:=F.called_set.notType;have h2:=F.called_set.canCreate;have hct:=F.typeCall_set_1 (.ref l)
 repeat (any_goals (first|assumption|wp_step))
 refine OW (CC (.ref l) (E:=E) (Q:=λobj s₁=>obj=.ref s.heap.objs.size/\s₁={s with heap:=s.heap.push (jo (!w.params.followText "set-order"))}) ⟨rfl,rfl⟩) λr s₁ hr=>?_;cases r with
 |error e=>exact hr
 |ok fl=>
  cases fl with
  |ret obj=>
   obtain⟨rfl,rfl⟩:=hr;generalize hled:(!w.params.followText "set-order")=led;have hS:(s.heap.push (jo led)).get? s.heap.objs.size=some (jo led):=Ng _ rfl;have hT:Shared.TypeIs {s with heap:=s.heap.push (jo led)} (.ref s.heap.objs.size) "set":=⟨_,hS,rfl⟩
   have hli:=F.called_set.init.lookup;have hbi:=F.called_set.init.bind (.ref s.heap.objs.size)
   repeat (any_goals (first|assumption|wp_step))
   refine OW (codeAny_call_builtin (R:=wants (λr s₂=>r=.none/\∃h' tk L,s₂={s with heap:=h',toks:=tk}/\qM prog w h' s.heap.objs.size L/\Acc kb its.size L/\
     (∀b o,b<s.heap.objs.size->s.heap.get? b=some o->h'.get? b=some o)) E) F.called_set.init.plain F.entry_set_init (check_set_init_1 hT ?_)) λr₂ s₂ hr₂=>?_
   ·have hl1:(s.heap.push (jo led)).IsList l its:=hl.push _;have hlS:l<s.heap.objs.size:=(by obtain⟨o,ho,_⟩:=id hl;exact M8 ho);have hl2:=id hl1;obtain⟨ol,hol,hcl,nl,hdl⟩:=hl2;obtain⟨ocls,odict,odata,oslots⟩:=ol;simp only at hcl hdl;subst hcl;subst hdl;have hsls:=PySem.F.sub_list_set;have hslf:=PySem.F.sub_list_frozenset;have hne:(Value.type "list"==Value.type "dict")=false:=(by decide);unfold Builtin.«set.__init__» noKeywords Builtin.Frozenset.updateFrom;generalize hPI:pyIter=PI
    wp_walk
    subst hPI;refine Om hl1 ?_;refine Oj (wpAny_runValue ?_);have hh3:A.in1.in1.in1.handled=none:=(by simp[hh]);have hneI:l≠(s.heap.push (jo led)).objs.size:=(by rw[Ni];exact JX (KN hlS));have hSf:s.heap.objs.size∉[(s.heap.push (jo led)).objs.size,l]:=by
     rw[Ni];simp only[Mo,Mm,Mp,or_false,not_or];exact⟨JX (MI _),J9 hlS⟩
    have lt0:∀j,j<its.size->(kb j).2<s.heap.objs.size/\(bQ prog w).is s.heap (kb j).1 (kb j).2:=λj hj=>by
     obtain⟨_,q2⟩:=hv j its[j] (Array.getElem?_eq_getElem hj);obtain⟨o,items,n,q3,_⟩:=id q2;exact⟨M8 q3,q2⟩
    refine vV ((Walks.list hh3 _ l hneI its).toS) s.heap.objs.size hSf kb (λi v _ e=>(hv i v e).1) (λj hj=>?hne) hb (by first|(show A.units+1+1+1<Ov;omega)|(show A.units+1+1+1+1<Ov;omega)|(show A.units+1+1<Ov;omega)) (its.size-0) 0 _ `o (KH _) ⟨⟨_,Ng _ rfl,rfl,rfl⟩,(hl1.push _)⟩ (λj hj=>sd (lt0 j hj).2 λo e=>Nf _ (Nf _ e)) [] ?hS0 ⟨Ka _,λx hx=>(nomatch hx),λj hj=>absurd hj (Mj _)⟩ ?hR
    case hne=>
     have:=(lt0 j hj).1
     rw[Ni];simp only[Mo,Mm,Mp,or_false,not_or];exact⟨JX this,JX (KN this)⟩
    case hS0=>
     exact⟨_,#[],0,.fresh 0 0 led,Nf _ hS,⟨rfl,rfl,rfl⟩,rfl,⟨⟨.inl rfl,rfl,List.Pairwise.nil,λj hj=>(nomatch hj),by show 0*5<7*3;decide⟩,rfl,rfl,λx hx=>(nomatch hx),KI,λx hx=>(nomatch hx)⟩,hled.symm⟩
    case hR=>
     intro s' L hm hS' ha;obtain⟨h',g',d',tk',os'⟩:=s';have eg:g'=s.gens:=hm.gens;have ed:d'=s.drawn:=hm.drawn;have eo:os'=s.os:=hm.os;subst eg;subst ed;subst eo;show N7 _ _ _ _ _ _;refine Oi ?_;show N7 _ _ (ret Value.none) _ _ _;refine Oi ⟨rfl,h',tk',L,rfl,hS',ha,λb o hb e=>?_⟩;have hb1:b≠s.heap.objs.size:=JX hb;have hb2:b≠(s.heap.push (jo led)).objs.size:=(by rw[Ni];exact JX (KN hb));refine hm.heap b o ?_ (Nf _ (Nf _ e));simp only[Mo,Mm,Mp,or_false,not_or];exact⟨hb1,hb2⟩
   ·cases r₂ with
    |error e=>exact hr₂
    |ok fl₂=>
     cases fl₂ with
     |ret r=>
      obtain⟨rfl,h',tk,L,rfl,hS',ha,hk'⟩:=hr₂
      repeat (any_goals (first|assumption|wp_step))
      exact h _ _ L hS' ha hk'
     |_=>exact hr₂.elim
  |_=>exact hr.elim
end
end TG
namespace TG
open PySem PySem.Spec PySem.SetTable PySem.Calls L2
section
variable{prog:NV}{w:NU}{A:N4}{E:az}
theorem xh{s:NT}{src:Source}{n:Nat}{Q:Nat->bn}(hn:n≠0)(h:Q (w.draws src (s.drawn.get src)%n) {s with drawn:=s.drawn.bump src}):N7 `g A (choose src n) Q E s:=λ_ _ _=>by
 show Sem.wp _ _ (.choose src n .pure) _ _ _ _;rw[Sem.wp_choose];exact⟨hn,by simpa using(show Q ((model prog w).w.draws src (s.drawn.get src)%n) {s with drawn:=s.drawn.bump src}from h)⟩
theorem vt{α:Type}{l:List α}{i:Nat}(h:i<l.length):(l[i]::l.eraseIdx i).Perm l:=by
 rw[Mu]
 have:=List.perm_middle (a:=l[i]) (l₁:=l.take i) (l₂:=l.drop (i+1))
 rw[<-Lg h,LL]at this;exact this.symm
theorem vA{α:Type}:∀(n:Nat)(xs:List α)(s:NT),xs.length=n->∃ys d',ys.Perm xs/\∀(E:az)(Q:List α->bn),Q ys {s with drawn:=d'}->N7 `g A (drawOrder n xs) Q E s
 |0,xs,s,h=>⟨[],s.drawn,by rw[List.length_eq_zero_iff.mp h],λ_ Q q=>by
  unfold drawOrder;exact Oi q⟩
 |n+1,[],s,h=>by cases h
 |n+1,x::xs,s,h=>by
  have hl:(x::xs).length≠0:=by simp
  have hi:w.draws .order (s.drawn.get .order)%(x::xs).length<(x::xs).length:=MC _ `o;obtain⟨ys,d',p,q⟩:=vA n ((x::xs).eraseIdx (w.draws .order (s.drawn.get .order)%(x::xs).length)) {s with drawn:=s.drawn.bump .order} (by rw[MJ hi,h];rfl);refine⟨(x::xs)[w.draws .order (s.drawn.get .order)%(x::xs).length]::ys,d',(p.cons _).trans (vt hi),λE Q hQ=>?_⟩;rw[drawOrder]
  ·refine Oj (xh hl ?_);rw[KY hi];dsimp only;exact Oj (q _ _ (Oi hQ))
  ·simp
theorem uy{α:Type}(next:Nat->Nat):∀(fuel k:Nat)(left:List α)(out:Array α),left.length<=fuel->(pickOrder.go next fuel k left out).toList.Perm (out.toList++left)
 |0,k,left,out,h=>by
  rw[List.length_eq_zero_iff.mp (Nat.le_zero.mp h),Kc];exact .refl _
 |fuel+1,k,left,out,h=>by
  rw[pickOrder.go];cases e:left[next k%left.length]? with
  |none=>
   have:left=[]:=Classical.byContradiction λz=>by
    have:next k%left.length<left.length:=MC _ (List.length_pos_iff.mpr z)
    rw[KY this]at e;cases e
   rw[this,Kc]
  |some x=>
   obtain⟨hi,ex⟩:=List.getElem?_eq_some_iff.mp e;have ih:=uy next fuel (k+1) (left.eraseIdx (next k%left.length)) (out.push x) (by rw[MJ hi];omega)
   rw[Array.toList_push,Li]at ih;refine ih.trans (List.Perm.append_left _ ?_);rw[<-ex];exact vt hi
theorem oK{α:Type}(next:Nat->Nat)(xs:Array α):(pickOrder next xs).toList.Perm xs.toList:=by
 have:=uy next xs.size 0 xs.toList #[] (by simp)
 rw[show(#[]:Array α).toList++xs.toList=xs.toList from rfl]at this;exact this
end
theorem oQ:entryFor table "set.__iter__"=some Builtin.«frozenset.__iter__»:=entryFor_alias (id':="frozenset.__iter__") (by kernel_rfl) rfl (by decide +kernel) (by kernel_rfl)
theorem fQ:Slot "set_iterator" "__next__" "set_iterator.__next__":=
 .of (owner:="set_iterator") (n:="__next__") (by rw[PB,PD];kernel_rfl) (by decide +kernel) (by decide +kernel) (by decide +kernel) (by first|exact .inl (by decide +kernel)|exact .inr (by decide +kernel)) (by rw[Qa];kernel_rfl)
theorem lW:entryFor table "set_iterator.__next__"=some Builtin.«set_iterator.__next__»:=entryFor_of_tree (by kernel_rfl)
theorem mx(a:NN):argsOk "set_iterator.__next__" ⟨[a],[]⟩:=by
 unfold argsOk;kernel_rfl
noncomputable abbrev vh(first:NN)(i:Nat)(S:NQ)(n ep:Nat):Obj:={cls:=.type "set_iterator",data:=.fields #[first,.int i 0,.ref S,.int n 0,.int ep 0]}
section
variable{prog:NV}{w:NU}{A:N4}{E:az}{s:NT}
theorem yJ{S:NQ}{o:Obj}{es:Array (Int×NN)}{ep:Nat}{t:P7}{Q:az}(ho:s.heap.get? S=some o)(hx:o.ExactSet)(hd:o.data=.set es ep t)(hf:t.fits es.size=true)
  (hn:(w.params.followText "set-order"||!(!t.plain&&decide (es.size>1)))=true) (h:Q (.ref s.heap.objs.size) {s with heap:=s.heap.push (vh (.int 0 0) 0 S es.size ep)}):N7 `g A (pyIter (.ref S)) Q E s:=by
 have hT:s.TypeIs (.ref S) "set":=⟨o,ho,hx.1⟩
 refine PN hT F.slot_set_iter (OL F.slot_set_iter hT oQ ?_ (F.args_set_iter_1 _));unfold Builtin.«frozenset.__iter__»;refine Oj ?_;unfold Builtin.Frozenset.slot0;show N7 _ _ (pure S) _ _ s;refine Oi ?_;unfold Builtin.Frozenset.sizeOf;refine Oj (Oj (Qb ho hd hf (Oi ?_)));unfold setDrawn;refine Oj (Oj (P8 ho hd hf ?_));dsimp only;unfold setsByText;refine Oj (Oj (P9 (Oi (Oi ?_))));dsimp only;split
 ·rename_i hc;have hc:(!w.params.followText "set-order"&&(!t.plain&&decide (es.size>1)))=true:=hc;exfalso;revert hn hc;cases w.params.followText "set-order"<;>cases(!t.plain&&decide (es.size>1))<;>decide
 ·refine Oj (Oi ?_);refine Oj (wpAny_setEpoch_of ho hd hf ?_);unfold newFields;refine Oj (OO (Oi ⟨_,rfl,"set_iterator",_,⟨_,Ng _ rfl,rfl⟩,fQ.lookup,?_⟩));exact h
theorem yg{S:NQ}{o:Obj}{es:Array (Int×NN)}{ep:Nat}{t:P7}(ho:s.heap.get? S=some o)(hx:o.ExactSet)(hd:o.data=.set es ep t)(hf:t.fits es.size=true)(hz:es.size<=1000)
  (hn:(w.params.followText "set-order"||!(!t.plain&&decide (es.size>1)))=false):∃(ys:aR)(d':Drawn),ys.Perm (List.range es.size)/\∀(E:az)(Q:az),Q (.ref (s.heap.objs.size+1)) {s with heap:=(s.heap.push {cls:=.type "tuple",data:=.seq (ys.map λ(i:Nat)=>Value.int i 0).toArray}).push (vh (.ref s.heap.objs.size) 0 S es.size ep),drawn:=d'}->N7 `g A (pyIter (.ref S)) Q E s:=by
 obtain⟨ys,d',p,q⟩:=vA (prog:=prog) (w:=w) (A:=A.in1) es.size (List.range es.size) s Lb;refine⟨ys,d',p,λE Q h=>?_⟩;have hT:s.TypeIs (.ref S) "set":=⟨o,ho,hx.1⟩
 refine PN hT F.slot_set_iter (OL F.slot_set_iter hT oQ ?_ (F.args_set_iter_1 _));unfold Builtin.«frozenset.__iter__»;refine Oj ?_;unfold Builtin.Frozenset.slot0;show N7 _ _ (pure S) _ _ s;refine Oi ?_;unfold Builtin.Frozenset.sizeOf;refine Oj (Oj (Qb ho hd hf (Oi ?_)));unfold setDrawn;refine Oj (Oj (P8 ho hd hf ?_));dsimp only;unfold setsByText;refine Oj (Oj (P9 (Oi (Oi ?_))));dsimp only;split
 ·refine Oj (q _ _ ?_);unfold newTuple;refine Oj (OO ?_ (by show(List.map _ ys).toArray.size<=NY;rw[Ot,Ko,Km];have:=p.length_eq;rw[Lb]at this;omega));refine Oj (wpAny_setEpoch_of (s:={s with heap:=s.heap.push _,drawn:=d'}) (Nf _ ho) hd hf ?_);unfold newFields;refine Oj (OO (Oi ⟨_,rfl,"set_iterator",_,⟨_,Ng _ rfl,rfl⟩,fQ.lookup,?_⟩));have e:(s.heap.push {cls:=.type "tuple",dict:=none,data:=.seq (ys.map λ(i:Nat)=>Value.int i 0).toArray}).objs.size=s.heap.objs.size+1:=Ni ..
  rw[<-e]at h;exact h
 ·rename_i hc;have hc:¬(!w.params.followText "set-order"&&(!t.plain&&decide (es.size>1)))=true:=hc;exfalso;revert hn hc;cases w.params.followText "set-order"<;>cases(!t.plain&&decide (es.size>1))<;>decide
end
section
variable{prog:NV}{w:NU}{A:N4}{E:az}{s:NT}
theorem d9{s:NT}{I:NQ}{first:NN}{i:Nat}{S:NQ}{n ep:Nat}(h:s.heap.get? I=some (vh first i S n ep)):s.TypeIs (.ref I) "set_iterator":=⟨_,h,rfl⟩
theorem o9{I S:NQ}{o:Obj}{es:Array (Int×NN)}{ep:Nat}{t:P7}{slot i:Nat}{Q:gx->bn}(hi:s.heap.get? I=some (vh (.int slot 0) i S es.size ep))(ho:s.heap.get? S=some o)(hd:o.data=.set es ep t)(hf:t.fits es.size=true)
  {x:NN} {nx:Nat} (hx:∀(E':az)(Q':Option (NN×Nat)->bn),Q' (some (x,nx)) s->N7 `g A.in1 (setNext S slot i ep) Q' E' s)
  (h:∀h',h'.get? I=some (vh (.int nx 0) (i+1) S es.size ep)->Nc I s.heap h'->Q (some x) {s with heap:=h'}):N7 `g A (pyNext (.ref I)) Q E s:=by
 unfold pyNext;refine Oj (Pp (OJ (name:=Str.ofString "__next__") (d9 hi) fQ (OL fQ (d9 hi) lW ?_ (mx _))));unfold Builtin.«set_iterator.__next__»;refine Oj (Oi ?_);dsimp only;refine Oj (PX hi rfl ?_);dsimp only;refine Oj (Qb ho hd hf ?_);rw[if_neg (by simp)];simp only[Kp];refine Oj (hx _ _ ?_);dsimp only;refine Oj (PY hi rfl (by simp) ?_);have u1:(s.heap.update I (Obj.mapFields (·.setIfInBounds 0 (rawInt (nx:Int))))).get? I=some (vh (.int nx 0) i S es.size ep):=(Np _ hi rfl).trans rfl;refine Oj (PY (s:={s with heap:=s.heap.update I (Obj.mapFields (·.setIfInBounds 0 (rawInt (nx:Int))))}) u1 rfl (by simp) ?_);exact Oi ⟨_,rfl,Oi (h _ ((Np _ u1 rfl).trans rfl) ((Heap.SameBut.update ..).trans (Heap.SameBut.update ..)))⟩
theorem tI{I S T:NQ}{o oT:Obj}{es:Array (Int×NN)}{ep:Nat}{t:P7}{i m:Nat}{pl:cw}{c:Nat}{Q:gx->bn}(hi:s.heap.get? I=some (vh (.ref T) i S es.size ep))(ho:s.heap.get? S=some o)(hd:o.data=.set es ep t)(hf:t.fits es.size=true)
  (hT:s.heap.get? T=some oT) (hdT:oT.data=.seq pl c) (hp:pl[i]?=some (.int m 0)) {e:Int×NN} (he:es[m]?=some e)
  (h:∀h',h'.get? I=some (vh (.ref T) (i+1) S es.size ep)->Nc I s.heap h'->Q (some e.2) {s with heap:=h'}):N7 `g A (pyNext (.ref I)) Q E s:=by
 unfold pyNext;refine Oj (Pp (OJ (name:=Str.ofString "__next__") (d9 hi) fQ (OL fQ (d9 hi) lW ?_ (mx _))));unfold Builtin.«set_iterator.__next__»;refine Oj (Oi ?_);dsimp only;refine Oj (PX hi rfl ?_);dsimp only;refine Oj (Qb ho hd hf ?_);rw[if_neg (by simp)];unfold seqItems?;refine Oj (Oj (Ol hT ?_));rw[hdT];refine Oi ?_;dsimp only;simp only[Kp];rw[hp];dsimp only;unfold setNextDrawn;simp only[Kp];refine Oj (Oj (P8 ho hd hf ?_));dsimp only;rw[if_neg (by simp),he];refine Oi ?_
 try dsimp only
 refine Oj (PY hi rfl (by simp) ?_);exact Oi ⟨_,rfl,Oi (h _ ((Np _ hi rfl).trans rfl) (Heap.SameBut.update ..))⟩
theorem sR{I S:NQ}{first:NN}{o:Obj}{es:Array (Int×NN)}{ep:Nat}{t:P7}{i:Nat}{Q:gx->bn}(hh:A.handled=none)(hi:s.heap.get? I=some (vh first i S es.size ep))(ho:s.heap.get? S=some o)(hd:o.data=.set es ep t)(hf:t.fits es.size=true)
  (hend:(∃slot:Nat,first=.int slot 0/\∀(E':az)(Q':Option (NN×Nat)->bn),Q' none s->N7 `g A.in1 (setNext S slot i ep) Q' E' s)\/∃T oT pl c,first=.ref T/\s.heap.get? T=some oT/\oT.data=.seq pl c/\pl[i]?=none)
  (h:∀h',Nq I s.heap h'->Q none {s with heap:=h'}):N7 `g A (pyNext (.ref I)) Q E s:=by
 unfold pyNext;refine Oj (Pp (OJ (name:=Str.ofString "__next__") (d9 hi) fQ (OL fQ (d9 hi) lW ?_ (mx _))));unfold Builtin.«set_iterator.__next__»;refine Oj (Oi ?_);dsimp only;refine Oj (PX hi rfl ?_);dsimp only;refine Oj (Qb ho hd hf ?_);rw[if_neg (by simp)];have stop:∀(h1:NX),Nc I s.heap h1->N7 `g A.in1 (do
   let __do_lift<-newExc (Value.type "StopIteration") []
   raiseNew __do_lift) (λfin s'=>∃v,fin=Fin.done (Flow.ret v)/\N7 `g A (pure (some v)) Q E s')
   (fun e s'=>N7 `g A (do
     let __do_lift<-isInstance e (Value.type "StopIteration")
     if __do_lift=true then pure none else throw e) Q E s') {s with heap:=h1}:=λh1 sb=>by
  refine Oj ?_;simp only[newExc,newTuple];refine Oj (OO ?_ (by size_fits));refine Oj (m:=firstArgMember _ _) (PZ (a:=Value.none) (by first|rfl|(simp only[firstArgMember];rfl)) ?_);refine OO ?_ (by size_fits);simp only[raiseNew];refine Oj (P0 ?_);rw[show A.in1.handled=none from hh];refine Oj (Oi (wpAny_throw ?_));refine Oj (PF (T:="StopIteration") (b:=true) ⟨_,Ng _ rfl,rfl⟩ P1 ?_);exact Oi (h _ ((sb.extBut.push _).push _))
 rcases hend with⟨slot,rfl,hx⟩|⟨T,oT,pl,c,rfl,hT,hdT,hp⟩
 ·dsimp only;simp only[Kp];refine Oj (hx _ _ ?_);dsimp only;refine Oj (PY hi rfl (by simp) ?_);exact stop _ (Heap.SameBut.update ..)
 ·dsimp only;unfold seqItems?;refine Oj (Oj (Ol hT ?_));rw[hdT];refine Oi ?_;dsimp only;simp only[Kp];rw[hp];dsimp only;refine Oj (PY hi rfl (by simp) ?_);have u1:(s.heap.update I (Obj.mapFields (·.setIfInBounds 0 (rawInt 0)))).get? I=some (vh (.int 0 0) i S es.size ep):=(Np _ hi rfl).trans rfl;refine Oj (PY (s:={s with heap:=s.heap.update I (Obj.mapFields (·.setIfInBounds 0 (rawInt 0)))}) u1 rfl (by simp) ?_);exact stop _ ((Heap.SameBut.update ..).trans (Heap.SameBut.update ..))
end
theorem rH:Slot "set_iterator" "__iter__" "set_iterator.__iter__":=
 .of (owner:="set_iterator") (n:="__iter__") (by rw[PB,PD];kernel_rfl) (by decide +kernel) (by decide +kernel) (by decide +kernel) (by first|exact .inl (by decide +kernel)|exact .inr (by decide +kernel)) (by rw[Qa];kernel_rfl)
theorem vS:entryFor table "set_iterator.__iter__"=some Builtin.«dict_keyiterator.__iter__»:=entryFor_alias (id':="dict_keyiterator.__iter__") (by kernel_rfl) rfl (by decide +kernel) (by kernel_rfl)
theorem xQ(a:NN):argsOk "set_iterator.__iter__" ⟨[a],[]⟩:=by
 unfold argsOk;kernel_rfl
section
variable{prog:NV}{w:NU}{A:N4}{E:az}{s:NT}
theorem vE{S:NQ}{o:Obj}{es:Array (Int×NN)}{ep:Nat}{t:P7}{slot i:Nat}{Q:Option (NN×Nat)->bn}(ho:s.heap.get? S=some o)(hd:o.data=.set es ep t)(hf:t.fits es.size=true)(hb:w.params.followText "set-order"=true)
  (h:Q (((pickOrder (w.params.setOrder S ep) es)[i]?).map λe=>(e.2,slot)) s):N7 `g A (setNext S slot i ep) Q E s:=by
 unfold setNext;refine Oj (P8 ho hd hf ?_);dsimp only;unfold setsByText;refine Oj (Oj (P9 (Oi ?_)));dsimp only;rw[show(model prog w).w.params.followText "set-order"=true from hb,if_pos rfl,if_neg (by simp)];unfold setWalk;refine Oj (Oj (P8 ho hd hf ?_));dsimp only;unfold setsByText;refine Oj (Oj (P9 (Oi ?_)));dsimp only;rw[show(model prog w).w.params.followText "set-order"=true from hb,if_pos rfl];refine Oj (P9 (Oi ?_));exact Oi h
theorem uZ{S:NQ}{o:Obj}{es:Array (Int×NN)}{ep:Nat}{t:P7}{slot i:Nat}{Q:Option (NN×Nat)->bn}(ho:s.heap.get? S=some o)(hd:o.data=.set es ep t)(hf:t.fits es.size=true)(hb:w.params.followText "set-order"=false)(hdr:(!t.plain&&decide (es.size>1))=false)(hl:t.led=true)
  (h:Q (match es[below t.place slot]?,t.place[below t.place slot]? with
   |some (_,x),some j=>some (x,j+1)
   |_,_=>none) s):N7 `g A (setNext S slot i ep) Q E s:=by
 unfold setNext;refine Oj (P8 ho hd hf ?_);dsimp only;unfold setsByText;refine Oj (Oj (P9 (Oi ?_)));dsimp only;rw[show(model prog w).w.params.followText "set-order"=false from hb,if_neg J8];split
 ·rename_i hc;have hc:(!t.plain&&decide (es.size>1))=true:=hc;rw[hdr]at hc;cases hc
 ·refine Oj ?_;show N7 _ _ (if(!t.led&&!es.isEmpty)=true then _ else pure ()) _ _ _;rw[hl,if_neg (by simp)];exact Oi (Oi h)
structure Gv(prog:NV)(w:NU)(A:N4)(s:NT)(S:NQ)(es:Array (Int×NN)):Prop where
 go:∃(ord:List (Int×NN))(d':Drawn)(h2:NX)(I:NQ)(fp:ak)(St:Nat->NX->Prop),ord.Perm es.toList/\(∀b o',s.heap.get? b=some o'->h2.get? b=some o')/\s.heap.objs.size<=I/\(∀b∈fp,b=S\/s.heap.objs.size<=b)/\
  (∀(E:az)(Q:az),Q (.ref I) {s with heap:=h2,drawn:=d'}->N7 `g A (pyIter (.ref S)) Q E s)/\
  Walks prog w A I fp [I] es.size (λi v=>(ord[i]?).map (·.2)=some v) St/\St 0 h2
theorem qm{I S:NQ}{first:NN}{i n ep:Nat}{Q:az}(hi:s.heap.get? I=some (vh first i S n ep))(h:Q (.ref I) s):N7 `g A (pyIter (.ref I)) Q E s:=by
 refine PN (d9 hi) rH (OL rH (d9 hi) vS ?_ (xQ _));show N7 _ _ (ret (.ref I)) _ _ s;exact Oi ⟨_,rfl,"set_iterator",_,d9 hi,fQ.lookup,h⟩
theorem EF{S:NQ}{o:Obj}{es:Array (Int×NN)}{ep:Nat}{t:P7}(hh:A.handled=none)(ho:s.heap.get? S=some o)(hx:o.ExactSet)(hd:o.data=.set es ep t)(T:Tt t)(hf:t.fits es.size=true)(led:t.led=!w.params.followText "set-order")(hz:es.size<=1000):Gv prog w A s S es:=by
 have hS:=M8 ho;have szp:t.place.size=es.size:=by
  unfold SetTable.fits at hf;rw[Kr]at hf;exact eq_of_beq hf.1
 have nI:S≠s.heap.objs.size:=JX hS;cases hb:w.params.followText "set-order"with
 |true=>
  have sz:(pickOrder (w.params.setOrder S ep) es).size=es.size:=by
   have:=(oK (w.params.setOrder S ep) es).length_eq
   rwa [Array.length_toList,Array.length_toList]at this
  refine⟨(pickOrder (w.params.setOrder S ep) es).toList,s.drawn,_,s.heap.objs.size,[s.heap.objs.size,S],λi h=>h.get? s.heap.objs.size=some (vh (.int 0 0) i S es.size ep)/\h.get? S=some o,oK _ es,λb o' e=>Nf _ e,Ka _,λb hb=>?_,λE Q h=>yJ ho hx hd hf (by rw[hb];rfl) h,?_,Ng _ rfl,Nf _ ho⟩
  ·rcases List.mem_cons.mp hb with z|z
   ·exact .inr (Ld z.symm)
   ·exact .inl (List.mem_singleton.mp z)
  ·refine⟨λb hb=>by rw[List.mem_singleton.mp hb];simp,λi h h' st k=>⟨k _ (by simp) _ st.1,k _ (by simp) _ st.2⟩,λi s' Q E hi st hQ=>?_,λs' Q E st hQ=>?_,λi s' Q E st hQ=>qm st.1 hQ⟩
   ·have hi':i<(pickOrder (w.params.setOrder S ep) es).size:=(by omega);refine o9 (slot:=0) (nx:=0) (x:=(pickOrder (w.params.setOrder S ep) es)[i].2) st.1 st.2 hd hf (λE' Q' q=>vE st.2 hd hf hb (by rw[Array.getElem?_eq_getElem hi'];exact q)) λh' e1 sb=>hQ _ h' s'.toks ?_ ⟨e1,(sb.2 S nI).trans st.2⟩ λb o' hb' e=>(sb.2 b λz=>hb' (by rw[z];simp)).trans e;rw[Array.getElem?_toList,Array.getElem?_eq_getElem hi'];rfl
   ·refine sR hh st.1 st.2 hd hf (.inl ⟨0,rfl,λE' Q' q=>vE st.2 hd hf hb (by rw[Array.getElem?_eq_none `o];exact q)⟩) λh' eb=>hQ h' s'.toks λb o' hb' e=>eb b o' (λz=>hb' (by rw[z];simp)) e
 |false=>
  have lt:t.led=true:=by rw[led,hb];rfl
  cases hdr:(!t.plain&&decide (es.size>1))with
  |false=>
   have sl:∀i,i<=es.size->below t.place (if i=0 then 0 else(t.place.getD (i-1) 0)+1)=i:=λi hi=>by
    obtain⟨b1,b2,b3⟩:=mR T.up (if i=0 then 0 else(t.place.getD (i-1) 0)+1);have mono:∀(a b:Nat)(ha:a<t.place.size)(hb:b<t.place.size),a<b->t.place[a]<t.place[b]:=λa b ha hb hab=>by
     have:=List.pairwise_iff_getElem.mp T.up a b (by simpa using ha) (by simpa using hb) hab
     simpa only[Array.getElem_toList]using this
    by_cases z:i=0
    ·rw[if_pos z]at b1 b2 b3 ⊢;refine Classical.byContradiction λne=>?_
     have:=b2 0 `o `o
     omega
    ·rw[if_neg z]at b1 b2 b3 ⊢;have hp:i-1<t.place.size:=(by omega);rw[getD_at 0 hp]at b1 b2 b3 ⊢;refine Classical.byContradiction λne=>?_;by_cases c:below t.place (t.place[i-1]+1)<i
     ·have:=b3 (i-1) hp `o
      omega
     ·have hi2:i<t.place.size:=by omega
      have:=b2 i hi2 `o
      have:=mono (i-1) i hp hi2 `o
      omega
   refine⟨es.toList,s.drawn,_,s.heap.objs.size,[s.heap.objs.size,S],λi h=>h.get? s.heap.objs.size=some (vh (.int ((if i=0 then 0 else(t.place.getD (i-1) 0)+1:Nat):Int) 0) i S es.size ep)/\h.get? S=some o,.refl _,λb o' e=>Nf _ e,Ka _,λb hb=>?_,λE Q h=>yJ ho hx hd hf (by rw[hb,hdr];rfl) h,?_,Ng _ rfl,Nf _ ho⟩
   ·rcases List.mem_cons.mp hb with z|z
    ·exact .inr (Ld z.symm)
    ·exact .inl (List.mem_singleton.mp z)
   ·refine⟨λb hb=>by rw[List.mem_singleton.mp hb];simp,λi h h' st k=>⟨k _ (by simp) _ st.1,k _ (by simp) _ st.2⟩,λi s' Q E hi st hQ=>?_,λs' Q E st hQ=>?_,λi s' Q E st hQ=>qm st.1 hQ⟩
    ·have hi':i<t.place.size:=(by omega);refine o9 (nx:=t.place[i]+1) (x:=es[i].2) st.1 st.2 hd hf (λE' Q' q=>uZ st.2 hd hf hb hdr lt ?_) λh' e1 sb=>hQ _ h' s'.toks ?_ ⟨?_,(sb.2 S nI).trans st.2⟩ λb o' hb' e=>(sb.2 b λz=>hb' (by rw[z];simp)).trans e
     ·rw[sl i `o,Array.getElem?_eq_getElem hi,Array.getElem?_eq_getElem hi'];exact q
     ·rw[Array.getElem?_toList,Array.getElem?_eq_getElem hi];rfl
     ·rw[if_neg `o,Nat.add_sub_cancel,getD_at 0 hi'];exact e1
    ·refine sR hh st.1 st.2 hd hf (.inl ⟨_,rfl,λE' Q' q=>uZ st.2 hd hf hb hdr lt ?_⟩) λh' eb=>hQ h' s'.toks λb o' hb' e=>eb b o' (λz=>hb' (by rw[z];simp)) e;rw[sl es.size (Ka _),Array.getElem?_eq_none (Ka _)];exact q
  |true=>
   obtain⟨ys,d',p,q⟩:=yg (A:=A) ho hx hd hf hz (by rw[hb,hdr];rfl);have yl:ys.length=es.size:=(by have:=p.length_eq;rwa [Lb]at this);have ylt:∀(i:Nat)(hi:i<ys.length),ys[i]<es.size:=λi hi=>List.mem_range.mp (p.mem_iff.mp (Ly hi));have size2:s.heap.objs.size+1=(s.heap.push {cls:=.type "tuple",data:=.seq (ys.map λ(i:Nat)=>Value.int i 0).toArray}).objs.size:=(Ni ..).symm;refine⟨ys.map λi=>es.getD i (0,.none),d',_,s.heap.objs.size+1,[s.heap.objs.size+1,S,s.heap.objs.size],λi h=>h.get? (s.heap.objs.size+1)=some (vh (.ref s.heap.objs.size) i S es.size ep)/\h.get? S=some o/\h.get? s.heap.objs.size=some {cls:=.type "tuple",data:=.seq (ys.map λ(i:Nat)=>Value.int i 0).toArray},?_,λb o' e=>Nf _ (Nf _ e),KO _,λb hb=>?_,q,?_,?_,Nf _ (Nf _ ho),Nf _ (Ng _ rfl)⟩
   ·have:=p.map λi=>es.getD i (0,.none)
    refine this.trans (List.Perm.of_eq ?_);refine Mb λi=>?_;rw[Ki,show es.toList[i]?=es[i]? from Array.getElem?_toList ..];by_cases c:i<es.size
    ·rw[Le c,Array.getElem?_eq_getElem c];show some (es.getD i (0,.none))=_;rw[Array.getD_eq_getD_getElem?,Array.getElem?_eq_getElem c];rfl
    ·rw[Ml (l:=List.range es.size) (by rw[Lb];omega),Array.getElem?_eq_none `o];rfl
   ·rcases List.mem_cons.mp hb with z|hb
    ·exact .inr (by rw[z];exact KO _)
    ·rcases List.mem_cons.mp hb with z|hb
     ·exact .inl z
     ·exact .inr (Ld (List.mem_singleton.mp hb).symm)
   ·refine⟨λb hb=>by rw[List.mem_singleton.mp hb];simp,λi h h' st k=>⟨k _ (by simp) _ st.1,k _ (by simp) _ st.2.1,k _ (by simp) _ st.2.2⟩,λi s' Q E hi st hQ=>?_,λs' Q E st hQ=>?_,λi s' Q E st hQ=>qm st.1 hQ⟩
    ·have hi':i<ys.length:=(by omega);have hm:=ylt i hi';refine tI (m:=ys[i]) (e:=es[ys[i]]) st.1 st.2.1 hd hf st.2.2 rfl (by rw[MK,Ki,KY hi'];rfl) (Array.getElem?_eq_getElem hm) λh' e1 sb=>hQ _ h' s'.toks ?_ ⟨e1,(sb.2 S (JX (KN hS))).trans st.2.1,(sb.2 s.heap.objs.size (JX (MI _))).trans st.2.2⟩ λb o' hb' e=>(sb.2 b λz=>hb' (by rw[z];simp)).trans e;rw[Ki,KY hi'];show some (es.getD ys[i] (0,.none)).2=_;rw[Array.getD_eq_getD_getElem?,Array.getElem?_eq_getElem hm];rfl
    ·refine sR hh st.1 st.2.1 hd hf (.inr ⟨_,_,_,_,rfl,st.2.2,rfl,?_⟩) λh' eb=>hQ h' s'.toks λb o' hb' e=>eb b o' (λz=>hb' (by rw[z];simp)) e;rw[MK,Ml (by rw[Km];omega)]
   ·rw[size2];exact Ng _ rfl
end
open PySem PySem.Spec PySem.SetTable PySem.Calls L2 PySem.W PyProof.Rows
section
variable{prog:NV}{w:NU}{A:N4}{E:az}{s:NT}
theorem zg{S:NQ}{Q:Bool->bn}(hT:s.TypeIs (.ref S) "set")(h:Q false s):N7 `g A (Builtin.List.listLengthHint (.ref S)) Q E s:=by
 unfold Builtin.List.listLengthHint;refine Oj (OY hT PySem.F.slot_set_len.lookup ?_);generalize hid:("set.__len__":String)=id0
 wp_delta
 rw[show splitId id0=some ("set","__len__")from by subst hid;decide +kernel];subst hid;refine Oj (PF (T:="set") (b:=true) hT (by rw[Qa];kernel_rfl) ?_);refine Qc (λz=>absurd z (by decide)) λ_=>Qc (λ_=>?_) λz=>absurd (by decide +kernel) z;exact Oj (OM hT (Oi h))
theorem rZ{S:NQ}{o:Obj}{es:Array (Int×NN)}{ep:Nat}{t:P7}(hh:A.handled=none)(ho:s.heap.get? S=some o)(hx:o.ExactSet)(hd:o.data=.set es ep t)(T:Tt t)(hf:t.fits es.size=true)(led:t.led=!w.params.followText "set-order")(hz:es.size<=1000):
    ∃(its:aE)(d':Drawn),its.Perm (es.toList.map (·.2))/\∀(E:az)(R:aE->bn),(∀(h':NX)(tk:Nat),(∀b o,s.heap.get? b=some o->h'.get? b=some o)->R its {s with heap:=h',drawn:=d',toks:=tk})->N7 `g A (collect (.ref S)) R E s:=by
  have hlt:=M8 ho;have ho1:(s.heap.push {cls:=.type "list",data:=.seq ([]:aE).toArray}).get? S=some o:=Nf _ ho;obtain⟨ord,d',h2,I,fp,St,pm,kp,hI,hfp,it,W,st0⟩:=(EF (prog:=prog) (w:=w) (A:=A.in1) (s:={s with heap:=s.heap.push {cls:=.type "list",data:=.seq ([]:aE).toArray}}) hh ho1 hx hd T hf led hz).go;refine⟨ord.map (·.2),d',pm.map _,λE R h=>?_⟩;have hsl:NY=16777216:=Ot;have szP:(s.heap.push {cls:=.type "list",data:=.seq ([]:aE).toArray}).objs.size=s.heap.objs.size+1:=Ni ..
  have hSL:s.heap.objs.size≠S:=J9 hlt;have hLf:s.heap.objs.size∉fp:=λz=>by
    rcases hfp _ z with q|q
    ·exact hSL q
    ·rw[szP]at q;exact absurd q (Nat.not_succ_le_self _)
  unfold collect;refine Oj (wpAny_runValue (PH entry_proto_collect' ?_));rw[Around.under_plainId PySem.F.plain_proto_collect _];show N7 _ A.in1 (newList [] >>= λl=>again (.builtin "list.__iadd__" ⟨[l,.ref S],[]⟩)) _ _ s;refine Oj (OO ?_);refine Oi ⟨PJ NK _,PH entry_list_iadd' ?_⟩;rw[Around.under_plainId NK _];have hL0:(s.heap.push {cls:=.type "list",data:=.seq ([]:aE).toArray}).get? s.heap.objs.size=some {cls:=.type "list",data:=.seq #[]}:=Ng _ rfl;have fin:∀(RR:Result->bn),(∀(h':NX)(tk:Nat)(acc:cw)(c:Nat),h'.get? s.heap.objs.size=some {cls:=.type "list",dict:=none,data:=.seq acc c,slots:=#[]}->acc.toList=ord.map (·.2)->(∀b o,s.heap.get? b=some o->h'.get? b=some o)->RR (.ok (.ret (.ref s.heap.objs.size))) {s with heap:=h',drawn:=d',toks:=tk})->∀(hp:NX)(c tk:Nat),St 0 hp->(∀b o,b≠s.heap.objs.size->(s.heap.push {cls:=.type "list",data:=.seq ([]:aE).toArray}).get? b=some o->hp.get? b=some o)->hp.get? s.heap.objs.size=some {cls:=.type "list",data:=.seq #[] c}->
      Oy `g A (.builtin "list.extend.loop" ⟨[.ref s.heap.objs.size,.ref I,.ref s.heap.objs.size],[]⟩) RR {s with heap:=hp,drawn:=d',toks:=tk}:=λRR hRR hp c tk st kh hL=>by
    refine codeAny_extend_loopS W.toS `o s.heap.objs.size hLf (.ref s.heap.objs.size) es.size 0 _ #[] c rfl (KH _) st hL (ItemsOf.nil _) λs' acc' c' hm hL' hacc=>?_;have ea:acc'.toList=ord.map (·.2):=by
      have ol:ord.length=es.size:=(by have:=pm.length_eq;rwa [Array.length_toList]at this);refine Mb λi=>?_;rw[Array.getElem?_toList,Ki];by_cases c:i<acc'.size
      · have:=hacc.2 i acc'[i] (Array.getElem?_eq_getElem c)
        rw[this,Array.getElem?_eq_getElem c]
      · have:=hacc.1
        rw[Array.getElem?_eq_none `o,Ml `o];rfl
    rw[Moved.eq_with hm];exact hRR s'.heap s'.toks acc' c' hL' ea λb ob e=>hm.heap b ob (λz=>by
      rcases List.mem_cons.mp z with z|z
      ·exact absurd (M8 e) (by rw[z];exact JW _)
      · have:=List.mem_singleton.mp z
        rw[szP]at hI;exact absurd (M8 e) (by rw[this];exact Nat.not_lt.mpr (Nat.le_of_succ_le hI))) (kh b ob (JX (M8 e)) (Nf _ e))
  show N7 _ A.in1 (Builtin.List.listExtendWith (.ref s.heap.objs.size) (.ref S) (.ref s.heap.objs.size)) _ _ _;unfold Builtin.List.listExtendWith;refine Oj (OM (T:="set") ⟨o,ho1,hx.1⟩ ?_);have e1:Builtin.List.listSameRef (.ref s.heap.objs.size) (.ref S)=false:=by simp[Builtin.List.listSameRef,hSL]
  have e2:(Value.type "set"==Value.type "list")=false:=by decide
  have e3:(Value.type "set"==Value.type "tuple")=false:=by decide
  simp only [e1,e2,e3,Bool.or_false,KL,if_false];refine Oj (it _ _ ?_);refine Oj (OI (zg ⟨o,kp _ _ ho1,hx.1⟩ ?_));have last : ∀ (h' : NX) (tk : Nat) (acc : cw) (c : Nat), h'.get? s.heap.objs.size = some { cls := .type "list", dict := none, data := .seq acc c, slots := #[] } -> acc.toList = ord.map (·.2) -> (∀ b o, s.heap.get? b = some o -> h'.get? b = some o) -> N7 `g A (load s.heap.objs.size >>= fun o => match o.data with
          |.seq xs _=>pure xs.toList
          |_=>unsupported "internal:collect") R E {s with heap:=h',drawn:=d',toks:=tk}:=λh' tk acc c q1 q2 q3=>by
    refine Oj (Ol q1 ?_);dsimp only;rw[q2];exact Oi (h h' tk q3)
  have hL1:=kp _ _ hL0;have kp':∀b o,b≠s.heap.objs.size->(s.heap.push {cls:=.type "list",data:=.seq ([]:aE).toArray}).get? b=some o->h2.get? b=some o:=λb o _ e=>kp b o e;refine Qc (λ_=>?_) λ_=>Oi ⟨PJ NM _,fin _ last _ _ _ st0 kp' hL1⟩;refine Oj (O2 (Oj ?_));show N7 _ _ (updateSeq s.heap.objs.size (·.push .none) >>= λ_=>updateSeq s.heap.objs.size (·.pop)) _ _ _;refine Oj (wpAny_updateSeq hL1 rfl ?_);have hL2:=Np (Obj.mapSeq (·.push Value.none)) hL1 rfl;refine wpAny_updateSeq (hz:=by seq_fits) hL2 rfl ?_;have hL3:=Np (Obj.mapSeq (·.pop)) hL2 rfl;refine Oi ⟨PJ NM _,fin _ last _ _ _ ?_ (λb ob hb e=>?_) hL3⟩
  · refine W.frame 0 _ _ st0 λb hb ob e=>?_
    have nb:b≠s.heap.objs.size:=λz=>hLf (by rw[<-z];exact hb);exact(Nh _ _ (Ne.symm nb)).trans ((Nh _ _ (Ne.symm nb)).trans e)
  ·exact(Nh _ _ (Ne.symm hb)).trans ((Nh _ _ (Ne.symm hb)).trans (kp b ob e))
end
end TG
namespace TG
open PySem PySem.Spec L2
variable[aj]
theorem qi{α β:Type}(f:α->β){l l':List β}(h:l.Perm l'):∀L:List α,l'=L.map f->∃M:List α,M.Perm L/\M.map f=l:=by
 induction h with
 |nil=>
  intro L e;exact⟨[],by rw[List.map_eq_nil_iff.mp e.symm],rfl⟩
 |@cons x l1 l2 _ ih=>
  intro L e;cases L with
  |nil=>cases e
  |cons a L=>
   injection e with e1 e2;obtain⟨M,p,q⟩:=ih L e2;exact⟨a::M,p.cons _,by rw[Kw,q,<-e1]⟩
 |swap x y l=>
  intro L e;cases L with
  |nil=>cases e
  |cons a L=>
   cases L with
   |nil=>injection e with _ e;cases e
   |cons b L=>
    injection e with e1 e2;injection e2 with e2 e3;exact⟨b::a::L,.swap ..,by rw[Kw,Kw,<-e1,<-e2,<-e3]⟩
 |trans _ _ ih1 ih2=>
  intro L e;obtain⟨M,p,q⟩:=ih2 L e;obtain⟨M',p',q'⟩:=ih1 M q.symm;exact⟨M',p'.trans p,q'⟩
noncomputable def m7:List D->Option (List ay)
 |[]=>some []
 |d::ds=>(cM d).bind λk=>(m7 ds).map (k::·)
theorem qJ:∀{ds:List D}{ks:List ay},m7 ds=some ks->ds=ks.map λk=>D.tup (k.map aC)
 |[],_,h=>by cases h;rfl
 |d::ds,ks,h=>by
  obtain⟨k,e1,h⟩:=Option.bind_eq_some_iff.mp (show((cM d).bind λk=>(m7 ds).map (k::·))=some ks from h);obtain⟨r,e2,rfl⟩:=Option.map_eq_some_iff.mp h;rw[eT e1,qJ e2];rfl
noncomputable def dd:List (ay)->List (ay)
 |[]=>[]
 |k::ks=>if ks.any (λq=>decide (q=k))then dd ks else k::dd ks
theorem Ht{k:ay}{ks:List ay}:(ks.any λq=>decide (q=k))=true↔k∈ks:=by
 rw[ML];constructor
 ·rintro⟨q,hq,e⟩;rw[<-of_decide_eq_true e];exact hq
 ·intro h;exact⟨k,h,decide_eq_true rfl⟩
theorem qz{k:ay}:∀{ks:List ay},k∈dd ks↔k∈ks
 |[]=>Iff.rfl
 |q::ks=>by
  unfold dd;by_cases c:(ks.any λz=>decide (z=q))=true
  ·rw[if_pos c,qz,Mo];exact⟨.inr,λz=>z.elim (λz=>by rw[z];exact Ht.mp c) id⟩
  ·rw[if_neg c,Mo,qz,Mo]
theorem vL:∀ks:List ay,(dd ks).Nodup
 |[]=>KI
 |q::ks=>by
  unfold dd;by_cases c:(ks.any λz=>decide (z=q))=true
  ·rw[if_pos c];exact vL ks
  ·rw[if_neg c];exact List.nodup_cons.mpr ⟨λz=>c (Ht.mpr (qz.mp z)),vL ks⟩
noncomputable abbrev kT(k:ay):D:=.tup (k.map aC)
open Classical in
noncomputable def fW(d:D):aW:=match d with
 |.lst xs=>(m7 xs).bind λks=>if ks.length<300/\tG ((dd ks).map kT)then some (.lst (aY bq ((dd ks).map kT)))else none
 |_=>none
theorem t4{xs ys:List D}(h:tG xs)(p:ys.Perm xs):i5 ys=some (.lst (aY bq xs)):=by
 obtain⟨h1,σ,h0,h2,h3⟩:=h;have hsh:∀x∈xs,Sh σ (bq x):=λx hx=>by obtain⟨k,e,s⟩:=h2 x hx;rw[e];exact s
 have pw:ys.Pairwise λx y=>bq x≠bq y:=(p.pairwise_iff λ{a b}(h:bq a≠bq b)=>Ne.symm h).mpr h3;have a:tG ys:=⟨by rw[p.length_eq];exact h1,σ,h0,λx hx=>h2 x (p.mem_iff.mp hx),pw⟩
 unfold i5;rw[if_pos a,jp (σ:=σ) (λx hx=>hsh x (p.mem_iff.mp hx)) pw (dr hsh h3) ((av bq xs).trans p.symm)]
end TG
namespace TX
open PySem PySem.Spec L2 TG
variable[aj]
structure XE(X:Cx)(e:NR)(F:FX):Prop where h:FE X e F
structure XT(X:Cx)(e:NR)(F:bg):Prop where h:FT X e F
structure XW(X:Cx)(e:NR)(F:bg):Prop where h:FW X e F
structure XA(X:Cx)(e:bj)(F:aV):Prop where h:FA X e F
structure XS(X:Cx)(e:NS)(F:bB):Prop where h:FS X e F
structure jV(X:Cx)(e:cH)(F:bB):Prop where h:Ic X e F
structure XI(X:Cx)(t e:NR)(F:aV):Prop where h:FI X t e F
structure XG(X:Cx)(e:NR)(F:GF):Prop where h:FG X e F
structure ED(X:Cx)(e:bj)(F:Aw):Prop where h:JN X e F
structure XO(X:Cx)(e:Option NR)(F:ah->R b9):Prop where h:FO X e F
structure XN(X:Cx)(e:NR)(F:FX):Prop where h:FN X e F
structure Gh(X:Cx)(e:bj)(F:bg):Prop where h:IX X e F
structure XV(X:Cx)(e:NR)(i:Nat):Prop where h:PE X e (EL i)
structure XB(X:Cx)(scope:N5)(N:aH)(tg elt:NR)(ifs:bj)(g:GF)(C:bg)(Fe:FX)(cl:jN)(C':NQ)(fp:ak)(s:NT)(H:Hp)(E:az):Prop where
 a:XG (bf X scope N cl C' fp s H E) tg g
 b:Gh (bf X scope N cl C' fp s H E) ifs C
 c:XE (bf X scope N cl C' fp s H E) elt Fe
structure nJ(X:Cx)(scope:N5)(N:aH)(tg elt:NR)(ifs:bj)(g:GF)(C:bg)(Fe:FX):Prop where
 q:∀cl C' fp s H E,XB X scope N tg elt ifs g C Fe cl C' fp s H E
theorem nJ.h{X:Cx}{scope:N5}{N:aH}{tg elt:NR}{ifs:bj}{g:GF}{C:bg}{Fe:FX}(x:nJ X scope N tg elt ifs g C Fe):Jg X scope N tg elt ifs g C Fe:=λcl C' fp s H E=>⟨(x.q cl C' fp s H E).a.h,(x.q cl C' fp s H E).b.h,(x.q cl C' fp s H E).c.h⟩
theorem xv{X:Cx}(i:Nat){x:Str}{pos:Pos}(hN:X.N[i]?=some x:=by rfl)(hv:Eo X.env.scope x:=by first|exact Or.inl rfl|exact Or.inr (Or.inl rfl)|exact Or.inr (Or.inr rfl))(hd:(x==("__debug__":Str))=false:=by decide)
  (hcd:(x==("__classdict__":Str))=false:=by decide):XV X (.Name x pos) i:=⟨pv i hN hv hd hcd⟩
theorem JD{X:Cx}{e:NR}{f:bg}(h:XW X e f):XT X e f:=⟨FW.ft h.h⟩
section
variable[aj]{X:Cx}
theorem Bw{i:Nat}{x:Str}{pos:Pos}(h:XV X (.Name x pos) i):XE X (.Name x pos) (aa i):=⟨PE.weak h.h λσ H Q zq=>zq.elim λO zq=>zq.elim λρ zq=>zq.elim λE hF=>by
  obtain⟨d,e,q⟩:=oZ hF;obtain⟨v,e,dv⟩:=E.val i d e;exact⟨v,e,q v H (aF.refl H) dv⟩⟩
theorem By{i j pos}:XE X (.Constant (.int i) j pos) (fC (.int i)):=⟨jk DM λ_ _=>c6.mpr rfl⟩
theorem EG{b j pos}:XE X (.Constant (.bool b) j pos) (fC (.bl b)):=⟨jk GR λ_ _=>gO.mpr rfl⟩
theorem BE{j pos}:XE X (.Constant .none j pos) (fC .non):=⟨jk E6 λ_ _=>gq.mpr rfl⟩
theorem Bx{x j pos}:XE X (.Constant (.str x) j pos) (fC (.str x)):=⟨jk Fy λ_ _=>c9.mpr rfl⟩
theorem Ba:XA X [] au:=⟨TG.EY ⟩
theorem Aa{e:NR}{es:bj}{f:FX}{g:aV}(he:XE X e f)(hs:XA X es g)(hns:noStar e=true:=by rfl):XA X (e::es) (ae f g):=⟨TG.uF he.h hs.h hns⟩
theorem Bj{es:bj}{g:aV}{k pos}(h:XA X es g):XE X (.Tuple es k pos) (dF g):=⟨PE.weak (EJ h.h) λσ H Q zq=>zq.elim λO zq=>zq.elim λρ zq=>zq.elim λE hF=>⟨O,ρ,E,(gL.bind hF).imp λxs hF vs H1 s1 d1=>by
  obtain⟨d,e,q⟩:=gL.rO hF;obtain⟨hz,e⟩:=bC e;subst e;refine⟨by rw[<-d1.length];exact df hz,λp hp=>?_⟩;exact q _ _ (s1.trans (bh hp _)) (eW (E.all.same s1) hp d1)⟩⟩
theorem A7{es:bj}{g:aV}{pos}(h:XA X es g):XE X (.List es pos) (mE g):=⟨PE.weak (yO h.h) λσ H Q zq=>zq.elim λO zq=>zq.elim λρ zq=>zq.elim λE hF=>⟨O,ρ,E,(gL.bind hF).imp λxs hF vs H1 s1 d1=>by
  obtain⟨d,e,q⟩:=gL.rO hF;obtain⟨hz,e⟩:=bC e;subst e;refine⟨by rw[<-d1.length];exact df hz,λp hp=>?_⟩;exact q _ _ (s1.trans (bh hp _)) (cS (E.all.same s1) hp d1)⟩⟩
theorem ig{a b:NR}{op:Operator}{r:R2}{g:D->D->aW}{fa fb:FX}{pos:Pos}(ho:kf X (Oq op) r)(s:dB X.K r g)(ha:XE X a fa)(hb:XE X b fb):XE X (.BinOp a op b pos) (f2 g fa fb):=⟨PE.weak (GN ho ha.h hb.h) (pU s)⟩
theorem lD{a b:NR}{op:Oc}{r:R2}{g:D->D->aW}{fa fb:FX}{pos:Pos}(ho:kf X (Od op) r)(s:dB X.K r g)(ha:XE X a fa)(hb:XE X b fb)(hm:Oe op b=false):XE X (.Compare a [op] [b] pos) (f2 g fa fb):=⟨PE.weak (AG ho ha.h hb.h hm) (pU s)⟩
theorem lJ{a b:NR}{op:Oc}{r:R2}{g:D->D->aW}{fa fb:FX}{pos:Pos}(ho:kf X (Od op) r)(s:dB X.K r g)(ha:XE X a fa)(hb:XE X b fb)(hm:Oe op b=false):XT X (.Compare a [op] [b] pos) (fB (f2 g fa fb)):=⟨PT.weak (B4 ho ha.h hb.h hm) (sr (pU s))⟩
end
section
variable[aj]{X:Cx}{a b c:NR}{rest:bj}{pos:Pos}{f g:bg}
theorem AU(h:XT X a f):XW X (.BoolOp .Or [a] pos) f:=⟨FD h.h⟩
theorem Fc(ha:XT X a f)(hb:XW X (.BoolOp .Or (b::rest) pos) g):XW X (.BoolOp .Or (a::b::rest) pos) (Bf f g):=⟨PW.weak (GY ha.h hb.h) λσ H Q zq=>zq.elim λO zq=>zq.elim λρ zq=>zq.elim λE hF=>⟨O,ρ,E,(gL.bind hF).imp λc hF H1 s1=>by
 cases c with
 |false=>exact AB ⟨O,ρ,E.same s1,(hF.mono s1).imp λb q H2 s2=>q H2 (s1.trans s2)⟩
 |true=>exact zB (hF H1 s1)⟩⟩
end
section
variable[aj]{X:Cx}
theorem DT{a b:NR}{fa fb:FX}{pos:Pos}(ha:XE X a fa)(hb:XE X b fb)(hs:jx b):XE X (.Subscript a b pos) (f2 aD fa fb):=⟨PE.weak (zT IP ha.h hb.h hs) (pU cP)⟩
theorem zC:XO X none jq:=⟨λpins s σ H Q I zq=>zq.elim λO zq=>zq.elim λρ zq=>zq.elim λE q=>BC pins s σ H Q I (q H (aF.refl H))⟩
theorem yp{e:NR}{f:FX}(h:XE X e f):XO X (some e) (lR f):=⟨λpins s σ H Q I zq=>zq.elim λO zq=>zq.elim λρ zq=>zq.elim λE hF=>
 Ci h.h pins s σ H Q I ⟨O,ρ,E,(gL.bind hF).imp λd hF v H1 s1 d1=>by
  obtain⟨o,e,q⟩:=gL.rO hF;cases d with
  |int i=>
   cases e;exact⟨i,c6.mp d1,q H1 s1⟩
  |_=>cases e⟩⟩
theorem vU{e:NR}{f:FX}{l h:ah->R b9}{lo hi:Option NR}{p2 pos:Pos}(he:XE X e f)(hl:XO X lo l)(hh:XO X hi h):XE X (.Subscript e (.Slice lo hi none p2) pos) (kN f l h):=⟨PE.weak (zy IR he.h hl.h hh.h) λσ H Q zq=>zq.elim λO zq=>zq.elim λρ zq=>zq.elim λE hF=>⟨O,ρ,E,(gL.bind hF).imp λa hF x H1 s1 d1=>⟨O,ρ,E.same s1,((gL.bind hF).mono s1).imp λlo' hF H2 s2=>⟨O,ρ,E.same (s1.trans s2),((gL.bind hF).mono (s1.trans s2)).imp λhi' hF H3 s3=>by
  obtain⟨d,e,q⟩:=gL.rO hF;exact⟨O,a,d,E.all.same ((s1.trans s2).trans s3),d1.mono (aQ (s2.trans s3)),e,λv H4 s4 d4=>q v H4 (((s1.trans s2).trans s3).trans s4) d4⟩⟩⟩⟩⟩
end
section
variable[aj]{X:Cx}{x:Str}{p pos:Pos}{e:NR}{es:bj}{id T:String}{g:List D->aW}{f:aV}
theorem kB(hc:eV X (.builtin id) (CK X.K g))(hg:Gl X x)(hm:X.mg x=none)(hv:N3 x=some (.builtin id))(ha:XA X (e::es) f)(hn:x≠"__name__":=by decide)(hdb:(x==("__debug__":Str))=false:=by decide)(hns:(e::es).all noStar=true:=by rfl):XE X (.Call (.Name x p) (e::es) [] pos) (fL g f):=⟨PE.weak (za hc hg hm hv ha.h hn hdb (cK (Kr _ _ ▸ hns).1) (dP (Kr _ _ ▸ hns).2)) (zo mQ)⟩
theorem je(hc:eV X (.type T) (CK X.K g))(hg:Gl X x)(hm:X.mg x=none)(hv:N3 x=some (.type T))(ha:XA X (e::es) f)(hn:x≠"__name__":=by decide)(hdb:(x==("__debug__":Str))=false:=by decide)(hns:(e::es).all noStar=true:=by rfl):XE X (.Call (.Name x p) (e::es) [] pos) (fL g f):=⟨PE.weak (oV hc hg hm hv ha.h hn hdb (cK (Kr _ _ ▸ hns).1) (dP (Kr _ _ ▸ hns).2)) (zo mQ)⟩
end
section
variable[aj]{X:Cx}{a:NR}{f:FX}{pos:Pos}
theorem zH{j pos'}(h:XE X a f):XE X (.Compare a [.IsNot] [.Constant .none j pos'] pos) (jy f):=⟨PE.weak (DX (vM h.h)) λσ H Q q=>rA σ H Q q⟩
theorem zR{j pos'}(h:XE X a f):XT X (.Compare a [.IsNot] [.Constant .none j pos'] pos) (fB (jy f)):=⟨PT.weak (Ep (vM h.h)) λσ H Q q=>sr (t:=λσ H Q=>tF X f σ H λv H'=>Q (.bl (!decide (v=.non))) H') rA σ H Q q⟩
end
section
variable[aj]{X:Cx}{tg:NR}
theorem B9{e:NR}{f:FX}(h:XE X e f):XI X tg e (bK f):=by
 refine⟨?_⟩;rintro pins s σ H R I ⟨O,ρ,E,hG⟩;have hG':=gL.bind hG;cases hf:f ρ with
 |error z=>exact uD h.h pins s σ H R I ⟨O,ρ,E,by rw[hf]at hG' ⊢;cases z with|none=>exact hG'.elim|some x=>exact hG'⟩
 |ok d=>
  rw[hf]at hG';obtain⟨ds,e1,q⟩:=gL.rO (α:=List D) (o:=mj d) hG';cases d with
  |lst xs=>
   cases e1;refine uD h.h pins s σ H R I ⟨O,ρ,E,?_⟩;rw[hf];refine λv H1 s1 d1=>?_;obtain⟨p,vs,ev,g1,g2⟩:=bI.mp d1;exact⟨p,ev,⟨vs,(ai H1 O).seq g1⟩,q _ H1 s1 (wa g1 g2)⟩
  |tup xs=>
   cases e1;refine E8 h.h pins s σ H R I ⟨O,ρ,E,?_⟩;rw[hf];refine λv H1 s1 d1=>?_;obtain⟨p,vs,ev,g1,g2⟩:=bv.mp d1;exact⟨p,ev,⟨vs,aZ (ai H1 O) g1⟩,q _ H1 s1 (zO g1 g2)⟩
  |_=>cases e1
theorem t5{a:NR}{f:aV}{p pos:Pos}(hg:Gl X "range")(hm:X.mg "range"=none)(ha:XA X [a] f)(hs:N8 [a] X.env=[(false,eval a X.env)]:=by rfl):XI X tg (.Call (.Name "range" p) [a] [] pos) (bZ f):=by
 refine⟨?_⟩;rintro pins s σ H R I ⟨O,ρ,E,hG⟩;refine xB hg hm ha.h hs pins s σ H R I ⟨O,ρ,E,(gL.bind hG).imp λes hG' vs H1 s1 d1=>?_⟩;clear hG;obtain⟨ds,hG,q⟩:=gL.rO hG';clear hG';unfold jL at hG;split at hG
 ·rename_i j;obtain⟨h1,h2⟩:=bC hG;subst h2;obtain⟨j1,j2⟩:=of_decide_eq_true h1;obtain⟨v,ev,dv⟩:=d1.one;exact⟨j,by rw[ev,c6.mp dv],j1,j2,q _ H1 s1 (sP 0 _)⟩
 ·cases hG
end
section
variable[aj]{X:Cx}{pos:Pos}
theorem yA{i:Nat}{x:Str}(hN:X.N.Nodup)(hi:X.N[i]?=some x)(hx:Loc X.env.scope x)(hf:X.fn x=true\/X.env.scope.names.lookup x=some .local:=by first|exact .inl rfl|exact .inr rfl|assumption):XG X (.Name x pos) (gN i):=by
 refine⟨?_⟩;rintro pins s σ H v u Q I r ⟨O,ρ,d,ρ',E,hd,hg,q⟩;cases hg;have hiσ:i<σ.length:=by rw[I.len];exact(List.getElem?_eq_some_iff.mp hi).1
 refine CP hN hi hx hf pins s σ H v u Q I r (q _ (E.setV hiσ hd) λj x e nv=>?_);rcases ax e with⟨_,eq⟩|⟨ne,eq⟩
 ·cases eq;exact absurd rfl (nv _)
 ·exact⟨J7 (Ne.symm ne),eq⟩
theorem zK:ED X [] C5:=by
 refine⟨?_⟩;rintro pins s σ H vs us Q I r ⟨O,ρ,ds,ρ',E,hd,hg,q⟩;cases ds with
 |nil=>
  cases hg;rw[bG]at hd;exact B5 pins s σ H vs us Q I r ⟨hd,q _ E λi x e _=>⟨rfl,e⟩⟩
 |cons _ _=>cases hg
theorem wO{e:NR}{es:bj}{g:GF}{h:Aw}(h1:XG X e g)(h2:ED X es h)(hs:(assignEach (e::es) X.env).map (·.2)=assign e X.env::(assignEach es X.env).map (·.2):=by rfl):ED X (e::es) (zb g h):=by
 refine⟨?_⟩;rintro pins s σ H vs us Q I r ⟨O,ρ,ds,ρ',E,hd,hg,q⟩;cases ds with
 |nil=>cases hg
 |cons d ds=>
  obtain⟨ρ1,e1,e2⟩:=bind_some hg;rw[aM]at hd;obtain⟨v,vr,ev,d1,d2⟩:=hd;exact zc h1.h h2.h hs pins s σ H vs us Q I r ⟨v,vr,ev,O,ρ,d,ρ1,E,d1,e1,λσ1 E1 k1=>⟨O,ρ1,ds,ρ',E1,d2,e2,λσ2 E2 k2=>q σ2 E2 λi x e nv=>by
   obtain⟨a1,a2⟩:=k2 i x e nv;obtain⟨b1,b2⟩:=k1 i x a2 nv;exact⟨a1.trans b1,b2⟩⟩⟩
theorem Bh{es:bj}{k:Nat}{g:Aw}{n:Nat}(hc:X.calm=true)(h:ED X es g)(hn:(assignEach es X.env).length=n:=by rfl)(hst:(assignEach es X.env).findIdx? (·.1)=none:=by rfl):XG X (.Tuple es k pos) (gT n g):=by
 refine⟨?_⟩;rintro pins s σ H v u Q I r ⟨O,ρ,d,ρ',E,hd,hg,q⟩;cases d with
 |tup xs=>
  obtain⟨p,vs,ev,g1,g2⟩:=bv.mp hd;have hg':(if xs.length=n then g xs ρ else none)=some ρ':=hg;by_cases hl:xs.length=n
  ·rw[if_pos hl]at hg';exact Fa hc h.h hn hst pins s σ H v u Q I r ⟨p,vs,ev,aZ (ai H O) g1,by rw[<-g2.length];exact hl,O,ρ,xs,ρ',E,g2,hg',q⟩
  ·rw[if_neg hl]at hg';cases hg'
 |_=>cases hg
end
section
variable[aj]
theorem yI{X:Cx}:Gh X [] bH:=⟨TG.A1 ⟩
theorem xT{X:Cx}{c:NR}{F:bg}(h:XT X c F):Gh X [c] F:=⟨Bg h.h⟩
end
section
variable[aj]{X:Cx}{elt tg iter:NR}{ifs:bj}{scope:N5}{pos:Pos}{N:aH}{ix:dS}{G:aV}{g:GF}{C:bg}{Fe:FX}
theorem Fh(hc:X.calm=true)(ok:iP X scope N ix)(tk:lq ix g)(hi:XI X tg iter G)(hb:nJ X scope N tg elt ifs g C Fe)(hs:∀x,Oo iter X.env x=pure x:=by intro _;rfl):XE X (.ListComp elt [⟨tg,iter,ifs,0⟩] scope pos) (eD ix G g C Fe):=⟨PE.weak (Dg hc ok.cell ok.kind ok.names ok.free ok.ix hi.h hb.h.k hs) (Dk tk)⟩
end
section
variable[aj]{X:Cx}{st:NS}{rest body:cH}{pos:Pos}
theorem Ae:jV X [] bU:=⟨λHb Ob=>uf.weak Bc λE σ H zq=>zq.elim λO zq=>zq.elim λρ zq=>zq.elim λk zq=>zq.elim λr zq=>zq.elim λS zq=>zq.elim λhF hk=>hk.nx O ρ σ H S hF⟩
theorem wJ{F1 F2:bB}(h1:XS X st F1)(h2:jV X rest F2):jV X (st::rest) (aU F1 F2):=⟨λHb Ob=>uf.weak (yf (h1.h Hb Ob) (h2.h Hb Ob)) λE σ H zq=>zq.elim λO zq=>zq.elim λρ zq=>zq.elim λk zq=>zq.elim λr zq=>zq.elim λS zq=>zq.elim λhF hk=>
 ⟨O,ρ,{k with nx:=F2 k},r,S,hF,hk.ne,λO' ρ' σ' H' S' e=>⟨O',ρ',k,r,S',e,hk⟩,hk.bk,hk.ct,hk.rt,hk.ex⟩⟩
theorem zL{F1:bB}(h1:XS X st F1):jV X [st] F1:=⟨λHb Ob=>vv (h1.h Hb Ob)⟩
theorem Bb{e:NR}{f:FX}(h:XE X e f):XS X (.Return (some e) pos) (cf f):=⟨λHb Ob=>PS.weak (Af h.h) λE σ H zq=>zq.elim λO zq=>zq.elim λρ zq=>zq.elim λk zq=>zq.elim λr zq=>zq.elim λS zq=>zq.elim λhF hk=>
 ⟨O,ρ,S.env,gL.on hF hk S λd e v H' s' d'=>hk.rt d O v H' e.symm (S.base.same' s') d'⟩⟩
theorem zj:XS X (.Pass pos) bU:=⟨λHb Ob=>PS.weak CG λE σ H zq=>zq.elim λO zq=>zq.elim λρ zq=>zq.elim λk zq=>zq.elim λr zq=>zq.elim λS zq=>zq.elim λhF hk=>hk.nx O ρ σ H S hF⟩
theorem AR{x j pos'}:XS X (.Expr (.Constant (.str x) j pos) pos') bU:=⟨λHb Ob=>PS.weak Ez λE σ H zq=>zq.elim λO zq=>zq.elim λρ zq=>zq.elim λk zq=>zq.elim λr zq=>zq.elim λS zq=>zq.elim λhF hk=>hk.nx O ρ σ H S hF⟩
theorem Fq{c:NR}{a b:cH}{tc:bg}{A B:bB}(hc:XT X c tc)(ha:jV X a A)(hb:jV X b B):XS X (.If c a b pos) (jT tc A B):=⟨λHb Ob=>PS.weak (Ga hc.h (ha.h Hb Ob) (hb.h Hb Ob)) λE σ H zq=>zq.elim λO zq=>zq.elim λρ zq=>zq.elim λk zq=>zq.elim λr zq=>zq.elim λS zq=>zq.elim λhF hk=>
 ⟨O,ρ,S.env,gL.on hF hk S fun z e H1 s1=>by
  cases z with
  |true=>exact zB ⟨O,ρ,k,r,S.same s1,e,hk⟩
  |false=>exact AB ⟨O,ρ,k,r,S.same s1,e,hk⟩⟩⟩
theorem Bl{i:Nat}{x:Str}{e:NR}{f:FX}{pos':Pos}(hN:X.N.Nodup)(hi:X.N[i]?=some x)(hx:Loc X.env.scope x)(he:XE X e f)(hs:swapsWith e (some (.Name x pos')) pos.line X.env=pure false:=by rfl)(hf:X.fn x=true\/X.env.scope.names.lookup x=some .local:=by first|exact .inl rfl|exact .inr rfl|assumption):XS X (.Assign [.Name x pos'] e pos) (cq i f):=⟨oH (List.getElem?_eq_some_iff.mp hi).1 (z6 hN hi hx he.h hs hf)⟩
theorem Es{elt tg iter:NR}{ifs:bj}{scope:N5}{N:aH}{ix:dS}{G:aV}{g:GF}{C:bg}{Fe:FX}{i:Nat}{y:Str}{lpos py spos:Pos}(hN:X.N.Nodup)(hi':X.N[i]?=some y)(hx:Loc X.env.scope y)(hc:X.calm=true)(ok:iP X scope N ix)(tk:lq ix g)(hi:XI X tg iter G)(hb:nJ X scope N tg elt ifs g C Fe)(hsw:swapsWith (.ListComp elt [⟨tg,iter,ifs,0⟩] scope lpos) (some (.Name y py)) spos.line X.env=pure true:=by rfl)(hs:∀x,Oo iter X.env x=pure x:=by intro _;rfl)(hf:X.fn y=true\/X.env.scope.names.lookup y=some .local:=by first|exact .inl rfl|exact .inr rfl|assumption):XS X (.Assign [.Name y py] (.ListComp elt [⟨tg,iter,ifs,0⟩] scope lpos) spos) (cq i (eD ix G g C Fe)):=⟨oH (List.getElem?_eq_some_iff.mp hi').1 (PS.weak (Ai hN hi' hx hc ok.cell ok.kind ok.names ok.free ok.ix hi.h hb.h.k hsw hs hf) λE σ H q=>Dk tk σ H _ q)⟩
theorem yv:XS X st iZ:=⟨λHb Ob pins s σ H E I zq=>zq.elim λO zq=>zq.elim λρ zq=>zq.elim λk zq=>zq.elim λr zq=>zq.elim λS zq=>zq.elim λhF hk=>absurd hF.symm hk.ne⟩
theorem we{st:cH}:jV X st iZ:=⟨λHb Ob pins s σ H E I zq=>zq.elim λO zq=>zq.elim λρ zq=>zq.elim λk zq=>zq.elim λr zq=>zq.elim λS zq=>zq.elim λhF hk=>absurd hF.symm hk.ne⟩
theorem xD{st:cH}{F:bB}(is:aR)(h:jV X st F):jV X st (dq is F):=⟨λHb Ob=>uf.weak (h.h Hb Ob) λE σ H zq=>zq.elim λO zq=>zq.elim λρ zq=>zq.elim λk zq=>zq.elim λr zq=>zq.elim λS zq=>zq.elim λhF hk=>⟨O,TG.kill is ρ,k,r,S.kill is,hF,hk⟩⟩
theorem Cj{tg iter:NR}{G:aV}{g:GF}{B:bB}(hp:Og `i X.A X.env X.xe)(hc:X.calm=true)(hi:XI X tg iter G)(hg:XG X tg g)(hb:jV X body B)(hs:∀x,Oo iter X.env x=pure x:=by intro _;rfl):XS X (.For tg iter body [] pos) (um G g B):=⟨λHb Ob pins s σ H E I zq=>zq.elim λO zq=>zq.elim λρ zq=>zq.elim λk zq=>zq.elim λr zq=>zq.elim λS zq=>zq.elim λhF hk=>by
 have hall:uf X body (λE σ H=>∃Hb',Hm X Hb' Ob B E σ H):=λpins s σ H E I zq=>zq.elim λHb' q=>hb.h Hb' Ob pins s σ H E I q;refine Ef hp hc hi.h hg.h hall hs pins s σ H E I ⟨O,ρ,S.env,gL.on hF hk S λds hF J H1 s1 wk=>?_⟩;have E1:=S.same s1;refine⟨λi m σ H=>m=ds.length-i/\i<=ds.length/\∃O' ρ',bE X.K (lb H1 O Ob) Ob O' H ρ' σ/\d6 g B k (ds.drop i) ρ'=r,
  ⟨ds.length,by rw[Lc],KH _,O,ρ,E1.loop,by rw[KS];exact hF⟩,?_⟩
 rintro i m σ' H' ⟨rfl,hi',O',ρ',E',hr⟩;have sD:=xU E1.base E'.base;by_cases hlt:i<ds.length
 ·right;obtain⟨go,yl⟩:=(wk H' O' i E'.env.all sD).1 ds[i] (by simp[hlt]);refine⟨go,λσ2 H2=>ds.length-(i+1)=ds.length-(i+1)/\i+1<=ds.length/\∃O' ρ',bE X.K (lb H1 O Ob) Ob O' H2 ρ' σ2/\d6 g B k (ds.drop (i+1)) ρ'=r,λσ2 H2 z=>⟨ds.length-(i+1),by omega,z⟩,λx H2 y=>?_⟩;obtain⟨s2,dx⟩:=yl x H2 y;have E':=E'.same s2;rw[Lg hlt]at hr;cases hg':g ds[i] ρ' with
  |none=>
   have hr':(rO (g ds[i] ρ')).bind (λρ1=>B ⟨d6 g B k (ds.drop (i+1)),k.nx,d6 g B k (ds.drop (i+1)),k.ex⟩ ρ1)=r:=hr;rw[hg']at hr';exact absurd hr'.symm hk.ne
  |some ρ1=>
   have hr':(rO (g ds[i] ρ')).bind (λρ1=>B ⟨d6 g B k (ds.drop (i+1)),k.nx,d6 g B k (ds.drop (i+1)),k.ex⟩ ρ1)=r:=hr;rw[hg']at hr';refine⟨O',ρ',ds[i],ρ1,E'.env,dx,hg',λσ3 E3 own=>?_⟩;have E3':bE X.K (lb H1 O Ob) Ob O' H2 ρ1 σ3:=E'.after E3 own;exact⟨lb H1 O Ob,O',ρ1,⟨d6 g B k (ds.drop (i+1)),k.nx,d6 g B k (ds.drop (i+1)),k.ex⟩,r,E3',hr',hk.loop E1.base (λO4 ρ4 σ4 H4 E4 z=>⟨rfl,hlt,O4,ρ4,E4,z⟩) (λO4 ρ4 σ4 H4 E4 z=>⟨rfl,hlt,O4,ρ4,E4,z⟩) rfl rfl rfl rfl⟩
 ·left;have ei:i=ds.length:=by omega
  subst ei;refine⟨(wk H' O' ds.length E'.env.all sD).2 rfl,?_⟩;rw[Lj]at hr;exact hk.nx O' ρ' σ' H' (E'.back E1.base) hr⟩
theorem wI{c:NR}{tc:bg}{B:bB}(n:Nat)(hp:Og `i X.A X.env X.xe)(hc:XT X c tc)(hb:jV X body B):XS X (.While c body [] pos) (pA n tc B):=⟨λHb Ob pins s σ H E I zq=>zq.elim λO zq=>zq.elim λρ zq=>zq.elim λk zq=>zq.elim λr zq=>zq.elim λS zq=>zq.elim λhF hk=>by
 have hall:uf X body (λE σ H=>∃Hb',Hm X Hb' Ob B E σ H):=λpins s σ H E I zq=>zq.elim λHb' q=>hb.h Hb' Ob pins s σ H E I q;refine xX hp hc.h hall pins s σ H E I ⟨λm σ H'=>∃O' ρ',bE X.K (lb H O Ob) Ob O' H' ρ' σ/\cV tc B k m ρ'=r,⟨n,O,ρ,S.loop,hF⟩,?_⟩;rintro m σ' H' ⟨O',ρ',E',hr⟩;cases m with
 |zero=>exact absurd hr.symm hk.ne
 |succ m=>
  refine⟨O',ρ',E'.env,?_⟩;have hr':nH (tc ρ') k ρ' (λb=>if b then B ⟨cV tc B k m,k.nx,cV tc B k m,k.ex⟩ ρ' else k.nx ρ')=r:=hr;refine gL.on hr' hk (E'.back S.base) λb hr H1 s1=>?_;cases b with
  |true=>
   refine zB ⟨λσ2 H2=>∃O' ρ',bE X.K (lb H O Ob) Ob O' H2 ρ' σ2/\cV tc B k m ρ'=r,λσ2 H2 z=>⟨m,MI m,z⟩,?_⟩;exact⟨lb H O Ob,O',ρ',⟨cV tc B k m,k.nx,cV tc B k m,k.ex⟩,r,E'.same s1,hr,hk.loop S.base (λO4 ρ4 σ4 H4 E4 z=>⟨O4,ρ4,E4,z⟩) (λO4 ρ4 σ4 H4 E4 z=>⟨O4,ρ4,E4,z⟩) rfl rfl rfl rfl⟩
  |false=>exact AB (hk.nx O' ρ' σ' H1 ((E'.back S.base).same s1) hr)⟩
end
section
variable[aj]{X:Cx}{pos:Pos}
theorem AY{es:bj}{g:aV}(h:XA X es g):XN X (.List es pos) (mE g):=⟨PE.weak (yO h.h) λσ H Q zq=>zq.elim λO zq=>zq.elim λρ zq=>zq.elim λE hF=>⟨O,ρ,E,(gL.bind hF).imp λxs hF vs H1 s1 d1=>by
  obtain⟨d,e,q⟩:=gL.rO hF;obtain⟨hz,e⟩:=bC e;subst e;refine⟨by rw[<-d1.length];exact df hz,λp hp=>?_⟩;exact q p _ (s1.trans (bh hp _)) (s1.free hp) ⟨_,aq,trivial⟩ (sL hp d1)⟩⟩
theorem BK{i:Nat}{x:Str}{e:NR}{f:FX}{pos':Pos}(hN:X.N.Nodup)(hi:X.N[i]?=some x)(hx:Loc X.env.scope x)(he:XN X e f)(hs:swapsWith e (some (.Name x pos')) pos.line X.env=pure false:=by rfl)(hf:X.fn x=true\/X.env.scope.names.lookup x=some .local:=by first|exact .inl rfl|exact .inr rfl|assumption):XS X (.Assign [.Name x pos'] e pos) (pF i f):=⟨oC (List.getElem?_eq_some_iff.mp hi).1 (z6 hN hi hx he.h hs hf)⟩
end
section
variable[aj]
theorem v8{X:Cx}{elt tg iter:NR}{ifs:bj}{scope:N5}{N:aH}{ix:dS}{G:aV}{g:GF}{C:bg}{Fe:FX}{i:Nat}{y:Str}{lpos py spos:Pos}(hN:X.N.Nodup)(hi':X.N[i]?=some y)(hx:Loc X.env.scope y)(hc:X.calm=true)(ok:iP X scope N ix)(tk:lq ix g)(hi:XI X tg iter G)(hb:nJ X scope N tg elt ifs g C Fe)(hsw:swapsWith (.ListComp elt [⟨tg,iter,ifs,0⟩] scope lpos) (some (.Name y py)) spos.line X.env=pure true:=by rfl)(hs:∀x,Oo iter X.env x=pure x:=by intro _;rfl)(hf:X.fn y=true\/X.env.scope.names.lookup y=some .local:=by first|exact .inl rfl|exact .inr rfl|assumption):XS X (.Assign [.Name y py] (.ListComp elt [⟨tg,iter,ifs,0⟩] scope lpos) spos) (pF i (eD ix G g C Fe)):=⟨oC (List.getElem?_eq_some_iff.mp hi').1 (PS.weak (Ai hN hi' hx hc ok.cell ok.kind ok.names ok.free ok.ix hi.h hb.h.k hsw hs hf) λE σ H q=>Ap tk σ H _ (CU σ H _ q))⟩
theorem EC{X:Cx}{elt tg iter:NR}{ifs:bj}{scope:N5}{pos:Pos}{N:aH}{ix:dS}{G:aV}{g:GF}{C:bg}{Fe:FX}(hc:X.calm=true)(ok:iP X scope N ix)(tk:lq ix g)(hi:XI X tg iter G)(hb:nJ X scope N tg elt ifs g C Fe)(hs:∀x,Oo iter X.env x=pure x:=by intro _;rfl):XN X (.ListComp elt [⟨tg,iter,ifs,0⟩] scope pos) (eD ix G g C Fe):=⟨PE.weak (Dg hc ok.cell ok.kind ok.names ok.free ok.ix hi.h hb.h.k hs) λσ H Q q=>Ap tk σ H _ (CU σ H _ q)⟩
theorem yE{X:Cx}{st:cH}{F:bB}(i:Nat)(h:jV X st F):jV X st (AO i F):=⟨λHb Ob=>uf.weak (h.h Hb Ob) λE σ H zq=>zq.elim λO zq=>zq.elim λρ zq=>zq.elim λk zq=>zq.elim λr zq=>zq.elim λS zq=>zq.elim λhF hk=>by
 obtain⟨O',S'⟩:=S.frz i;exact⟨O',TG.frz i ρ,k,r,S',hF,hk⟩⟩
theorem yz{X:Cx}{e:NR}{f:FX}(is:aR)(h:XE X e f):XE X e (k8 is f):=⟨PE.weak h.h λσ H Q zq=>zq.elim λO zq=>zq.elim λρ zq=>zq.elim λE hF=>by
 obtain⟨O',E'⟩:=E.frzs is;refine⟨O',TG.frzs is ρ,E',?_⟩;unfold k8 at hF;cases hf:f (TG.frzs is ρ)with
 |error z=>rw[hf]at hF;exact hF.elim
 |ok d=>
  rw[hf]at hF;have hF':gL X σ O H (if lf d then .ok d else un) _:=hF;cases hl:lf d with
  |false=>rw[hl]at hF';exact hF'.elim
  |true=>
   rw[hl]at hF';exact λv H' s' dv=>hF' v H' s' (zt (E.all.same s') hl dv)⟩
theorem ye{X:Cx}{e:NR}{f:bg}(is:aR)(h:XT X e f):XT X e (jh is f):=⟨PT.weak h.h λσ H Q zq=>zq.elim λO zq=>zq.elim λρ zq=>zq.elim λE hF=>by
 obtain⟨O',E'⟩:=E.frzs is;refine⟨O',TG.frzs is ρ,E',?_⟩;unfold jh at hF;cases hf:f (TG.frzs is ρ)with
 |error z=>rw[hf]at hF;exact hF.elim
 |ok d=>rw[hf]at hF;exact hF⟩
theorem tO{X:Cx}{k k':Nat}{ps:aH}{g:List D->R D}{h:aV}{x:Str}{p pos:Pos}{e:NR}{es:bj}(C:Callee X.prog X.w X.K X.mg X.base k x ps g)(hn:Ar ps.length g)(hr:eO k' X.A)(hk:k<=k')(ha:XA X (e::es) h)(hg:Gl X x:=by rfl)(hdb:(x==("__debug__":Str))=false:=by decide)(hns:(e::es).all noStar=true:=by rfl):XE X (.Call (.Name x p) (e::es) [] pos) (fR g h):=by
 refine⟨?_⟩;obtain⟨f,fd,F,b,kp,m⟩:=C;exact PE.weak (sv F (hr.mono hk) hg m kp b ha.h hdb (cK (Kr _ _ ▸ hns).1) (dP (Kr _ _ ▸ hns).2)) (wu hn)
end
section
variable[aj]{X:Cx}{a b c:NR}{fa fb fc:FX}{pos:Pos}
theorem BU(ha:XE X a fa):XE X (.UnaryOp .USub a pos) (y6 fa):=⟨PE.weak (Gr Fs ha.h) (Dr λx d v O H Q _ e dv q=>by
 cases x with
 |int i=>cases e;exact⟨i,c6.mp dv,q _ H (aF.refl H) (c6.mpr rfl)⟩
 |_=>cases e)⟩
end
section
variable[aj]
theorem xW{X:Cx}{i:Nat}{x:Str}{idx value:NR}{fk fv:FX}{npos tpos pos:Pos}(hu:X.A.units+64<Ov)(hx:XV X (.Name x npos) i)(hi:XE X idx fk)(hv:XE X value fv)(hs:swapsWith value (some (.Subscript (.Name x npos) idx tpos)) pos.line X.env=pure false:=by rfl):XS X (.Assign [.Subscript (.Name x npos) idx tpos] value pos) (gS i fk fv):=⟨λHb Ob pins s σ H E I zq=>zq.elim λO zq=>zq.elim λρ zq=>zq.elim λk zq=>zq.elim λrr zq=>zq.elim λS zq=>zq.elim λhF hk=>by
 unfold gS at hF;split at hF
 ·rename_i ks ds hxs;obtain⟨a,ha,haO,hat⟩:=S.env.own i _ hxs;have hP:=gL.on hF hk S (Q:=λal=>k.nx (ρ.set i (some (.own (aA al))))=rr) λp e=>e;refine q5 `o hx.h hi.h hv.h hs pins s σ H E I ⟨O,ρ,S.env,(gL.bind hP).imp λy hP v H1 s1 d1=>?_⟩;have S1:=S.same s1;refine⟨.ref a,ha,O,ρ,S1.env,((gL.bind hP).mono s1).imp λj hP w H2 s2 d2=>?_⟩;have S2:=S1.same s2;obtain⟨al',hg,e⟩:=gL.rO hP;obtain⟨al,q,f1,f2,f3,f4,f5⟩:=mV hg;subst f1 f2 f3 f5;have s12:=s1.trans s2;obtain⟨b,ws,eb,g1,g2⟩:=bv.mp d2;rw[cA g2]at g1;have hat2:bX X.K H2 O a (aA al):=hat.mono (let ⟨_,z⟩:=hat.some;iM s12 z) (aQ s12);have dv:bo X.K (hid H2 O) y v:=d1.mono (aQ s2);have fin:∀kvs:List (List Key×V),kvs.map (·.1)=al.map (·.1)->aB X.K (hid H2 O) (al.map (·.2)) (kvs.map (·.2))->bX X.K (upd H2 a (.dT (putK kvs q v))) O a (aA (bV al q y)):=λkvs k2 k3=>
   ⟨_,_,aq,(pK dv k2 k3).mono (eU haO),.inr ⟨putK kvs q v,rfl,jd (mh k2 q v y),rfl⟩⟩
  rcases Ag hat2 with⟨kvs,k1,k2,k3⟩|⟨k1,rfl⟩
  ·have hl:kvs.length=al.length:=(by have:=congrArg List.length k2;simpa using this);exact⟨a,q,b,kvs,rfl,eb,(ai H2 O) _ _ g1,.inl k1,by rw[hl];exact Lh (of_decide_eq_true f4) (by decide),hk.nx O _ σ _ (S2.setO hxs ha trivial (fin kvs k2 k3)) e⟩
  ·exact⟨a,q,b,[],rfl,eb,(ai H2 O) _ _ g1,.inr ⟨k1,rfl⟩,by decide,hk.nx O _ σ _ (S2.setO hxs ha trivial (fin [] rfl (bG.mpr rfl))) e⟩
 ·exact absurd hF.symm hk.ne⟩
end
section
variable[aj]{X:Cx}{pins:aL}{s:NT}{σ:L2.St}{H:Hp}{O:ak}
theorem xj{f:FX}{j:Nat}{k:Nat}{c P cc:NQ}{e:NR}{p lpos kp pos np mp p2 spos:Pos}{row many:Str}{params:Oz}{scope:N5}(hr:eO k X.A)(hg:Gl X "sorted")(hm:X.mg "sorted"=none)(B:zX X.mg X.base c P)(hcode:X.env.code=.ref c)(hT:∀H,aj.tab H->H P=some (.ext (kP P lpos (X.env.qual++"<lambda>"))))(he:XE X e f)(hN:X.N[j]?=some many)(hkm:X.env.kindOf many=some .cell)(hv:Eo X.env.scope many)(hcc:X.env.cells.lookup many=some cc)(hcl:closureFor scope X.env=pure [(many,cc)])(hdef:defaultsOf params X.env=([],[]))(hbind:∀cdv ctv v,bindArgs (PySem.W.kla_fn "<lambda>" (X.env.qual++"<lambda>") params (cutE row many np mp p2 spos) scope [(many,cc)] ((X.mg "__name__").getD .none) cdv ctv) ⟨[v],[]⟩=pure [(row,v)])(hco:scope.isCoroutine=false)(hgen:scope.isGenerator=false)(hk:scope.kind=.function)(hno:∀x∈scope.names,x.2≠.cell)(hlr:scope.names.lookup row=some .local)(hlm:scope.names.lookup many=some .free)(d1:(row==("__debug__":Str))=false)(d2:(many==("__debug__":Str))=false)(d3:(many==("__classdict__":Str))=false)(hns:noStar e=true:=by rfl):XE X (.Call (.Name "sorted" p) [e] [⟨some "key",.Lambda params (cutE row many np mp p2 spos) scope lpos,kp⟩] pos) (f2 ka f (aa j)):=by
 refine⟨?_⟩;rintro pins s σ H Q I ⟨O,ρ,E,hF⟩;refine OA (kq I hg hm d8 ?_);have st:backTo pos (N8 [e] X.env)=(false,eval e X.env)::backTo pos (N8 [] X.env):=by rw[cK hns];rfl
 refine PyProof.Rows.callWith_kw ?_ ?_ (dP (by rw[KW,hns];rfl))
 ·refine cD (pE he.h sZ (cK hns) pos pins s σ H (λvs H1=>∃v d a m,vs=[v]/\aF H H1/\ρ[j]?=some (some (.val m))/\ka a m=some d/\bo X.K (hid H1 O) a v/\∀v H',aF H H'->bo X.K (hid H' O) d v->Q v H') I ⟨O,ρ,E,(gL.bind hF).imp λa hF v H1 s1 d1=>?_⟩) λus s1 ⟨vs,H1,I1,rv,v,d,a,m,ev,s1',em,hd,dn,q⟩=>?_
  ·obtain⟨m,em,hF⟩:=oZ (gL.bind hF);obtain⟨d,e,q⟩:=gL.rO hF;exact⟨v,d,a,m,rfl,s1,em,e,d1,q⟩
  ·subst ev;obtain⟨u,eu,ru⟩:=vals1 rv;subst eu;have E1:=E.same s1';show N7 _ _ (evalAll ((do let v<-eval (.Lambda params (cutE row many np mp p2 spos) scope lpos) X.env;standAt pos;pure v)::[])) _ _ s1;refine wpAny_evalAll_cons (Oj (zx I1 B hcode (hT _ E1.all.1) hdef hcl λfa c' ctv s2 H2 I2 s2' hfa hcr=>Oj (O0 (Oi (wpAny_evalAll_nil ?_)))));show N7 `i X.A (call (.builtin "sorted") [u] [(Str.ofString "key",.ref fa)]) (EP X pins σ Q) X.xe s2;have E2:=E1.same s2';obtain⟨vm,e3,dm⟩:=E2.val j m em;have core:∀(i:Int)(xs:List D),m=.int i->0<=i->mF i.toNat xs=some d->∀(ys:aG)(its:aE),aB X.K (hid H2 O) xs ys->Vals ys its->
     (∀(Q':aE->bn),(∀h' tk,(∀b o,s2.heap.get? b=some o->h'.get? b=some o)->Q' its {s2 with heap:=h',toks:=tk})->N7 `i X.A.in1 (collect u) Q' X.xe s2)->
     N7 `i X.A (call (.builtin "sorted") [u] [(Str.ofString "key",.ref fa)]) (EP X pins σ Q) X.xe s2:=by
    intro i xs ei h0 hs ys its dl ri hcol;subst ei;rw[c6]at dm;subst dm;obtain⟨mm,hns',hl⟩:=I2.loc;obtain⟨uv,ruv,lk⟩:=hl j many (.int i) hN e3 hv;obtain⟨t,rfl⟩:=ruv;have hcell:s2.heap.IsCell cc (some (.int i t)):=by
     rcases lk with⟨z,_⟩|⟨_,c2,ec,hc2⟩
     ·rw[hkm]at z;cases z
     ·rw[hcc]at ec;cases ec;exact hc2
    have dp:=hr.dp;exact sU I2 E2.all dl ri h0 hs hfa hcr `o (λv=>hbind (.ref c') ctv v) hco hgen hk hno hlr hlm hcell d1 d2 d3 hcol λv H' sm dd=>q v H' ((s1'.trans s2').trans sm) dd
   have dn2:=dn.mono (aQ (O:=O) s2');unfold ka at hd;split at hd
   ·rename_i xs i;split at hd
    ·rename_i h0;obtain⟨l,ys,el,g1,g2⟩:=bI.mp dn2;subst el;cases ru;obtain⟨its,ri,pl,hz⟩:=I2.list ((ai H2 O).seq g1);have hlen:=ri.length;obtain⟨o,ho,hc,n,hd'⟩:=pl.isList;exact core i xs rfl h0 hd ys its g2 ri λQ' hQ=>Py l (.inl rfl) ho hc hd' (λh' k=>by simpa using hQ h' s2.toks k) (by simp only[Ko]<;>omega)
    ·cases hd
   ·rename_i xs i;split at hd
    ·rename_i h0;obtain⟨l,ys,el,g1,g2⟩:=bv.mp dn2;subst el;cases ru;obtain⟨its,ri,⟨o,ho,hc,n,hd'⟩,hz⟩:=I2.tuple (aZ (ai H2 O) g1);have hlen:=ri.length;exact core i xs rfl h0 hd ys its g2 ri λQ' hQ=>Py l (.inr rfl) ho hc hd' (λh' k=>by simpa using hQ h' s2.toks k) (by simp only[Ko]<;>omega)
    ·cases hd
   ·cases hd
 ·exact st
end
section
variable[aj]{X:Cx}{o e f:NR}{apos cpos:Pos}
theorem xC{fo fk fx : FX}(hu : X.A.units + 64 < Ov)(ho : XE X o fo)(he : XE X e fk)(hf : XE X f fx)(hbase : OT o "get" X.env (eval o X.env) = eval o X.env := by rfl)(hfew : ((backTo cpos (N8 [e, f] X.env)).all (fun x => !x.1) && (backToKw cpos (OU [] X.env)).all (fun x => x.1.isSome)
      && decide (([e,f]:bj).length+([]:List OV).length+(if([]:List OV).isEmpty then 0 else 1)<30))=true:=by rfl)(hline:(apos.endLine==cpos.line)=true:=by rfl)(htr:backTo cpos (N8 [e,f] X.env)=[(false,eval e X.env),(false,eval f X.env)]:=by rfl):XE X (.Call (.Attribute o "get" apos) [e,f] [] cpos) (g7 fo fk fx):=⟨PE.weak (vW `o ho.h he.h hf.h ⟨hbase,hfew,hline,htr⟩) λσ H Q zq=>zq.elim λO zq=>zq.elim λρ zq=>zq.elim λE hF=>⟨O,ρ,E,(gL.bind hF).imp λdd hF v H1 s1 d1=>by
    cases dd with
    |dct ks ds=>
      obtain⟨a,vs,rfl,_,hd⟩:=id (Hl.mp d1);refine⟨a,rfl,?_,O,ρ,E.same s1,((gL.bind hF).mono s1).imp λk hF y H2 s2 d2=>⟨O,ρ,(E.same s1).same s2,((gL.bind hF).mono (s1.trans s2)).imp λx hF z H3 s3 d3=>?_⟩⟩
      · rcases hd with⟨kvs,e1,_⟩|⟨kvs,e1,_⟩|⟨kvs,o,e1,_⟩
        ·exact .inl ⟨kvs,.inl ((ai H1 O) _ _ e1)⟩
        ·exact .inr ⟨kvs,.inl ((ai H1 O) _ _ e1)⟩
        ·exact .inr ⟨kvs,.inr ⟨o,(ai H1 O) _ _ e1⟩⟩
      · obtain⟨d,hg,q⟩:=gL.rO hF
        obtain⟨al,qk,f1,f2,f3,f4⟩:=sW hg;subst f1 f2 f3 f4;have s23:=s2.trans s3;have d1':bo X.K (hid H3 O) (aA al) (.ref a):=d1.mono (aQ s23);have d2':=d2.mono (aQ s3);obtain⟨b,ws,eb,g1,g2⟩:=bv.mp d2';rw[cA g2]at g1;have g1':=(ai H3 O) _ _ g1;obtain⟨a',ea,hh⟩:=rB d1';cases ea;subst eb;rcases hh with⟨kvs,k1,k2,k3⟩|⟨k1,rfl⟩
        · refine⟨gB kvs qk,.inl (uk.t ((ai H3 O) _ _ k1) g1'),q _ H3 (s1.trans s23) ?_⟩
          rcases jK qk k2 k3 with⟨z1,z2⟩|⟨w,d,z1,z2,z3⟩
          ·rw[z1,z2];exact d3
          ·rw[z1,z2];exact z3
        ·exact⟨none,.inr ⟨(ai H3 O) _ _ k1,rfl,b,qk,rfl,g1'⟩,q _ H3 (s1.trans s23) d3⟩
    |_=>exact hF.elim⟩⟩
end
section
variable[aj]{X:Cx}
theorem CQ{o e:NR}{fo fk:FX}{pos:Pos}(hu:X.A.units+64<Ov)(ho:XE X o fo)(hi:XE X e fk)(hs:Fk e):XE X (.Subscript o e pos) (f2 nS fo fk):=⟨PE.weak (Cz `o ho.h hi.h hs) λσ H Q zq=>zq.elim λO zq=>zq.elim λρ zq=>zq.elim λE hF=>⟨O,ρ,E,(gL.bind hF).imp λdd hF v H1 s1 d1=>⟨O,ρ,E.same s1,((gL.bind hF).mono s1).imp λk hF y H2 s2 d2=>by
  obtain⟨d,hg,q⟩:=gL.rO hF;cases dd with
  |dct ks ds=>
   have hg:(rC ks ds).bind (λal=>(cM k).bind λq=>bW al q)=some d:=hg;cases hk:rC ks ds with
   |none=>rw[hk]at hg;cases hg
   |some al=>
    rw[hk]at hg;cases ht:cM k with
    |none=>rw[ht]at hg;cases hg
    |some qk=>
     rw[ht]at hg;have hg:bW al qk=some d:=hg;obtain⟨a,ea,hh⟩:=lK (d1.mono (aQ s2)) hk;rw[eT ht]at d2;obtain⟨b,ws,eb,g1,g2⟩:=bv.mp d2;rw[cA g2]at g1;rcases hh with⟨kvs,hr,e1,e2⟩|⟨_,rfl⟩
     ·rcases jK qk e1 e2 with⟨_,z2⟩|⟨w,d',z1,z2,z3⟩
      ·rw[z2]at hg;cases hg
      ·rw[z2]at hg;cases hg;exact⟨a,w,ea,by rw[<-z1];exact .inr ⟨kvs,qk,b,t8 hr,eb,(ai H2 O) _ _ g1,rfl⟩,q w H2 (s1.trans s2) z3⟩
     ·cases hg
  |_=>cases hg⟩⟩⟩
end
section
variable[aj]
theorem vY{X:Cx}{i:Nat}{x:Str}{ce idx value:NR}{fe fk fv:FX}{npos spos tpos pos:Pos}(hu:X.A.units+64<Ov)(hx:XV X (.Name x npos) i)(hce:XE X ce fe)(hi:XE X idx fk)(hv:XE X value fv)(hpl:jx ce)(hs:swapsWith value (some (.Subscript (.Subscript (.Name x npos) ce spos) idx tpos)) pos.line X.env=pure false:=by rfl):XS X (.Assign [.Subscript (.Subscript (.Name x npos) ce spos) idx tpos] value pos) (gK i gY fe fk fv):=⟨λHb Ob pins s σ H E I zq=>zq.elim λO zq=>zq.elim λρ zq=>zq.elim λk zq=>zq.elim λrr zq=>zq.elim λS zq=>zq.elim λhF hk=>by
 obtain⟨xs,y,c,kk,ys,hxs,ev,ee,ek,hg,hnx⟩:=me hF hk.ne;obtain⟨c,ks,ds,al',rfl,hc,hp,rfl⟩:=sF hg;obtain⟨a,bs,l,ha,hHa,hl,lO,hat,fin⟩:=S.putN hxs hc;obtain⟨al,q,f1,f2,f3,f4,f5⟩:=mV hp;subst f1 f2 f3 f5;refine q5 `o (zT qd hx.h hce.h hpl) hi.h hv.h hs pins s σ H E I ⟨O,ρ,S.env,?_⟩;rw[ev];intro v H1 s1 d1;refine⟨.ref a,ha,O,ρ,(S.same s1).env,?_⟩;rw[ee];intro cv H2 s2 d2;obtain rfl:=c6.mp d2;have s12:=s1.trans s2;refine⟨a,bs.map .ref,(c:Int),.ref l,rfl,rfl,lu.of (s12 _ _ hHa),vq (by rw[Ki,hl];rfl),O,ρ,(S.same s12).env,?_⟩;rw[ek];intro w H3 s3 d3;have s13:=s12.trans s3;obtain⟨b,ws,eb,g1,g2⟩:=bv.mp d3;rw[cA g2]at g1;have hat2:bX X.K H3 O l (aA al):=hat.mono (let ⟨_,z⟩:=hat.some;iM s13 z) (aQ s13);have dv:bo X.K (hid H3 O) y v:=d1.mono (aQ (s2.trans s3));have ow:∀kvs:List (List Key×V),kvs.map (·.1)=al.map (·.1)->aB X.K (hid H3 O) (al.map (·.2)) (kvs.map (·.2))->bX X.K (upd H3 l (.dT (putK kvs q v))) O l (aA (bV al q y)):=λkvs k2 k3=>
  ⟨_,_,aq,(pK dv k2 k3).mono (eU lO),.inr ⟨putK kvs q v,rfl,jd (mh k2 q v y),rfl⟩⟩
 rcases Ag hat2 with⟨kvs,k1,k2,k3⟩|⟨k1,rfl⟩
 ·have hl:kvs.length=al.length:=by have:=congrArg List.length k2;simpa using this
  exact⟨l,q,b,kvs,rfl,eb,(ai H3 O) _ _ g1,.inl k1,by rw[hl];exact Lh (of_decide_eq_true f4) (by decide),hk.nx O _ σ _ (fin _ _ _ s13 trivial (ow kvs k2 k3)) hnx⟩
 ·exact⟨l,q,b,[],rfl,eb,(ai H3 O) _ _ g1,.inr ⟨k1,rfl⟩,by decide,hk.nx O _ σ _ (fin _ _ _ s13 trivial (ow [] rfl (bG.mpr rfl))) hnx⟩⟩
theorem xn{X:Cx}{i:Nat}{x:Str}{ce ke ve:NR}{fe fk fv:FX}{npos spos ap cp pos:Pos}(hu:X.A.units+64<Ov)(hx:XV X (.Name x npos) i)(hce:XE X ce fe)(hke:XE X ke fk)(hve:XE X ve fv)(hpl:jx ce)(hn1:noStar ke=true:=by rfl)(hn2:noStar ve=true:=by rfl)(hb2:OT (.Subscript (.Name x npos) ce spos) "pop" X.env (eval (.Subscript (.Name x npos) ce spos) X.env)=eval (.Subscript (.Name x npos) ce spos) X.env:=by rfl)(hf2:((backTo cp (N8 [ke,ve] X.env)).all (λx=>!x.1)&&(backToKw cp (OU [] X.env)).all (λx=>x.1.isSome)&&decide (([ke,ve]:bj).length+([]:List OV).length+(if([]:List OV).isEmpty then 0 else 1)<30))=true:=by rfl)(hl2:(ap.endLine==cp.line)=true:=by rfl)(hp2:(backTo cp (N8 [ve] X.env)).any (·.1)=false:=by rfl)(hsw:swapsWith (.Call (.Attribute (.Subscript (.Name x npos) ce spos) "pop" ap) [ke,ve] [] cp) none pos.line X.env=pure false:=by rfl):XS X (.Expr (.Call (.Attribute (.Subscript (.Name x npos) ce spos) "pop" ap) [ke,ve] [] cp) pos) (gK i h7 fe fk fv):=⟨λHb Ob pins s σ H E I zq=>zq.elim λO zq=>zq.elim λρ zq=>zq.elim λk zq=>zq.elim λrr zq=>zq.elim λS zq=>zq.elim λhF hk=>by
 obtain⟨xs,y,c,kk,ys,hxs,ev,ee,ek,hg,hnx⟩:=me hF hk.ne;obtain⟨c,al,q,rfl,hc,rfl,rfl⟩:=sx hg;obtain⟨a,bs,l,ha,hHa,hl,lO,hat,fin⟩:=S.putN hxs hc;refine AD (Gs F.plainAttrs_dict F.slot_dict_pop F.type_dict_pop (Cm hu) (zT qd hx.h hce.h hpl) (uF hke.h (uF hve.h EY hn2) hn1) hb2 hf2 hl2 (cK hn1) hp2) hsw pins s σ H E I ?_;refine⟨.ref a,ha,O,ρ,S.env,?_⟩;rw[ee];intro cv H2 s2 d2;obtain rfl:=c6.mp d2;have hat2:bX X.K H2 O l (aA al):=hat.mono (let ⟨_,z⟩:=hat.some;iM s2 z) (aQ s2);refine⟨a,bs.map .ref,(c:Int),.ref l,rfl,rfl,lu.of (s2 _ _ hHa),vq (by rw[Ki,hl];rfl),.inr (.inr (.inl ⟨rfl,?_⟩)),O,ρ,(S.same s2).env,?_⟩
 ·rcases Ag hat2 with⟨kvs,k1,_⟩|⟨k1,_⟩
  ·exact .inr ⟨_,k1⟩
  ·exact .inl ⟨_,k1⟩
 have e1:(ae fk (ae fv au)) ρ=.ok [.tup (q.map aC),y]:=by
  show(fk ρ).bind _=_;rw[ek];show Except.bind ((fv ρ).bind _) _=_;rw[ev];rfl
 rw[e1];intro vs H3 s3 dv;obtain⟨w1,w2,ew,d3,d4⟩:=dv.two;have s13:=s2.trans s3;obtain⟨b,ws,eb,g1,g2⟩:=bv.mp d3;rw[cA g2]at g1;have hat3:bX X.K H3 O l (aA al):=hat.mono (let ⟨_,z⟩:=hat.some;iM s13 z) (aQ s13);subst eb;rcases Ag hat3 with⟨kvs,k1,k2,k3⟩|⟨k1,rfl⟩
 ·obtain⟨e2,d5⟩:=yo (K:=X.K) (H:=hid H3 O) q k2 k3;exact⟨l,b,q,kvs,w2,rfl,ew,(ai H3 O) _ _ g1,.inl k1,hk.nx O _ σ _ (fin _ _ (aA (gV al q)) s13 trivial ⟨_,_,aq,d5.mono (eU lO),.inr ⟨_,rfl,jd e2,rfl⟩⟩) hnx⟩
 ·exact⟨l,b,q,[],w2,rfl,ew,(ai H3 O) _ _ g1,.inr ⟨k1,rfl⟩,hk.nx O _ σ _ (fin _ _ (aA (gV [] q)) s13 trivial ⟨_,[],aq,bG.mpr rfl,.inr ⟨[],rfl,rfl,rfl⟩⟩) hnx⟩⟩
end
section
variable[aj]{X:Cx}{o e:NR}{apos cpos:Pos}
theorem xu{fo fk : FX}(hu : X.A.units + 64 < Ov)(ho : XE X o fo)(he : XE X e fk)(hbase : OT o "get" X.env (eval o X.env) = eval o X.env := by rfl)(hfew : ((backTo cpos (N8 [e] X.env)).all (fun x => !x.1) && (backToKw cpos (OU [] X.env)).all (fun x => x.1.isSome)
      && decide (([e]:bj).length+([]:List OV).length+(if([]:List OV).isEmpty then 0 else 1)<30))=true:=by rfl)(hline:(apos.endLine==cpos.line)=true:=by rfl)(htr:backTo cpos (N8 [e] X.env)=[(false,eval e X.env)]:=by rfl):XE X (.Call (.Attribute o "get" apos) [e] [] cpos) (dG fo fk):=⟨PE.weak (wA `o ho.h he.h ⟨hbase,hfew,hline,htr⟩) λσ H Q zq=>zq.elim λO zq=>zq.elim λρ zq=>zq.elim λE hF=>⟨O,ρ,E,(gL.bind hF).imp λdd hF v H1 s1 d1=>by
    cases dd with
    |dct ks ds=>
      obtain⟨a,vs,rfl,_,hd⟩:=id (Hl.mp d1);refine⟨a,rfl,?_,O,ρ,E.same s1,((gL.bind hF).mono s1).imp λk hF y H2 s2 d2=>?_⟩
      · rcases hd with⟨kvs,e1,_⟩|⟨kvs,e1,_⟩|⟨kvs,o,e1,_⟩
        ·exact .inl ⟨kvs,.inl ((ai H1 O) _ _ e1)⟩
        ·exact .inr ⟨kvs,.inl ((ai H1 O) _ _ e1)⟩
        ·exact .inr ⟨kvs,.inr ⟨o,(ai H1 O) _ _ e1⟩⟩
      · obtain⟨d,hg,q⟩:=gL.rO hF
        have hg:(rC ks ds).bind (λal=>(cM k).map λq=>(bW al q).getD .non)=some d:=hg;obtain⟨al,hk,hg⟩:=Option.bind_eq_some_iff.mp hg;obtain⟨qk,ht,rfl⟩:=Option.map_eq_some_iff.mp hg;obtain⟨a',ea,hh⟩:=lK (d1.mono (aQ s2)) hk;cases ea;rw[eT ht]at d2;obtain⟨b,ws,eb,g1,g2⟩:=bv.mp d2;rw[cA g2]at g1;have g1':=(ai H2 O) _ _ g1;subst eb;have dn:bo X.K (hid H2 O) .non .non:=gq.mpr rfl;rcases hh with⟨kvs,k1,k2,k3⟩|⟨k1,rfl⟩
        · refine⟨gB kvs qk,.inl (.inr ⟨kvs,qk,b,t8 k1,rfl,g1',rfl⟩),q _ H2 (s1.trans s2) ?_⟩
          rcases jK qk k2 k3 with⟨z1,z2⟩|⟨w,d,z1,z2,z3⟩
          ·rw[z1,z2];exact dn
          ·rw[z1,z2];exact z3
        ·exact⟨none,.inr ⟨(ai H2 O) _ _ k1,rfl,b,qk,rfl,g1'⟩,q _ H2 (s1.trans s2) dn⟩
    |_=>exact hF.elim⟩⟩
end
section
variable[aj]
theorem t6{X:Cx}{st:cH}{F:bB}(i:Nat)(h:jV X st F):jV X st (j8 i F):=⟨λHb Ob pins s σ H E I zq=>zq.elim λO zq=>zq.elim λρ zq=>zq.elim λk zq=>zq.elim λr zq=>zq.elim λS zq=>zq.elim λhF hk=>by
 unfold j8 Ad at hF;split at hF
 ·rename_i xs hd;split at hF
  ·rename_i as hal
   have:=qE hal
   subst this;obtain⟨a,bs,h1,⟨xs',hO,hat⟩,nd,h4,h5⟩:=S.nst i _ hd;obtain⟨rfl,hHa⟩:xs'=as.map aA/\H a=some (.lst (bs.map .ref)):=by
    rcases hat with⟨e,q⟩|⟨_,e,_⟩|⟨e,_⟩
    ·injection e with e;exact⟨e.symm,q⟩
    ·cases e
    ·cases e
   obtain⟨na,nb⟩:=List.nodup_cons.mp nd;obtain⟨H1,I1,t1,k1,f1⟩:=uJ hO nb (λ_ _=>rfl) (λb hb=>(h4 b (J4 _ hb)).1) S.env.all I S.env.all.1;refine h.h Hb Ob pins s σ _ E I1 ⟨_,_,k,r,S.frzB hd h1 h4 h5 (λb hb=>k1 b λz=>hb (J4 _ z)) t1 λsm nn=>?_,hF,hk⟩;exact bI.mpr ⟨a,_,rfl,lu.of (by rw[dO (nn a J3),k1 a na];exact hHa),f1.den sm λb hb=>nn b (J4 _ hb)⟩
  ·exact h.h Hb Ob pins s σ H E I ⟨O,ρ,k,r,S,hF,hk⟩
 ·exact h.h Hb Ob pins s σ H E I ⟨O,ρ,k,r,S,hF,hk⟩⟩
end
section
variable[aj]{X:Cx}
theorem zW{x:Str}{p pos:Pos}{e:NR}{f:aV}(hc:X.calm=true)(hu:X.A.units+64<Ov)(hg:Gl X x)(hm:X.mg x=none)(hv:N3 x=some (.type "dict"))(ha:XA X [e] f)(hn:x≠"__name__":=by decide)(hdb:(x==("__debug__":Str))=false:=by decide)(hns:noStar e=true:=by rfl):XN X (.Call (.Name x p) [e] [] pos) (fL eZ f):=⟨PE.weak (oV (uc hc hu) hg hm hv ha.h hn hdb (cK hns) (dP rfl)) λσ H Q zq=>zq.elim λO zq=>zq.elim λρ zq=>zq.elim λE hF=>⟨O,ρ,E,(gL.bind hF).imp λds hF vs H1 s1 d1=>by
  obtain⟨d,hg,q⟩:=gL.rO hF;unfold eZ at hg;split at hg
  ·rename_i ys;obtain⟨ps,hp,hg⟩:=Option.bind_eq_some_iff.mp hg;obtain⟨sm,rfl⟩:=bC hg;obtain⟨v,ev,h1⟩:=d1.one;obtain⟨p,ws,ep,g1,g2⟩:=bI.mp h1;rw[kD hp]at g2;exact⟨O,ps,ws,p,by rw[ev,ep],E.all.same s1,(ai H1 O).seq g1,g2,sm,λl kvs' hl k1 k2=>q l _ (s1.trans (bh hl _)) (s1.free hl) ⟨_,aq,trivial⟩ ⟨_,_,aq,k2.mono (fP hl),.inr ⟨kvs',rfl,jd k1,rfl⟩⟩⟩
  ·cases hg⟩⟩
end
section
variable[aj]
theorem sS{X:Cx}{k k':Nat}{ps:aH}{g:List D->R D}{h:aV}{x:Str}{p pos:Pos}{e:NR}{es:bj}(C:vH X.prog X.w X.K X.mg X.base k x ps g)(hn:Ar ps.length g)(hr:eO k' X.A)(hk:k<=k')(ha:XA X (e::es) h)(hg:Gl X x:=by rfl)(hdb:(x==("__debug__":Str))=false:=by decide)(hns:(e::es).all noStar=true:=by rfl):XN X (.Call (.Name x p) (e::es) [] pos) (fR g h):=by
 refine⟨?_⟩;obtain⟨f,fd,F,b,kp,m⟩:=C;exact PE.weak (sv F (hr.mono hk) hg m kp b ha.h hdb (cK (Kr _ _ ▸ hns).1) (dP (Kr _ _ ▸ hns).2)) (vT hn)
end
section
variable[aj]{X:Cx}
theorem zP{tg o:NR}{f:FX}{apos cpos:Pos}(ho:XE X o f)(hbase:OT o "values" X.env (eval o X.env)=eval o X.env:=by rfl)(hline:(apos.endLine==cpos.line)=true:=by rfl):XI X tg (.Call (.Attribute o "values" apos) [] [] cpos) (qV f):=by
 refine⟨?_⟩;rintro pins s σ H RR I ⟨O,ρ,E,hG⟩;refine wpAny_Call_method0_late hbase hline (cD (ho.h pins s σ H (λv H1=>∃a o kvs,v=.ref a/\H1 a=some (.frz o (.dT kvs))/\RR (HP a o kvs) H1) I ⟨O,ρ,E,(gL.bind hG).imp λd hG v H1 s1 d1=>?_⟩) λv s1 zq=>zq.elim λx zq=>zq.elim λH1 zq=>zq.elim λI1 zq=>zq.elim λr1 zq=>zq.elim λa zq=>zq.elim λo zq=>zq.elim λkvs zq=>zq.elim λex zq=>zq.elim λha hR=>?_)
 ·obtain⟨ds,hg,q⟩:=gL.rO hG;unfold uK at hg;split at hg
  ·rename_i ks dl;cases e1:dZ ks dl with
   |none=>rw[e1]at hg;cases hg
   |some al=>
    rw[e1]at hg;cases hg;obtain⟨f1,f2⟩:=d7 e1;subst f1 f2;obtain⟨a,o,kvs,q1,q2,q3,q4⟩:=qT d1;exact⟨a,o,kvs,q1,(ai H1 O) _ _ q2,q _ H1 s1 (vR q2 q3 q4)⟩
  ·cases hg
 ·subst ex;cases r1;obtain⟨hob,hx,hsm,es2,ep,xs,hda,_⟩:=ux I1 ha;refine⟨"dict","dict.values",F.plainAttrs_dict,F.slot_dict_values,F.type_dict_values,⟨o,hob,hx.1⟩,λc e=>by cases e;exact⟨o,hob,hx.2.1⟩,Calls.callWith_builtin rfl (PySem.evalArgs_none ?_)⟩;refine xH hob hx hsm (v7 ⟨_,Ng _ rfl,rfl,rfl⟩ (Nf _ hob) hda ?_);have le:s1.heap.objs.size<=(s1.heap.push {cls:=.type "dict_values",data:=.fields #[.ref a]}).objs.size:=by rw[Ni];exact KO _
  refine⟨_,_,_,_,H1,rfl,I1.kept (t':=s1.toks) λb u e=>Nf _ (Nf _ e),xJ hda,⟨_,Ng _ rfl,rfl,rfl⟩,λb hb=>?_,hR⟩;rw[List.mem_singleton.mp hb];exact I1.fpOk le (I1.hok.fresh le)
end
section
variable[aj]
theorem wK{X:Cx}{st:cH}{F:bB}(i:Nat)(h:jV X st F):jV X st (mK i F):=⟨λHb Ob pins s σ H E I zq=>zq.elim λO zq=>zq.elim λρ zq=>zq.elim λk zq=>zq.elim λr zq=>zq.elim λS zq=>zq.elim λhF hk=>by
 unfold mK frzT at hF;split at hF
 ·rename_i ks ds hd;split at hF
  ·rename_i al hal;obtain⟨f1,f2⟩:=d7 hal;subst f1 f2;obtain⟨a,h1,haO,o,vs,ho,dv,hc⟩:=S.env.own i _ hd;have fin:∀(kvs:List (List Key×V))(H0:Hp)(I0:Inv X pins σ H0 s),H0 a=some (.dT kvs)->(∀b,b≠a->H0 b=H b)->kvs.map (·.1)=al.map (·.1)->vs=kvs.map (·.2)->N7 `i X.A (execs st X.env) (SP X pins E) X.xe s:=λkvs H0 I0 ha0 hH0 ek ev=>by
    obtain⟨o,I1⟩:=Ac I0 ha0;have hH':∀b,b≠a->upd H0 a (.frz o (.dT kvs)) b=H b:=λb nb=>by rw[ao nb];exact hH0 b nb
    have tab:aj.tab (upd H0 a (.frz o (.dT kvs))):=by
     have:upd H0 a (.frz o (.dT kvs))=upd H a (.frz o (.dT kvs)):=by
      funext b;by_cases z:b=a
      ·rw[z,aq,aq]
      ·rw[ao z,ao z,hH0 b z]
     rw[this];obtain⟨u,q1,q2⟩:=S.env.all.2 a haO;exact aj.own S.env.all.1 q1 q2
    refine h.h Hb Ob pins s σ _ E I1 ⟨_,_,k,r,S.frzT hd h1 hH' tab λsm nn=>?_,hF,hk⟩;exact Hl.mpr ⟨a,_,rfl,dv.mono sm,.inr (.inr ⟨kvs,o,by rw[dO nn];exact aq,by rw[jd ek],ev⟩)⟩
   rcases hc with⟨kvs,e0,e1,e2⟩|⟨kvs,e0,e1,e2⟩
   ·subst e0;cases kvs with
    |cons p rr=>
     cases al with
     |nil=>cases e1
     |cons q al=>injection e1 with e1 _;rcases p with⟨kx,vx⟩;cases kx<;>cases e1
    |nil=>
     cases al with
     |cons q al=>cases e1
     |nil=>exact fin [] _ (sA I ho) aq (λb nb=>ao nb) rfl e2
   ·subst e0;exact fin kvs H I ho (λ_ _=>rfl) (hZ (ks:=kvs.map (·.1)) (by rw[Mh];exact e1)).symm e2
  ·exact h.h Hb Ob pins s σ H E I ⟨O,ρ,k,r,S,hF,hk⟩
 ·exact h.h Hb Ob pins s σ H E I ⟨O,ρ,k,r,S,hF,hk⟩⟩
end
section
variable[aj]{X:Cx}{e:NR}{p p2 pos pos2:Pos}
theorem rY{f:FX}(hc:X.calm=true)(hu:X.A.units+64<Ov)(hg:Gl X "sorted")(hm:X.mg "sorted"=none)(hg2:Gl X "set")(hm2:X.mg "set"=none)(he:XE X e f)(hns:noStar e=true:=by rfl):XE X (.Call (.Name "sorted" p) [.Call (.Name "set" p2) [e] [] pos2] [] pos) (f1 fW f):=by
 refine⟨?_⟩;rintro pins s σ H Q I ⟨O,ρ,E,hF⟩;refine OA (kq I hg hm d8 ?_ (by decide) (by decide));refine Nt ?_ rfl rfl;show N7 _ _ (spliced ((false,eval (.Call (.Name "set" p2) [e] [] pos2) X.env)::backTo pos [])) _ _ s;refine Calls.spliced_cons ?_;refine OA (kq I hg2 hm2 (by first|rfl|decide +kernel) ?_ (by decide) (by decide));refine Nr ?_ (cK hns) (dP rfl);refine cD (pE he.h sZ (cK hns) pos2 pins s σ H (λvs H2=>∃v a,vs=[v]/\bJ H2 O/\∃d,fW a=some d/\bo X.K (hid H2 O) a v/\∀u H3,aF H2 H3->bo X.K (hid H3 O) d u->Q u H3) I ⟨O,ρ,E,(gL.bind hF).imp λa hF v H1 s1 d1=>?_⟩) ?_
 ·obtain⟨d,e,q⟩:=gL.rO hF;exact⟨v,a,rfl,E.all.same s1,d,e,d1,λu H3 s3 d3=>q u H3 (s1.trans s3) d3⟩
 ·intro us s1 ⟨vs,H1,I1,r1,v,a,ev,hO,d,hd,hden,q⟩;subst ev;cases a with
  |lst xs=>
   unfold fW at hd;dsimp only at hd;obtain⟨ks,hk,hd⟩:=Option.bind_eq_some_iff.mp hd;obtain⟨⟨k300,jf⟩,ed⟩:(ks.length<300/\tG ((dd ks).map kT))/\D.lst (aY bq ((dd ks).map kT))=d:=by
    split at hd
    ·rename_i c;exact⟨c,Option.some.inj hd⟩
    ·cases hd
   obtain⟨l,ws,ep,g1,g2⟩:=bI.mp hden;subst ep;obtain⟨u,eu,ru⟩:=vals1 r1;subst eu;cases ru;obtain⟨its,rv,pl,hz⟩:=I1.list ((ai H1 O).seq g1);rw[qJ hk]at g2;have wl:=g2.length;rw[Km]at wl;have il:=rv.length;have each:∀(i:Nat)(k:ay),ks[i]?=some k->∃b,its[i]?=some (.ref b)/\H1 b=some (.tup (k.map kV)):=λi k e=>by
    obtain⟨v,e1,dv⟩:=g2.get (i:=i) (d:=kT k) (by rw[Ki,e];rfl);obtain⟨w,e2,rw'⟩:=rv.get e1;obtain⟨b,zs,rfl,hb,dz⟩:=bv.mp dv;rw[cA dz]at hb;cases rw';exact⟨b,e2,(ai H1 O) _ _ hb⟩
   have kl:ks.length=its.length:=(by omega);have at':∀(i:Nat),i<ks.length->its.getD i .none=.ref (match its.getD i .none with
     |.ref b=>b
     |_=>0)/\H1 (match its.getD i .none with
     |.ref b=>b
     |_=>0)=some (.tup ((ks.getD i []).map kV)):=λi hi=>by
    obtain⟨b,e1,e2⟩:=each i ks[i] (KY hi);have a1:its.getD i .none=.ref b:=(by rw[Mg,e1];rfl);have a2:ks.getD i []=ks[i]:=(by rw[Mg,KY hi];rfl);rw[a1,a2];exact⟨rfl,e2⟩
   generalize hkb:(λi=>(ks.getD i [],match its.getD i .none with
     |.ref b=>b
     |_=>0):Nat->List Key×NQ)=kb
   have kb1:∀i,(kb i).1=ks.getD i []:=λi=>by rw[<-hkb]
   have kbf:∀(i:Nat),i<ks.length->its.getD i .none=.ref (kb i).2/\H1 (kb i).2=some (.tup ((kb i).1.map kV)):=λi hi=>by rw[<-hkb];exact at' i hi
   clear at' hkb;refine xI (its:=its.toArray) (kb:=kb) hu (I1.ok.hd hc) pl.isList (λi v hv=>?_) (by rw[Ko];omega) λh' tk L hS ha hkp=>?_
   ·have hi:i<its.length:=by
     have:=(Array.getElem?_eq_some_iff.mp hv).1
     rwa [Ko]at this
    obtain⟨a1,a2⟩:=kbf i `o;refine⟨?_,gA I1.hok a2⟩;rw[MK]at hv;rw[Mg,hv]at a1;exact a1
   ·rw[Ko]at ha;have I2:Inv X pins σ H1 {s1 with heap:=h',toks:=tk}:=I1.kept λb o' e=>hkp b o' (M8 e) e;obtain⟨o,es,epc,t,ho,hex,hd',R,led⟩:=hS;have Ll:=ha.ln;refine Calls.spliced_nil ?_;obtain⟨col,d',pm,hcol⟩:=rZ (prog:=X.prog) (w:=X.w) (A:=X.A.in1) (s:={s1 with heap:=h',toks:=tk}) (I1.ok.hd hc) ho hex hd' R.tt R.fits led (by rw[R.size.1];omega);rw[R.es,Mh]at pm;obtain⟨M,pM,eM⟩:=qi _ pm L rfl;have I3:Inv X pins σ H1 {s1 with heap:=h',drawn:=d',toks:=tk}:=by
     obtain⟨a1,a2,a3,a4,a5,a6,a7,a8,a9,a10,a11⟩:=I2;exact⟨a1,a2,a3,a4,a5,a6,a7,a8,a9,a10,a11⟩
    have keyM:∀x∈M,H1 x.2.2=some (.tup (x.2.1.map kV)):=λx hx=>by
     obtain⟨j,j1,j2⟩:=ha.of x (pM.mem_iff.mp hx);obtain⟨_,a2⟩:=kbf j `o;rw[j2];exact a2
    have dn:aB X.K (hid H1 O) (M.map λx=>kT x.2.1) (M.map λx=>V.ref x.2.2):=by
     clear pM eM
     induction M with
     |nil=>exact bG.mpr rfl
     |cons x M ih=>
      have hb:=keyM x J3;have bO:x.2.2∉O:=λz=>by
       obtain⟨u',q1,q2⟩:=hO.2 _ z;rw[hb]at q1;cases q1;exact q2
      exact aM.mpr ⟨_,_,rfl,bv.mpr ⟨_,_,rfl,by rw[dO bO];exact hb,lN x.2.1⟩,ih λy hy=>keyM y (J4 _ hy)⟩
    have rvM:Vals (M.map λx=>V.ref x.2.2) col:=by
     rw[<-eM];clear pM eM keyM dn
     induction M with
     |nil=>exact .nil
     |cons x M ih=>exact .cons rfl ih
    have pk:(M.map λx=>kT x.2.1).Perm ((dd ks).map kT):=by
     have:(M.map (·.2.1)).Perm (dd ks):=by
      refine(MF ((pM.map (·.2.1)).nodup_iff.mpr R.nd) (vL ks)).mpr λk=>?_;rw[qz,(pM.map (·.2.1)).mem_iff];constructor
      ·intro z;obtain⟨x,hx,rfl⟩:=List.mem_map.mp z;obtain⟨j,j1,j2⟩:=ha.of x hx;have e1:x.2.1=(kb j).1:=(by rw[j2]);have hj:j<ks.length:=(by omega);rw[e1,kb1,Mg,KY hj];exact Ly hj
      ·intro z;obtain⟨j,hj,rfl⟩:=LI z
       have:=ha.has j `o
       rwa [kb1,Mg,KY hj]at this
     have:=this.map kT
     rwa [Mh]at this
    refine iK (s0:={s1 with heap:=h',toks:=tk}) (s:={s1 with heap:=h',drawn:=d',toks:=tk}) I3 hO dn rvM ((t4 jf pk).trans (by rw[ed])) (λQ' hQ=>hcol _ _ λh2 tk2 k2=>hQ h2 tk2 k2) q
  |_=>cases hd
end
noncomputable abbrev Lk(K:MT)(f:NQ)(nm qual:Str)(st:NS)(oc:NN)(od:Option NQ)(kV dc pm:NN)(an:Option NQ)(cd ct:NN)(sl:Array gx):Prop:=K.lookup f=some ⟨oc,od,.func (MY nm qual (gC st) (b8 st) (af st) .none kV dc pm an cd ct),sl⟩
structure vN(P:NV)(w:NU)(K:MT)(mg:bS)(base:NX)(k:Nat)(N:aH)(qual:Str)(st:NS)(f:NQ)(B:bB):Prop where
 h:∀(cdv:NN)(A:N4)(outer:List Env)(s:NT)(H:Hp)(E:XK),eO k (A.deeper (Nv qual (af st) s.heap.objs.size f cdv))->Og (model P w) (A.deeper (Nv qual (af st) s.heap.objs.size f cdv)) (Nv qual (af st) s.heap.objs.size f cdv) (dW (gM P w) P w K mg base N qual (af st) f cdv A outer s H E).xe->
  jV (dW (gM P w) P w K mg base N qual (af st) f cdv A outer s H E) (b8 st) B
structure EW(P:NV)(w:NU)(K:MT)(mg:bS)(base:NX)(k:Nat)(N:aH)(qual:Str)(st:NS)(f:NQ)(B:bB):Prop where
 h:∀(cdv:NN)(A:N4)(outer:List Env)(s:NT)(H:Hp)(E:XK),nX K f cdv->eO k (A.deeper (Nv qual (af st) s.heap.objs.size f cdv))->Og (model P w) (A.deeper (Nv qual (af st) s.heap.objs.size f cdv)) (Nv qual (af st) s.heap.objs.size f cdv) (dW (gM P w) P w K mg base N qual (af st) f cdv A outer s H E).xe->
  jV (dW (gM P w) P w K mg base N qual (af st) f cdv A outer s H E) (b8 st) B
theorem EW.ok{P:NV}{w:NU}{K:MT}{mg:bS}{base:NX}{k:Nat}{N:aH}{qual:Str}{st:NS}{f:NQ}{B:bB}(h:EW P w K mg base k N qual st f B):qx P w K mg base k N qual st f B:=⟨λcdv A outer s H E hc hr hp=>(h.h cdv A outer s H E hc hr hp).h⟩
theorem vN.ok{P:NV}{w:NU}{K:MT}{mg:bS}{base:NX}{k:Nat}{N:aH}{qual:Str}{st:NS}{f:NQ}{B:bB}(h:vN P w K mg base k N qual st f B):BodyOk P w K mg base k N qual st f B:=⟨λcdv A outer s H E hr hp=>(h.h cdv A outer s H E hr hp).h⟩
section
variable{X:Cx}{x:Str}{pos:Pos}
theorem xw(i:Nat)(hN:X.N[i]?=some x:=by rfl)(hv:Eo X.env.scope x:=by first|exact Or.inl rfl|exact Or.inr (Or.inl rfl)|exact Or.inr (Or.inr rfl))(hd:(x==("__debug__":Str))=false:=by decide)(hcd:(x==("__classdict__":Str))=false:=by decide):XE X (.Name x pos) (aa i):=Bw (xv i hN hv hd hcd)
theorem xi{a b:NR}{fa fb:FX}(ha:XE X a fa)(hb:XE X b fb)(hs:jx b:=by exact λ_ _=>rfl):XE X (.Subscript a b pos) (f2 aD fa fb):=DT ha hb hs
theorem xs(i:Nat){e:NR}{f:FX}{pos':Pos}(hN:X.N.Nodup)(he:XE X e f)(hi:X.N[i]?=some x:=by rfl)(hx:Loc X.env.scope x:=by first|exact Or.inl rfl|exact Or.inr rfl)(hs:swapsWith e (some (.Name x pos')) pos.line X.env=pure false:=by rfl)(hf:X.fn x=true\/X.env.scope.names.lookup x=some .local:=by first|exact .inl rfl|exact .inr rfl|assumption):XS X (.Assign [.Name x pos'] e pos) (cq i f):=Bl hN hi hx he hs hf
end
noncomputable def HZ:aH->Bool
 |[]=>true
 |x::r=>!(r.contains x)&&HZ r
theorem oO{l:aH}(h:HZ l=true):l.Nodup:=by
 induction l with
 |nil=>exact KI
 |cons x r ih=>
  simp only[HZ,Kr,LC]at h;exact List.nodup_cons.mpr ⟨λm=>by rw[List.contains_iff_mem.mpr m]at h;exact absurd h.1 (by decide),ih h.2⟩
noncomputable def Ax:NR->aH
 |.Name x _=>[x]
 |.Tuple es _ _=>es.filterMap λe=>match e with
  |.Name x _=>some x
  |_=>none
 |_=>[]
noncomputable def wD(N:aH):dS->aH->aH
 |[],_=>[]
 |some j::r,t=>N.getD j ""::wD N r t
 |none::r,x::t=>x::wD N r t
 |none::r,[]=>""::wD N r []
section
variable{X:Cx}{elt tg iter:NR}{ifs:bj}{scope:N5}{ix:dS}{G:aV}{g:GF}{C:bg}{Fe:FX}{i:Nat}{y:Str}{lpos py pos:Pos}
theorem xl(hc:X.calm=true)(tk:lq ix g)(hi:XI X tg iter G)(hb:nJ X scope (wD X.N ix (Ax tg)) tg elt ifs g C Fe)(ok:gu X.env.scope.names X.N scope (wD X.N ix (Ax tg)) ix=true:=by rfl)(hs:∀x,Oo iter X.env x=pure x:=by intro _;rfl):XE X (.ListComp elt [⟨tg,iter,ifs,0⟩] scope pos) (eD ix G g C Fe):=Fh hc (.of ok) tk hi hb hs
theorem JF(hc:X.calm=true)(tk:lq ix g)(hi:XI X tg iter G)(hb:nJ X scope (wD X.N ix (Ax tg)) tg elt ifs g C Fe)(ok:gu X.env.scope.names X.N scope (wD X.N ix (Ax tg)) ix=true:=by rfl)(hs:∀x,Oo iter X.env x=pure x:=by intro _;rfl):XN X (.ListComp elt [⟨tg,iter,ifs,0⟩] scope pos) (eD ix G g C Fe):=EC hc (.of ok) tk hi hb hs
theorem JB(hN:X.N.Nodup)(hc:X.calm=true)(tk:lq ix g)(hi:XI X tg iter G)(hb:nJ X scope (wD X.N ix (Ax tg)) tg elt ifs g C Fe)(hi':X.N[i]?=some y:=by rfl)(hx:Loc X.env.scope y:=by first|exact Or.inl rfl|exact Or.inr rfl)(ok:gu X.env.scope.names X.N scope (wD X.N ix (Ax tg)) ix=true:=by rfl)(hsw:swapsWith (.ListComp elt [⟨tg,iter,ifs,0⟩] scope lpos) (some (.Name y py)) pos.line X.env=pure true:=by rfl)(hs:∀x,Oo iter X.env x=pure x:=by intro _;rfl)(hf:X.fn y=true\/X.env.scope.names.lookup y=some .local:=by first|exact .inl rfl|exact .inr rfl|assumption):XS X (.Assign [.Name y py] (.ListComp elt [⟨tg,iter,ifs,0⟩] scope lpos) pos) (cq i (eD ix G g C Fe)):=Es hN hi' hx hc (.of ok) tk hi hb hsw hs hf
theorem Jl{dp:Pos}(hN:X.N.Nodup)(hc:X.calm=true)(hi:XI X tg iter G)(hb:∀cl C' fp s H E,XG (bf X scope (wD X.N [none] (Ax tg)) cl C' fp s H E) tg (gN 0))(hi':X.N[i]?=some y:=by rfl)(hx:Loc X.env.scope y:=by first|exact Or.inl rfl|exact Or.inr rfl)(ok:gu X.env.scope.names X.N scope (wD X.N [none] (Ax tg)) [none]=true:=by rfl)(hsw:swapsWith (.ListComp (.Dict [] [] dp) [⟨tg,iter,[],0⟩] scope lpos) (some (.Name y py)) pos.line X.env=pure true:=by rfl)(hs:∀x,Oo iter X.env x=pure x:=by intro _;rfl)(hf:X.fn y=true\/X.env.scope.names.lookup y=some .local:=by first|exact .inl rfl|exact .inr rfl|assumption):XS X (.Assign [.Name y py] (.ListComp (.Dict [] [] dp) [⟨tg,iter,[],0⟩] scope lpos) pos) (gR i G):=⟨TG.F5 hN hi' hx hc (.of ok) hi.h (λcl C' fp s H E=>(hb cl C' fp s H E).h) hsw hs hf⟩
theorem Jv(hN:X.N.Nodup)(hc:X.calm=true)(tk:lq ix g)(hi:XI X tg iter G)(hb:nJ X scope (wD X.N ix (Ax tg)) tg elt ifs g C Fe)(hi':X.N[i]?=some y:=by rfl)(hx:Loc X.env.scope y:=by first|exact Or.inl rfl|exact Or.inr rfl)(ok:gu X.env.scope.names X.N scope (wD X.N ix (Ax tg)) ix=true:=by rfl)(hsw:swapsWith (.ListComp elt [⟨tg,iter,ifs,0⟩] scope lpos) (some (.Name y py)) pos.line X.env=pure true:=by rfl)(hs:∀x,Oo iter X.env x=pure x:=by intro _;rfl)(hf:X.fn y=true\/X.env.scope.names.lookup y=some .local:=by first|exact .inl rfl|exact .inr rfl|assumption):XS X (.Assign [.Name y py] (.ListComp elt [⟨tg,iter,ifs,0⟩] scope lpos) pos) (pF i (eD ix G g C Fe)):=v8 hN hi' hx hc (.of ok) tk hi hb hsw hs hf
end
structure U where
 P:NV
 w:NU
 K:MT
 mg:bS
 base:NX
 cL:NQ
 T:NQ
noncomputable abbrev Ca(u:U)(k:Nat)(x:Str)(ps:aH)(g:List D->R D):Prop:=Callee u.P u.w u.K u.mg u.base k x ps g
noncomputable abbrev Je(u:U)(k:Nat)(x:Str)(ps:aH)(g:List D->R D):Prop:=vH u.P u.w u.K u.mg u.base k x ps g
noncomputable abbrev Ma(u:U)(k:Nat)(c m:Str)(ps:aH)(g:List D->R D):Prop:=MethAt u.P u.w u.K u.mg u.base k c m ps g
noncomputable def Df(u:U)(x:Str)(st:NS):Prop:=∃f fd,tW u.K x x st f fd/\u.mg x=some (.ref f)
noncomputable def Dl(u:U)(x:Str)(st:NS):Prop:=∃f fd,tW u.K x x st f fd/\u.mg x=some (.ref f)/\nX u.K f (.ref u.cL)
noncomputable def Dm(u:U)(c m qual:Str)(st:NS):Prop:=∃C f fd,clsAt u.K c C/\HL u.K C/\Meth u.K C m f/\tW u.K m qual st f fd
noncomputable def Bd(x qual:Str)(st:NS)(ps:aH):Prop:=∀us:aE,us.length=ps.length->∀(kV doc pm:NN)(an:Option NQ)(cdv ct:NN),bindArgs (MY x qual (gC st) (b8 st) (af st) .none kV doc pm an cdv ct) ⟨us,[]⟩=pure (ps.zip us)
theorem tW.bd{K:MT}{x qual:Str}{st:NS}{f:NQ}{fd:Ow}{ps:aH}(F:tW K x qual st f fd)(h:Bd x qual st ps):Binds K fd ps []:=F.binds λkV doc pm an cdv ct us e=>h us e kV doc pm an cdv ct
section
variable{u:U}{x c m qual:Str}{st:NS}{ps:aH}{k:Nat}{B:bB}
theorem Jx(M:aH)(d:Df u x st)(b:Bd x x st ps)(sc:cu (ps++M) ps (af st))(h:(ps++M).Nodup->∀f,vN u.P u.w u.K u.mg u.base k (ps++M) x st f B):Ca u (k+1) x ps (aP B ps.length (ps++M).length):=by
 obtain⟨f,fd,F,e⟩:=d;exact wM F (tW.bd F b) e sc (h sc.nd f).ok
theorem Jr(M:aH){e:NR}{rp:Pos}{fx:FX}(d:Df u x st)(b:Bd x x st ps)(sc:cu (ps++M) ps (af st))(hbd:b8 st=[.Return (some e) rp])(h:∀(f:NQ)(cdv:NN)(A:N4)(outer:List Env)(s:NT)(H:Hp)(E:XK),eO k (A.deeper (Nv x (af st) s.heap.objs.size f cdv))->Og (model u.P u.w) (A.deeper (Nv x (af st) s.heap.objs.size f cdv)) (Nv x (af st) s.heap.objs.size f cdv) (dW (gM u.P u.w) u.P u.w u.K u.mg u.base (ps++M) x (af st) f cdv A outer s H E).xe->
  XN (dW (gM u.P u.w) u.P u.w u.K u.mg u.base (ps++M) x (af st) f cdv A outer s H E) e fx):Je u (k+1) x ps (aP (cf fx) ps.length (ps++M).length):=by
 obtain⟨f,fd,F,e⟩:=d;exact⟨f,fd,Ak F sc hbd λcdv A outer s H E hr hp=>(h f cdv A outer s H E hr hp).h,tW.bd F b,F.kp,e⟩
theorem Js(M:aH)(d:Dl u x st)(b:Bd x x st ps)(sc:cu (ps++M) ps (af st))(h:(ps++M).Nodup->∀(f:NQ)(A:N4)(outer:List Env)(s:NT)(H:Hp)(E:XK),eO k (A.deeper (Nv x (af st) s.heap.objs.size f (.ref u.cL)))->Og (model u.P u.w) (A.deeper (Nv x (af st) s.heap.objs.size f (.ref u.cL))) (Nv x (af st) s.heap.objs.size f (.ref u.cL)) (dW (gM u.P u.w) u.P u.w u.K u.mg u.base (ps++M) x (af st) f (.ref u.cL) A outer s H E).xe->
  jV (dW (gM u.P u.w) u.P u.w u.K u.mg u.base (ps++M) x (af st) f (.ref u.cL) A outer s H E) (b8 st) B):Ca u (k+1) x ps (aP B ps.length (ps++M).length):=by
 obtain⟨f,fd,F,e,hc⟩:=d;refine tD F (tW.bd F b) e sc (EW.ok ⟨λcdv A outer s H E hd hr hp=>?_⟩);obtain rfl:=hd.one hc;exact h sc.nd f A outer s H E hr hp
theorem Jm(M:aH)(d:Dm u c m qual st)(b:Bd m qual st ps)(sc:cu (ps++M) ps (af st))(h:(ps++M).Nodup->∀f,vN u.P u.w u.K u.mg u.base k (ps++M) qual st f B):Ma u (k+1) c m ps (aP B ps.length (ps++M).length):=by
 obtain⟨C,f,fd,h1,h2,h3,F⟩:=d;exact ww h1 h2 h3 F (tW.bd F b) sc (h sc.nd f).ok
theorem JA(M:aH){f:NQ}{fd:Ow}(F:tW u.K x x st f fd)(sc:cu (ps++M) ps (af st))(h:(ps++M).Nodup->vN u.P u.w u.K u.mg u.base k (ps++M) x st f B):iY u.P u.w u.K u.mg u.base (gM u.P u.w) (k+1) f fd ps (Ay u.K ps.length (aP B ps.length (ps++M).length)):=qc F sc (h sc.nd).ok
end
noncomputable def KD(K:MT)(x:Str)(st:NS):Prop:=∃f oc od kV dc pm an cd ct sl,M0 K N1 x=some (some (.ref f))/\Lk K f x x st oc od kV dc pm an cd ct sl/\MZ K cd x=true/\MV K (.ref f)=true
theorem KD.mk{K:MT}{x:Str}{st:NS}{f:NQ}{oc:NN}{od:Option NQ}{kV dc pm:NN}{an:Option NQ}{cd ct:NN}{sl:Array gx}(a:M0 K N1 x=some (some (.ref f)))(l:Lk K f x x st oc od kV dc pm an cd ct sl)(c:MZ K cd x=true)(k:MV K (.ref f)=true):KD K x st:=⟨f,oc,od,kV,dc,pm,an,cd,ct,sl,a,l,c,k⟩
noncomputable def KDs(K:MT):List (Str×NS)->Prop
 |[]=>True
 |p::r=>KD K p.1 p.2/\KDs K r
theorem KDs.mk{K:MT}{x:Str}{st:NS}{r:List (Str×NS)}(h:KD K x st)(t:KDs K r):KDs K ((x,st)::r):=⟨h,t⟩
noncomputable def Iq(u:U)(Z:Prop):List (Str×NS)->Prop
 |[]=>Z
 |p::r=>Iq u Z r/\Df u p.1 p.2
noncomputable def KZs(K:MT):aH->Prop
 |[]=>True
 |x::r=>M0 K N1 x=some none/\KZs K r
theorem KZs.mk{K:MT}{x:Str}{r:aH}(h:M0 K N1 x=some none)(t:KZs K r):KZs K (x::r):=⟨h,t⟩
noncomputable def Zs(u:U):aH->Prop
 |[]=>True
 |x::r=>Zs u r/\u.mg x=none
section
variable{u:U}{h:NX}
theorem Iq.of{Z:Prop}(X:u.K.In h)(G:h.Ns N1 u.mg)(z:Z):∀{l:List (Str×NS)},KDs u.K l->Iq u Z l
 |[],_=>z
 |_::_,h=>by
  obtain⟨⟨_,_,_,_,_,_,_,_,_,_,a,l,c,k⟩,r⟩:=h;exact⟨Iq.of X G z r,_,_,ud l c k,M6 X G a⟩
theorem Zs.of(X:u.K.In h)(G:h.Ns N1 u.mg):∀{l:aH},KZs u.K l->Zs u l
 |[],_=>trivial
 |_::_,⟨a,r⟩=>⟨Zs.of X G r,PySem.W.mg_none_of X G a⟩
end
theorem BM{us:aE}{n:Nat}(h:us.length=n+1):∃a r,us=a::r/\r.length=n:=by
 cases us with
 |nil=>cases h
 |cons a r=>exact⟨a,r,rfl,Nat.succ.inj h⟩
theorem GW{us:aE}(h:us.length=1):∃a,us=[a]:=List.length_eq_one_iff.mp h
theorem FZ{us:aE}(h:us.length=2):∃a b,us=[a,b]:=by
 obtain⟨a,r,rfl,k⟩:=BM h;obtain⟨b,rfl⟩:=GW k;exact⟨a,b,rfl⟩
theorem G8{us:aE}(h:us.length=3):∃a b c,us=[a,b,c]:=by
 obtain⟨a,r,rfl,k⟩:=BM h;obtain⟨b,c,rfl⟩:=FZ k;exact⟨a,b,c,rfl⟩
theorem Gc{us:aE}(h:us.length=4):∃a b c d,us=[a,b,c,d]:=by
 obtain⟨a,r,rfl,k⟩:=BM h;obtain⟨b,c,d,rfl⟩:=G8 k;exact⟨a,b,c,d,rfl⟩
theorem HW{us:aE}(h:us.length=5):∃a b c d e,us=[a,b,c,d,e]:=by
 obtain⟨a,r,rfl,k⟩:=BM h;obtain⟨b,c,d,e,rfl⟩:=Gc k;exact⟨a,b,c,d,e,rfl⟩
end TX
namespace TG
open L2
instance(priority:=low) noTabs:aj:=⟨λ_=>True,λ_ _=>trivial,λ_ _ _=>trivial⟩
open PySem PySem.Spec L2
theorem nr{α:Sort _}{a b:α}(h:a=b):a=b:=h
theorem dj{α β:Type}(a:α)(f:α->R β):Except.bind (Except.ok a:R α) f=f a:=nr rfl
theorem nZ{α β:Type}(x:Option Ex)(f:α->R β):Except.bind (Except.error x:R α) f=.error x:=nr rfl
theorem oB{α:Type}(a:α)(k:Ks)(ρ:ah)(f:α->R D):nH (.ok a) k ρ f=f a:=nr rfl
theorem oj{α:Type}(x:Ex)(k:Ks)(ρ:ah)(f:α->R D):nH (.error (some x)) k ρ f=k.ex x ρ:=nr rfl
theorem eQ{α:Type}(a:α):qC (.ok a:R α)=.ok a:=nr rfl
theorem de{α:Type}(a:α):rO (some a)=.ok a:=nr rfl
theorem ge_0(d:D)(ρ:ah):nQ (some (.val d)::ρ) 0=.ok d:=rfl
theorem wz(x:Option S)(ρ:ah)(i:Nat):nQ (x::ρ) (i+1)=nQ ρ i:=rfl
theorem jX(i:Nat)(ρ:ah):aa i ρ=nQ ρ i:=rfl
theorem wc(d:D)(ρ:ah):fC d ρ=.ok d:=rfl
theorem j6(ρ:ah):au ρ=.ok []:=rfl
theorem iG(f:FX)(g:aV)(ρ:ah):ae f g ρ=(f ρ).bind λx=>(g ρ).bind λxs=>.ok (x::xs):=rfl
theorem kA(g:aV)(ρ:ah):dF g ρ=(g ρ).bind λxs=>rO (eR xs):=rfl
theorem kH(g:aV)(ρ:ah):mE g ρ=(g ρ).bind λxs=>rO (kZ xs):=rfl
theorem wm(g:D->aW)(f:FX)(ρ:ah):f1 g f ρ=(f ρ).bind λa=>rO (g a):=rfl
theorem wf(g:D->D->aW)(f h:FX)(ρ:ah):f2 g f h ρ=(f ρ).bind λa=>(h ρ).bind λb=>rO (g a b):=rfl
theorem wX(f:FX)(ρ:ah):fB f ρ=(f ρ).bind λd=>rO (IM d):=rfl
theorem wo(g:List D->aW)(f:aV)(ρ:ah):fL g f ρ=(f ρ).bind λds=>rO (g ds):=rfl
theorem vQ(g:List D->R D)(f:aV)(ρ:ah):fR g f ρ=(f ρ).bind g:=nr rfl
theorem kI(f:bg)(ρ:ah):HV f ρ=(f ρ).bind λb=>.ok (!b):=rfl
theorem kX(f g:bg)(ρ:ah):HN f g ρ=(f ρ).bind λb=>if b then g ρ else .ok false:=rfl
theorem oS(f g:bg)(ρ:ah):Bf f g ρ=(f ρ).bind λb=>if b then .ok true else g ρ:=rfl
theorem fN(f:FX)(ρ:ah):Et f ρ=(f ρ).bind λd=>rO (truth d):=rfl
theorem iI(f g:FX)(ρ:ah):GV f g ρ=(f ρ).bind λd=>tJ d (g ρ):=rfl
theorem kr(f g:FX)(ρ:ah):Ja f g ρ=(f ρ).bind λd=>GU d (g ρ):=rfl
theorem iR(f:FX)(ρ:ah):Hg f ρ=(f ρ).bind λa=>rO (Ek a):=rfl
theorem oA(t:bg)(f g:FX)(ρ:ah):JC t f g ρ=(t ρ).bind λc=>if c then f ρ else g ρ:=rfl
theorem ko(T:String)(f:FX)(ρ:ah):IU T f ρ=(f ρ).bind λa=>rO (Hc T a):=rfl
theorem kC(f:FX)(ρ:ah):IH f ρ=(f ρ).bind λa=>.ok (.bl (isNon a)):=rfl
theorem iB(f:FX)(ρ:ah):jy f ρ=(f ρ).bind λa=>.ok (.bl (!isNon a)):=rfl
theorem kG(f:FX)(ρ:ah):y6 f ρ=(f ρ).bind λa=>rO (Ei a):=rfl
theorem fA(f:FX)(ρ:ah):Ej f ρ=(f ρ).bind λa=>rO (yL a):=rfl
theorem km(f:FX)(ρ:ah):Iw f ρ=(f ρ).bind λa=>rO (Fp a):=rfl
theorem fz(g g':D->D->aW)(fa fb fc:FX)(ρ:ah):DL g g' fa fb fc ρ=(fa ρ).bind λx=>(fb ρ).bind λy=>(rO (g x y)).bind λz=>tJ z ((fc ρ).bind λw=>rO (g' y w)):=rfl
theorem f9(f:FX)(ρ:ah):bK f ρ=(f ρ).bind λd=>rO (mj d):=rfl
theorem ez(f:aV)(ρ:ah):bZ f ρ=(f ρ).bind λds=>rO (jL ds):=rfl
theorem eB(f:aV)(ρ:ah):BI f ρ=(f ρ).bind λds=>rO (vI ds):=rfl
theorem kY(f:aV)(ρ:ah):Io f ρ=(f ρ).bind λds=>rO (Gu ds):=rfl
theorem iq(f:aV)(ρ:ah):t9 f ρ=(f ρ).bind λds=>rO (CZ ds):=rfl
theorem kU(z:Str):JG (.str z)=some z:=rfl
theorem eA(ρ:ah):jq ρ=.ok none:=rfl
theorem iV(f:FX)(ρ:ah):lR f ρ=(f ρ).bind λd=>rO (sX d):=rfl
theorem fq(f:FX)(l h:ah->R b9)(ρ:ah):kN f l h ρ=(f ρ).bind λa=>(l ρ).bind λlo=>(h ρ).bind λhi=>rO (mH a lo hi):=rfl
theorem iH(ρ:ah):bH ρ=.ok true:=rfl
theorem iz(k:Ks)(ρ:ah):bU k ρ=k.nx ρ:=nr rfl
theorem iC(A B:bB)(k:Ks)(ρ:ah):aU A B k ρ=A {k with nx:=B k} ρ:=nr rfl
theorem iw(f:FX)(k:Ks)(ρ:ah):cf f k ρ=nH (f ρ) k ρ .ok:=nr rfl
theorem fI(k:Ks)(ρ:ah):G0 k ρ=.ok .non:=nr rfl
theorem ki(c:bg)(A B:bB)(k:Ks)(ρ:ah):jT c A B k ρ=nH (c ρ) k ρ λb=>if b then A k ρ else B k ρ:=nr rfl
theorem iA(i:Nat)(f:FX)(k:Ks)(ρ:ah):cq i f k ρ=nH (f ρ) k ρ λd=>k.nx (setV i d ρ):=nr rfl
theorem fF(is:aR)(F:bB)(k:Ks)(ρ:ah):dq is F k ρ=F k (kill is ρ):=nr rfl
theorem iW(G:aV)(g:GF)(B:bB)(k:Ks)(ρ:ah):um G g B k ρ=nH (G ρ) k ρ λds=>d6 g B k ds ρ:=nr rfl
theorem xE(d:D)(x:Option S)(ρ:ah):setV 0 d (x::ρ)=some (.val d)::ρ:=rfl
theorem xK(i:Nat)(d:D)(x:Option S)(ρ:ah):setV (i+1) d (x::ρ)=x::setV i d ρ:=rfl
theorem kW(ρ:ah):kill [] ρ=ρ:=rfl
theorem iF(i:Nat)(is:aR)(ρ:ah):kill (i::is) ρ=kill is (ρ.set i none):=rfl
theorem pz(B:bB)(n:Nat)(a:D):aP B 1 n [a]=B K0 (env0 n [a]):=nr rfl
theorem pD(B:bB)(n:Nat)(a b:D):aP B 2 n [a,b]=B K0 (env0 n [a,b]):=nr rfl
theorem hU(B:bB)(n:Nat)(a b c:D):aP B 3 n [a,b,c]=B K0 (env0 n [a,b,c]):=nr rfl
theorem DU(B:bB)(n:Nat)(a b c d:D):aP B 4 n [a,b,c,d]=B K0 (env0 n [a,b,c,d]):=nr rfl
theorem DV(B:bB)(n:Nat)(a b c d e:D):aP B 5 n [a,b,c,d,e]=B K0 (env0 n [a,b,c,d,e]):=nr rfl
theorem kQ(ρ:ah):inB [] ρ=[]:=rfl
theorem ip(ix:dS)(ρ:ah):inB (none::ix) ρ=none::inB ix ρ:=rfl
noncomputable def pick(ρ:ah)(i:Nat):Option S:=match ρ[i]? with
 |some (some (.val d))=>some (.val d)
 |_=>none
theorem iN(i:Nat)(ix:dS)(ρ:ah):inB (some i::ix) ρ=pick ρ i::inB ix ρ:=rfl
theorem v6(d:D)(ρ:ah):pick (some (.val d)::ρ) 0=some (.val d):=rfl
theorem wG(x:Option S)(ρ:ah)(i:Nat):pick (x::ρ) (i+1)=pick ρ i:=rfl
theorem iQ(i:Nat)(f:FX)(k:Ks)(ρ:ah):pF i f k ρ=nH (f ρ) k ρ λd=>k.nx (ρ.set i (some (.own d))):=nr rfl
theorem iE(i:Nat)(F:bB)(k:Ks)(ρ:ah):AO i F k ρ=F k (frz i ρ):=nr rfl
theorem wd(d:D)(ρ:ah):frz 0 (some (.own d)::ρ)=some (.val d)::ρ:=rfl
theorem oz(d:D)(ρ:ah):frz 0 (some (.val d)::ρ)=some (.val d)::ρ:=rfl
theorem xc(i:Nat)(x:Option S)(ρ:ah):frz (i+1) (x::ρ)=x::frz i ρ:=by
 unfold frz;rw[Mt];split<;>rename_i h
 ·rw[h];rfl
 ·rfl
theorem ky(i j:Int):dg (.int i) (.int j)=some (.int (i+j)):=nr rfl
theorem jW(i j:Int):TG.EZ (.int i) (.int j)=some (.int (i-j)):=nr rfl
theorem oU(i j:Int):JQ (.int i) (.int j)=some (.bl (decide (i<j))):=nr rfl
theorem kL(i j:Int):tP (.int i) (.int j)=some (.bl (decide (i<j))):=nr rfl
theorem kj(x y:Str):tP (.str x) (.str y)=some (.bl (decide (x.cps.toList<y.cps.toList))):=nr rfl
theorem kO(c d:Bool):IV (.bl c) (.bl d)=some (.bl (c==d)):=nr rfl
theorem eh(c d:Bool):BR (.bl c) (.bl d)=some (.bl (!(c==d))):=nr rfl
theorem oG(i j:Int):Jo (.int i) (.int j)=some (.bl (decide (i<=j))):=nr rfl
theorem oM(i j:Int):En (.int i) (.int j)=some (.bl (decide (j<i))):=nr rfl
theorem o3(i j:Int):JR (.int i) (.int j)=some (.bl (decide (j<=i))):=nr rfl
theorem ku(i:Int):Ei (.int i)=some (.int (-i)):=nr rfl
theorem zQ{i j:Int}(h:0<j):cx (.int i) (.int j)=some (.int (i%j)):=by
 show(if decide (0<j)then some (D.int (i%j))else none)=_;rw[decide_eq_true h];rfl
theorem mz{i j:Int}(h:0<j)(h':j<10^200):dQ (.int i) (.int j)=some (.int (i/j)):=by
 show(if decide (0<j/\j<10^200)then some (D.int (i/j))else none)=_;rw[decide_eq_true ⟨h,h'⟩];rfl
theorem qb{i j:Int}(h:-(2^64)<i)(h':i<2^64):ly (.int i) (.int j)=some (.int (i*j)):=by
 show(if decide ((-(2^64)<i/\i<2^64)\/(-(2^64)<j/\j<2^64))then some (D.int (i*j))else none)=_;rw[decide_eq_true (.inl ⟨h,h'⟩)];rfl
theorem vo{i j:Int}(h:-(2^64)<j)(h':j<2^64):ly (.int i) (.int j)=some (.int (i*j)):=by
 show(if decide ((-(2^64)<i/\i<2^64)\/(-(2^64)<j/\j<2^64))then some (D.int (i*j))else none)=_;rw[decide_eq_true (.inr ⟨h,h'⟩)];rfl
theorem yd(i:Int)(n:Nat)(h:n<=1000000)(h':i.natAbs<2^64):qP (.int i) (.int n)=some (.int (i^n)):=by
 show(if decide (0<=(n:Int)/\(n:Int)<=1000000/\i.natAbs<2^64)then some (D.int (i^(n:Int).toNat))else none)=_;rw[decide_eq_true ⟨by omega,by omega,h'⟩];rfl
theorem fD(i j:Int):sM (.int i) (.int j)=some (.bl (i==j)):=by unfold sM pyEq;rfl
theorem f6(i j:Str):sM (.str i) (.str j)=some (.bl (i==j)):=by unfold sM pyEq;rfl
theorem fH(i j:Bool):sM (.bl i) (.bl j)=some (.bl (i==j)):=by unfold sM pyEq;rfl
theorem fh(i j:Int):gr (.int i) (.int j)=some (.bl (!(i==j))):=by unfold gr pyEq;rfl
theorem fO(i j:Str):gr (.str i) (.str j)=some (.bl (!(i==j))):=by unfold gr pyEq;rfl
theorem fZ(i j:Bool):gr (.bl i) (.bl j)=some (.bl (!(i==j))):=by unfold gr pyEq;rfl
theorem Ce{α:Type}(xs:List α)(n:Nat):jU xs (n:Int)=xs[n]?:=by
 unfold jU BG;rw[if_pos `o];by_cases h:n<xs.length
 ·rw[if_pos `o];rfl
 ·rw[if_neg `o,Ml `o];rfl
theorem wY{α:Type}(a:α)(xs:List α):jU (a::xs) 0=some a:=Ce (a::xs) 0
theorem xt{α:Type}(a:α)(xs:List α)(n:Nat):jU (a::xs) ((n+1:Nat):Int)=jU xs (n:Int):=by
 rw[Ce,Ce,Mt]
theorem F4(xs:List D)(i:Int):aD (.lst xs) (.int i)=jU xs i:=nr rfl
theorem lU(a:D)(xs:List D):aD (.tup (a::xs)) (.int 0)=some a:=wY a xs
theorem o5(a b:D)(xs:List D):aD (.tup (a::b::xs)) (.int 1)=some b:=(xt a _ 0).trans (wY b xs)
theorem o8(a b c:D)(xs:List D):aD (.tup (a::b::c::xs)) (.int 2)=some c:=(xt a _ 1).trans ((xt b _ 0).trans (wY c xs))
theorem gJ(a:D)(xs:List D):aD (.lst (a::xs)) (.int 0)=some a:=wY a xs
theorem g9(a b:D)(xs:List D):aD (.lst (a::b::xs)) (.int 1)=some b:=(xt a _ 0).trans (wY b xs)
theorem jR(a b c:D)(xs:List D):aD (.lst (a::b::c::xs)) (.int 2)=some c:=(xt a _ 1).trans ((xt b _ 0).trans (wY c xs))
theorem fG(xs:List D):tE [.lst xs]=some (.int xs.length):=nr rfl
theorem fX(xs:List D):tE [.tup xs]=some (.int xs.length):=nr rfl
theorem dA(xs:List D):dU [.lst xs]=some (.tup xs):=nr rfl
theorem dD(xs:List D):dU [.tup xs]=some (.tup xs):=nr rfl
theorem jY(b:Bool):IM (.bl b)=some b:=nr rfl
theorem eE(i:Int):sX (.int i)=some (some i):=nr rfl
theorem dM(b:Bool):truth (.bl b)=some b:=nr rfl
theorem dH(xs:List D):truth (.tup xs)=some (!xs.isEmpty):=nr rfl
theorem dN(xs:List D):truth (.lst xs)=some (!xs.isEmpty):=nr rfl
theorem kR(i j:Int):GI [.int i,.int j]=some (.int (if j>i then j else i)):=nr rfl
theorem kc(i j:Int):Ha [.int i,.int j]=some (.int (if j<i then j else i)):=nr rfl
theorem dy(xs:List D):mj (.lst xs)=some xs:=nr rfl
theorem dC(xs:List D):mj (.tup xs)=some xs:=nr rfl
theorem fM(k:R D):tJ (.bl true) k=k:=nr rfl
theorem fE(k:R D):tJ (.bl false) k=.ok (.bl false):=nr rfl
theorem iO(k:R D):GU (.bl true) k=.ok (.bl true):=nr rfl
theorem iU(k:R D):GU (.bl false) k=k:=nr rfl
theorem fm(a b:Bool):tJ (.bl a) (.ok (.bl b))=.ok (.bl (a&&b)):=by cases a<;>rfl
theorem ik(a b:Bool):GU (.bl a) (.ok (.bl b))=.ok (.bl (a||b)):=by cases a<;>rfl
theorem kK(b:Bool):Ek (.bl b)=some (.bl (!b)):=nr rfl
theorem jZ(xs:List D):Fp (.lst xs)=some (.lst xs.reverse):=nr rfl
theorem fS(n:Nat)(h:n<2^62):jL [.int n]=some (bF 0 n):=by
 show(if okR (n:Int)then some (bF 0 ((n:Int).toNat))else none)=_
 have:okR (n:Int)=true:=decide_eq_true ⟨by omega,by omega⟩
 rw[this];rfl
theorem jb{xs:List D}(h:xs.length<=100000):eR xs=some (.tup xs):=by unfold eR;rw[ca h];rfl
theorem nB{xs:List D}(h:xs.length<=100000):kZ xs=some (.lst xs):=by unfold kZ;rw[ca h];rfl
theorem yT(xs ys:List D)(h:xs.length+ys.length<=100000):dg (.lst xs) (.lst ys)=some (.lst (xs++ys)):=by
 show(if small (xs.length+ys.length)then some (D.lst (xs++ys))else none)=_;rw[ca h];rfl
theorem yq(xs ys:List D)(h:xs.length+ys.length<=100000):dg (.tup xs) (.tup ys)=some (.tup (xs++ys)):=by
 show(if small (xs.length+ys.length)then some (D.tup (xs++ys))else none)=_;rw[ca h];rfl
theorem iJ(xs:List D)(lo hi:b9):mH (.lst xs) lo hi=some (.lst (cutD xs lo hi)):=nr rfl
theorem iD(xs:List D)(lo hi:b9):mH (.tup xs) lo hi=some (.tup (cutD xs lo hi)):=nr rfl
theorem cC{ix:dS}{G:aV}{g:GF}{C:bg}{Fe:FX}{ρ:ah}{ds r:List D}(h1:G ρ=.ok ds)(h2:ds.length<=100000)(h3:rm (inB ix ρ) g C Fe ds=.ok r):eD ix G g C Fe ρ=.ok (.lst r):=by
 unfold eD;rw[h1,dj,ca h2,h3];rfl
theorem gb{α:Type}{ρ:ah}{g:GF}{C:bg}{Fe:FX}(mk:α->D)(p:α->Bool)(v:α->D):∀xs:List α,(∀a∈xs,∃ρ1,g (mk a) ρ=some ρ1/\C ρ1=.ok (p a)/\Fe ρ1=.ok (v a))->
  rm ρ g C Fe (xs.map mk)=.ok ((xs.filter p).map v)
 |[],_=>rfl
 |a::xs,h=>by
  obtain⟨ρ1,h1,h2,h3⟩:=h a J3;rw[Kw,mW,h1,de,dj,h2,eQ,dj,h3,eQ,dj,gb mk p v xs λb hb=>h b (J4 _ hb)];cases e:p a with
  |true=>rw[if_pos rfl,Lw e];rfl
  |false=>rw[if_neg J8,Lx (by simp[e])]
theorem gh{α:Type}{ρ:ah}{g:GF}{C:bg}{Fe:FX}(mk:α->D)(v:α->D)(xs:List α)(h:∀a∈xs,∃ρ1,g (mk a) ρ=some ρ1/\C ρ1=.ok true/\Fe ρ1=.ok (v a)):rm ρ g C Fe (xs.map mk)=.ok (xs.map v):=by
 rw[gb mk (λ_=>true) v xs h,List.filter_eq_self.mpr λ_ _=>rfl]
theorem mZ{ρ:ah}{g:GF}{C:bg}{Fe:FX}(P:D->Prop):∀ds:List D,(∀d∈ds,∃ρ1 v,g d ρ=some ρ1/\C ρ1=.ok true/\Fe ρ1=.ok v/\P v)->∃vs:List D,vs.length=ds.length/\(∀v∈vs,P v)/\rm ρ g C Fe ds=.ok vs
 |[],_=>⟨[],rfl,(λ_ h=>nomatch h),rfl⟩
 |d::ds,h=>by
  obtain⟨ρ1,w,h1,h2,h3,h4⟩:=h d J3;obtain⟨ws,e1,e2,e3⟩:=mZ P ds λd' hd=>h d' (J4 _ hd);refine⟨w::ws,by rw[KA,KA,e1],λw' hw=>?_,?_⟩
  ·rcases List.mem_cons.mp hw with z|z
   ·rw[z];exact h4
   ·exact e2 w' z
  ·rw[mW,h1,de,dj,h2,eQ,dj,h3,eQ,dj,e3];rfl
theorem vk{g:GF}{B:bB}{k:Ks}(Iv:Nat->ah->Prop):∀(ds:List D)(i:Nat)(ρ:ah),(∀j d ρ (k':Ks),i<=j->ds[j-i]?=some d->Iv j ρ->∃ρ1 ρ2,g d ρ=some ρ1/\Iv (j+1) ρ2/\B k' ρ1=k'.nx ρ2)->Iv i ρ->∃ρ',Iv (i+ds.length) ρ'/\d6 g B k ds ρ=k.nx ρ'
 |[],i,ρ,_,h=>⟨ρ,h,rfl⟩
 |d::ds,i,ρ,st,h=>by
  obtain⟨ρ1,ρ2,e1,h2,e2⟩:=st i d ρ ⟨d6 g B k ds,k.nx,d6 g B k ds,k.ex⟩ (Ka _) (by rw[ME];rfl) h;obtain⟨ρ',h3,e3⟩:=vk (g:=g) (B:=B) (k:=k) Iv ds (i+1) ρ2 (λj d' ρ k' hj hd=>st j d' ρ k' `o (by rw[show j-i=(j-(i+1))+1 by omega,Mt];exact hd)) h2;refine⟨ρ',?_,?_⟩
  ·rw[KA]
   have:i+(ds.length+1)=i+1+ds.length:=(by omega);rw[this];exact h3
  ·show((rO (g d ρ)).bind λρ1=>B ⟨d6 g B k ds,k.nx,d6 g B k ds,k.ex⟩ ρ1)=_;rw[e1,de,dj,e2];exact e3
theorem vc{g:GF}{B:bB}{k:Ks}{ds:List D}{ρ:ah}{Q:R D->Prop}(Iv:Nat->ah->Prop)(st:∀i d ρ (k':Ks),ds[i]?=some d->Iv i ρ->∃ρ1 ρ2,g d ρ=some ρ1/\Iv (i+1) ρ2/\B k' ρ1=k'.nx ρ2)(h:Iv 0 ρ)(q:∀ρ',Iv ds.length ρ'->Q (k.nx ρ')):Q (d6 g B k ds ρ):=by
 obtain⟨ρ',h1,e⟩:=vk (k:=k) Iv ds 0 ρ (λj d ρ k' _ hd=>st j d ρ k' hd) h;rw[e];rw[LV]at h1;exact q ρ' h1
theorem xr{α:Type}{xs:List α}{i:Nat}{a:α}(h:xs[i]?=some a):i<xs.length:=by
 rcases Mk i xs.length with z|z
 ·exact z
 ·rw[Ml z]at h;cases h
theorem uz{α β:Type}(f:α->β)(xs:List α)(i:Int):jU (xs.map f) i=(jU xs i).map f:=by
 unfold jU;rw[Km];cases BG xs.length i with
 |none=>rfl
 |some j=>simp
theorem qF{α:Type}{xs:List α}{k:Nat}(h:k<xs.length):jU xs (k:Int)=some xs[k]:=by
 unfold jU BG;rw[if_pos `o,if_pos `o];simp[h]
theorem uY{α:Type}{xs:List α}{i:Int}(h0:0<=i)(h:i<xs.length):jU xs i=some (xs[i.toNat]'`o):=by
 have e:i=((i.toNat:Nat):Int):=by omega
 conv=>lhs;rw[e]
 exact qF `o
noncomputable def C0:bB:=aU (jT (fB (f2 tP (aa 1) (fL tE (ae (aa 0) au)))) (cf (f2 aD (aa 0) (aa 1))) bU) (cf (fC (.int 0)))
theorem vi(ns:List Int)(k:Nat):aP C0 2 2 [.lst (ns.map .int),.int k]=.ok (.int (ns.getD k 0)):=by
 show(if decide ((k:Int)<((ns.map D.int).length:Int))then nH (rO (jU (ns.map D.int) (k:Int))) _ _ .ok else .ok (.int 0))=_;rw[Km];by_cases h:k<ns.length
 ·rw[if_pos (by simpa using h),uz,qF h,Option.map_some,Mg,KY h];rfl
 ·rw[if_neg (by simpa using h),Mg,Ml `o];rfl
theorem Cv(x y:Str):(x++y).length=x.length+y.length:=by
 show(x.cps++y.cps).size=_;rw[Array.size_append];rfl
theorem yP(x y:Str)(h:x.length<=1000)(h':y.length<=1000):dg (.str x) (.str y)=some (.str (x++y)):=by
 show(if small (x.length+y.length)then some (D.str (x++y))else none)=_;rw[ca `o];rfl
theorem uO(x:Str)(h:x.length<=1000)(i:Int)(h0:0<=i)(h1:i<x.length):∃y:Str,y.length=1/\aD (.str x) (.int i)=some (.str y):=by
 have hl:x.cps.toList.length=x.length:=by simp[Str.length]
 have hi:i<x.cps.toList.length:=by omega
 refine⟨⟨#[x.cps.toList[i.toNat]'`o]⟩,rfl,?_⟩;show(if small x.length then(jU x.cps.toList i).bind λc=>some (D.str ⟨#[c]⟩)else none)=_;rw[ca `o,if_pos rfl,uY h0 hi];rfl
theorem nD{lo:Int}{n:Nat}{d:D}(h:d∈bF lo n):∃k:Nat,k<n/\d=.int (lo+k):=by
 unfold bF at h;obtain⟨k,h1,h2⟩:=List.mem_map.mp h;exact⟨k,List.mem_range.mp h1,h2.symm⟩
theorem cN(lo:Int)(n:Nat):(bF lo n).length=n:=by unfold bF;rw[Km,Lb]
theorem BV{α β:Type}(f:α->β)(xs:List α)(lo hi:b9):cutD (xs.map f) lo hi=(cutD xs lo hi).map f:=by
 unfold cutD;rw[Km,<-Mw,<-Mv]
theorem Eh{α:Type}(xs:List α)(m:Nat):cutD xs none (some (m:Int))=xs.take m:=by
 unfold cutD;rw[HT.Ge,HT.Ho,KS,Lc];rcases Nat.le_total m xs.length with h|h
 ·rw[LU h]
 ·rw[Nat.min_eq_right h,LD h,LD (Ka _)]
theorem cY(q:ay):cM (.tup (q.map aC))=some q:=cy q
theorem vJ{i:Nat}{fk fv:FX}{k:Ks}{ρ:ah}{al:bu}{q:ay}{v:D}(h:ρ[i]?=some (some (.own (aA al))))(ek:fk ρ=.ok (.tup (q.map aC)))(ev:fv ρ=.ok v)(hl:al.length<=100000):gS i fk fv k ρ=k.nx (ρ.set i (some (.own (aA (bV al q v))))):=by
 have e:gU (encK al) (al.map (·.2)) (.tup (q.map aC)) v=some (bV al q v):=by
  unfold gU;rw[cI];show(cM (.tup (q.map aC))).bind _=_;rw[cY];show(if small al.length then _ else _)=_;rw[ca hl];rfl
 unfold gS;rw[h];show nH ((fv ρ).bind λv=>(fk ρ).bind λq=>rO (gU (encK al) (al.map (·.2)) q v)) k ρ _=_;rw[ev,dj,ek,dj,e];rfl
theorem FP(n:Nat)(c:bg)(B:bB)(k:Ks)(ρ:ah):pA n c B k ρ=cV c B k n ρ:=nr rfl
theorem Ee(c:bg)(B:bB)(k:Ks)(n:Nat)(ρ:ah):cV c B k (n+1) ρ=nH (c ρ) k ρ λb=>if b then B ⟨cV c B k n,k.nx,cV c B k n,k.ex⟩ ρ else k.nx ρ:=nr rfl
theorem Do(g:GF)(B:bB)(k:Ks)(d:D)(ds:List D)(ρ:ah):d6 g B k (d::ds) ρ=(rO (g d ρ)).bind λρ1=>B ⟨d6 g B k ds,k.nx,d6 g B k ds,k.ex⟩ ρ1:=nr rfl
local macro_rules
 |`(tactic| simp! only[$xs,*])=>`(tactic| simp only[dj,nZ,oB,oj,eQ,de,ge_0,wz,jX,wc,j6,iG,kA,kH,wm,wf,wX,wo,vQ,kI,kX,oS,fN,iI,kr,iR,oA,ko,kC,iB,kG,fA,km,fz,f9,ez,eB,kY,iq,eA,iV,fq,iH,iz,iC,iw,fI,ki,iA,fF,iW,iQ,iE,wd,oz,xc,xE,xK,kW,iF,kQ,ip,iN,v6,wG,MM,MN,Kw,Kv,KP,K4,K0,env0,List.replicate,MO,Kc,LV,Nat.reduceAdd,Nat.reduceSub,KA,KC,ky,jW,oU,kL,kj,kO,eh,kU,oG,oM,o3,ku,fD,f6,fH,fh,fO,fZ,lU,o5,o8,gJ,g9,jR,fG,fX,dA,dD,jY,eE,dM,dH,dN,kR,kc,dy,dC,fM,fE,iO,iU,fm,ik,kK,jZ,iJ,iD,gN,if_true,if_false,LA,Lz,KL,$xs,*])
theorem Jj(a:D):eR [a]=some (.tup [a]):=nr rfl
theorem FU:eR []=some (.tup []):=nr rfl
theorem Hw(a:D):kZ [a]=some (.lst [a]):=nr rfl
theorem IJ(a b:D):kZ [a,b]=some (.lst [a,b]):=nr rfl
inductive F2{α β:Type}(R:α->β->Prop):List α->List β->Prop where
 |nil:F2 R [] []
 |cons {a:α} {b:β} {as:List α} {bs:List β} (h:R a b) (t:F2 R as bs):F2 R (a::as) (b::bs)
end TG
namespace TD
open PySem PySem.Spec L2 TG TX
noncomputable def bi:bB:=aU (jT (fB (f2 tP (aa 1) (fL tE (ae (aa 0) au)))) (cf (f2 aD (aa 0) (aa 1))) bU) (cf (fC (.int 0)))
end TD
namespace TD
open PySem PySem.Spec L2 TG
local macro_rules
 |`(tactic| simp! only[$xs,*])=>`(tactic| simp only[dj,nZ,oB,oj,eQ,de,ge_0,wz,jX,wc,j6,iG,kA,kH,wm,wf,wX,wo,vQ,kI,kX,oS,fN,iI,kr,iR,oA,ko,kC,iB,kG,fA,km,fz,f9,ez,eB,kY,iq,eA,iV,fq,iH,iz,iC,iw,fI,ki,iA,fF,iW,iQ,iE,wd,oz,xc,xE,xK,kW,iF,kQ,ip,iN,v6,wG,MM,MN,Kw,Kv,KP,K4,K0,env0,List.replicate,MO,Kc,LV,Nat.reduceAdd,Nat.reduceSub,KA,KC,ky,jW,oU,kL,kj,kO,eh,kU,oG,oM,o3,ku,fD,f6,fH,fh,fO,fZ,lU,o5,o8,gJ,g9,jR,fG,fX,dA,dD,jY,eE,dM,dH,dN,kR,kc,dy,dC,fM,fE,iO,iU,fm,ik,kK,jZ,iJ,iD,gN,if_true,if_false,LA,Lz,KL,$xs,*])
local macro_rules
 |`(tactic| simp! only[$xs,*])=>`(tactic| simp only[dj,nZ,oB,oj,eQ,de,ge_0,wz,jX,wc,j6,iG,kA,kH,wm,wf,wX,wo,vQ,kI,kX,oS,fN,iI,kr,iR,oA,ko,kC,iB,kG,fA,km,fz,f9,ez,eB,kY,iq,eA,iV,fq,iH,iz,iC,iw,fI,ki,iA,fF,iW,iQ,iE,wd,oz,xc,xE,xK,kW,iF,kQ,ip,iN,v6,wG,MM,MN,Kw,Kv,KP,K4,K0,env0,List.replicate,MO,Kc,LV,Nat.reduceAdd,Nat.reduceSub,KA,KC,ky,jW,oU,kL,kj,kO,eh,kU,oG,oM,o3,ku,fD,f6,fH,fh,fO,fZ,lU,o5,o8,gJ,g9,jR,fG,fX,dA,dD,jY,eE,dM,dH,dN,kR,kc,dy,dC,fM,fE,iO,iU,fm,ik,kK,jZ,iJ,iD,gN,if_true,if_false,LA,Lz,KL,$xs,*])
end TD
namespace T4
open PySem PySem.Spec L2 TG TD
local macro_rules
 |`(tactic| simp! only[$xs,*])=>`(tactic| simp only[dj,nZ,oB,oj,eQ,de,ge_0,wz,jX,wc,j6,iG,kA,kH,wm,wf,wX,wo,vQ,kI,kX,oS,fN,iI,kr,iR,oA,ko,kC,iB,kG,fA,km,fz,f9,ez,eB,kY,iq,eA,iV,fq,iH,iz,iC,iw,fI,ki,iA,fF,iW,iQ,iE,wd,oz,xc,xE,xK,kW,iF,kQ,ip,iN,v6,wG,MM,MN,Kw,Kv,KP,K4,K0,env0,List.replicate,MO,Kc,LV,Nat.reduceAdd,Nat.reduceSub,KA,KC,ky,jW,oU,kL,kj,kO,eh,kU,oG,oM,o3,ku,fD,f6,fH,fh,fO,fZ,lU,o5,o8,gJ,g9,jR,fG,fX,dA,dD,jY,eE,dM,dH,dN,kR,kc,dy,dC,fM,fE,iO,iU,fm,ik,kK,jZ,iJ,iD,gN,if_true,if_false,LA,Lz,KL,$xs,*])
local macro_rules
 |`(tactic| simp! only[$xs,*])=>`(tactic| simp only[dj,nZ,oB,oj,eQ,de,ge_0,wz,jX,wc,j6,iG,kA,kH,wm,wf,wX,wo,vQ,kI,kX,oS,fN,iI,kr,iR,oA,ko,kC,iB,kG,fA,km,fz,f9,ez,eB,kY,iq,eA,iV,fq,iH,iz,iC,iw,fI,ki,iA,fF,iW,iQ,iE,wd,oz,xc,xE,xK,kW,iF,kQ,ip,iN,v6,wG,MM,MN,Kw,Kv,KP,K4,K0,env0,List.replicate,MO,Kc,LV,Nat.reduceAdd,Nat.reduceSub,KA,KC,ky,jW,oU,kL,kj,kO,eh,kU,oG,oM,o3,ku,fD,f6,fH,fh,fO,fZ,lU,o5,o8,gJ,g9,jR,fG,fX,dA,dD,jY,eE,dM,dH,dN,kR,kc,dy,dC,fM,fE,iO,iU,fm,ik,kK,jZ,iJ,iD,gN,if_true,if_false,LA,Lz,KL,$xs,*])
theorem lV:∀{p q:ay},p.map aC=q.map aC->p=q:=λ{p q} h=>by
 have:=congrArg keysOf h
 rw[cy,cy]at this;exact Option.some.inj this
section
open Classical
variable(m:Nat)
noncomputable def JM(acc:List (List D))(r:List D):List (List D):=if r.take m∈acc then acc else acc++[r.take m]
noncomputable def fs(t:List (List D)):List (List D):=t.foldl (JM m) []
noncomputable def gp(t:List (List D))(f:List D):List (List D):=(t.filter λr=>decide (r.take m=f)).map (List.drop m)
noncomputable def flat(t:List (List D)):List (List D):=(fs m t).flatMap λf=>(gp m t f).map (f++·)
end
open Classical in
theorem oJ(al:bu)(q:ay)(v:D):(bV al q v).map (·.1)=if q∈al.map (·.1)then al.map (·.1)else al.map (·.1)++[q]:=by
 have e:(al.any λp=>decide (p.1=q))=true↔q∈al.map (·.1):=by
  rw[ML,MG];simp only[decide_eq_true_eq]
 unfold bV;by_cases h:q∈al.map (·.1)
 ·rw[if_pos (e.mpr h),if_pos h,Mh];refine K8 λp _=>?_;show(if p.1=q then(p.1,v)else p).1=p.1;split<;>rfl
 ·rw[if_neg λz=>h (e.mp z),if_neg h,K9];rfl
theorem ju{al:bu}{q:ay}{v:D}{p:List Key×D}(h:p∈bV al q v):p∈al\/p=(q,v):=by
 unfold bV at h;split at h
 ·obtain⟨a,ha,e⟩:=List.mem_map.mp h;by_cases z:a.1=q
  ·rw[if_pos z]at e;exact .inr (by rw[<-e,z])
  ·rw[if_neg z]at e;exact .inl (by rw[<-e];exact ha)
 ·rcases List.mem_append.mp h with z|z
  ·exact .inl z
  ·exact .inr (List.mem_singleton.mp z)
theorem qf{al:bu}(q:ay)(v:D)(h:(al.map (·.1)).Nodup):((bV al q v).map (·.1)).Nodup:=by
 rw[oJ];split
 ·exact h
 ·rename_i z;exact List.nodup_append.mpr ⟨h,by simp,λa ha b hb e=>by
   rw[List.mem_singleton.mp hb]at e;rw[e]at ha;exact z ha⟩
theorem mJ(al:bu)(q:ay)(v:D):(bV al q v).length<=al.length+1:=by
 have:=congrArg List.length (oJ al q v)
 rw[Km]at this;rw[this];split<;>simp
theorem jm:∀{al:bu}{p:List Key×D},(al.map (·.1)).Nodup->p∈al->bW al p.1=some p.2
 |a::al,p,h,hp=>by
  obtain⟨h1,h2⟩:=List.nodup_cons.mp (by simpa using h:(a.1::al.map (·.1)).Nodup);unfold bW;by_cases e:a.1=p.1
  ·rw[Mq (by simpa using e)];rcases List.mem_cons.mp hp with z|z
   ·rw[z];rfl
   ·exact absurd (show a.1∈al.map (·.1)from by rw[e];exact List.mem_map.mpr ⟨p,z,rfl⟩) h1
  ·rw[Mr (by simpa using e)];rcases List.mem_cons.mp hp with z|z
   ·exact absurd (by rw[z]) e
   ·exact jm h2 z
theorem lz(al:bu):rC (encK al) (al.map (·.2))=some al:=by
 cases al with
 |nil=>rfl
 |cons p al=>exact cI (p::al)
theorem sB(al:bu):gz [aA al]=some (.lst (encK al)):=by
 show(rC (encK al) (al.map (·.2))).bind _=_;rw[lz];rfl
theorem Fz(al:bu)(q:ay):nS (aA al) (.tup (q.map aC))=bW al q:=by
 show(rC (encK al) (al.map (·.2))).bind _=_;rw[lz];show(cM (.tup (q.map aC))).bind _=_;rw[cY];rfl
end T4
namespace Tk14
open PySem PySem.Spec L2 TG TX TD
noncomputable def top(i:Nat):NS:=PySem.Challenge.pw_twoglass_k14_whole_changes_add_up.main.body.getD i (.Pass ⟨0,0,0,0⟩)
noncomputable def cR:bB:=cf (fL dU (ae (f2 ka (aa 1) (aa 0)) au))
noncomputable def cX:bB:=cf (fL eZ (ae (eD [none,some 0] (bK (aa 1)) (gN 0) bH (dF (ae (kN (aa 0) jq (lR (aa 1))) (ae (aa 0) au)))) au))
noncomputable def bL:bB:=aU (pF 3 (fR (aP cX 2 2) (ae (aa 0) (ae (aa 1) au)))) (dq [1] (aU (um (bK (aa 2)) (gT 3 (qD [4,5,6])) (aU (jT (jh [3] (fB (f2 gr (dG (aa 3) (aa 4)) (aa 5)))) iZ bU) (aU (gS 3 (aa 4) (aa 6)) (dq [4,5,6] bU)))) (mK 3 (cf (fR (aP cR 2 2) (ae (aa 0) (ae (eD [none] (qV (aa 3)) (gN 0) (fB (jy (aa 0))) (aa 0)) au)))))))
noncomputable def eF:bB:=cf (fL dU (ae (eD [none] (bK (aa 0)) (gN 0) (fB (f2 gr (f2 aD (aa 0) (fC (.int 1))) (f2 aD (aa 0) (fC (.int 2))))) (aa 0)) au))
noncomputable def cz:bB:=aU (cq 3 (fR (aP cX 2 2) (ae (aa 0) (ae (aa 1) au)))) (aU (cq 4 (fR (aP cX 2 2) (ae (aa 0) (ae (aa 2) au)))) (aU (cq 5 (f1 fW (f2 dg (fL gz (ae (aa 3) au)) (fL gz (ae (aa 4) au))))) (cf (fR (aP eF 1 1) (ae (eD [none,some 3,some 4] (bK (aa 5)) (gN 0) bH (dF (ae (aa 0) (ae (dG (aa 1) (aa 0)) (ae (dG (aa 2) (aa 0)) au))))) au)))))
noncomputable def bN:bB:=aU (pF 2 (fL eZ (ae (eD [none] (bK (aa 0)) (gN 0) bH (dF (ae (f2 aD (aa 0) (fC (.int 0))) (ae (aa 0) au)))) au))) (dq [0] (aU (um (bK (aa 1)) (gT 3 (qD [3,4,5])) (aU (cq 6 (k8 [2] (g7 (aa 2) (aa 3) (dF (ae (aa 3) (ae (aa 4) (ae (aa 4) au))))))) (aU (jT (fB (f2 gr (f2 aD (aa 6) (fC (.int 2))) (aa 4))) iZ bU) (aU (gS 2 (aa 3) (dF (ae (aa 3) (ae (f2 aD (aa 6) (fC (.int 1))) (ae (aa 5) au))))) (dq [4,5,6] bU))))) (AO 2 (cf (fR (aP eF 1 1) (ae (eD [none,some 2] (bK (fL fU (ae (aa 2) au))) (gN 0) bH (f2 nS (aa 1) (aa 0))) au))))))
noncomputable def aX:bB:=cf (fL dU (ae (eD [none,none,none] (bK (aa 0)) (gT 3 (qD [0,1,2])) bH (dF (ae (aa 0) (ae (aa 2) (ae (aa 1) au))))) au))
noncomputable def bY:bB:=aU (cq 2 (fC (.str "abcdefghijklmnopqrstuvwxyz"))) (aU (cq 3 (f2 aD (aa 2) (f2 cx (aa 1) (fC (.int 26))))) (aU (cq 4 (f2 aD (aa 2) (f2 cx (f2 dg (f2 dg (aa 1) (fC (.int 1))) (f2 cx (f2 dQ (aa 1) (fC (.int 26))) (fC (.int 25)))) (fC (.int 26))))) (aU (cq 5 (fC (.str ""))) (aU (cq 0 (f2 dg (aa 0) (fC (.int 1)))) (dq [1,2] (aU (pA 200 (fB (f2 En (aa 0) (fC (.int 1)))) (aU (cq 5 (f2 dg (f2 aD (mE (ae (aa 3) (ae (aa 4) au))) (f2 cx (aa 0) (fC (.int 2)))) (aa 5))) (cq 0 (f2 dQ (aa 0) (fC (.int 2)))))) (cf (aa 5))))))))
noncomputable def aK:bB:=aU (jT (fB (f2 sM (aa 0) (fC (.int 0)))) (cf (f2 dg (f2 ly (f2 EZ (f2 ly (aa 1) (fC (.int 7919))) (f2 ly (fC (.int 5)) (fC (.int 7919)))) (f2 aD (mE (ae (fC (.int 1)) (ae (y6 (fC (.int 1))) (ae (f2 qP (fC (.int 10)) (fC (.int 54))) (ae (y6 (f2 qP (fC (.int 10)) (fC (.int 54)))) au))))) (f2 cx (aa 2) (fC (.int 4))))) (f2 cx (f2 dQ (aa 2) (fC (.int 4))) (f2 qP (fC (.int 10)) (fC (.int 50)))))) bU) (aU (jT (fB (f2 sM (aa 0) (fC (.int 1)))) (cf (fR (aP bY 2 6) (ae (aa 1) (ae (aa 2) au)))) bU) (cf (fL dU (ae (eD [none,some 2] (bZ (ae (f2 cx (aa 1) (fC (.int 4))) au)) (gN 0) bH (dF (ae (aa 0) (ae (fR (aP bY 2 6) (ae (aa 0) (ae (aa 1) au))) au)))) au))))
noncomputable def bP:bB:=aU (cq 3 (mE (ae (aa 0) au))) (aU (jT (fB (f2 En (aa 1) (fC (.int 1)))) (cq 3 (mE (ae (f2 cx (aa 0) (fC (.int 3))) (ae (f2 dQ (aa 0) (fC (.int 3))) au)))) bU) (aU (jT (fB (f2 En (aa 1) (fC (.int 2)))) (cq 3 (mE (ae (f2 cx (aa 0) (fC (.int 2))) (ae (f2 cx (f2 dQ (aa 0) (fC (.int 2))) (fC (.int 3))) (ae (f2 dQ (aa 0) (fC (.int 6))) au))))) bU) (cf (fL dU (ae (eD [none,some 2,some 3] (bZ (ae (aa 1) au)) (gN 0) bH (fR (aP aK 3 3) (ae (f2 cx (f2 dQ (aa 1) (f2 dg (aa 0) (fC (.int 2)))) (fC (.int 2))) (ae (f2 aD (aa 2) (aa 0)) (ae (aa 1) au))))) au)))))
noncomputable def cO:bB:=cf (f2 dg (fR (aP bP 3 4) (ae (aa 0) (ae (aa 2) (ae (aa 4) au)))) (fL dU (ae (eD [none,some 4,some 1] (bZ (ae (aa 3) au)) (gN 0) bH (fR (aP aK 3 3) (ae (f2 cx (f2 dg (f2 dQ (aa 1) (fC (.int 7))) (aa 0)) (fC (.int 3))) (ae (aa 2) (ae (aa 1) au))))) au)))
noncomputable def bx:bB:=aU (gR 4 (bZ (ae (aa 3) au))) (aU (cq 5 (f2 dQ (fR (aP bi 2 2) (ae (aa 0) (ae (fC (.int 0)) au))) (fC (.int 16)))) (aU (um (bK (kN (aa 0) (lR (fC (.int 1))) (lR (fC (.int 241))))) (gN 6) (aU (cq 7 (f2 cx (f2 dQ (aa 6) (aa 3)) (fC (.int 20)))) (aU (cq 8 (fR (aP bP 3 4) (ae (aa 7) (ae (aa 1) (ae (aa 5) au))))) (aU (jT (fB (f2 sM (f2 cx (f2 dQ (aa 6) (f2 ly (fC (.int 20)) (aa 3))) (fC (.int 4))) (fC (.int 0)))) (gK 4 h7 (f2 cx (aa 6) (aa 3)) (aa 8) (fC .non)) (gK 4 gY (f2 cx (aa 6) (aa 3)) (aa 8) (fR (aP cO 5 5) (ae (aa 7) (ae (f2 cx (f2 dQ (aa 6) (f2 ly (fC (.int 80)) (aa 3))) (fC (.int 5))) (ae (aa 1) (ae (aa 2) (ae (aa 5) au)))))))) (dq [6,7,8] bU))))) (j8 4 (cf (aa 4)))))
noncomputable def b7:bB:=cf (fL dU (ae (eD [none,some 0] (bK (fL iy (ae (fL gz (ae (aa 0) au)) au))) (gN 0) bH (f2 nS (aa 1) (aa 0))) au))
noncomputable def k6:bB:=aU (cq 1 (f2 dg (fC (.int 1)) (f2 cx (fR (aP bi 2 2) (ae (aa 0) (ae (fC (.int 0)) au))) (fC (.int 3))))) (aU (cq 2 (f2 cx (f2 dQ (fR (aP bi 2 2) (ae (aa 0) (ae (fC (.int 0)) au))) (fC (.int 3))) (fC (.int 4)))) (aU (cq 3 (eD [none] (bK (fR (aP bx 4 9) (ae (aa 0) (ae (aa 1) (ae (aa 2) (ae (fC (.int 4)) au)))))) (gN 0) bH (fR (aP b7 1 1) (ae (aa 0) au)))) (aU (cq 4 (eD [none,some 1,some 3] (bZ (ae (fC (.int 3)) au)) (gN 0) bH (fR (aP cz 3 6) (ae (aa 1) (ae (f2 aD (aa 2) (aa 0)) (ae (f2 aD (aa 2) (f2 dg (aa 0) (fC (.int 1)))) au)))))) (dq [0,2] (aU (um (bZ (ae (fC (.int 3)) au)) (gN 5) (aU (jT (fB (f2 gr (fR (aP bL 3 7) (ae (aa 1) (ae (f2 aD (aa 3) (aa 5)) (ae (f2 aD (aa 4) (aa 5)) au)))) (f2 aD (aa 3) (f2 dg (aa 5) (fC (.int 1)))))) (cf (fC (.bl false))) bU) (aU (jT (fB (f2 gr (fR (aP bL 3 7) (ae (aa 1) (ae (f2 aD (aa 3) (f2 dg (aa 5) (fC (.int 1)))) (ae (fR (aP aX 1 1) (ae (f2 aD (aa 4) (aa 5)) au)) au)))) (f2 aD (aa 3) (aa 5)))) (cf (fC (.bl false))) bU) (aU (jT (Bf (fB (f2 gr (fR (aP bN 2 7) (ae (f2 aD (aa 4) (aa 5)) (ae (fR (aP aX 1 1) (ae (f2 aD (aa 4) (aa 5)) au)) au))) (dF au))) (fB (f2 gr (fR (aP aX 1 1) (ae (fR (aP aX 1 1) (ae (f2 aD (aa 4) (aa 5)) au)) au)) (f2 aD (aa 4) (aa 5))))) (cf (fC (.bl false))) bU) (dq [5] bU))))) (aU (cq 6 (fR (aP bN 2 7) (ae (f2 aD (aa 4) (fC (.int 0))) (ae (f2 aD (aa 4) (fC (.int 1))) au)))) (aU (jT (Bf (fB (f2 gr (aa 6) (fR (aP cz 3 6) (ae (aa 1) (ae (f2 aD (aa 3) (fC (.int 0))) (ae (f2 aD (aa 3) (fC (.int 2))) au)))))) (fB (f2 gr (fR (aP aX 1 1) (ae (aa 6) au)) (fR (aP bN 2 7) (ae (fR (aP aX 1 1) (ae (f2 aD (aa 4) (fC (.int 1))) au)) (ae (fR (aP aX 1 1) (ae (f2 aD (aa 4) (fC (.int 0))) au)) au)))))) (cf (fC (.bl false))) bU) (aU (cq 7 (fR (aP bN 2 7) (ae (aa 6) (ae (f2 aD (aa 4) (fC (.int 2))) au)))) (aU (jT (Bf (fB (f2 gr (aa 7) (fR (aP bN 2 7) (ae (f2 aD (aa 4) (fC (.int 0))) (ae (fR (aP bN 2 7) (ae (f2 aD (aa 4) (fC (.int 1))) (ae (f2 aD (aa 4) (fC (.int 2))) au))) au))))) (fB (f2 gr (aa 7) (fR (aP cz 3 6) (ae (aa 1) (ae (f2 aD (aa 3) (fC (.int 0))) (ae (f2 aD (aa 3) (fC (.int 3))) au))))))) (cf (fC (.bl false))) bU) (cf (f2 sM (fR (aP bL 3 7) (ae (aa 1) (ae (f2 aD (aa 3) (fC (.int 0))) (ae (aa 7) au)))) (f2 aD (aa 3) (fC (.int 3))))))))))))))
set_option hygiene false
local macro_rules|`(tactic|ktr_call $p $e)=>`(tactic|((with_reducible show $p);refine $e))
local macro_rules|`(tactic|walk_at "A")=>`(tactic|first|ktr_call (jV _ _ (aU _ _)) (wJ ?_ ?_)|ktr_call (jV _ _ (dq _ _)) (xD _ ?_)|ktr_call (jV _ _ (AO _ _)) (yE _ ?_)|ktr_call (jV _ _ (j8 _ _)) (t6 _ ?_)|ktr_call (jV _ _ (mK _ _)) (wK _ ?_)|ktr_call (jV _ _ bU) Ae|ktr_call (jV _ _ iZ) we|refine zL ?_)
local macro_rules|`(tactic|walk_at "B")=>`(tactic|first|ktr_call (XS _ _ (cq _ (eD _ _ _ _ _))) (JB (by first|assumption|exact oO rfl) rfl (by first|exact iT rfl|exact gE rfl) ?_ ?_)|ktr_call (XS _ _ (cq _ _)) (xs _ (by first|assumption|exact oO rfl) ?_)|ktr_call (XS _ _ (cf _)) (Bb ?_)|ktr_call (XS _ _ (jT _ _ _)) (Fq ?_ ?_ ?_)|ktr_call (XS _ _ bU) zj|ktr_call (XS _ _ bU) AR|ktr_call (XS _ _ (um _ _ _)) (Cj hp rfl ?_ ?_ ?_)|ktr_call (XS _ _ iZ) yv|ktr_call (XS _ _ (pF _ (eD _ _ _ _ _))) (Jv (by first|assumption|exact oO rfl) rfl (by first|exact iT rfl|exact gE rfl) ?_ ?_)|ktr_call (XS _ _ (pF _ _)) (BK (by first|assumption|exact oO rfl) rfl (by first|exact Or.inl rfl|exact Or.inr rfl) ?_)|ktr_call (XS _ _ (gK _ gY _ _ _)) (vY hr.units (xv _) ?_ ?_ ?_ (fun _ _=>rfl))|ktr_call (XS _ _ (gK _ h7 _ _ _)) (xn hr.units (xv _) ?_ ?_ ?_ (fun _ _=>rfl))|ktr_call (XS _ _ (gS _ _ _)) (xW hr.units (xv _) ?_ ?_)|ktr_call (XS _ _ (pA _ _ _)) (wI _ hp ?_ ?_)|ktr_call (XS _ _ (gR _ _)) (Jl (by first|assumption|exact oO rfl) rfl ?_ (fun _ _ _ _ _ _=>?_)))
local macro_rules|`(tactic|walk_at "C")=>`(tactic|first|ktr_call (XT _ _ (fB (f2 gr _ _))) (lJ (Ao hr.units) cP ?_ ?_ (gP _))|ktr_call (XT _ _ (fB (f2 sM _ _))) (lJ (yN hr.units) cP ?_ ?_ (gP _))|ktr_call (XT _ _ (fB (f2 En _ _))) (lJ Dn oo ?_ ?_ (gP _))|ktr_call (XT _ _ (Bf _ _)) (JD ?_)|ktr_call (XT _ _ (fB (jy _))) (zR ?_)|ktr_call (XT _ _ (jh _ _)) (ye _ ?_)|ktr_call (XT _ _ (fB (f2 tP _ _))) (lJ (yS hr.units) cP ?_ ?_ (gP _)))
local macro_rules|`(tactic|walk_at "F")=>`(tactic|first|ktr_call (XI _ _ _ (bK _)) (B9 ?_)|ktr_call (XI _ _ _ (bZ _)) (t5 rfl (by walk_at "a") ?_)|ktr_call (XI _ _ _ (qV _)) (zP ?_))
local macro_rules|`(tactic|walk_at "L")=>`(tactic|first|ktr_call (XN _ _ (mE _)) (AY ?_)|ktr_call (XN _ _ (eD _ _ _ _ _)) (JF rfl (by first|exact iT rfl|exact gE rfl) ?_ ?_)|ktr_call (XN _ _ (fR _ _)) (sS (by walk_at "a") (by first|exact xY|walk_at "a") hr ‹0› ?_)|ktr_call (XN _ _ (fL eZ _)) (zW rfl hr.units rfl (by walk_at "a") Nx ?_))
local macro_rules|`(tactic|walk_at "M")=>`(tactic|first|ktr_call (XE _ _ (aa _)) (xw _)|ktr_call (XE _ _ (fC .non)) BE|ktr_call (XE _ _ (fC (.int _))) By|ktr_call (XE _ _ (fR _ _)) (tO (by walk_at "a") (by first|exact xY|walk_at "a") hr ‹0› ?_)|ktr_call (XE _ _ (f2 aD _ _)) (xi ?_ ?_)|ktr_call (XE _ _ (f2 cx _ _)) (ig E5 Fd ?_ ?_)|ktr_call (XE _ _ (f2 dg _ _)) (ig B2 cP ?_ ?_)|ktr_call (XE _ _ (f2 dQ _ _)) (ig x8 FJ ?_ ?_)|ktr_call (XE _ _ (eD _ _ _ _ _)) (xl rfl (by first|exact iT rfl|exact gE rfl) ?_ ?_)|ktr_call (XE _ _ (f2 gr _ _)) (lD (Ao hr.units) cP ?_ ?_ (gP _))|ktr_call (XE _ _ (dF _)) (Bj ?_)|ktr_call (XE _ _ (fL dU _)) (je su rfl (by walk_at "a") PyProof.Rows.boot_tuple ?_)|ktr_call (XE _ _ (fC (.bl _))) EG|ktr_call (XE _ _ (mE _)) (A7 ?_)|ktr_call (XE _ _ (f2 ly _ _)) (ig Fm DE ?_ ?_)|ktr_call (XE _ _ (f2 sM _ _)) (lD (yN hr.units) cP ?_ ?_ (gP _))|ktr_call (XE _ _ (f2 qP _ _)) (ig FL EE ?_ ?_)|ktr_call (XE _ _ (f2 En _ _)) (lD Dn oo ?_ ?_ (gP _))|ktr_call (XE _ _ (fL gz _)) (je (uo rfl) rfl (by walk_at "a") PyProof.Rows.boot_list ?_)|ktr_call (XE _ _ (dG _ _)) (xu hr.units ?_ ?_)|ktr_call (XE _ _ (fC (.str _))) Bx|ktr_call (XE _ _ (y6 _)) (BU ?_)|ktr_call (XE _ _ (f2 nS _ _)) (CQ hr.units ?_ ?_ (fun _ _=>rfl))|ktr_call (XE _ _ (kN _ _ _)) (vU ?_ ?_ ?_)|ktr_call (XE _ _ (fL eZ _)) (je (uw rfl hr.units) rfl (by walk_at "a") Nx ?_)|ktr_call (XE _ _ (f2 EZ _ _)) (ig Dx DA ?_ ?_)|ktr_call (XE _ _ (jy _)) (zH ?_)|ktr_call (XE _ _ (f1 fW _)) (rY rfl hr.units rfl (by walk_at "a") rfl (by walk_at "a") ?_)|ktr_call (XE _ _ (f2 ka _ _)) (xj hr rfl (by walk_at "a") (by walk_at "a") rfl (by walk_at "a") ?_ rfl rfl (Or.inr (Or.inl rfl)) rfl rfl rfl (fun _ _ _=>rfl) rfl rfl rfl (by decide) rfl rfl rfl rfl rfl)|ktr_call (XE _ _ (fL iy _)) (kB qg rfl (by walk_at "a") d8 ?_)|ktr_call (XE _ _ (g7 _ _ _)) (xC hr.units ?_ ?_ ?_)|ktr_call (XE _ _ (fL fU _)) (kB (pJ rfl) rfl (by walk_at "a") d8 ?_)|ktr_call (XE _ _ (k8 _ _)) (yz _ ?_)|ktr_call (XE _ _ (f2 tP _ _)) (lD (yS hr.units) cP ?_ ?_ (gP _))|ktr_call (XE _ _ (fL tE _)) (kB wq rfl (by walk_at "a") PySem.boot_len ?_))
local macro_rules|`(tactic|walk_at "d")=>`(tactic|((first|((with_reducible show XE _ _ _);walk_at "M")|((with_reducible show XA _ _ _);first|ktr_call (XA _ _ (ae _ _)) (Aa ?_ ?_)|ktr_call (XA _ _ au) Ba)|((with_reducible show XS _ _ _);walk_at "B")|((with_reducible show jV _ _ _);walk_at "A")|((with_reducible show XT _ _ _);walk_at "C")|((with_reducible show XI _ _ _ _);walk_at "F")|((with_reducible show XW _ _ _);first|ktr_call (XW _ _ (Bf _ _)) (Fc ?_ ?_)|refine AU ?_)|((with_reducible show XG _ _ _);first|ktr_call (XG _ _ (gN _)) (yA (by first|assumption|exact oO rfl) rfl (by first|exact Or.inl rfl|exact Or.inr rfl))|ktr_call (XG _ _ (gT _ _)) (Bh rfl ?_))|((with_reducible show ED _ _ _);first|ktr_call (ED _ _ (qD (_ :: _))) (wO ?_ ?_)|ktr_call (ED _ _ (qD [])) zK)|((with_reducible show XO _ _ _);first|ktr_call (XO _ _ jq) zC|ktr_call (XO _ _ (lR _)) (yp ?_))|((with_reducible show Gh _ _ _);first|ktr_call (Gh _ _ bH) yI|refine xT ?_)|((with_reducible show nJ _ _ _ _ _ _ _ _ _);first|refine ⟨fun _ _ _ _ _ _=>⟨?_, ?_, ?_⟩⟩)|((with_reducible show XN _ _ _);walk_at "L"))<;>walk_at "d"))
local macro_rules | `(tactic| walk_at "a") => `(tactic| first | assumption | exact q.2 | exact q.1.2 | exact q.1.1.2 | exact q.1.1.1.2 | exact q.1.1.1.1.2 | exact q.1.1.1.1.1.2 | exact q.1.1.1.1.1.1.2 | exact q.1.1.1.1.1.1.1.2 | (replace q := q.1.1.1.1.1.1.1.1; walk_at "a") | exact q.1 | exact q.1.1 | exact q.1.1.1 | exact q.1.1.1.1 | exact q.1.1.1.1.1 | exact q.1.1.1.1.1.1 | exact q.1.1.1.1.1.1.1)
local macro_rules | `(tactic| walk_at "b") => `(tactic| (intro us hl _ _ _ _ _ _; first | (obtain ⟨a, rfl⟩ := GW hl; rfl) | (obtain ⟨a, b, rfl⟩ := FZ hl; rfl) | (obtain ⟨a, b, c, rfl⟩ := G8 hl; rfl) | (obtain ⟨a, b, c, d, rfl⟩ := Gc hl; rfl) | (obtain ⟨a, b, c, d, e, rfl⟩ := HW hl; rfl)))
local macro_rules | `(tactic| walk_at "m") => `(tactic| ((· walk_at "a"); (· walk_at "b"); (· exact ⟨rfl, rfl, rfl, by decide +kernel, rfl, by decide +kernel, by decide +kernel⟩); first | refine fun nd f => ⟨fun cdv A outer s H E hr hp => ?_⟩ | intro nd f A outer s H E hr hp))
local macro_rules | `(tactic| ktn_call $m $b:ident) => `(tactic| ((first | (apply Jx $m; walk_at "m") | (apply Jm $m; walk_at "m") | (apply Js $m; walk_at "m")); unfold $b; walk_at "d"))
section
variable[aj]{u:U}
noncomputable def Q0(u:U):Prop:=((((Iq u (Zs u ["tuple","sorted","dict","set","list","range","len"]) [("by_key",top 6),("changed",top 10),("unlike",top 9),("changes",top 8),("joined",top 11),("undone",top 12),("_law_word",top 15),("_law_value",top 16),("_law_key",top 17),("_law_row",top 18),("_law_cell_at",top 14),("_law_tables",top 19),("_law_table",top 20)])/\Dl u "sorted_by" (top 4))/\zX u.mg u.base u.cL u.T)/\∀H,aj.tab H->H u.T=some (.ext (kP u.T ⟨10,34,10,56⟩ ((("sorted_by":Str)++".<locals>.")++"<lambda>"))))
noncomputable def Q1(u:U):Prop:=Q0 u/\Ca u 1 "sorted_by" ["many","rows"] (aP cR 2 2)
theorem e1(q:Q0 u):Q1 u:=⟨q,(by ktn_call [] cR)⟩
noncomputable def Q2(u:U):Prop:=(Q1 u/\Ca u 1 "by_key" ["many","rows"] (aP cX 2 2))/\Je u 1 "by_key" ["many","rows"] (aP cX 2 2)
theorem e2(q:Q1 u):Q2 u:=⟨⟨q,(by ktn_call [] cX)⟩,(by unfold cX;apply Jr [];(· walk_at "a");(· walk_at "b");(· exact⟨rfl,rfl,rfl,by decide +kernel,rfl,by decide +kernel,by decide +kernel⟩);(· exact rfl);intro f cdv A outer s H E hr hp;walk_at "d")⟩
noncomputable def Q3(u:U):Prop:=Q2 u/\Ca u 2 "changed" ["many","table","some"] (aP bL 3 7)
theorem e3(q:Q2 u):Q3 u:=⟨q,(by ktn_call ["rows","key","old","new"] bL)⟩
noncomputable def Q4(u:U):Prop:=Q3 u/\Ca u 1 "unlike" ["triples"] (aP eF 1 1)
theorem e4(q:Q3 u):Q4 u:=⟨q,(by ktn_call [] eF)⟩
noncomputable def Q5(u:U):Prop:=Q4 u/\Ca u 2 "changes" ["many","old","new"] (aP cz 3 6)
theorem e5(q:Q4 u):Q5 u:=⟨q,(by ktn_call ["before","after","keys"] cz)⟩
noncomputable def Q6(u:U):Prop:=Q5 u/\Ca u 2 "joined" ["first","second"] (aP bN 2 7)
theorem e6(q:Q5 u):Q6 u:=⟨q,(by ktn_call ["whole","key","old","new","earlier"] bN)⟩
noncomputable def Q7(u:U):Prop:=Q6 u/\Ca u 1 "undone" ["some"] (aP aX 1 1)
theorem e7(q:Q6 u):Q7 u:=⟨q,(by ktn_call [] aX)⟩
noncomputable def Q8(u:U):Prop:=Q7 u/\Ca u 1 "_law_word" ["_law_d","_law_cell"] (aP bY 2 6)
theorem e8(q:Q7 u):Q8 u:=⟨q,(by ktn_call ["_law_letters","_law_one","_law_other","_law_word_here"] bY)⟩
noncomputable def Q9(u:U):Prop:=Q8 u/\Ca u 2 "_law_value" ["_law_kind","_law_d","_law_cell"] (aP aK 3 3)
theorem e9(q:Q8 u):Q9 u:=⟨q,(by ktn_call [] aK)⟩
noncomputable def Il(u:U):Prop:=Q9 u/\Ca u 3 "_law_key" ["_law_p","_law_many","_law_cell"] (aP bP 3 4)
theorem e10(q:Q9 u):Il u:=⟨q,(by ktn_call ["_law_digits"] bP)⟩
noncomputable def Iy(u:U):Prop:=Il u/\Ca u 4 "_law_row" ["_law_p","_law_w","_law_many","_law_rest","_law_cell"] (aP cO 5 5)
theorem Ir(q:Il u):Iy u:=⟨q,(by ktn_call [] cO)⟩
noncomputable def IW(u:U):Prop:=Iy u/\Ca u 1 "_law_cell_at" ["_law_script","_law_k"] (aP bi 2 2)
theorem Jq(q:Iy u):IW u:=⟨q,(by ktn_call [] bi)⟩
noncomputable def Ij(u:U):Prop:=IW u/\Ca u 5 "_law_tables" ["_law_script","_law_many","_law_rest","_law_count"] (aP bx 4 9)
theorem Jw(q:IW u):Ij u:=⟨q,(by ktn_call ["_law_rows","_law_cell","_law_one","_law_p","_law_key_here"] bx)⟩
noncomputable def Jf(u:U):Prop:=Ij u/\Ca u 1 "_law_table" ["_law_rows"] (aP b7 1 1)
theorem JS(q:Ij u):Jf u:=⟨q,(by ktn_call [] b7)⟩
theorem GX{f:NQ}{fd:Ow}(F:tW u.K "law" "law" (top 21) f fd)(q:Jf u):iY u.P u.w u.K u.mg u.base (gM u.P u.w) 6 f fd ["_law_script"] (Ay u.K 1 (aP k6 1 8)):=by
 refine JA ["_law_many","_law_rest","_law_tables_here","_law_steps","_law_k","_law_first","_law_every"] F ?_ ?_
 ·exact⟨rfl,rfl,rfl,by decide +kernel,rfl,by decide +kernel,by decide +kernel⟩
 refine λnd=>⟨λcdv A outer s H E hr hp=>?_⟩
 unfold k6;walk_at "d"
set_option hygiene true
end
theorem all_mk{l:M5}{w:NU}{K:MT}{h:NX}{mg:bS}{fa:NQ}(X:K.In h)(G:h.Ns N1 mg)(hfa:mg "law"=some (.ref fa)){f0 f1:NQ}
  (a0:M0 K N1 "sorted_by"=some (some (.ref f0)))
  (l0:Lk K f0 "sorted_by" "sorted_by" (top 4) oc0 od0 kV0 dc0 pm0 an0 cd0 ct0 sl0)
  (c0:MZ K cd0 "sorted_by"=true)
  (k0:MV K (.ref f0)=true)
  (a1:M0 K N1 "law"=some (some (.ref f1)))
  (l1:Lk K f1 "law" "law" (top 21) oc1 od1 kV1 dc1 pm1 an1 cd1 ct1 sl1)
  (c1:MZ K cd1 "law"=true)
  (k1:MV K (.ref f1)=true)
  (dd0:KDs K [("by_key",top 6),("changed",top 10),("unlike",top 9),("changes",top 8),("joined",top 11),("undone",top 12),("_law_word",top 15),("_law_value",top 16),("_law_key",top 17),("_law_row",top 18),("_law_cell_at",top 14),("_law_tables",top 19),("_law_table",top 20)])
  (zz:KZs K ["tuple","sorted","dict","set","list","range","len"])
  (lc:cd0=.ref cL)
  (lh:M7 K cL T=true)
  (lt:K.lookup T=none):
  (∃c,M7 K c T=true)/\K.lookup T=none/\∃fd:Ow,(∀(s:NT)(v:NN),Ox s fd ⟨[v],[]⟩ [("_law_script",v)])/\∀base:NX,K.In base->base.Ns N1 mg->sQ mg base->iY l.prog w K mg base (gM l.prog w) 6 fa fd ["_law_script"] (@Ay (qu T ⟨10,34,10,56⟩ ((("sorted_by":Str)++".<locals>.")++"<lambda>")) K 1 (aP k6 1 8)):=by
 letI:aj:=qu T ⟨10,34,10,56⟩ ((("sorted_by":Str)++".<locals>.")++"<lambda>")
 have e:=hfa.symm.trans (M6 X G a1);cases e;have F0:=ud (st:=(top 4)) l0 c0 k0;have F1:=ud (st:=(top 21)) l1 c1 k1;have lC:nX K f0 (.ref cL):=⟨_,_,_,_,l0,lc⟩
 refine⟨⟨cL,lh⟩,lt,MY "law" "law" (gC (top 21)) (b8 (top 21)) (af (top 21)) .none kV1 dc1 pm1 an1 cd1 ct1,λs v=>.of_eq rfl,λbase kb _ bm=>?_⟩
 let u:U:=⟨l.prog,w,K,mg,base,cL,T⟩
 have q0:Q0 u:=⟨⟨⟨(Iq.of X G (Zs.of X G zz) dd0),⟨_,_,F0,M6 X G a0,lC⟩⟩,(CI kb lh bm)⟩,(λ_ z=>z)⟩
 exact GX (u:=u) F1 (JS (Jw (Jq (Ir (e10 (e9 (e8 (e7 (e6 (e5 (e4 (e3 (e2 (e1 q0))))))))))))))
theorem walk{l:M5}{q:NV}{loose:aH}{XP:(bS)->NX->Prop}{YP:NU->NX->Prop}{d:DefRec}{K:Params->MT}{T:NQ}(hn:l.most=some 63)(hdf:d.params.defaults=[])
  (hY:∀(w:NU)(h:NX),YP w h->(K w.params).In h/\h.get? T=some (M4 #[]))
  (F:∀ (w:NU) (mg:bS) (fa:NQ) (h:NX),(K w.params).In h->h.Ns N1 mg->mg d.name=some (.ref fa) ->
   (∃c,M7 (K w.params) c T=true)/\(K w.params).lookup T=none/\∃fd:Ow,(∀(s:NT)(u:NN),Ox s fd ⟨[u],[]⟩ [("_law_script",u)])/\∀base:NX,(K w.params).In base->base.Ns N1 mg->sQ mg base->iY l.prog w (K w.params) mg base (gM l.prog w) 6 fa fd ["_law_script"] (@Ay (qu T ⟨10,34,10,56⟩ ((("sorted_by":Str)++".<locals>.")++"<lambda>")) (K w.params) 1 (aP k6 1 8)))
  (math:∀ns:List Int,ns.length<=63->aP k6 1 8 [.lst (ns.map .int)]=.ok (.bl true)):PySem.W.WalkO q loose XP YP l.row.toRowW d [] (λf vs=>PySem.call f vs):=
 zS (n:=63) (k:=6) (x:="_law_script") (T:=T) (CX:=λw=>gM l.prog w) (sp:=λw=>@Ay (qu T ⟨10,34,10,56⟩ ((("sorted_by":Str)++".<locals>.")++"<lambda>")) (K w.params) 1 (aP k6 1 8)) hn (by decide) hdf ⟨rfl,by decide,by decide⟩ hY F
  (λw H a ns hl hT hS=>⟨[],[.lst (ns.map .int)],rfl,⟨hT,λa h=>nomatch h⟩,by rw[BH];exact aM.mpr ⟨.ref a,[],rfl,bI.mpr ⟨a,_,rfl,hS,oq ns⟩,bG.mpr rfl⟩,by rw[math ns hl];exact λv H' sm d=>⟨gO.mp d,sm⟩⟩) λ_ _ _ _ _ z=>by obtain⟨_,_,_,_,_,_,_,_,_,_,_,_,_,_,z⟩:=z;exact z
end Tk14
namespace Tk14
open PySem PySem.Spec L2 TG TD T4
local macro_rules|`(‹$x›)=>do if x.raw.isOfKind `num then Lean.Macro.throwUnsupported else `(some (S.val $x))
local macro_rules
 |`(tactic| simp! only[$xs,*])=>`(tactic| simp only[dj,nZ,oB,oj,eQ,de,ge_0,wz,jX,wc,j6,iG,kA,kH,wm,wf,wX,wo,vQ,kI,kX,oS,fN,iI,kr,iR,oA,ko,kC,iB,kG,fA,km,fz,f9,ez,eB,kY,iq,eA,iV,fq,iH,iz,iC,iw,fI,ki,iA,fF,iW,iQ,iE,wd,oz,xc,xE,xK,kW,iF,kQ,ip,iN,v6,wG,MM,MN,Kw,Kv,KP,K4,K0,env0,List.replicate,MO,Kc,LV,Nat.reduceAdd,Nat.reduceSub,KA,KC,ky,jW,oU,kL,kj,kO,eh,kU,oG,oM,o3,ku,fD,f6,fH,fh,fO,fZ,lU,o5,o8,gJ,g9,jR,fG,fX,dA,dD,jY,eE,dM,dH,dN,kR,kc,dy,dC,fM,fE,iO,iU,fm,ik,kK,jZ,iJ,iD,gN,if_true,if_false,LA,Lz,KL,$xs,*])
theorem gm(j:Int)(h:0<j:=by decide):∀i:Int,cx (.int i) (.int j)=some (.int (i%j)):=λi=>zQ (i:=i) h
theorem gd(j:Int)(h:0<j:=by decide)(h':j<10^200:=by decide):∀i:Int,dQ (.int i) (.int j)=some (.int (i/j)):=λi=>mz (i:=i) h h'
inductive Nb:D->Prop
 |non:Nb .non
 |int (i:Int):Nb (.int i)
 |str (x:Str):Nb (.str x)
 |tup {xs:List D} (h:∀x∈xs,Nb x):Nb (.tup xs)
theorem zI:∀(xs:List D),(∀x∈xs,∀{b:D},Nb b->pyEq x b=true->x=b)->∀ys:List D,(∀y∈ys,Nb y)->eK xs ys=true->xs=ys
 |[],_,[],_,_=>rfl
 |[],_,_::_,_,h=>by unfold eK at h;cases h
 |_::_,_,[],_,h=>by unfold eK at h;cases h
 |x::xs,ih,y::ys,hy,h=>by
  unfold eK at h;rw[Kr]at h;rw[ih x J3 (hy y J3) h.1,zI xs (λx hx=>ih x (J4 _ hx)) ys (λy hy'=>hy y (J4 _ hy')) h.2]
theorem G3{a:D}(ha:Nb a):∀{b:D},Nb b->pyEq a b=true->a=b:=by
 induction ha with
 |non=>intro b hb e;cases hb<;>first|rfl|(unfold pyEq at e;cases e)
 |int i=>intro b hb e;cases hb<;>first|(unfold pyEq at e;cases e;done)|(unfold pyEq at e;rw[eq_of_beq e])
 |str i=>intro b hb e;cases hb<;>first|(unfold pyEq at e;cases e;done)|(unfold pyEq at e;rw[eq_of_beq e])
 |@tup xs h ih=>
  intro b hb e;cases hb with
  |tup h'=>unfold pyEq at e;rw[zI xs (λx hx=>ih x hx) _ h' e]
  |_=>unfold pyEq at e;cases e
noncomputable def Ok(n:Nat)(d:D):Prop:=pl d=true/\lf d=true/\cn n d=true/\Nb d
theorem qp(n:Nat)(i:Int):Ok n (.int i):=⟨by unfold pl;rfl,by unfold lf;rfl,by cases n<;>(unfold cn;rfl),.int i⟩
theorem pN(n:Nat)(x:Str):Ok n (.str x):=⟨by unfold pl;rfl,by unfold lf;rfl,by cases n<;>(unfold cn;rfl),.str x⟩
theorem DZ(n:Nat):Ok n .non:=⟨by unfold pl;rfl,by unfold lf;rfl,by cases n<;>(unfold cn;rfl),.non⟩
theorem uM:∀{xs:List D},(∀x∈xs,lf x=true)->C2 xs=true
 |[],_=>by unfold C2;rfl
 |x::xs,h=>by
  unfold C2;rw[Kr];exact⟨h x J3,uM λy hy=>h y (J4 _ hy)⟩
theorem gH{n:Nat}{xs:List D}(h:∀x∈xs,Ok n x):Ok (n+1) (.tup xs):=
 ⟨by unfold pl;exact zF λx hx=>(h x hx).1,by unfold lf;exact uM λx hx=>(h x hx).2.1,by unfold cn;exact List.all_eq_true.mpr λx hx=>(h x hx).2.2.1,.tup λx hx=>(h x hx).2.2.2⟩
theorem tq:∀{n:Nat}{d:D},cn n d=true->cn (n+1) d=true
 |n,.non,_=>by unfold cn;rfl
 |n,.bl _,_=>by unfold cn;rfl
 |n,.int _,_=>by unfold cn;rfl
 |n,.str _,_=>by unfold cn;rfl
 |0,.tup _,h=>by unfold cn at h;cases h
 |0,.lst _,h=>by unfold cn at h;cases h
 |n+1,.tup xs,h=>by
  unfold cn at h ⊢;exact List.all_eq_true.mpr λx hx=>tq (List.all_eq_true.mp h x hx)
 |n+1,.lst xs,h=>by
  unfold cn at h ⊢;exact List.all_eq_true.mpr λx hx=>tq (List.all_eq_true.mp h x hx)
 |n,.dct _ _,h=>by cases n<;>(unfold cn at h;cases h)
 |n,.obj _ _ _,h=>by cases n<;>(unfold cn at h;cases h)
 |n,.exc _ _ _,h=>by cases n<;>(unfold cn at h;cases h)
theorem Ok.up{n:Nat}{d:D}(h:Ok n d):Ok (n+1) d:=⟨h.1,h.2.1,tq h.2.2.1,h.2.2.2⟩
theorem zG(n:Nat)(q:ay):Ok (n+1) (.tup (q.map aC)):=gH λx hx=>by
 obtain⟨k,_,rfl⟩:=List.mem_map.mp hx;cases k with
 |inl i=>exact qp n i
 |inr z=>exact pN n z
theorem C4{a b:D}(ha:Ok 8 a)(hb:Ok 8 b):gr a b=some (.bl (!pyEq a b)):=by
 unfold gr;rw[ha.1,hb.1,ha.2.2.1];rfl
theorem nE{n:Nat}{a b:D}(ha:Ok n a)(hb:Ok n b)(h:pyEq a b=true):a=b:=G3 ha.2.2.2 hb.2.2.2 h
theorem CF(a b:Str)(a1:a.length=1)(b1:b.length=1):∀(m n d:Nat)(w:Str),d<2^m->m<=n->w.length+m<=900->∃(w':Str)(d':Int),w'.length<=w.length+m/\∀K:Ks,
  cV (fB (f2 En (aa 0) (fC (.int 1)))) (aU (cq 5 (f2 dg (f2 aD (mE (ae (aa 3) (ae (aa 4) au))) (f2 cx (aa 0) (fC (.int 2)))) (aa 5))) (cq 0 (f2 dQ (aa 0) (fC (.int 2))))) K (n+1) [‹.int d›,none,none,‹.str a›,‹.str b›,‹.str w›]=K.nx [‹.int d'›,none,none,‹.str a›,‹.str b›,‹.str w'›]:=by
 intro m
 induction m with
 |zero=>
  intro n d w h1 h2 h3
  have:d=0:=by omega
  subst this;refine⟨w,0,Ka _,λK=>?_⟩;have hd:decide ((1:Int)<((0:Nat):Int))=false:=by decide
  simp! only[Ee,hd];rfl
 |succ m ih=>
  intro n d w h1 h2 h3;by_cases h:1<d
  ·obtain⟨n,rfl⟩:∃n',n=n'+1:=⟨n-1,by omega⟩
   have hd:decide ((1:Int)<(d:Int))=true:=decide_eq_true `o;obtain⟨y,y1,hy⟩:∃y:Str,y.length=1/\aD (.lst [.str a,.str b]) (.int ((d:Int)%2))=some (.str y):=by
    rcases(show(d:Int)%2=0\/(d:Int)%2=1 by omega)with e|e
    ·rw[e];exact⟨a,a1,gJ _ _⟩
    ·rw[e];exact⟨b,b1,g9 _ _ _⟩
   have ad:=yP y w `o `o;have l2:=Cv y w;have p2:2^(m+1)=2*2^m:=(by rw[Nat.pow_succ,Nat.mul_comm]);have p3:d/2<2^m:=(by omega);obtain⟨w',d',q1,q2⟩:=ih n (d/2) (y++w) p3 `o `o;have e2:((d/2:Nat):Int)=(d:Int)/2:=(by omega);rw[e2]at q2;refine⟨w',d',by omega,λK=>?_⟩;have ml:kZ [.str a,.str b]=some (.lst [.str a,.str b]):=nB (by simp);rw[Ee];simp! only[hd,gm 2,gd 2,ml,hy,ad,q2]
  ·refine⟨w,d,by omega,λK=>?_⟩;have hd:decide ((1:Int)<(d:Int))=false:=decide_eq_false `o;simp! only[Ee,hd]
theorem uH(d:Nat)(c:Int)(h:d<500):∃w:Str,aP bY 2 6 [.int d,.int c]=.ok (.str w):=by
 have l26:("abcdefghijklmnopqrstuvwxyz":Str).length=26:=by decide +kernel
 obtain⟨a,a1,ha⟩:=uO "abcdefghijklmnopqrstuvwxyz" (by rw[l26];decide) (c%26) `o (by rw[l26];omega);obtain⟨b,b1,hb⟩:=uO "abcdefghijklmnopqrstuvwxyz" (by rw[l26];decide) ((c+1+c/26%25)%26) `o (by rw[l26];omega);have l0:("":Str).length=0:=by decide +kernel
 obtain⟨w,d',_,q⟩:=CF a b a1 b1 9 199 (d+1) "" `o `o (by rw[l0];omega);have e1:((d+1:Nat):Int)=(d:Int)+1:=by omega
 rw[e1]at q;refine⟨w,?_⟩;rw[pD];unfold bY;simp! only[gm 26,gm 25,gd 26,ha,hb,TG.FP,q]
theorem GZ(d c:Int)(h0:0<=d)(h1:d<500):∃i:Int,aP aK 3 3 [.int 0,.int d,.int c]=.ok (.int i):=by
 have p54:=yd 10 54 (by decide) (by decide);have p50:=yd 10 50 (by decide) (by decide);obtain⟨x,hx⟩:∃x:Int,aD (.lst [.int 1,.int (-1),.int (10^54),.int (-10^54)]) (.int (c%4))=some (.int x):=by
  rw[F4,show([.int 1,.int (-1),.int (10^54),.int (-10^54)]:List D)=([1,-1,10^54,-10^54]:List Int).map .int from rfl,uz,uY `o (by show c%4<4;omega)];exact⟨_,rfl⟩
 have ml:kZ [.int 1,.int (-1),.int (10^54),.int (-10^54)]=some (.lst [.int 1,.int (-1),.int (10^54),.int (-10^54)]):=nB (by simp);have m1:=vo (i:=d) (j:=7919) (by decide) (by decide);have m2:=vo (i:=5) (j:=7919) (by decide) (by decide);have m3:=qb (i:=d*7919-5*7919) (j:=x) `o `o;have z0:((0:Int)==0)=true:=rfl;refine⟨(d*7919-5*7919)*x+c/4%10^50,?_⟩;rw[hU];unfold aK;have g50:=gm (10^50) (by decide) (c/4);have p54':qP (.int 10) (.int 54)=some (.int (10^54)):=p54;have p50':qP (.int 10) (.int 50)=some (.int (10^50)):=p50;generalize (10:Int)^54=P at *;generalize (10:Int)^50=Q at *;simp! only[z0,p54',p50',gm 4,gd 4,ml,hx,m1,m2,m3,g50]
theorem Hi(d:Nat)(c:Int)(h:d<500):∃w:Str,aP aK 3 3 [.int 1,.int d,.int c]=.ok (.str w):=by
 obtain⟨w,hw⟩:=uH d c h;have z0:((1:Int)==0)=false:=rfl;have z1:((1:Int)==1)=true:=rfl;refine⟨w,?_⟩;rw[hU];unfold aK;simp! only[z0,z1,hw]
theorem IT(d c:Int):∃v:D,aP aK 3 3 [.int 2,.int d,.int c]=.ok v/\Ok 2 v:=by
 have z0:((2:Int)==0)=false:=rfl;have z1:((2:Int)==1)=false:=rfl;obtain⟨n,en,hn⟩:∃n:Nat,d%4=(n:Int)/\n<4:=⟨(d%4).toNat,by omega,by omega⟩
 have rg:=fS n `o;obtain⟨vs,vl,vp,hv⟩:=mZ (ρ:=[none,‹.int c›]) (g:=gN 0) (C:=bH) (Fe:=dF (ae (aa 0) (ae (fR (aP bY 2 6) (ae (aa 0) (ae (aa 1) au))) au))) (λv=>Ok 1 v) (bF 0 n) λx hx=>by
  obtain⟨k,hk,rfl⟩:=nD hx;obtain⟨w,hw⟩:=uH k c `o;have e0:(0:Int)+(k:Int)=(k:Int):=by omega
  rw[e0];have mt:eR [.int k,.str w]=some (.tup [.int k,.str w]):=jb (by simp);refine⟨[‹.int k›,‹.int c›],.tup [.int k,.str w],rfl,rfl,?_,gH λx hx=>?_⟩
  ·simp! only[hw,mt]
  ·rcases List.mem_cons.mp hx with z|hx
   ·rw[z];exact qp _ _
   ·rw[List.mem_singleton.mp hx];exact pN _ _
 rw[cN]at vl;have lc:eD [none,some 2] (bZ (ae (f2 cx (aa 1) (fC (.int 4))) au)) (gN 0) bH (dF (ae (aa 0) (ae (fR (aP bY 2 6) (ae (aa 0) (ae (aa 1) au))) au))) [‹.int 2›,‹.int d›,‹.int c›]=.ok (.lst vs):=cC (ds:=bF 0 n) (by simp! only[gm 4,en,rg]) (by rw[cN];omega) hv;refine⟨.tup vs,?_,gH vp⟩;rw[hU];unfold aK;simp! only[z0,z1,lc]
theorem DF(κ:Int)(k0:0<=κ)(k2:κ<3)(d:Nat)(c:Int)(h:d<500):∃v:D,aP aK 3 3 [.int κ,.int d,.int c]=.ok v/\Ok 2 v:=by
 rcases(show κ=0\/κ=1\/κ=2 by omega)with e|e|e
 ·obtain⟨i,hi⟩:=GZ d c `o `o;rw[e];exact⟨_,hi,qp _ _⟩
 ·obtain⟨w,hw⟩:=Hi d c h;rw[e];exact⟨_,hw,pN _ _⟩
 ·rw[e];exact IT d c
theorem BX(κ:Int)(k0:0<=κ)(k1:κ<2)(d:Nat)(c:Int)(h:d<500):∃k:Key,aP aK 3 3 [.int κ,.int d,.int c]=.ok (aC k)/\∀{σ:bb}{r:List D},Sh σ r->Sh ((κ==0)::σ) (aC k::r):=by
 rcases(show κ=0\/κ=1 by omega)with e|e
 ·obtain⟨i,hi⟩:=GZ d c `o `o;rw[e];exact⟨.inl i,hi,λh=>.int i h⟩
 ·obtain⟨w,hw⟩:=Hi d c h;rw[e];exact⟨.inr w,hw,λh=>.str w h⟩
noncomputable def sg(m:Nat)(c:Int):bb:=([c/2%2==0,c/3%2==0,c/4%2==0]:bb).take m
noncomputable abbrev fK:FX:=fR (aP aK 3 3) (ae (f2 cx (f2 dQ (aa 1) (f2 dg (aa 0) (fC (.int 2)))) (fC (.int 2))) (ae (f2 aD (aa 2) (aa 0)) (ae (aa 1) au)))
theorem E9(c:Int)(L:List D)(k:Int)(k0:0<=k)(k3:k<3)(d:Nat)(hd:d<500)(e:aD (.lst L) (.int k)=some (.int d)):∃q:Key,fK [‹.int k›,‹.int c›,‹.lst L›]=.ok (aC q)/\∀{σ:bb}{r:List D},Sh σ r->Sh ((c/(k+2)%2==0)::σ) (aC q::r):=by
 obtain⟨q,hq,s⟩:=BX (c/(k+2)%2) `o `o d c hd;have dv:=mz (i:=c) (j:=k+2) `o (MP (show k+2<5 by omega) (by decide));refine⟨q,?_,s⟩;unfold fK;simp! only[dv,gm 2,e,hq]
theorem EX(m:Nat)(m1:1<=m)(m3:m<=3)(c:Int)(x:Option S)(ds:aR)(hl:ds.length=m)(hd:∀d∈ds,d<500):∃q:ay,eD [none,some 2,some 3] (bZ (ae (aa 1) au)) (gN 0) bH fK [x,‹.int m›,‹.int c›,‹.lst (ds.map λ(d:Nat)=>.int d)›]=.ok (.lst (q.map aC))/\Sh (sg m c) (q.map aC):=by
 have rg:=fS m `o;have fin:∀r:List D,rm [none,‹.int c›,‹.lst (ds.map λ(d:Nat)=>.int d)›] (gN 0) bH fK (bF 0 m)=.ok r->eD [none,some 2,some 3] (bZ (ae (aa 1) au)) (gN 0) bH fK [x,‹.int m›,‹.int c›,‹.lst (ds.map λ(d:Nat)=>.int d)›]=.ok (.lst r):=λr h=>cC (ds:=bF 0 m) (by simp! only[rg]) (by rw[cN];omega) h;have E:=λ(k:Int)(k0:0<=k)(k3:k<3)(d:Nat)(hd':d<500)(e:aD (.lst (ds.map λ(d:Nat)=>.int d)) (.int k)=some (.int d))=>E9 c _ k k0 k3 d hd' e;rcases(show m=1\/m=2\/m=3 by omega)with e|e|e
 ·subst e;obtain⟨a,rfl⟩:=List.length_eq_one_iff.mp hl;obtain⟨q0,h0,s0⟩:=E 0 (by decide) (by decide) a (hd a (by simp)) (gJ _ _);refine⟨[q0],fin _ ?_,s0 .nil⟩;rw[show bF 0 1=[.int 0]from rfl];generalize fK=F at h0 ⊢;simp! only[rm,eQ]at h0 ⊢;simp! only[h0]
 ·subst e;obtain⟨a,b,rfl⟩:∃a b,ds=[a,b]:=by
   rcases ds with _|⟨a,_|⟨b,_|⟨d,r⟩⟩⟩<;>first|exact⟨_,_,rfl⟩|(exfalso;simp at hl)
  obtain⟨q0,h0,s0⟩:=E 0 (by decide) (by decide) a (hd a (by simp)) (gJ _ _);obtain⟨q1,h1,s1⟩:=E 1 (by decide) (by decide) b (hd b (by simp)) (g9 _ _ _);refine⟨[q0,q1],fin _ ?_,s0 (s1 .nil)⟩;rw[show bF 0 2=[.int 0,.int 1]from rfl];generalize fK=F at h0 h1 ⊢;simp! only[rm,eQ]at h0 h1 ⊢;simp! only[h0,h1]
 ·subst e;obtain⟨a,b,d,rfl⟩:∃a b d,ds=[a,b,d]:=by
   rcases ds with _|⟨a,_|⟨b,_|⟨d,_|⟨e,r⟩⟩⟩⟩<;>first|exact⟨_,_,_,rfl⟩|(exfalso;simp at hl)
  obtain⟨q0,h0,s0⟩:=E 0 (by decide) (by decide) a (hd a (by simp)) (gJ _ _);obtain⟨q1,h1,s1⟩:=E 1 (by decide) (by decide) b (hd b (by simp)) (g9 _ _ _);obtain⟨q2,h2,s2⟩:=E 2 (by decide) (by decide) d (hd d (by simp)) (jR _ _ _ _);refine⟨[q0,q1,q2],fin _ ?_,s0 (s1 (s2 .nil))⟩;rw[show bF 0 3=[.int 0,.int 1,.int 2]from rfl];generalize fK=F at h0 h1 h2 ⊢;simp! only[rm,eQ]at h0 h1 h2 ⊢;simp! only[h0,h1,h2]
theorem DB(p:Nat)(hp:p<20)(m:Nat)(m1:1<=m)(m3:m<=3)(c:Int):∃q:ay,aP bP 3 4 [.int p,.int m,.int c]=.ok (.tup (q.map aC))/\Sh (sg m c) (q.map aC):=by
 have Hw:=nB (xs:=[.int p]) (by simp);have IJ:=nB (xs:=[.int ((p:Int)%3),.int ((p:Int)/3)]) (by simp);have ml3:=nB (xs:=[.int ((p:Int)%2),.int ((p:Int)/2%3),.int ((p:Int)/6)]) (by simp);have L:=EX m m1 m3 c (‹.int p›);rcases(show m=1\/m=2\/m=3 by omega)with e|e|e
 ·subst e;obtain⟨q,hq,s⟩:=L [p] rfl (by simp;omega);have hq:eD _ _ _ _ _ [_,_,_,‹.lst [.int p]›]=_:=hq;refine⟨q,?_,s⟩;have c1:decide ((1:Int)<((1:Nat):Int))=false:=by decide
  have c2:decide ((2:Int)<((1:Nat):Int))=false:=by decide
  rw[hU];unfold bP;simp! only[Hw,c1,c2,hq]
 ·subst e;obtain⟨q,hq,s⟩:=L [p%3,p/3] rfl (by simp;omega);have hq:eD _ _ _ _ _ [_,_,_,‹.lst [.int ((p%3:Nat):Int),.int ((p/3:Nat):Int)]›]=_:=hq;rw[show((p%3:Nat):Int)=(p:Int)%3 by omega,show((p/3:Nat):Int)=(p:Int)/3 by omega]at hq;refine⟨q,?_,s⟩;have c1:decide ((1:Int)<((2:Nat):Int))=true:=by decide
  have c2:decide ((2:Int)<((2:Nat):Int))=false:=by decide
  rw[hU];unfold bP;simp! only[Hw,IJ,gm 3,gd 3,c1,c2,hq]
 ·subst e;obtain⟨q,hq,s⟩:=L [p%2,p/2%3,p/6] rfl (by simp;omega);have hq:eD _ _ _ _ _ [_,_,_,‹.lst [.int ((p%2:Nat):Int),.int ((p/2%3:Nat):Int),.int ((p/6:Nat):Int)]›]=_:=hq;rw[show((p%2:Nat):Int)=(p:Int)%2 by omega,show((p/2%3:Nat):Int)=(p:Int)/2%3 by omega,show((p/6:Nat):Int)=(p:Int)/6 by omega]at hq;refine⟨q,?_,s⟩;have c1:decide ((1:Int)<((3:Nat):Int))=true:=by decide
  have c2:decide ((2:Int)<((3:Nat):Int))=true:=by decide
  rw[hU];unfold bP;simp! only[Hw,IJ,ml3,gm 3,gd 3,gm 2,gd 2,gd 6,c1,c2,hq]
theorem EA(p:Nat)(hp:p<20)(w:Nat)(hw:w<5)(m:Nat)(m1:1<=m)(m3:m<=3)(r:Nat)(r3:r<=3)(c:Int){q:ay}(hq:aP bP 3 4 [.int p,.int m,.int c]=.ok (.tup (q.map aC)))(s:Sh (sg m c) (q.map aC)):∃vs:List D,aP cO 5 5 [.int p,.int w,.int m,.int r,.int c]=.ok (.tup (q.map aC++vs))/\Ok 3 (.tup (q.map aC++vs)):=by
 have rg:=fS r `o;obtain⟨vs,vl,vp,hv⟩:=mZ (ρ:=[none,‹.int c›,‹.int w›]) (g:=gN 0) (C:=bH) (Fe:=fR (aP aK 3 3) (ae (f2 cx (f2 dg (f2 dQ (aa 1) (fC (.int 7))) (aa 0)) (fC (.int 3))) (ae (aa 2) (ae (aa 1) au)))) (λv=>Ok 2 v) (bF 0 r) λx hx=>by
  obtain⟨k,hk,rfl⟩:=nD hx;obtain⟨v,hv,o⟩:=DF ((c/7+(0+(k:Int)))%3) `o `o w c `o;exact⟨[‹.int (0+(k:Int))›,‹.int c›,‹.int w›],v,rfl,rfl,by simp! only[gd 7,gm 3,hv],o⟩
 rw[cN]at vl;have lc:∀a b:Option S,eD [none,some 4,some 1] (bZ (ae (aa 3) au)) (gN 0) bH (fR (aP aK 3 3) (ae (f2 cx (f2 dg (f2 dQ (aa 1) (fC (.int 7))) (aa 0)) (fC (.int 3))) (ae (aa 2) (ae (aa 1) au)))) [a,‹.int w›,b,‹.int r›,‹.int c›]=.ok (.lst vs):=λ_ _=>cC (ds:=bF 0 r) (by simp! only[rg]) (by rw[cN];omega) hv;have ql:(q.map aC).length=(sg m c).length:=s.length;have q3:(sg m c).length<=3:=by unfold sg;rw[Ke];simp;omega
 have ad:=yq (q.map aC) vs `o;refine⟨vs,?_,gH λx hx=>?_⟩
 ·rw[DV];unfold cO;simp! only[hq,lc,ad]
 ·rcases List.mem_append.mp hx with z|z
  ·obtain⟨k,_,rfl⟩:=List.mem_map.mp z;cases k with
   |inl i=>exact qp _ _
   |inr z=>exact pN _ _
  ·exact vp x z
noncomputable abbrev bR:=List (List Key×D)
theorem zM{i:Nat}{G:aV}{k:Ks}{ρ:ah}{ds:List D}(h:G ρ=.ok ds)(hn:Bi ρ=true)(hl:ds.length<=100000):gR i G k ρ=k.nx (ρ.set i (some (.nest (.lst (ds.map λ_=>.dct [] []))))):=by
 unfold gR;rw[h];show(if Bi ρ&&small ds.length then _ else _)=_;rw[hn,ca hl];rfl
theorem vw{i:Nat}{u:List D->D->D->D->Option (List D)}{fe fk fv:FX}{k:Ks}{ρ:ah}{xs ys:List D}{c q v:D}(h:ρ[i]?=some (some (.nest (.lst xs))))(e1:fv ρ=.ok v)(e2:fe ρ=.ok c)(e3:fk ρ=.ok q)(e4:u xs c q v=some ys):gK i u fe fk fv k ρ=k.nx (ρ.set i (some (.nest (.lst ys)))):=by
 unfold gK;rw[h];show(qC (fv ρ)).bind _=_;rw[e1];show(qC (fe ρ)).bind _=_;rw[e2];show(qC (fk ρ)).bind _=_;rw[e3];show(rO (u xs c q v)).bind _=_;rw[e4];rfl
theorem Fg(as:List bR)(c:Nat)(al:bR)(hc:as[c]?=some al)(q:ay)(v:D)(hl:al.length<=100000):gY (as.map aA) (.int (c:Int)) (.tup (q.map aC)) v=some ((as.set c (bV al q v)).map aA):=by
 show(match(as.map aA)[c]? with
  |some (.dct ks ds)=>(gU ks ds (.tup (q.map aC)) v).map λal=>(as.map aA).set c (aA al)
  |_=>none)=_
 rw[Ki,hc];show(gU (encK al) (al.map (·.2)) (.tup (q.map aC)) v).map _=_;unfold gU;rw[cI];show((cM (.tup (q.map aC))).bind _).map _=_;rw[cY];show(if small al.length then some (bV al q v)else none).map _=_;rw[ca hl,List.map_set];rfl
theorem Em(as:List bR)(c:Nat)(al:bR)(hc:as[c]?=some al)(q:ay)(v:D):h7 (as.map aA) (.int (c:Int)) (.tup (q.map aC)) v=some ((as.set c (gV al q)).map aA):=by
 show(match(as.map aA)[c]? with
  |some (.dct ks ds)=>(dZ ks ds).bind λal=>(cM (.tup (q.map aC))).map λq=>(as.map aA).set c (aA (gV al q))
  |_=>none)=_
 rw[Ki,hc];show(dZ (encK al) (al.map (·.2))).bind _=_;rw[cI];show(cM (.tup (q.map aC))).map _=_;rw[cY,List.map_set];rfl
theorem oF:∀as:List bR,ox (as.map aA)=some as
 |[]=>rfl
 |al::as=>by
  show(dZ (encK al) (al.map (·.2))).bind _=_;rw[cI];show(ox (as.map aA)).map _=_;rw[oF as];rfl
theorem yX{i:Nat}{F:bB}{k:Ks}{ρ:ah}{as:List bR}(h:ρ[i]?=some (some (.nest (.lst (as.map aA))))):j8 i F k ρ=F k (setV i (.lst (as.map cT)) ρ):=by
 unfold j8 Ad;rw[h];dsimp only;rw[oF]
structure Tb(σ:bb)(n:Nat)(al:bR):Prop where
 sh:∀p∈al,Sh σ (p.1.map aC)/\Ok 3 p.2
 nd:(al.map (·.1)).Nodup
 ln:al.length<=n
 ro:∀p∈al,∃vs:List D,p.2=.tup (p.1.map aC++vs)
theorem Tb.put{σ:bb}{n:Nat}{al:bR}(h:Tb σ n al){q:ay}{v:D}(hq:Sh σ (q.map aC))(hv:Ok 3 v)(hr:∃vs:List D,v=.tup (q.map aC++vs)):Tb σ (n+1) (bV al q v):=
 ⟨fun p hp=>by
  rcases ju hp with z|z
  ·exact h.sh p z
  ·rw[z];exact⟨hq,hv⟩,qf q v h.nd,JY (mJ al q v) (MQ h.ln),λp hp=>by
  rcases ju hp with z|z
  ·exact h.ro p z
  ·rw[z];exact hr⟩
theorem Tb.drop{σ:bb}{n:Nat}{al:bR}(h:Tb σ n al)(q:ay):Tb σ (n+1) (gV al q):=
 ⟨λp hp=>h.sh p (List.mem_filter.mp hp).1,h.nd.sublist (List.Sublist.map _ Mx),JY (Mz _ _) (MH h.ln),λp hp=>h.ro p (List.mem_filter.mp hp).1⟩
theorem Tb.up{σ:bb}{n:Nat}{al:bR}(h:Tb σ n al):Tb σ (n+1) al:=⟨h.sh,h.nd,MH h.ln,h.ro⟩
theorem vG{P:bR->Prop}{as:List bR}{c:Nat}{x:bR}(h:∀a∈as,P a)(hx:P x):∀a∈as.set c x,P a:=λa ha=>by
 rcases List.mem_or_eq_of_mem_set ha with z|z
 ·exact h a z
 ·rw[z];exact hx
theorem uV:bi=C0:=rfl
theorem xo(ns:List Int)(m:Nat)(m1:1<=m)(m3:m<=3)(r:Nat)(r3:r<=3)(n:Nat)(n1:1<=n)(n4:n<=4)(hl:ns.length<=63):∃as:List bR,aP bx 4 9 [.lst (ns.map .int),.int m,.int r,.int n]=.ok (.lst (as.map cT))/\as.length=n/\∀al∈as,Tb (sg m (ns.getD 0 0/16)) 63 al:=by
 have rg:=fS n `o;have c0:=vi ns 0;rw[<-uV]at c0;have c0:aP bi 2 2 [.lst (ns.map .int),.int 0]=.ok (.int (ns.getD 0 0)):=c0;generalize ns.getD 0 0=z at c0 ⊢;obtain⟨B,hB⟩:∃F:bB,F=(aU (cq 7 (f2 cx (f2 dQ (aa 6) (aa 3)) (fC (.int 20)))) (aU (cq 8 (fR (aP bP 3 4) (ae (aa 7) (ae (aa 1) (ae (aa 5) au))))) (aU (jT (fB (f2 sM (f2 cx (f2 dQ (aa 6) (f2 ly (fC (.int 20)) (aa 3))) (fC (.int 4))) (fC (.int 0)))) (gK 4 h7 (f2 cx (aa 6) (aa 3)) (aa 8) (fC .non)) (gK 4 gY (f2 cx (aa 6) (aa 3)) (aa 8) (fR (aP cO 5 5) (ae (aa 7) (ae (f2 cx (f2 dQ (aa 6) (f2 ly (fC (.int 80)) (aa 3))) (fC (.int 5))) (ae (aa 1) (ae (aa 2) (ae (aa 5) au)))))))) (dq [6,7,8] bU)))):=⟨_,rfl⟩
 obtain⟨as0,e0,l0,t0⟩:∃as:List bR,(bF 0 n).map (λ_=>D.dct [] [])=as.map aA/\as.length=n/\∀al∈as,Tb (sg m (z/16)) 0 al:=⟨List.replicate n [],by
  rw[List.map_replicate,List.map_const',cN];rfl,Kn,λal ha=>by
  rw[(List.mem_replicate.mp ha).2];exact⟨λp hp=>(nomatch hp),KI,Ka _,λp hp=>(nomatch hp)⟩⟩
 have nw:∀(k:Ks),gR 4 (bZ (ae (aa 3) au)) k [‹.lst (ns.map .int)›,‹.int m›,‹.int r›,‹.int n›,none,none,none,none,none]=k.nx [‹.lst (ns.map .int)›,‹.int m›,‹.int r›,‹.int n›,some (.nest (.lst (as0.map aA))),none,none,none,none]:=λk=>by
  rw[zM (ds:=bF 0 n) (by simp! only[rg]) rfl (by rw[cN];omega),e0];rfl
 have fin:∀Q:R D->Prop,(∀as:List bR,as.length=n->(∀al∈as,Tb (sg m (z/16)) 63 al)->Q (.ok (.lst (as.map cT))))->Q (aP bx 4 9 [.lst (ns.map .int),.int m,.int r,.int n]):=λQ hQ=>by
  rw[DU];unfold bx;rw[<-hB];simp! only[nw,c0,gd 16,BV];refine vc (Q:=Q) (λi ρ=>∃as:List bR,as.length=n/\(∀al∈as,Tb (sg m (z/16)) i al)/\ρ=[‹.lst (ns.map .int)›,‹.int m›,‹.int r›,‹.int n›,some (.nest (.lst (as.map aA))),‹.int (z/16)›,none,none,none]) ?_ ⟨as0,l0,t0,rfl⟩ ?_
  ·rintro i d ρ kk hd ⟨as,al,at',rfl⟩;rw[Ki]at hd;obtain⟨x,hx,rfl⟩:=Option.map_eq_some_iff.mp hd;obtain⟨p,ep,hp⟩:∃p:Nat,x/n%20=(p:Int)/\p<20:=⟨(x/n%20).toNat,by omega,by omega⟩
   obtain⟨w,ew,hw⟩:∃w:Nat,x/(80*n)%5=(w:Int)/\w<5:=⟨(x/(80*n)%5).toNat,by omega,by omega⟩
   have nz:(0:Int)<n:=(by omega);have xm0:=Int.emod_nonneg x (Int.ne_of_gt nz);have xm1:=MD x nz;obtain⟨c,ec,hc⟩:∃c:Nat,x%n=(c:Int)/\c<as.length:=⟨(x%n).toNat,by omega,by omega⟩
   have hc':as[c]?=some as[c]:=KY hc;have tc:=at' as[c] (Ly hc);obtain⟨q,hq,sq⟩:=DB p hp m m1 m3 (z/16);obtain⟨vs,hv,ov⟩:=EA p hp w hw m m1 m3 r r3 (z/16) hq sq;obtain⟨v,rv⟩:∃v:D,v=.tup (q.map aC++vs):=⟨_,rfl⟩
   rw[<-rv]at hv ov;have big:(400:Int)<10^200:=(by decide);have d1:=mz (i:=x) (j:=n) nz (MP (show(n:Int)<400 by omega) big);have d20:=mz (i:=x) (j:=20*n) `o (MP (show 20*(n:Int)<400 by omega) big);have d80:=mz (i:=x) (j:=80*n) `o (MP (show 80*(n:Int)<400 by omega) big);have mn:=zQ (i:=x) nz;have u20:=qb (i:=20) (j:=n) (by decide) (by decide);have u80:=qb (i:=80) (j:=n) (by decide) (by decide);by_cases e:x/(20*n)%4=0
   ·have eb:(x/(20*n)%4==0)=true:=(by rw[e];rfl);refine⟨_,_,rfl,⟨as.set c (gV as[c] q),by rw[Lf];exact al,vG (λa ha=>(at' a ha).up) (tc.drop q),rfl⟩,?_⟩;have up:=λ(K:Ks)=>vw (i:=4) (u:=h7) (fe:=f2 cx (aa 6) (aa 3)) (fk:=aa 8) (fv:=fC .non) (k:=K) (ρ:=[‹.lst (ns.map .int)›,‹.int m›,‹.int r›,‹.int n›,some (.nest (.lst (as.map aA))),‹.int (z/16)›,‹.int x›,‹.int p›,‹.tup (q.map aC)›]) rfl rfl (by simp! only[mn,ec]) rfl (Em as c as[c] hc' q .non);rw[hB];simp! only[d1,d20,gm 20,gm 4,u20,ep,hq,eb,up]
   ·have eb:(x/(20*n)%4==0)=false:=beq_eq_false_iff_ne.mpr e;refine⟨_,_,rfl,⟨as.set c (bV as[c] q v),by rw[Lf];exact al,vG (λa ha=>(at' a ha).up) (tc.put sq ov ⟨vs,rv⟩),rfl⟩,?_⟩;have hi:=xr hx;have cl:(cutD ns (some 1) (some 241)).length<=ns.length:=by
     have:=List.Sublist.length_le (show(cutD ns (some 1) (some 241)).Sublist ns from(Kj _ _).trans (L3 _ _))
     exact this
    have up:=λ(K:Ks)=>vw (i:=4) (u:=gY) (fe:=f2 cx (aa 6) (aa 3)) (fk:=aa 8) (fv:=fR (aP cO 5 5) (ae (aa 7) (ae (f2 cx (f2 dQ (aa 6) (f2 ly (fC (.int 80)) (aa 3))) (fC (.int 5))) (ae (aa 1) (ae (aa 2) (ae (aa 5) au)))))) (k:=K) (ρ:=[‹.lst (ns.map .int)›,‹.int m›,‹.int r›,‹.int n›,some (.nest (.lst (as.map aA))),‹.int (z/16)›,‹.int x›,‹.int p›,‹.tup (q.map aC)›]) rfl (by simp! only[u80,d80,gm 5,ew,hv]) (by simp! only[mn,ec]) rfl (Fg as c as[c] hc' q v (by have:=tc.ln;omega));rw[hB];simp! only[d1,d20,gm 20,gm 4,u20,ep,hq,eb,up]
  ·rintro ρ' ⟨as,al,at',rfl⟩;rw[Km]at at';have cl:(cutD ns (some 1) (some 241)).length<=ns.length:=List.Sublist.length_le (show(cutD ns (some 1) (some 241)).Sublist ns from(Kj _ _).trans (L3 _ _));have ef:=λ(F:bB)(k:Ks)=>yX (i:=4) (F:=F) (k:=k) (ρ:=[‹.lst (ns.map .int)›,‹.int m›,‹.int r›,‹.int n›,some (.nest (.lst (as.map aA))),‹.int (z/16)›,none,none,none]) (as:=as) rfl;have h:=hQ as al λa ha=>⟨(at' a ha).sh,(at' a ha).nd,by have:=(at' a ha).ln;omega,(at' a ha).ro⟩
   simp! only[ef];exact h
 exact fin (λx=>∃as:List bR,x=.ok (.lst (as.map cT))/\as.length=n/\∀al∈as,Tb (sg m (z/16)) 63 al) λas h1 h2=>⟨as,rfl,h1,h2⟩
noncomputable abbrev kE(q:ay):D:=.tup (q.map aC)
noncomputable abbrev kk(q:ay):List D:=q.map aC
theorem uE(q:ay):∀ks:List ay,lr bq (kE q) (ks.map kE)=(lr kk q ks).map kE
 |[]=>rfl
 |k::ks=>by
  show(if kLt (kk q) (kk k)then kE q::kE k::ks.map kE else kE k::lr bq (kE q) (ks.map kE))=_;rw[show lr kk q (k::ks)=if kLt (kk q) (kk k)then q::k::ks else k::lr kk q ks from rfl];split
  ·rfl
  ·rw[uE q ks];rfl
theorem mS:∀ks:List ay,aY bq (ks.map kE)=(aY kk ks).map kE
 |[]=>rfl
 |k::ks=>by
  show lr bq (kE k) (aY bq (ks.map kE))=_;rw[mS ks,uE];rfl
theorem uI{σ:bb}(h0:σ≠[]){ks:List ay}(nd:ks.Nodup)(hs:∀q∈ks,Sh σ (kk q))(hl:ks.length<1000):i5 (ks.map kE)=some (.lst ((aY kk ks).map kE)):=by
 have hx:∀x∈ks.map kE,∃k,x=.tup k/\Sh σ k:=λx hx=>by
  obtain⟨p,hp,rfl⟩:=List.mem_map.mp hx;exact⟨_,rfl,hs p hp⟩
 have pw:(ks.map kE).Pairwise λx y=>bq x≠bq y:=by
  rw[Mf];exact nd.imp λ{a b} ne e=>ne (lV e)
 have a:tG (ks.map kE):=⟨by rw[Km];exact hl,σ,h0,hx,pw⟩
 unfold i5;rw[if_pos a,mS]
theorem pq(al:bR):encK al=(al.map (·.1)).map kE:=by rw[Mh];rfl
theorem uP(al:bR):rC (.non::encK al) (al.map (·.2))=some al:=cI al
theorem zf(al:bR):gz [cT al]=some (.lst ((al.map (·.1)).map kE)):=by
 show(rC (.non::encK al) (al.map (·.2))).bind _=_;rw[uP,<-pq];rfl
noncomputable def hs(al:bR)(q:ay):Bool:=al.any λp=>decide (p.1=q)
theorem xZ{al:bR}{q:ay}:hs al q=true↔q∈al.map (·.1):=by
 unfold hs;rw[ML,MG];simp only[decide_eq_true_eq]
noncomputable def gv(al:bR)(q:ay):D:=(bW al q).getD .non
theorem cQ{σ:bb}{n:Nat}{al:bR}(h:Tb σ n al)(q:ay):Ok 3 (gv al q):=by
 unfold gv bW;cases e:al.find? λp=>decide (p.1=q)with
 |none=>exact DZ _
 |some p=>exact(h.sh p (MR e)).2
noncomputable abbrev Cg:=List Key×D×D
noncomputable abbrev tr(c:Cg):D:=.tup [kE c.1,c.2.1,c.2.2]
noncomputable def gl(al bl:bR):List (ay):=al.map (·.1)++(bl.map (·.1)).filter λq=>!hs al q
noncomputable def chg(al bl:bR):List Cg:=((aY kk (gl al bl)).filter λq=>!pyEq (gv al q) (gv bl q)).map λq=>(q,gv al q,gv bl q)
theorem js{al bl:bR}(h1:(al.map (·.1)).Nodup)(h2:(bl.map (·.1)).Nodup):(gl al bl).Nodup:=
 List.nodup_append.mpr ⟨h1,h2.sublist Mx,λa ha b hb e=>by
  have:=(List.mem_filter.mp hb).2
  rw[<-e,xZ.mpr ha]at this;cases this⟩
theorem si{al bl:bR}{q:ay}(h:q∈gl al bl):q∈al.map (·.1)\/q∈bl.map (·.1):=by
 rcases List.mem_append.mp h with z|z
 ·exact .inl z
 ·exact .inr (List.mem_filter.mp z).1
theorem jJ{σ:bb}{n:Nat}{al bl:bR}(h1:Tb σ n al)(h2:Tb σ n bl):∀q∈gl al bl,Sh σ (kk q):=λq hq=>by
 rcases si hq with z|z
 ·obtain⟨p,hp,rfl⟩:=List.mem_map.mp z;exact(h1.sh p hp).1
 ·obtain⟨p,hp,rfl⟩:=List.mem_map.mp z;exact(h2.sh p hp).1
theorem md{σ:bb}{n:Nat}{al bl:bR}(h1:Tb σ n al)(h2:Tb σ n bl):(gl al bl).length<=2*n:=by
 have l1:=h1.ln;have l2:=h2.ln
 have:((bl.map (·.1)).filter λq=>!hs al q).length<=bl.length:=by
  have:=Mz (λq=>!hs al q) (bl.map (·.1))
  rw[Km]at this;exact this
 unfold gl;rw[Kl,Km];omega
structure Ch(σ:bb)(n:Nat)(cs:List Cg):Prop where
 sh:∀c∈cs,Sh σ (kk c.1)/\Ok 3 c.2.1/\Ok 3 c.2.2
 ln:cs.length<=n
theorem zu{σ:bb}{n:Nat}{al bl:bR}(h1:Tb σ n al)(h2:Tb σ n bl):Ch σ (2*n) (chg al bl):=
 ⟨fun c hc=>by
  obtain⟨q,hq,rfl⟩:=List.mem_map.mp hc;exact⟨jJ h1 h2 q ((av kk _).mem_iff.mp (List.mem_filter.mp hq).1),cQ h1 q,cQ h2 q⟩,by
  have:=md h1 h2
  unfold chg;rw[Km];refine JY (Mz _ _) ?_;rw[(av kk _).length_eq];exact this⟩
theorem Hh{σ:bb}{n:Nat}{cs:List Cg}(h:Ch σ n cs):∀c∈cs,Ok 4 (tr c):=λc hc=>gH λx hx=>by
 obtain⟨h1,h2,h3⟩:=h.sh c hc;rcases List.mem_cons.mp hx with z|hx
 ·rw[z];exact zG _ _
 ·rcases List.mem_cons.mp hx with z|hx
  ·rw[z];exact h2
  ·rw[List.mem_singleton.mp hx];exact h3
theorem Ok.le{n m:Nat}(h:n<=m){d:D}(hd:Ok n d):Ok m d:=by
  induction m with
  | zero => have : n = 0 := by omega
            subst this;exact hd
  |succ m ih=>
    by_cases e:n=m+1
    ·subst e;exact hd
    ·exact(ih `o).up
theorem oR{al:bR}{q:ay}(h:hs al q=false):gv al q=.non:=by
 unfold gv bW
 have:al.find? (λp=>decide (p.1=q))=none:=List.find?_eq_none.mpr λp hp e=>by
  have:=List.any_eq_false.mp h p hp
  exact this e
 rw[this];rfl
theorem j7{al:bR}{q:ay}(h:hs al q=true):∃p∈al,p.1=q/\bW al q=some p.2/\gv al q=p.2:=by
 unfold gv bW;cases e:al.find? λp=>decide (p.1=q)with
 |none=>
  obtain⟨p,hp,z⟩:=List.any_eq_true.mp h;exact absurd z (List.find?_eq_none.mp e p hp)
 |some p=>exact⟨p,MR e,of_decide_eq_true (List.find?_some (p:=λ(p:List Key×D)=>decide (p.1=q)) e),rfl,rfl⟩
theorem Cu(al:bR)(q:ay):nS (cT al) (kE q)=bW al q:=by
 show(rC (.non::encK al) (al.map (·.2))).bind _=_;rw[uP];show(cM (kE q)).bind _=_;rw[cY];rfl
theorem BL{al:bR}{q:ay}(h:hs al q=true):nS (cT al) (kE q)=some (gv al q):=by
 obtain⟨p,_,_,e1,e2⟩:=j7 h;rw[Cu,e1,e2]
theorem qv{fo fk:FX}{ρ:ah}{al:bR}{q:ay}(h:fo ρ=.ok (aA al))(e:fk ρ=.ok (kE q)):dG fo fk ρ=.ok (gv al q):=by
 unfold dG;rw[h];show(fk ρ).bind _=_;rw[e];show rO (yr (encK al) (al.map (·.2)) (kE q))=_;unfold yr;rw[lz];show rO ((cM (kE q)).map _)=_;rw[cY];rfl
noncomputable def jf(al:bR):bR:=(aY kk (al.map (·.1))).map λq=>(q,gv al q)
theorem hV(al:bR):(jf al).map (·.1)=aY kk (al.map (·.1)):=by
 unfold jf;rw[Mh];exact List.map_id _
theorem zN(al:bR)(q:ay):hs (jf al) q=hs al q:=by
 refine Bool.eq_iff_iff.mpr ?_;rw[xZ,xZ,hV,(av kk _).mem_iff]
theorem pT(al:bR)(q:ay):gv (jf al) q=gv al q:=by
 cases e:hs al q with
 |false=>rw[oR e,oR (by rw[zN];exact e)]
 |true=>
  obtain⟨p,hp,e1,_,e2⟩:=j7 (al:=jf al) (q:=q) (by rw[zN];exact e);obtain⟨z,_,rfl⟩:=List.mem_map.mp hp;rw[e2,<-e1]
theorem AX(al:bR):(jf al).length=al.length:=by
 unfold jf;rw[Km,(av kk _).length_eq,Km]
theorem eX{σ:bb}{n:Nat}{al:bR}(h:Tb σ n al):Tb σ n (jf al):=by
 have M:∀p∈jf al,∃p'∈al,p=p':=λp hp=>by
  obtain⟨q,hq,rfl⟩:=List.mem_map.mp hp;obtain⟨p',h1,h2,_,h3⟩:=j7 (xZ.mpr ((av kk _).mem_iff.mp hq));exact⟨p',h1,by rw[h3,<-h2]⟩
 refine⟨λp hp=>?_,?_,by rw[AX];exact h.ln,λp hp=>?_⟩
 ·obtain⟨p',h1,rfl⟩:=M p hp;exact h.sh p h1
 ·rw[hV];exact(av kk _).nodup_iff.mpr h.nd
 ·obtain⟨p',h1,rfl⟩:=M p hp;exact h.ro p h1
theorem zA{σ:bb}(h0:σ≠[]){al:bR}(h:Tb σ 63 al):aP b7 1 1 [cT al]=.ok (.tup ((jf al).map (·.2))):=by
 have ln:=h.ln;have l1:=zf al;have so:iy [.lst ((al.map (·.1)).map kE)]=some (.lst ((aY kk (al.map (·.1))).map kE)):=uI h0 h.nd (λq hq=>by
  obtain⟨p,hp,rfl⟩:=List.mem_map.mp hq;exact(h.sh p hp).1) (by rw[Km];omega)
 have lc:eD [none,some 0] (bK (fL iy (ae (fL gz (ae (aa 0) au)) au))) (gN 0) bH (f2 nS (aa 1) (aa 0)) [‹cT al›]=.ok (.lst ((jf al).map (·.2))):=by
  refine cC (ds:=(aY kk (al.map (·.1))).map kE) ?_ (by rw[Km,(av kk _).length_eq,Km];omega) ?_
  ·generalize cT al=Y at l1 ⊢;simp! only[l1,so]
  ·unfold jf;rw[Mh];refine gh kE _ _ λq hq=>⟨[‹kE q›,‹cT al›],rfl,rfl,?_⟩
   have dx:=BL (xZ.mpr ((av kk _).mem_iff.mp hq));generalize cT al=Y at dx ⊢;simp! only[dx];rfl
 rw[pz];unfold b7;generalize cT al=Y at lc ⊢;simp! only[lc]
theorem mX:∀ps:bR,eY (ps.map λp=>.tup [.tup (p.1.map aC),p.2])=some ps
 |[]=>rfl
 |p::ps=>by
  show(rn (.tup [.tup (p.1.map aC),p.2])).bind (λq=>(eY (ps.map λp=>.tup [.tup (p.1.map aC),p.2])).map (q::·))=_;rw[mX ps];show((cM (.tup (p.1.map aC))).map λk=>(k,p.2)).bind _=_;rw[cY];rfl
theorem pW:∀(f a:bR),((a++f).map (·.1)).Nodup->f.foldl (λal p=>bV al p.1 p.2) a=a++f
 |[],a,_=>(Kc a).symm
 |p::f,a,h=>by
  have hn:¬(a.any λz=>decide (z.1=p.1))=true:=λz=>by
   rw[K9]at h;obtain⟨x,hx,e⟩:=List.any_eq_true.mp z;exact(List.nodup_append.mp h).2.2 x.1 (List.mem_map.mpr ⟨x,hx,rfl⟩) p.1 (by simp) (of_decide_eq_true e)
  show f.foldl (λal p=>bV al p.1 p.2) (bV a p.1 p.2)=_;have e:bV a p.1 p.2=a++[p]:=by unfold bV;rw[if_neg hn]
  rw[e,pW f (a++[p]) (by rw[Li];exact h),Li];rfl
theorem tN{σ:bb}{n:Nat}{al:bR}(h:Tb σ n al)(hn:n<=900){m:Nat}(hm:σ.length=m):aP cX 2 2 [.int m,.tup (al.map (·.2))]=.ok (aA al):=by
 have ln:=h.ln;have lc:eD [none,some 0] (bK (aa 1)) (gN 0) bH (dF (ae (kN (aa 0) jq (lR (aa 1))) (ae (aa 0) au))) [‹.int m›,‹.tup (al.map (·.2))›]=.ok (.lst (al.map λp=>.tup [.tup (p.1.map aC),p.2])):=by
  refine cC (ds:=al.map (·.2)) (by simp! only[]) (by rw[Km];omega) ?_;refine gh (λp:List Key×D=>p.2) (λp=>.tup [.tup (p.1.map aC),p.2]) al λp hp=>⟨[‹p.2›,‹.int m›],rfl,rfl,?_⟩
  obtain⟨vs,e⟩:=h.ro p hp;have kl:(p.1.map aC).length=m:=(h.sh p hp).1.length.trans hm;have tk:(p.1.map aC++vs).take m=p.1.map aC:=by rw[<-kl,L9]
  rw[e];have mt:eR [.tup (p.1.map aC),.tup (p.1.map aC++vs)]=some (.tup [.tup (p.1.map aC),.tup (p.1.map aC++vs)]):=jb (by simp);simp! only[Eh,tk,mt]
 have dt:eZ [.lst (al.map λp=>.tup [.tup (p.1.map aC),p.2])]=some (aA al):=by
  show(eY _).bind _=_;rw[mX];show(if small al.length then some (aA (lm al))else none)=_;rw[ca `o,if_pos rfl]
  have:lm al=al:=pW al [] h.nd
  rw[this]
 rw[pD];unfold cX;generalize aA al=Y at dt ⊢;simp! only[lc,dt]
theorem oW(xs:List Cg)(h:∀c∈xs,Ok 3 c.2.1/\Ok 3 c.2.2)(hl:xs.length<=900):aP eF 1 1 [.lst (xs.map tr)]=.ok (.tup ((xs.filter λc=>!pyEq c.2.1 c.2.2).map tr)):=by
 have lc:eD [none] (bK (aa 0)) (gN 0) (fB (f2 gr (f2 aD (aa 0) (fC (.int 1))) (f2 aD (aa 0) (fC (.int 2))))) (aa 0) [‹.lst (xs.map tr)›]=.ok (.lst ((xs.filter λc=>!pyEq c.2.1 c.2.2).map tr)):=by
  refine cC (ds:=xs.map tr) (by simp! only[]) (by rw[Km];omega) ?_;refine gb tr (λc=>!pyEq c.2.1 c.2.2) tr xs λc hc=>⟨[‹tr c›],rfl,?_,rfl⟩
  have ne:=C4 ((h c hc).1.le (show 3<=8 by decide)) ((h c hc).2.le (show 3<=8 by decide));simp! only[ne]
 rw[pz];unfold eF;simp! only[lc]
theorem oy{ks:List ay}(nd:ks.Nodup):ks.Pairwise λx y=>kk x≠kk y:=nd.imp λ{a b} ne e=>ne (lV e)
theorem oI{σ:bb}{xs ys:List ay}(nx:xs.Nodup)(ny:ys.Nodup)(hx:∀q∈xs,Sh σ (kk q))(mem:∀q,q∈xs↔q∈ys):aY kk xs=aY kk ys:=by
 have p:ys.Perm xs:=(MF ny nx).mpr λq=>(mem q).symm;exact jp (σ:=σ) hx (oy nx) (dr (σ:=σ) (λq hq=>hx q ((mem q).mpr hq)) (oy ny)) ((av kk ys).trans p)
theorem rL:∀ks:List ay,m7 (ks.map kE)=some ks
 |[]=>rfl
 |k::ks=>by
  show(cM (kE k)).bind (λk=>(m7 (ks.map kE)).map (k::·))=_;rw[rL ks,cY];rfl
theorem p0{al bl:bR}{q:ay}:q∈gl al bl↔q∈al.map (·.1)\/q∈bl.map (·.1):=by
 constructor
 ·exact si
 ·intro h;by_cases c:q∈al.map (·.1)
  ·exact List.mem_append.mpr (.inl c)
  ·refine List.mem_append.mpr (.inr (List.mem_filter.mpr ⟨h.resolve_left c,?_⟩));cases e:hs al q with
   |false=>rfl
   |true=>exact absurd (xZ.mp e) c
theorem uj:∀ks:List ay,(dd ks).length<=ks.length
 |[]=>Ka _
 |k::ks=>by
  unfold dd;split
  ·exact MH (uj ks)
  ·exact MQ (uj ks)
theorem BZ{σ:bb}(h0:σ≠[]){al bl:bR}(h1:Tb σ 63 al)(h2:Tb σ 63 bl):fW (.lst ((al.map (·.1)++bl.map (·.1)).map kE))=some (.lst ((aY kk (gl al bl)).map kE)):=by
 have l1:=h1.ln;have l2:=h2.ln;have L:(al.map (·.1)++bl.map (·.1)).length<300:=by rw[Kl,Km,Km];omega
 have mem:∀q,q∈dd (al.map (·.1)++bl.map (·.1))↔q∈gl al bl:=λq=>by rw[qz,p0,List.mem_append]
 have hx:∀q∈dd (al.map (·.1)++bl.map (·.1)),Sh σ (kk q):=λq hq=>jJ h1 h2 q ((mem q).mp hq);have nd:=vL (al.map (·.1)++bl.map (·.1));have a:tG ((dd (al.map (·.1)++bl.map (·.1))).map kT):=⟨by rw[Km];have:=uj (al.map (·.1)++bl.map (·.1));omega,σ,h0,λx hx'=>by
  obtain⟨p,hp,rfl⟩:=List.mem_map.mp hx';exact⟨_,rfl,hx p hp⟩,by rw[Mf];exact oy nd⟩
 have e:=mS (dd (al.map (·.1)++bl.map (·.1)));rw[oI nd (js h1.nd h2.nd) hx mem]at e;show(m7 _).bind _=_;rw[rL];exact(if_pos ⟨L,a⟩).trans (congrArg (λz=>some (D.lst z)) e)
theorem tm{σ:bb}(h0:σ≠[]){al bl:bR}(h1:Tb σ 63 al)(h2:Tb σ 63 bl){m:Nat}(hm:σ.length=m):aP cz 3 6 [.int m,.tup (al.map (·.2)),.tup (bl.map (·.2))]=.ok (.tup ((chg al bl).map tr)):=by
 have l1:=h1.ln;have l2:=h2.ln;have b1:=tN h1 (by decide) hm;have b2:=tN h2 (by decide) hm;have t1:=sB al;have t2:=sB bl;rw[pq]at t1 t2;have ad:=yT ((al.map (·.1)).map kE) ((bl.map (·.1)).map kE) (by rw[Km,Km,Km,Km];omega);rw[<-K9]at ad;have so:=BZ h0 h1 h2;have kl:=md h1 h2;have sl:(aY kk (gl al bl)).length=(gl al bl).length:=(av kk _).length_eq;have lc:∀a0 a1 a2:Option S,eD [none,some 3,some 4] (bK (aa 5)) (gN 0) bH (dF (ae (aa 0) (ae (dG (aa 1) (aa 0)) (ae (dG (aa 2) (aa 0)) au)))) [a0,a1,a2,‹aA al›,‹aA bl›,‹.lst ((aY kk (gl al bl)).map kE)›]=.ok (.lst (((aY kk (gl al bl)).map λq=>((q,gv al q,gv bl q):Cg)).map tr)):=λ_ _ _=>by
  refine cC (ds:=(aY kk (gl al bl)).map kE) ?_ (by rw[Km];omega) ?_
  ·generalize aA al=Y;generalize aA bl=Z;simp! only[]
  ·rw[Mh];refine gh kE _ _ λq hq=>⟨[‹kE q›,‹aA al›,‹aA bl›],rfl,rfl,?_⟩
   have g1:=qv (fo:=aa 1) (fk:=aa 0) (ρ:=[‹kE q›,‹aA al›,‹aA bl›]) (al:=al) (q:=q) rfl rfl;have g2:=qv (fo:=aa 2) (fk:=aa 0) (ρ:=[‹kE q›,‹aA al›,‹aA bl›]) (al:=bl) (q:=q) rfl rfl;have mt:eR [kE q,gv al q,gv bl q]=some (.tup [kE q,gv al q,gv bl q]):=jb (by simp);generalize aA al=Y at g1 g2 ⊢;generalize aA bl=Z at g1 g2 ⊢;simp! only[g1,g2,mt];rfl
 have un:=oW ((aY kk (gl al bl)).map λq=>((q,gv al q,gv bl q):Cg)) (λc hc=>by
  obtain⟨q,_,rfl⟩:=List.mem_map.mp hc;exact⟨cQ h1 q,cQ h2 q⟩) (by rw[Km];omega)
 rw[List.filter_map]at un;have un:aP eF 1 1 [.lst (((aY kk (gl al bl)).map λq=>((q,gv al q,gv bl q):Cg)).map tr)]=.ok (.tup ((chg al bl).map tr)):=un;rw[hU];unfold cz;generalize aA al=Y at b1 t1 lc;generalize aA bl=Z at b2 t2 lc;simp! only[b1,b2,t1,t2,ad,so,lc,un]
theorem Di{al:bR}{q:ay}(h:q∉al.map (·.1)):gv al q=.non:=oR (by
 cases e:hs al q with
 |false=>rfl
 |true=>exact absurd (xZ.mp e) h)
theorem cE{d:D}(h:Ok 8 d):gr d d=some (.bl false):=by
 rw[C4 h h,cj];rfl
noncomputable def ck(al bl:bR):List (ay):=(aY kk (gl al bl)).filter λq=>!pyEq (gv al q) (gv bl q)
noncomputable abbrev cg(al bl:bR)(q:ay):Cg:=(q,gv al q,gv bl q)
theorem jc(al bl:bR):chg al bl=(ck al bl).map (cg al bl):=rfl
theorem tu{al bl:bR}{q:ay}:q∈ck al bl↔pyEq (gv al q) (gv bl q)=false:=by
 unfold ck;rw[List.mem_filter];constructor
 ·intro h;cases e:pyEq (gv al q) (gv bl q)with
  |false=>rfl
  |true=>rw[e]at h;cases h.2
 ·intro h;refine⟨(av kk _).mem_iff.mpr (p0.mpr ?_),by rw[h];rfl⟩;by_cases c1:q∈al.map (·.1)
  ·exact .inl c1
  ·by_cases c2:q∈bl.map (·.1)
   ·exact .inr c2
   ·rw[Di c1,Di c2,cj]at h;cases h
section
variable{σ:bb}{n:Nat}{al bl cl:bR}
theorem uN(h1:Tb σ n al)(h2:Tb σ n bl):∀q∈ck al bl,Sh σ (kk q):=λq hq=>jJ h1 h2 q ((av kk _).mem_iff.mp (List.mem_filter.mp hq).1)
theorem rM(h1:Tb σ n al)(h2:Tb σ n bl):(ck al bl).Nodup:=((av kk _).nodup_iff.mpr (js h1.nd h2.nd)).sublist Mx
theorem ui(h1:Tb σ n al)(h2:Tb σ n bl):(ck al bl).length<=2*n:=by
 have:=md h1 h2
 refine JY (Mz _ _) ?_;rw[(av kk _).length_eq];exact this
theorem zl(h1:Tb σ n al)(h2:Tb σ n bl):nh kk (ck al bl):=List.Pairwise.sublist Mx (dr (σ:=σ) (jJ h1 h2) (oy (js h1.nd h2.nd)))
theorem C9(h1:Tb σ n al)(h2:Tb σ n bl){ys:List ay}(r:nh kk ys)(nd:ys.Nodup)(mem:∀q,q∈ys↔pyEq (gv al q) (gv bl q)=false):ys=ck al bl:=
 (pB (σ:=σ) (uN h1 h2) (zl h1 h2) r ((MF (rM h1 h2) nd).mpr λq=>by rw[tu,mem])).symm
theorem Fi{a b:D}(ha:Ok 3 a)(hb:Ok 3 b):pyEq a b=false↔pyEq b a=false:=by
 constructor
 ·intro h;cases e:pyEq b a with
  |false=>rfl
  |true=>rw[nE hb ha e,cj]at h;cases h
 ·intro h;cases e:pyEq a b with
  |false=>rfl
  |true=>rw[nE ha hb e,cj]at h;cases h
theorem D9(h1:Tb σ n al)(h2:Tb σ n bl):ck al bl=ck bl al:=
 C9 h2 h1 (zl h1 h2) (rM h1 h2) λq=>by rw[tu];exact Fi (cQ h1 q) (cQ h2 q)
noncomputable abbrev rv(c:Cg):D:=.tup [kE c.1,c.2.2,c.2.1]
theorem w8(h1:Tb σ 63 al)(h2:Tb σ 63 bl):aP aX 1 1 [.tup ((chg al bl).map tr)]=.ok (.tup ((chg bl al).map tr)):=by
 have ln:=(zu h1 h2).ln;have lc:eD [none,none,none] (bK (aa 0)) (gT 3 (qD [0,1,2])) bH (dF (ae (aa 0) (ae (aa 2) (ae (aa 1) au)))) [‹.tup ((chg al bl).map tr)›]=.ok (.lst ((chg al bl).map rv)):=by
  refine cC (ds:=(chg al bl).map tr) (by simp! only[]) (by rw[Km];omega) ?_;refine gh tr rv _ λc hc=>⟨[‹kE c.1›,‹c.2.1›,‹c.2.2›],rfl,rfl,?_⟩
  have mt:eR [kE c.1,c.2.2,c.2.1]=some (rv c):=jb (by simp);simp! only[mt]
 have e:(chg al bl).map rv=(chg bl al).map tr:=by
  rw[jc,jc,D9 h1 h2,Mh,Mh];rfl
 rw[e]at lc;rw[pz];unfold aX;simp! only[lc]
end
theorem yH(v:D){q q':ay}(h:q'≠q):∀w:bR,bW (w.map λp=>if p.1=q then(p.1,v)else p) q'=bW w q'
 |[]=>rfl
 |p::w=>by
  have ih:=yH v h w;unfold bW at ih ⊢;rw[Kw];by_cases e:p.1=q'
  ·have e2:¬p.1=q:=λz=>h (by rw[<-e,z]);rw[if_neg e2,Mq (by simpa using e),Mq (by simpa using e)]
  ·rw[Mr (a:=p) (by simpa using e)];by_cases e2:p.1=q
   ·rw[if_pos e2,Mr (by simpa using e)];exact ih
   ·rw[if_neg e2,Mr (by simpa using e)];exact ih
theorem zU(v:D){q:ay}:∀w:bR,(w.any λp=>decide (p.1=q))=true->bW (w.map λp=>if p.1=q then(p.1,v)else p) q=some v
 |[],h=>by cases h
 |p::w,h=>by
  unfold bW;rw[Kw];by_cases e:p.1=q
  ·rw[if_pos e,Mq (by simpa using e)];rfl
  ·rw[if_neg e,Mr (by simpa using e)];refine zU v w ?_;rw[Kz,decide_eq_false e,Bool.false_or]at h;exact h
theorem lI(w:bR)(q q':ay)(v:D):bW (bV w q v) q'=if q'=q then some v else bW w q':=by
 unfold bV;by_cases c:(w.any λp=>decide (p.1=q))=true
 ·rw[if_pos c];by_cases e:q'=q
  ·rw[if_pos e,e];exact zU v w c
  ·rw[if_neg e];exact yH v e w
 ·rw[if_neg c];unfold bW;rw[List.find?_append];by_cases e:q'=q
  ·rw[if_pos e,e]
   have:w.find? (λp=>decide (p.1=q))=none:=List.find?_eq_none.mpr λp hp z=>c (List.any_eq_true.mpr ⟨p,hp,z⟩)
   rw[this,Mq (by simp)];rfl
  ·rw[if_neg e,Mr (by simpa using λz=>e z.symm),List.find?_nil,Option.or_none]
theorem tU(w:bR)(q q':ay)(v:D):gv (bV w q v) q'=if q'=q then v else gv w q':=by
 unfold gv;rw[lI];split<;>rfl
theorem BF{σ:bb}{n:Nat}{al:bR}(h:Tb σ n al)(q:ay):gv al q=.non\/∃vs,gv al q=.tup (kk q++vs):=by
 cases e:hs al q with
 |false=>exact .inl (oR e)
 |true=>
  obtain⟨p,hp,e1,_,e2⟩:=j7 e;obtain⟨vs,z⟩:=h.ro p hp;exact .inr ⟨vs,by rw[e2,z,e1]⟩
structure Wt(σ:bb)(n:Nat)(w:bR):Prop where
 sh:∀p∈w,Sh σ (kk p.1)/\Ok 3 p.2/\(p.2=.non\/∃vs,p.2=.tup (kk p.1++vs))
 nd:(w.map (·.1)).Nodup
 ln:w.length<=n
theorem Tb.wt{σ:bb}{n:Nat}{al:bR}(h:Tb σ n al):Wt σ n al:=⟨λp hp=>⟨(h.sh p hp).1,(h.sh p hp).2,.inr (h.ro p hp)⟩,h.nd,h.ln⟩
theorem Wt.put{σ:bb}{n:Nat}{w:bR}(h:Wt σ n w){q:ay}{v:D}(hq:Sh σ (kk q))(hv:Ok 3 v)(hr:v=.non\/∃vs,v=.tup (kk q++vs)):Wt σ (n+1) (bV w q v):=
 ⟨fun p hp=>by
  rcases ju hp with z|z
  ·exact h.sh p z
  ·rw[z];exact⟨hq,hv,hr⟩,qf q v h.nd,JY (mJ w q v) (MQ h.ln)⟩
noncomputable abbrev cB:bB:=(aU (jT (jh [3] (fB (f2 gr (dG (aa 3) (aa 4)) (aa 5)))) iZ bU) (aU (gS 3 (aa 4) (aa 6)) (dq [4,5,6] bU)))
theorem DG{σ:bb}{a b:bR}(ha:Tb σ 63 a)(hb:Tb σ 63 b)(x0 x2:Option S)(K:Ks)(Q:R D->Prop):∀(ks:List ay)(w:bR)(n:Nat),ks.Nodup->(∀q∈ks,Sh σ (kk q))->Wt σ n w->(∀q∈ks,gv w q=gv a q)->n+ks.length<=900->
  (∀w',Wt σ (n+ks.length) w'->(∀q∈ks,gv w' q=gv b q)->(∀q,q∉ks->gv w' q=gv w q)->Q (K.nx [x0,none,x2,some (.own (aA w')),none,none,none]))->Q (d6 (gT 3 (qD [4,5,6])) cB K (ks.map λq=>tr (cg a b q)) [x0,none,x2,some (.own (aA w)),none,none,none]):=by
 intro ks
 induction ks with
 |nil=>intro w n _ _ h _ _ h2;exact h2 w h (λq hq=>nomatch hq) λ_ _=>rfl
 |cons q ks ih=>
  intro w n nd hs h hg hl h2;rw[KA]at hl h2;obtain⟨nq,nd'⟩:=List.nodup_cons.mp nd;have i2:=ih (bV w q (gv b q)) (n+1) nd' (λq hq=>hs q (J4 _ hq)) (h.put (hs q J3) (cQ hb q) (BF hb q)) (λq' hq'=>by
   rw[tU,if_neg λz=>nq (by rw[<-z];exact hq')];exact hg q' (J4 _ hq')) `o λw' g1 g2 g3=>h2 w' (by rw[show n+(ks.length+1)=n+1+ks.length by omega];exact g1) (λq' hq'=>by
   rcases List.mem_cons.mp hq' with z|z
   ·rw[z,g3 q nq,tU,if_pos rfl]
   ·exact g2 q' z) λq' hq'=>by
   rw[g3 q' λz=>hq' (J4 _ z),tU,if_neg λz=>hq' (by rw[z];exact J3)]
  rw[Kw,Do];have gt:gT 3 (qD [4,5,6]) (tr (cg a b q)) [x0,none,x2,some (.own (aA w)),none,none,none]=some [x0,none,x2,some (.own (aA w)),‹kE q›,‹gv a q›,‹gv b q›]:=rfl;rw[gt,de,dj];have ok:=cQ ha q;have pk:jh [3] (fB (f2 gr (dG (aa 3) (aa 4)) (aa 5))) [x0,none,x2,some (.own (aA w)),‹kE q›,‹gv a q›,‹gv b q›]=.ok false:=by
   show qC ((fB (f2 gr (dG (aa 3) (aa 4)) (aa 5))) [x0,none,x2,‹aA w›,‹kE q›,‹gv a q›,‹gv b q›])=_;have g:=qv (fo:=aa 3) (fk:=aa 4) (ρ:=[x0,none,x2,‹aA w›,‹kE q›,‹gv a q›,‹gv b q›]) (al:=w) (q:=q) rfl rfl;rw[hg q J3]at g;have ne:=cE (ok.le (show 3<=8 by decide));generalize aA w=W at g ⊢;simp! only[g,ne]
  have pu:=λ(K:Ks)=>vJ (i:=3) (fk:=aa 4) (fv:=aa 6) (k:=K) (ρ:=[x0,none,x2,some (.own (aA w)),‹kE q›,‹gv a q›,‹gv b q›]) (al:=w) (q:=q) (v:=gv b q) rfl rfl rfl (by have:=h.ln;omega);generalize aA w=W at pk pu ⊢;generalize aA (bV w q (gv b q))=W2 at pu i2;unfold cB at i2 ⊢;simp! only[pk,pu];exact i2
theorem B1{i:Nat}{F:bB}{k:Ks}{ρ:ah}{al:bR}(h:ρ[i]?=some (some (.own (aA al)))):mK i F k ρ=F k (setV i (cT al) ρ):=by
 unfold mK frzT;rw[h];show F k (match dZ (encK al) (al.map (·.2))with
  |some al=>setV i (cT al) ρ
  |none=>ρ)=_
 rw[cI]
theorem y9(al:bR):uK (cT al)=some (al.map (·.2)):=by
 show(dZ (encK al) (al.map (·.2))).map _=_;rw[cI];rfl
theorem Ew{p:List Key×D}(h:p.2=.non\/∃vs,p.2=.tup (kk p.1++vs))(e:isNon p.2=false):∃vs,p.2=.tup (kk p.1++vs):=by
 rcases h with z|z
 ·rw[z]at e;cases e
 ·exact z
theorem BA{σ:bb}(h0:σ≠[]){m:Nat}(hm:σ.length=m){w b:bR}{n:Nat}(hw:Wt σ n w)(hn:n<=900)(hb:Tb σ 63 b)(hg:∀q,gv w q=gv b q):ka (.lst ((w.filter λp=>!isNon p.2).map (·.2))) (.int m)=some (.lst ((jf b).map (·.2))):=by
 have F:∀p∈w.filter λp=>!isNon p.2,p∈w/\∃vs,p.2=.tup (kk p.1++vs):=λp hp=>by
  obtain⟨h1,h2⟩:=List.mem_filter.mp hp;exact⟨h1,Ew (hw.sh p h1).2.2 (by cases e:isNon p.2 with|false=>rfl|true=>rw[e]at h2;cases h2)⟩
 have C:∀(q:ay)(vs:List D),Sh σ (kk q)->(kk q++vs).take m=kk q:=λq vs s=>by
  rw[<-hm,<-s.length,L9]
 have cut:∀(p:List Key×D),Sh σ (kk p.1)->(∃vs,p.2=.tup (kk p.1++vs))->iX m p.2=kk p.1:=λp s ⟨vs,e⟩=>by
  rw[e];exact C p.1 vs s
 have nd:((w.filter λp=>!isNon p.2).map (·.1)).Nodup:=hw.nd.sublist (List.Sublist.map _ Mx);have pw:((w.filter λp=>!isNon p.2).map (·.2)).Pairwise λx y=>iX m x≠iX m y:=by
  rw[Mf]
  have:=(List.pairwise_map.mp nd).imp_of_mem (S:=λx y=>iX m x.2≠iX m y.2) λ{x y} hx hy ne e=>by
   obtain⟨x1,x2⟩:=F x hx;obtain⟨y1,y2⟩:=F y hy;rw[cut x (hw.sh x x1).1 x2,cut y (hw.sh y y1).1 y2]at e;exact ne (lV e)
  exact this
 have S:∀x∈(w.filter λp=>!isNon p.2).map (·.2),∃k,x=.tup k/\Sh σ (k.take m):=λx hx=>by
  obtain⟨p,hp,rfl⟩:=List.mem_map.mp hx;obtain⟨h1,vs,e⟩:=F p hp;exact⟨_,e,by rw[C p.1 vs (hw.sh p h1).1];exact(hw.sh p h1).1⟩
 have a:Gx m ((w.filter λp=>!isNon p.2).map (·.2)):=⟨by
  rw[Km]
  have:=Mz (λp:List Key×D=>!isNon p.2) w
  have:=hw.ln
  omega,σ,h0,S,pw⟩
 have tb:=eX hb;have pm:(jf b).Perm (w.filter λp=>!isNon p.2):=by
  have nd1:∀{l:bR},(l.map (·.1)).Nodup->l.Nodup:=λ{l} h=>(List.pairwise_map.mp h).imp λ{x y} ne e=>ne (by rw[e]);refine(MF (nd1 tb.nd) (nd1 nd)).mpr λp=>⟨λhp=>?_,λhp=>?_⟩
  ·obtain⟨vs,e⟩:=tb.ro p hp;have e1:gv (jf b) p.1=p.2:=(by unfold gv;rw[jm tb.nd hp];rfl);rw[pT,<-hg]at e1;have hh:hs w p.1=true:=by
    cases z:hs w p.1 with
    |true=>rfl
    |false=>rw[oR z,e]at e1;cases e1
   obtain⟨p',h1,h2,_,h3⟩:=j7 hh
   have:p'=p:=by
    rw[h3]at e1;exact Prod.ext h2 e1
   rw[<-this];refine List.mem_filter.mpr ⟨h1,?_⟩;rw[this,e];rfl
  ·obtain⟨h1,vs,e⟩:=F p hp;have e1:gv w p.1=p.2:=(by unfold gv;rw[jm hw.nd h1];rfl);rw[hg]at e1;have hh:hs b p.1=true:=by
    cases z:hs b p.1 with
    |true=>rfl
    |false=>rw[oR z,e]at e1;cases e1
   refine List.mem_map.mpr ⟨p.1,(av kk _).mem_iff.mpr (xZ.mp hh),?_⟩;rw[e1]
 have ris:nh (iX m) ((jf b).map (·.2)):=by
  have r:nh kk ((jf b).map (·.1)):=by
   rw[hV];exact dr (σ:=σ) (λq hq=>by
    obtain⟨p,hp,rfl⟩:=List.mem_map.mp hq;exact(hb.sh p hp).1) (oy hb.nd)
  refine List.pairwise_map.mpr ((List.pairwise_map.mp r).imp_of_mem λ{x y} hx hy e=>?_);rw[cut x (tb.sh x hx).1 (tb.ro x hx),cut y (tb.sh y hy).1 (tb.ro y hy)];exact e
 have e:aY (iX m) ((w.filter λp=>!isNon p.2).map (·.2))=(jf b).map (·.2):=jp (σ:=σ) (λx hx=>by
  obtain⟨p,hp,rfl⟩:=List.mem_map.mp hx;obtain⟨h1,h2⟩:=F p hp;rw[cut p (hw.sh p h1).1 h2];exact(hw.sh p h1).1) pw ris (pm.map _)
 show(if(0:Int)<=(m:Int)then mF (m:Int).toNat _ else none)=_;rw[if_pos `o,Kp];unfold mF;rw[if_pos a,e]
theorem uq{σ:bb}(h0:σ≠[]){m:Nat}(hm:σ.length=m){a b:bR}(ha:Tb σ 63 a)(hb:Tb σ 63 b):aP bL 3 7 [.int m,.tup ((jf a).map (·.2)),.tup ((chg a b).map tr)]=.ok (.tup ((jf b).map (·.2))):=by
 have b1:=tN (eX ha) (by decide) hm;have cl:=ui ha hb;have ec:(chg a b).map tr=(ck a b).map λq=>tr (cg a b q):=by rw[jc,Mh];rfl
 rw[ec];rw[hU];unfold bL;rw[show(aU (jT (jh [3] (fB (f2 gr (dG (aa 3) (aa 4)) (aa 5)))) iZ bU) (aU (gS 3 (aa 4) (aa 6)) (dq [4,5,6] bU)))=cB from rfl];generalize hC:cB=CB;obtain⟨T,hT⟩:∃F:bB,F=(mK 3 (cf (fR (aP cR 2 2) (ae (aa 0) (ae (eD [none] (qV (aa 3)) (gN 0) (fB (jy (aa 0))) (aa 0)) au))))):=⟨_,rfl⟩
 rw[<-hT];generalize hW:aA (jf a)=W at b1;simp! only[b1];rw[<-hC,<-hW];refine DG ha hb _ _ _ (λx=>x=.ok (.tup ((jf b).map (·.2)))) (ck a b) (jf a) 63 (rM ha hb) (uN ha hb) (eX ha).wt (λq _=>pT a q) `o λw hw g1 g2=>?_;have hg:∀q,gv w q=gv b q:=λq=>by
  by_cases c:q∈ck a b
  ·exact g1 q c
  ·rw[g2 q c,pT];refine nE (cQ ha q) (cQ hb q) ?_;cases e:pyEq (gv a q) (gv b q)with
   |true=>rfl
   |false=>exact absurd (tu.mpr e) c
 have so:=BA h0 hm hw `o hb hg;have vf:=y9 w;have ln:=hw.ln;have lc:∀x0 x1 x2 x4 x5 x6:Option S,eD [none] (qV (aa 3)) (gN 0) (fB (jy (aa 0))) (aa 0) [x0,x1,x2,‹cT w›,x4,x5,x6]=.ok (.lst ((w.filter λp=>!isNon p.2).map (·.2))):=λ_ _ _ _ _ _=>by
  refine cC (ds:=w.map (·.2)) ?_ (by rw[Km];omega) ?_
  ·show rO (uK (cT w))=_;rw[vf];rfl
  ·refine gb (λp:List Key×D=>p.2) (λp=>!isNon p.2) (λp=>p.2) w λp hp=>⟨[‹p.2›],rfl,?_,rfl⟩
   simp! only[]
 have sb:aP cR 2 2 [.int m,.lst ((w.filter λp=>!isNon p.2).map (·.2))]=.ok (.tup ((jf b).map (·.2))):=by
  rw[pD];unfold cR;simp! only[so]
 rw[hT];have ef:=λ(F:bB)(k:Ks)(x0 x1 x2 x4 x5 x6:Option S)=>B1 (i:=3) (F:=F) (k:=k) (ρ:=[x0,x1,x2,some (.own (aA w)),x4,x5,x6]) (al:=w) rfl;generalize aA w=W1 at ef ⊢;generalize cT w=W2 at ef lc;simp! only[ef,lc,sb]
theorem Be{fo fk fx:FX}{ρ:ah}{al:bR}{q:ay}{x:D}(h:fo ρ=.ok (aA al))(e:fk ρ=.ok (kE q))(ex:fx ρ=.ok x):g7 fo fk fx ρ=.ok ((bW al q).getD x):=by
 unfold g7;rw[h];show(fk ρ).bind _=_;rw[e];show(fx ρ).bind _=_;rw[ex];show rO (rQ (encK al) (al.map (·.2)) (kE q) x)=_;unfold rQ;rw[cI];show rO ((cM (kE q)).bind _)=_;rw[cY];rfl
theorem El{f:FX}{a b:Option S}{d:D}{r:ah}{v:D}(h:f (a::b::‹d›::r)=.ok v)(l:lf v=true):k8 [2] f (a::b::some (.own d)::r)=.ok v:=by
 show(qC (f (a::b::‹d›::r))).bind _=_;rw[h];show(if lf v then Except.ok v else un)=_;rw[l];rfl
theorem Jk{k:ay}{a b:D}(ha:Ok 3 a)(hb:Ok 3 b):Ok 4 (.tup [kE k,a,b]):=gH λx hx=>by
 rcases List.mem_cons.mp hx with z|hx
 ·rw[z];exact zG _ _
 ·rcases List.mem_cons.mp hx with z|hx
  ·rw[z];exact ha
  ·rw[List.mem_singleton.mp hx];exact hb
theorem GO{w:bR}{q:ay}:bW w q=none↔q∉w.map (·.1):=by
 constructor
 ·intro h z;obtain⟨p,_,_,e,_⟩:=j7 (xZ.mpr z);rw[h]at e;cases e
 ·intro h;unfold bW;rw[List.find?_eq_none.mpr λp hp z=>h (List.mem_map.mpr ⟨p,hp,of_decide_eq_true z⟩)];rfl
noncomputable def jv(a b:bR)(q:ay):aW:=if pyEq (gv a q) (gv b q)then none else some (tr (cg a b q))
structure Jt(σ:bb)(n:Nat)(w:bR):Prop where
 sh:∀p∈w,Sh σ (kk p.1)
 nd:(w.map (·.1)).Nodup
 ln:w.length<=n
theorem Jt.put{σ:bb}{n:Nat}{w:bR}(h:Jt σ n w){q:ay}(v:D)(hq:Sh σ (kk q)):Jt σ (n+1) (bV w q v):=
 ⟨fun p hp=>by
  rcases ju hp with z|z
  ·exact h.sh p z
  ·rw[z];exact hq,qf q v h.nd,JY (mJ w q v) (MQ h.ln)⟩
noncomputable abbrev jB:bB:=(aU (cq 6 (k8 [2] (g7 (aa 2) (aa 3) (dF (ae (aa 3) (ae (aa 4) (ae (aa 4) au))))))) (aU (jT (fB (f2 gr (f2 aD (aa 6) (fC (.int 2))) (aa 4))) iZ bU) (aU (gS 2 (aa 3) (dF (ae (aa 3) (ae (f2 aD (aa 6) (fC (.int 1))) (ae (aa 5) au))))) (dq [4,5,6] bU))))
theorem DC{σ:bb}{a b c:bR}(ha:Tb σ 63 a)(hb:Tb σ 63 b)(hc:Tb σ 63 c)(x1:Option S)(K:Ks)(Q:R D->Prop):∀(ks:List ay)(w:bR)(n:Nat)(x3:Option S),ks.Nodup->(∀q∈ks,Sh σ (kk q))->Jt σ n w->(∀q∈ks,bW w q=jv a b q)->n+ks.length<=900->
  (∀w' x3,Jt σ (n+ks.length) w'->(∀q∈ks,bW w' q=some (tr (cg a c q)))->(∀q,q∉ks->bW w' q=bW w q)->Q (K.nx [none,x1,some (.own (aA w')),x3,none,none,none]))->Q (d6 (gT 3 (qD [3,4,5])) jB K (ks.map λq=>tr (cg b c q)) [none,x1,some (.own (aA w)),x3,none,none,none]):=by
 intro ks
 induction ks with
 |nil=>intro w n x3 _ _ h _ _ h2;exact h2 w x3 h (λq hq=>nomatch hq) λ_ _=>rfl
 |cons q ks ih=>
  intro w n x3 nd hs h hg hl h2;rw[KA]at hl h2;obtain⟨nq,nd'⟩:=List.nodup_cons.mp nd;have i2:=ih (bV w q (tr (cg a c q))) (n+1) (‹kE q›) nd' (λq hq=>hs q (J4 _ hq)) (h.put _ (hs q J3)) (λq' hq'=>by
   rw[lI,if_neg λz=>nq (by rw[<-z];exact hq')];exact hg q' (J4 _ hq')) `o λw' y3 g1 g2 g3=>h2 w' y3 (by rw[show n+(ks.length+1)=n+1+ks.length by omega];exact g1) (λq' hq'=>by
   rcases List.mem_cons.mp hq' with z|z
   ·rw[z,g3 q nq,lI,if_pos rfl]
   ·exact g2 q' z) λq' hq'=>by
   rw[g3 q' λz=>hq' (J4 _ z),lI,if_neg λz=>hq' (by rw[z];exact J3)]
  rw[Kw,Do];have gt:gT 3 (qD [3,4,5]) (tr (cg b c q)) [none,x1,some (.own (aA w)),x3,none,none,none]=some [none,x1,some (.own (aA w)),‹kE q›,‹gv b q›,‹gv c q›,none]:=rfl;rw[gt,de,dj];have oa:=cQ ha q;have ob:=cQ hb q;have FU:eR [kE q,gv b q,gv b q]=some (.tup [kE q,gv b q,gv b q]):=jb (by simp);have Jj:eR [kE q,gv a q,gv c q]=some (.tup [kE q,gv a q,gv c q]):=jb (by simp);have er:(bW w q).getD (.tup [kE q,gv b q,gv b q])=.tup [kE q,gv a q,gv b q]:=by
   rw[hg q J3];unfold jv;cases e:pyEq (gv a q) (gv b q)with
   |true=>
    rw[if_pos rfl];show D.tup [kE q,gv b q,gv b q]=_;rw[nE oa ob e]
   |false=>rw[if_neg J8];rfl
  have pk:k8 [2] (g7 (aa 2) (aa 3) (dF (ae (aa 3) (ae (aa 4) (ae (aa 4) au))))) [none,x1,some (.own (aA w)),‹kE q›,‹gv b q›,‹gv c q›,none]=.ok (.tup [kE q,gv a q,gv b q]):=by
   have g:=Be (fo:=aa 2) (fk:=aa 3) (fx:=dF (ae (aa 3) (ae (aa 4) (ae (aa 4) au)))) (ρ:=[none,x1,‹aA w›,‹kE q›,‹gv b q›,‹gv c q›,none]) (al:=w) (q:=q) (x:=.tup [kE q,gv b q,gv b q]) rfl rfl (by
    generalize aA w=W;simp! only[FU])
   rw[er]at g;exact El g (Jk oa ob).2.1
  have ne:=cE (ob.le (show 3<=8 by decide));have pu:=λ(K:Ks)=>vJ (i:=2) (fk:=aa 3) (fv:=dF (ae (aa 3) (ae (f2 aD (aa 6) (fC (.int 1))) (ae (aa 5) au)))) (k:=K) (ρ:=[none,x1,some (.own (aA w)),‹kE q›,‹gv b q›,‹gv c q›,‹.tup [kE q,gv a q,gv b q]›]) (al:=w) (q:=q) (v:=.tup [kE q,gv a q,gv c q]) rfl rfl (by
    generalize aA w=W;simp! only[Jj]) (by have:=h.ln;omega)
  generalize aA w=W at pk pu ⊢;have i2:Q (d6 (gT 3 (qD [3,4,5])) jB K (ks.map λq=>tr (cg b c q)) [none,x1,some (.own (aA (bV w q (.tup [kE q,gv a q,gv c q])))),‹kE q›,none,none,none]):=i2;generalize aA (bV w q (.tup [kE q,gv a q,gv c q]))=W2 at pu i2;unfold jB at i2 ⊢;simp! only[pk,ne,pu];exact i2
theorem vO{σ:bb}(h0:σ≠[]){a b c:bR}(ha:Tb σ 63 a)(hb:Tb σ 63 b)(hc:Tb σ 63 c):aP bN 2 7 [.tup ((chg a b).map tr),.tup ((chg b c).map tr)]=.ok (.tup ((chg a c).map tr)):=by
 have l1:=ui ha hb;have l2:=ui hb hc;have n1:=rM ha hb;have ps:∃w0:bR,w0=(ck a b).map λq=>(q,tr (cg a b q)):=⟨_,rfl⟩
 obtain⟨w0,ew⟩:=ps;have wk:w0.map (·.1)=ck a b:=by rw[ew,Mh];exact List.map_id _
 have jt:Jt σ 126 w0:=⟨λp hp=>uN ha hb p.1 (by rw[<-wk];exact List.mem_map.mpr ⟨p,hp,rfl⟩),by rw[wk];exact n1,by rw[ew,Km];exact l1⟩
 have gw:∀q,bW w0 q=jv a b q:=λq=>by
  unfold jv;cases e:pyEq (gv a q) (gv b q)with
  |true=>
   rw[if_pos rfl];exact GO.mpr λz=>by
    rw[wk,tu,e]at z;cases z
  |false=>
   rw[if_neg J8]
   have:(q,tr (cg a b q))∈w0:=(by rw[ew];exact List.mem_map.mpr ⟨q,tu.mpr e,rfl⟩);exact jm jt.nd this
 have lc:∀a1 a2 a3 a4 a5 a6:Option S,eD [none] (bK (aa 0)) (gN 0) bH (dF (ae (f2 aD (aa 0) (fC (.int 0))) (ae (aa 0) au))) [‹.tup ((chg a b).map tr)›,a1,a2,a3,a4,a5,a6]=.ok (.lst (w0.map λp=>.tup [.tup (p.1.map aC),p.2])):=λ_ _ _ _ _ _=>by
  refine cC (ds:=(chg a b).map tr) (by simp! only[]) (by rw[jc,Km,Km];omega) ?_;rw[ew,jc,Mh,Mh];refine gh (tr∘cg a b) _ (ck a b) λq hq=>⟨[‹tr (cg a b q)›],rfl,rfl,?_⟩
  have mt:eR [kE q,tr (cg a b q)]=some (.tup [kE q,tr (cg a b q)]):=jb (by simp);have j0:aD (tr (cg a b q)) (.int 0)=some (kE q):=lU _ _;show dF (ae (f2 aD (aa 0) (fC (.int 0))) (ae (aa 0) au)) [‹tr (cg a b q)›]=.ok (.tup [kE q,tr (cg a b q)]);generalize tr (cg a b q)=T at mt j0 ⊢;simp! only[j0,mt]
 have dt:eZ [.lst (w0.map λp=>.tup [.tup (p.1.map aC),p.2])]=some (aA w0):=by
  show(eY _).bind _=_;rw[mX];show(if small w0.length then some (aA (lm w0))else none)=_
  have:=jt.ln
  rw[ca `o,if_pos rfl]
  have:lm w0=w0:=pW w0 [] jt.nd
  rw[this]
 rw[pD];unfold bN;rw[show(aU (cq 6 (k8 [2] (g7 (aa 2) (aa 3) (dF (ae (aa 3) (ae (aa 4) (ae (aa 4) au))))))) (aU (jT (fB (f2 gr (f2 aD (aa 6) (fC (.int 2))) (aa 4))) iZ bU) (aU (gS 2 (aa 3) (dF (ae (aa 3) (ae (f2 aD (aa 6) (fC (.int 1))) (ae (aa 5) au))))) (dq [4,5,6] bU))))=jB from rfl];generalize hJ:jB=J;generalize hW:aA w0=W at dt;simp! only[lc,dt];rw[<-hJ,<-hW];rw[show(chg b c).map tr=(ck b c).map λq=>tr (cg b c q)from by rw[jc,Mh];rfl];refine DC ha hb hc _ _ (λx=>x=.ok (.tup ((chg a c).map tr))) (ck b c) w0 126 none (rM hb hc) (uN hb hc) jt (λq _=>gw q) `o λw x3 jw g1 g2=>?_;have G:∀q,q∈w.map (·.1)->bW w q=some (tr (cg a c q)):=λq hq=>by
  by_cases z:q∈ck b c
  ·exact g1 q z
  ·have e:=g2 q z;rw[gw]at e;unfold jv at e;cases f:pyEq (gv a q) (gv b q)with
   |true=>rw[f,if_pos rfl]at e;exact absurd hq (GO.mp e)
   |false=>
    rw[f,if_neg J8]at e
    have:gv b q=gv c q:=nE (cQ hb q) (cQ hc q) (by
     cases y:pyEq (gv b q) (gv c q)with
     |true=>rfl
     |false=>exact absurd (tu.mpr y) z)
    rw[e];show some (D.tup [kE q,gv a q,gv b q])=some (D.tup [kE q,gv a q,gv c q]);rw[this]
 have M:∀q,pyEq (gv a q) (gv c q)=false->q∈w.map (·.1):=λq h=>by
  by_cases z:q∈w.map (·.1)
  ·exact z
  ·have gn:=GO.mpr z;have n2:q∉ck b c:=λy=>by rw[g1 q y]at gn;cases gn
   have e:=g2 q n2;rw[gn,gw]at e;unfold jv at e;cases f:pyEq (gv a q) (gv b q)with
   |false=>rw[f,if_neg J8]at e;cases e
   |true=>
    have e1:=nE (cQ ha q) (cQ hb q) f;have e2:gv b q=gv c q:=nE (cQ hb q) (cQ hc q) (by
     cases y:pyEq (gv b q) (gv c q)with
     |true=>rfl
     |false=>exact absurd (tu.mpr y) n2)
    rw[e1,e2,cj]at h;cases h
 have wl:=jw.ln;have wsh:∀q∈w.map (·.1),Sh σ (kk q):=λq hq=>by
  obtain⟨p,hp,rfl⟩:=List.mem_map.mp hq;exact jw.sh p hp
 have so:fU [aA w]=some (.lst ((aY kk (w.map (·.1))).map kE)):=by
  show(rC (encK w) (w.map (·.2))).bind _=_;rw[lz];show i5 (encK w)=_;rw[pq];exact uI h0 jw.nd wsh (by rw[Km];omega)
 have lc2:∀a0 a1 a3 a4 a5 a6:Option S,eD [none,some 2] (bK (fL fU (ae (aa 2) au))) (gN 0) bH (f2 nS (aa 1) (aa 0)) [a0,a1,‹aA w›,a3,a4,a5,a6]=.ok (.lst (((aY kk (w.map (·.1))).map (cg a c)).map tr)):=λ_ _ _ _ _ _=>by
  refine cC (ds:=(aY kk (w.map (·.1))).map kE) ?_ (by rw[Km,(av kk _).length_eq,Km];omega) ?_
  ·generalize aA w=Y at so ⊢;simp! only[so]
  ·rw[Mh];refine gh kE _ _ λq hq=>⟨[‹kE q›,‹aA w›],rfl,rfl,?_⟩
   have dx:nS (aA w) (kE q)=some (tr (cg a c q)):=(by rw[Fz];exact G q ((av kk _).mem_iff.mp hq));generalize aA w=Y at dx ⊢;simp! only[dx];rfl
 have un:=oW ((aY kk (w.map (·.1))).map (cg a c)) (λx hx=>by
  obtain⟨q,_,rfl⟩:=List.mem_map.mp hx;exact⟨cQ ha q,cQ hc q⟩) (by rw[Km,(av kk _).length_eq,Km];omega)
 rw[List.filter_map]at un;have e:(aY kk (w.map (·.1))).filter ((λx:Cg=>!pyEq x.2.1 x.2.2)∘cg a c)=ck a c:=by
  have nd:(aY kk (w.map (·.1))).Nodup:=(av kk _).nodup_iff.mpr jw.nd;refine C9 ha hc (List.Pairwise.sublist Mx (dr (σ:=σ) wsh (oy jw.nd))) (nd.sublist Mx) λq=>?_;rw[List.mem_filter,(av kk _).mem_iff];constructor
  ·rintro⟨_,h⟩;cases y:pyEq (gv a q) (gv c q)with
   |false=>rfl
   |true=>
    have h:(!pyEq (gv a q) (gv c q))=true:=h;rw[y]at h;cases h
  ·intro h;refine⟨M q h,?_⟩;show(!pyEq (gv a q) (gv c q))=true;rw[h];rfl
 rw[e,<-jc]at un;generalize aA w=Y at lc2 ⊢;simp! only[lc2,un]
theorem Hf{m:Nat}(m1:1<=m)(c:Int):sg m c≠[]:=by
 obtain⟨k,rfl⟩:∃k,m=k+1:=⟨m-1,by omega⟩
 unfold sg;rw[KR];exact List.cons_ne_nil _ _
theorem D5{m:Nat}(m3:m<=3)(c:Int):(sg m c).length=m:=by
 unfold sg;rw[Ke]
 simp;omega
theorem AA{σ:bb}{n:Nat}{al bl:bR}(h1:Tb σ n al)(h2:Tb σ n bl):chg (jf al) (jf bl)=chg al bl:=by
 have e:aY kk (gl (jf al) (jf bl))=aY kk (gl al bl):=oI (σ:=σ) (js (eX h1).nd (eX h2).nd) (js h1.nd h2.nd) (jJ (eX h1) (eX h2)) λq=>by
  rw[p0,p0,hV,hV,(av kk _).mem_iff,(av kk _).mem_iff]
 unfold chg;rw[e];simp only[pT]
theorem z7(al:bR):chg al al=[]:=by
 unfold chg;rw[List.filter_eq_nil_iff.mpr λq _=>by rw[cj];exact J8];rfl
noncomputable def tT(al:bR):D:=.tup ((jf al).map (·.2))
noncomputable def tC(al bl:bR):D:=.tup ((chg al bl).map tr)
section
variable{σ:bb}{m:Nat}{a b c:bR}
theorem AJ(h0:σ≠[])(h:Tb σ 63 a):aP b7 1 1 [cT a]=.ok (tT a):=zA h0 h
theorem dJ(h0:σ≠[])(hm:σ.length=m)(ha:Tb σ 63 a)(hb:Tb σ 63 b):aP bL 3 7 [.int m,tT a,tC a b]=.ok (tT b):=uq h0 hm ha hb
theorem eI(ha:Tb σ 63 a)(hb:Tb σ 63 b):aP aX 1 1 [tC a b]=.ok (tC b a):=w8 ha hb
theorem fT(h0:σ≠[])(ha:Tb σ 63 a)(hb:Tb σ 63 b)(hc:Tb σ 63 c):aP bN 2 7 [tC a b,tC b c]=.ok (tC a c):=vO h0 ha hb hc
theorem fj(h0:σ≠[])(hm:σ.length=m)(ha:Tb σ 63 a)(hb:Tb σ 63 b):aP cz 3 6 [.int m,tT a,tT b]=.ok (tC a b):=by
 have k:=tm h0 (eX ha) (eX hb) hm;rw[AA ha hb]at k;exact k
theorem tL(h0:σ≠[])(ha:Tb σ 63 a)(hb:Tb σ 63 b):aP bN 2 7 [tC a b,tC b a]=.ok (.tup []):=by
 rw[fT h0 ha hb ha];unfold tC;rw[z7];rfl
theorem rV(h:Tb σ 63 a):Ok 8 (tT a):=by
 refine Ok.le (show 4<=8 by decide) (gH λx hx=>?_);obtain⟨p,hp,rfl⟩:=List.mem_map.mp hx;exact((eX h).sh p hp).2
theorem oY(ha:Tb σ 63 a)(hb:Tb σ 63 b):Ok 8 (tC a b):=by
 refine Ok.le (show 5<=8 by decide) (gH λx hx=>?_);obtain⟨p,hp,rfl⟩:=List.mem_map.mp hx;exact Hh (zu ha hb) p hp
end
theorem eq_self{d:D}(h:Ok 8 d):sM d d=some (.bl true):=by
 unfold sM;rw[h.1,h.2.2.1,cj];rfl
noncomputable abbrev lB:bB:=(aU (jT (fB (f2 gr (fR (aP bL 3 7) (ae (aa 1) (ae (f2 aD (aa 3) (aa 5)) (ae (f2 aD (aa 4) (aa 5)) au)))) (f2 aD (aa 3) (f2 dg (aa 5) (fC (.int 1)))))) (cf (fC (.bl false))) bU) (aU (jT (fB (f2 gr (fR (aP bL 3 7) (ae (aa 1) (ae (f2 aD (aa 3) (f2 dg (aa 5) (fC (.int 1)))) (ae (fR (aP aX 1 1) (ae (f2 aD (aa 4) (aa 5)) au)) au)))) (f2 aD (aa 3) (aa 5)))) (cf (fC (.bl false))) bU) (aU (jT (Bf (fB (f2 gr (fR (aP bN 2 7) (ae (f2 aD (aa 4) (aa 5)) (ae (fR (aP aX 1 1) (ae (f2 aD (aa 4) (aa 5)) au)) au))) (dF au))) (fB (f2 gr (fR (aP aX 1 1) (ae (fR (aP aX 1 1) (ae (f2 aD (aa 4) (aa 5)) au)) au)) (f2 aD (aa 4) (aa 5))))) (cf (fC (.bl false))) bU) (dq [5] bU))))
theorem math(ns:List Int)(hl:ns.length<=63):aP k6 1 8 [.lst (ns.map .int)]=.ok (.bl true):=by
 have c0:=vi ns 0;rw[<-uV]at c0;have c0:aP bi 2 2 [.lst (ns.map .int),.int 0]=.ok (.int (ns.getD 0 0)):=c0;obtain⟨m,em,m3⟩:∃m:Nat,1+ns.getD 0 0%3=(m:Int)/\1<=m/\m<=3:=⟨(1+ns.getD 0 0%3).toNat,by omega,by omega,by omega⟩
 obtain⟨r,er,r3⟩:∃r:Nat,ns.getD 0 0/3%4=(r:Int)/\r<=3:=⟨(ns.getD 0 0/3%4).toNat,by omega,by omega⟩
 obtain⟨as,ea,al,at'⟩:=xo ns m m3.1 m3.2 r r3 4 (by decide) (by decide) hl;have h0:=Hf m3.1 (ns.getD 0 0/16);have hm:=D5 m3.2 (ns.getD 0 0/16);generalize sg m (ns.getD 0 0/16)=σ at h0 hm at';have lt:∀x0 x1 x2 x3 x4 x5 x6 x7:Option S,x0=‹.lst (ns.map .int)›->x1=‹.int m›->x2=‹.int r›->eD [none] (bK (fR (aP bx 4 9) (ae (aa 0) (ae (aa 1) (ae (aa 2) (ae (fC (.int 4)) au)))))) (gN 0) bH (fR (aP b7 1 1) (ae (aa 0) au)) [x0,x1,x2,x3,x4,x5,x6,x7]=.ok (.lst (as.map tT)):=λx0 x1 x2 _ _ _ _ _ e0 e1 e2=>by
  subst e0 e1 e2;have ea:aP bx 4 9 [.lst (ns.map .int),.int m,.int r,.int 4]=.ok (.lst (as.map cT)):=ea;refine cC (ds:=as.map cT) ?_ (by rw[Km];omega) ?_
  ·generalize as.map cT=Y at ea ⊢;simp! only[ea]
  ·refine gh cT tT as λx hx=>⟨[‹cT x›],rfl,rfl,?_⟩
   have lx:=AJ h0 (at' x hx);generalize cT x=Y at lx ⊢;simp! only[lx]
 obtain⟨a,b,c,d,rfl⟩:∃a b c d,as=[a,b,c,d]:=by
  rcases as with _|⟨a,_|⟨b,_|⟨c,_|⟨d,_|⟨e,r⟩⟩⟩⟩⟩<;>first|exact⟨_,_,_,_,rfl⟩|(exfalso;simp at al)
 have ta:=at' a (by simp);have tb:=at' b (by simp);have tc:=at' c (by simp);have td:=at' d (by simp);have i0:aD (.lst [tT a,tT b,tT c,tT d]) (.int 0)=some (tT a):=gJ _ _;have i1:aD (.lst [tT a,tT b,tT c,tT d]) (.int 1)=some (tT b):=g9 _ _ _;have i2:aD (.lst [tT a,tT b,tT c,tT d]) (.int 2)=some (tT c):=jR _ _ _ _;have i3:aD (.lst [tT a,tT b,tT c,tT d]) (.int 3)=some (tT d):=by rw[F4];exact Ce _ 3
 have v1:aD (.lst [tT a,tT b,tT c,tT d]) (.int (0+1))=some (tT b):=i1;have v2:aD (.lst [tT a,tT b,tT c,tT d]) (.int (1+1))=some (tT c):=i2;have v3:aD (.lst [tT a,tT b,tT c,tT d]) (.int (2+1))=some (tT d):=i3;have j0:aD (.lst [tC a b,tC b c,tC c d]) (.int 0)=some (tC a b):=gJ _ _;have j1:aD (.lst [tC a b,tC b c,tC c d]) (.int 1)=some (tC b c):=g9 _ _ _;have j2:aD (.lst [tC a b,tC b c,tC c d]) (.int 2)=some (tC c d):=jR _ _ _ _;have s1:=fj h0 hm ta tb;have s2:=fj h0 hm tb tc;have s3:=fj h0 hm tc td;have s4:=fj h0 hm ta tc;have s5:=fj h0 hm ta td;have w1:=dJ h0 hm ta tb;have w2:=dJ h0 hm tb tc;have w3:=dJ h0 hm tc td;have w4:=dJ h0 hm tb ta;have w5:=dJ h0 hm tc tb;have w6:=dJ h0 hm td tc;have w7:=dJ h0 hm ta td;have u1:=eI ta tb;have u2:=eI tb tc;have u3:=eI tc td;have u4:=eI tb ta;have u5:=eI tc tb;have u6:=eI td tc;have u7:=eI ta tc;have k1:=fT h0 ta tb tc;have k2:=fT h0 tc tb ta;have k3:=fT h0 ta tc td;have k4:=fT h0 tb tc td;have k5:=fT h0 ta tb td;have b1:=tL h0 ta tb;have b2:=tL h0 tb tc;have b3:=tL h0 tc td;have n1:=cE (rV ta);have n2:=cE (rV tb);have n3:=cE (rV tc);have n4:=cE (rV td);have n5:=cE (oY ta tb);have n6:=cE (oY tb tc);have n7:=cE (oY tc td);have n8:=cE (oY ta tc);have n9:=cE (oY tc ta);have n10:=cE (oY ta td);have n0:gr (.tup []) (.tup [])=some (.bl false):=cE (gH (n:=7) λx hx=>(nomatch hx));have q1:=eq_self (rV td);have FU:eR []=some (.tup []):=nr rfl;have rg:=fS 3 (by decide);have rg:jL [.int 3]=some [.int 0,.int 1,.int 2]:=rg;have lt:=λx3 x4 x5 x6 x7=>lt _ _ _ x3 x4 x5 x6 x7 rfl rfl rfl;have lt:∀x3 x4 x5 x6 x7:Option S,eD _ _ _ _ _ [_,_,_,x3,x4,x5,x6,x7]=.ok (.lst [tT a,tT b,tT c,tT d]):=lt;have ls:∀x0 x2 x4 x5 x6 x7:Option S,eD [none,some 1,some 3] (bZ (ae (fC (.int 3)) au)) (gN 0) bH (fR (aP cz 3 6) (ae (aa 1) (ae (f2 aD (aa 2) (aa 0)) (ae (f2 aD (aa 2) (f2 dg (aa 0) (fC (.int 1)))) au)))) [x0,‹.int m›,x2,‹.lst [tT a,tT b,tT c,tT d]›,x4,x5,x6,x7]=.ok (.lst [tC a b,tC b c,tC c d]):=λ_ _ _ _ _ _=>by
  refine cC (ds:=[.int 0,.int 1,.int 2]) (by simp! only[rg]) (by decide) ?_;simp! only[rm,eQ,i0,i1,i2,v1,v2,v3,s1,s2,s3]
 rw[pz];unfold k6;rw[show(aU (jT (fB (f2 gr (fR (aP bL 3 7) (ae (aa 1) (ae (f2 aD (aa 3) (aa 5)) (ae (f2 aD (aa 4) (aa 5)) au)))) (f2 aD (aa 3) (f2 dg (aa 5) (fC (.int 1)))))) (cf (fC (.bl false))) bU) (aU (jT (fB (f2 gr (fR (aP bL 3 7) (ae (aa 1) (ae (f2 aD (aa 3) (f2 dg (aa 5) (fC (.int 1)))) (ae (fR (aP aX 1 1) (ae (f2 aD (aa 4) (aa 5)) au)) au)))) (f2 aD (aa 3) (aa 5)))) (cf (fC (.bl false))) bU) (aU (jT (Bf (fB (f2 gr (fR (aP bN 2 7) (ae (f2 aD (aa 4) (aa 5)) (ae (fR (aP aX 1 1) (ae (f2 aD (aa 4) (aa 5)) au)) au))) (dF au))) (fB (f2 gr (fR (aP aX 1 1) (ae (fR (aP aX 1 1) (ae (f2 aD (aa 4) (aa 5)) au)) au)) (f2 aD (aa 4) (aa 5))))) (cf (fC (.bl false))) bU) (dq [5] bU))))=lB from rfl];have lp:∀(x:D),x=.int 0\/x=.int 1\/x=.int 2->∀K:Ks,lB K [none,‹.int m›,none,‹.lst [tT a,tT b,tT c,tT d]›,‹.lst [tC a b,tC b c,tC c d]›,‹x›,none,none]=K.nx [none,‹.int m›,none,‹.lst [tT a,tT b,tT c,tT d]›,‹.lst [tC a b,tC b c,tC c d]›,none,none,none]:=λx hx K=>by
  unfold lB;rcases hx with e|e|e<;>subst e
  ·simp! only[i0,v1,j0,w1,w4,u1,u4,b1,n1,n2,n5,n0,FU]
  ·simp! only[i1,v2,j1,w2,w5,u2,u5,b2,n2,n3,n6,n0,FU]
  ·simp! only[i2,v3,j2,w3,w6,u3,u6,b3,n3,n4,n7,n0,FU]
 generalize lB=LB at lp ⊢;simp! only[c0,gm 3,gd 3,gm 4,em,er,lt,ls,rg];refine vc (Q:=λx=>x=.ok (.bl true)) (λ_ ρ=>ρ=[none,‹.int m›,none,‹.lst [tT a,tT b,tT c,tT d]›,‹.lst [tC a b,tC b c,tC c d]›,none,none,none]) ?_ rfl ?_
 ·rintro i x ρ kk' hd rfl;have hx:x=.int 0\/x=.int 1\/x=.int 2:=by
   have:=Kk hd
   rcases List.mem_cons.mp this with z|z
   ·exact .inl z
   ·rcases List.mem_cons.mp z with z|z
    ·exact .inr (.inl z)
    ·exact .inr (.inr (List.mem_singleton.mp z))
  exact⟨_,_,rfl,rfl,lp x hx kk'⟩
 ·rintro ρ' rfl;simp! only[i0,i2,i3,j0,j1,j2,s4,s5,u1,u2,u7,k1,k2,k3,k4,k5,n8,n9,n10,w7,q1]
end Tk14
open PySem PySem.W PyProof.Rows
set_option maxRecDepth 100000 in
set_option maxHeartbeats 0 in
theorem PySem.Challenge.cw_twoglass_k14_whole_changes_add_up_holds : PySem.Challenge.rw_twoglass_k14_whole_changes_add_up.Holds := by
  refine hd14 ?_
  k_fill
  refine Tk14.walk (l := PySem.Challenge.rw_twoglass_k14_whole_changes_add_up) rfl rfl (fun w h Y => ⟨PySem.W.km_in_of Y, PySem.W.km_tabs_of Y _ (List.Mem.head _)⟩) ?F Tk14.math
  case F =>
    intro w mg fa h KX G hmg
    refine' Tk14.all_mk KX G hmg ?a0 ?l0 ?c0 ?k0 ?a1 ?l1 ?c1 ?k1 ?dd0 ?zz ?lc ?lh ?lt
    case a0|l0|c0|k0|a1|l1|c1|k1 => first|delta TX.Lk;k_is|k_is
    case lc => rfl
    case lh|lt => kernel_rfl
    case dd0 => (repeat (refine' TX.KDs.mk (TX.KD.mk ?a ?l ?c ?k) ?_;(case a|l|c|k => first|delta TX.Lk;k_is|k_is)));trivial
    case zz => (repeat (refine TX.KZs.mk (by k_is) ?_));trivial
