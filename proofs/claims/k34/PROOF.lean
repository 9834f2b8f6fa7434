import PyProof.Rows.All
import Wide.All
import OpenK.AllK
import Wide.FinOn
import Lean
import PyProof.EqAt
import PyProof.EqKinds
import PyProof.TupleCall
import PySem.Challenge.RW_evenmeet_k34_whole_planes_and_squares
open PySem renaming wpAny_bind->Qa,Value->Qb,Shared->Qc,wpAny_pure->Qd,sizeLine->Qe,wpAny->Qf,starEach->Qg,FuncData->Qh,mainGlobals->Qi,Program->Qj,World->Qk,tupleKeyHash->Ql,Around->Qm,wpAny_field->Qn,wpAny_holding->Qo,SetTable->Qp,wpAny_call_entry->Qq,bootBuiltins->Qr,wpAny_pyIter_tuple->Qs,wpAny_newObj_type->Qt,wpAny_seqItems->Qu,wpAny_of_eq->Qv,wpAny_mono->Qw,wpAny_setState_of->Qx,codeAny_builtin->Qy,wpAny_Call_Name_kw->Qz,codeAny_mono->QB,wpAny_truthy_bool->QC,wpAny_setField_rec->QD,wpAny_passesOwn->QF,wpAny_pyIter_enum->QH,codeAny->QJ,wpAny_attempt->QK,wpAny_rule->QL,wpAny_specialOf->QM,sizeLine_eq->QN,NameKind->QP,wpAny_isInstance->QQ,wpAny_pyIter_zip->QR,codeAny_call_builtin->QU,wpAny_letOwnedTupleGo_enum->QV,codeAny_of_tree->QX,wpAny_setField->QY,wpAny_pyIter_list->QZ,PyData->Q0,wpAny_standAt->Q1,wpAny_forIn_list->Q2,wpAny_askSetting->Q3,wpAny_execs_nil->Q4,wpAny_typeOf->Q5,wpAny_updateSeq->Q6,wpAny_storeSet_of->Q7,wpAny_call->Q8,wpAny_letOwnedTupleGo_zip->Q9,wpAny_eqBool_int->Xa,wpAny_pyNext_enum_itemD->Xb,wpAny_pyNext_range_end->Xc,wpAny_pyIter_rangeiter->Xd,wpAny_pyNext_enum_endD->Xe,wpAny_nextOf_list_item->Xf,wpAny_isTrue_Compare1->Xg,wpAny_newTuple->Xh,wpAny_pyNext_zip_item->Xi,wpAny_eqIsQuiet_tuple->Xj,wpAny_loadName_local->Xk,wpAny_pyNext_zip_end->Xl,wpAny_updateSeq_pair->Xm,wpAny_onRaise->Xn,wpAny_loadName_cell->Xo,wpAny_setEntries_of->Xp,PassesOwn->Xq,wpAny_letGo->Xr
namespace PySem.W.Fast
def tw5558039948864601938:=0
def tw16313650959936971012:=0
def tw5211654103321043751:=0
def tw7540589435680225154:=0
def tw7279959772457729979:=0
def tw6402978235187830083:=0
def tw3360483921162803048:=0
def tw8122226382760849472:=0
def tw2474682750166842746:=0
def tw3788149971219685162:=0
def tw3690884631902655242:=0
def tw18200315008058530893:=0
def tw8483613873888386877:=0
def tw8810318028935968906:=0
def tw17433221576313701536:=0
def tw9099128273896987338:=0
def tw6646465826088957539:=0
def tw9115092127562202679:=0
def tw2303054886521080856:=0
def tw11655858067054419238:=0
def tw8596500492021146545:=0
def tw2756020646400929507:=0
def tw7388126793032247980:=0
def tw6072101816502485971:=0
def tw12290779956744443104:=0
def tw12542695556154242567:=0
def tw11314330926190693402:=0
def tw9454570144640150451:=0
def tw9339283252200799707:=0
def tw4280688482932431674:=0
def tw4338962649320808370:=0
def tw7347820815742601883:=0
def tw6362812256043119153:=0
def tw18309441785235790856:=0
def tw11513681387942931164:=0
def tw11746929673846508160:=0
def tw15447904208384755977:=0
def tw9735860148913879411:=0
def tw6906342603938475149:=0
def tw395912272833386873:=0
def tw9873237015066194288:=0
def tw5230570327901890349:=0
def tw2519392919730848606:=0
def tw5366887515005369005:=0
def tw7484016559671492673:=0
def tw11420038609857032757:=0
def tw15462488004763454704:=0
def tw14869666138551257687:=0
def tw8283719308879429309:=0
def tw2468436180317121317:=0
def tw8680816466562494570:=0
def tw6727016450128098249:=0
def tw12968477183377636963:=0
def tw6710379441212661257:=0
def tw9089998146415850693:=0
def tw8570270115864783704:=0
def tw4691552753107362424:=0
def tw5483585722775739264:=0
def tw17523810147704835890:=0
def tw13246340230554647572:=0
def tw14308532125950921880:=0
def tw6800927074025718174:=0
def tw18310331987486967373:=0
def tw10936034129052574437:=0
def tw15010474700872212607:=0
def tw385822377001698251:=0
def tw831146828180091277:=0
def tw2808541498865252536:=0
def tw710961491279302271:=0
def tw12473039979273041511:=0
def tw7772200629741274445:=0
def tw16573987786714070351:=0
def tw5248931663548070462:=0
def tw804735460540608308:=0
def tw11941612811129758204:=0
def tw17762735082670766252:=0
def tw16398179628989777388:=0
def tw10965465421287160704:=0
def tw10347638267567335964:=0
def tw17900082309247829908:=0
def tw9762797990494134079:=0
def tw8178130915741520286:=0
def tw7630092850708728163:=0
def tw1868736614951699204:=0
def tw9705302231929382207:=0
def tw14799211989862838144:=0
def tw12425572050991770451:=0
def tw11883946251961011665:=0
def tw17731537231550737757:=0
def tw4218124293552430239:=0
def tw10351745731620073285:=0
def tw11900093131533451011:=0
def tw7401972930831151129:=0
def tw11931510591163314187:=0
def tw2474291788239537303:=0
def tw3784967859734897434:=0
def tw8225101873462209341:=0
def tw13029428771370196157:=0
def tw1407660375658560459:=0
def tw577412549112905049:=0
def tw9189622224687981381:=0
def tw17899157940340158063:=0
def tw381758858133722146:=0
def tw13063898866522092545:=0
def tw8873922311762599695:=0
def tw12155814010475562673:=0
def tw13744775149951205033:=0
def tw1559222373050486410:=0
def tw14328182716494797311:=0
def tw3385903982985265057:=0
def tw17067288508800603172:=0
def tw2111806371978917325:=0
def tw17804609482298062271:=0
def tw9231984350811019149:=0
def tw3502758591546475553:=0
def tw9402150681769730274:=0
def tw13158606334328864500:=0
def tw7672705354059065694:=0
def tw1001597482941567093:=0
def tw10034378971667204917:=0
def tw10142356184588385520:=0
def tw10194553450471690929:=0
def tw10254203684395172253:=0
def tw10425011583501820551:=0
def tw10888599865634054899:=0
def tw1100217385083837154:=0
def tw11925179888205023161:=0
def tw11959507649123525694:=0
def tw12203041764193468667:=0
def tw12608558476203783840:=0
def tw12750995432159135594:=0
def tw12927568843584574356:=0
def tw13021803561773395138:=0
def tw13346218724958502761:=0
def tw13475101329979216748:=0
def tw13506199002289926022:=0
def tw13681380426957944313:=0
def tw13936727696545980171:=0
def tw14183835406987249723:=0
def tw14216006636939538402:=0
def tw14463690530667724112:=0
def tw14482812502104865524:=0
def tw14640256279680668599:=0
def tw14686036275990481132:=0
def tw14693155096757975980:=0
def tw14842591852629067929:=0
def tw14954705174079795708:=0
def tw1499882970462294891:=0
def tw1500590515113948472:=0
def tw15172408545884281617:=0
def tw15295867106291269434:=0
def tw15396579613099581720:=0
def tw15724740458823599345:=0
def tw15956780143078867115:=0
def tw15965231028748034930:=0
def tw16008893807707688338:=0
def tw16038914119534933748:=0
def tw16199673447160664244:=0
def tw16213293887098792585:=0
def tw16220734379208361111:=0
def tw1627307293834201634:=0
def tw16407692659402343044:=0
def tw16572005375343812185:=0
def tw16574426534150289119:=0
def tw16902309174400410083:=0
def tw17007600841482310503:=0
def tw17021470775690800189:=0
def tw17247985273218047170:=0
def tw17385531743350352267:=0
def tw17462422177399543618:=0
def tw17465394314753831732:=0
def tw17630651311043436361:=0
def tw1769997122791373755:=0
def tw17818271841648095188:=0
def tw17913799260180389972:=0
def tw17955402697586852796:=0
def tw17960501465869590719:=0
def tw17982174092116520947:=0
def tw18045560300045172111:=0
def tw18065568957991920674:=0
def tw1807667700646725656:=0
def tw18092857355059378851:=0
def tw18140136054920836006:=0
def tw18305256773959597306:=0
def tw2017351015863766761:=0
def tw2145053368633122685:=0
def tw2403931533945553058:=0
def tw263573996251424507:=0
def tw2814397410330392107:=0
def tw3023064887992401334:=0
def tw3082513564866042997:=0
def tw3110135849310419655:=0
def tw322440889123763693:=0
def tw3242913631065148530:=0
def tw3328736719150190257:=0
def tw3391248681784569288:=0
def tw3457963986902638440:=0
def tw3522340459081488778:=0
def tw3545208775405012696:=0
def tw3628156974797045290:=0
def tw3661218736517869078:=0
def tw3684539608440134806:=0
def tw38427901361053030:=0
def tw4073142433645665410:=0
def tw4229647682522074817:=0
def tw4230227760312006044:=0
def tw4497569668194857851:=0
def tw4539783660356205375:=0
def tw4637574913988033704:=0
def tw4728710142146676450:=0
def tw4734141946066888095:=0
def tw5047887088561326760:=0
def tw5075358615432179468:=0
def tw5090168932464730948:=0
def tw5332903888915619261:=0
def tw5461287501085707842:=0
def tw5723599008473977519:=0
def tw587598811346390815:=0
def tw5879212869270829638:=0
def tw60059315078850442:=0
def tw6032145956645971072:=0
def tw6107817800058067146:=0
def tw664959117079041821:=0
def tw6706191118292575456:=0
def tw6813788004109469598:=0
def tw6993783517140432847:=0
def tw7027456286282607636:=0
def tw7127441448316739291:=0
def tw7148404504474117935:=0
def tw7254061408674018514:=0
def tw7312207230061073903:=0
def tw7330272073390115345:=0
def tw7509016785294728476:=0
def tw7553295198307679772:=0
def tw7727593481981561393:=0
def tw8036275373670835772:=0
def tw809616368594556253:=0
def tw8392489716780286720:=0
def tw8490526945682660193:=0
def tw8728405025631315380:=0
def tw8881149801138439421:=0
def tw8954663565966287746:=0
def tw9121902655889708019:=0
def tw9538352551345009411:=0
def tw9703104011855934897:=0
def tw9950727105419994251:=0
end PySem.W.Fast
open Array renaming length_toList->Rw,getD_eq_getD_getElem?->Ub,getElem?_eq_getElem->UE,getElem?_toList->U9,mem_toList_iff->WQ,replicate->YY,size_map->Zh,getElem?_eq_none->Zy,forIn_toList->ZW,toList_push->Ja3,toList->Jd5
open Bool renaming false_ne_true->Rx,and_eq_true->RL,false_eq_true->Uu,eq_iff_iff->Wb,or_eq_true->Y5,false_and->Zq,and_false->Zr,not_eq_true->Jb8,or_false->Jd2,false_or->Jd3,and_self->Jd4
open Classical renaming byContradiction->R5
open False renaming elim->UY
open ForInStep renaming yield->UK
open Int renaming toNat_natCast->Rc,zero_add->RI,emod_lt_of_pos->Ug,emod_nonneg->Ux,natCast_mul->UG,natCast_add->Wd,toNat->Zg,ofNat_le->ZS,mul_neg->Ja1,mul_add->Ja2,emod_eq_of_lt->Jb7,natCast_emod->Jc4,natCast_ediv->Jc5,mul_assoc->Je5,mul_comm->Jh1,lt_trans->Jh2,add_zero->Jh3
open Int.ofNat renaming inj->Ja0
open List renaming length_map->J0,range->J1,getElem?_eq_some_iff->J3,length_range->J5,getElem?_eq_getElem->J7,getD_eq_getElem?_getD->J9,mem_range->Ra,mem_cons_of_mem->Re,mem_of_getElem?->Rf,mem_cons->Rg,mem_singleton->Rh,size_toArray->Ri,mem_cons_self->Rj,length_append->Rk,getElem?_map->Rm,map_append->Rp,length_cons->Rq,range_succ->Rs,map_cons->Rt,not_mem_nil->Rv,length_take->RA,mem_map->RB,take_length->RE,map_congr_left->RG,mem_append_right->RH,append_nil->RJ,getElem?_range->RN,take_add_one->RO,replicate->RQ,nodup_iff_pairwise_ne->RR,mem_append->RU,mem_filter->RZ,length_filter_le->R1,filter_append->R3,ext_getElem->Ua,all_eq_true->Ue,map_nil->Uf,map_map->Uh,lookup_cons->Ui,length_drop->Uj,getElem_mem->Uk,getElem?_cons_succ->Uo,getElem?_append_right->Up,nodup_range->Ur,filter_cons->Us,mem_iff_getElem->Uw,pairwise_map->UA,filterMap_cons->UB,append_assoc->UC,length_dropLast->UJ,nodup_append->UM,nodup_cons->UN,take_append_drop->UU,length_singleton->UV,pairwise_iff_getElem->UW,getElem?_take_of_lt->UZ,flatten_cons->U0,lookup->U3,mem_flatten->U5,getElem_cons_drop->U6,getElem_range->U7,length_replicate->Wa,flatMap_cons->Wf,replicate_succ'->Wh,mem_of_mem_drop->Wi,mem_append_left->Wj,getElem?_append_left->Wo,drop_zero->Wp,getElem_map->Wr,cons_append->Ws,length_reverse->Wv,flatten_append->Ww,flatMap_append->Wx,filter_sublist->Wy,forIn_cons->WC,find?_cons->WD,take_of_length_le->WG,filter_congr->WH,getElem_set->WP,mem_of_mem_take->WR,map_take->WT,any_cons->WU,replicate_succ->WV,length->WW,filter_nil->WX,lookup_append->W2,find?_eq_none->W3,mem_of_find?_eq_some->W6,forIn_nil->W7,map_drop->Ya,flatMap_def->Yg,pairwise_append->Ys,getElem?_set_ne->Yt,filter_eq_self->Yx,mem_filterMap->YB,getElem?_drop->YC,findIdx_lt_length_of_exists->YG,drop_sublist->YI,flatMap_nil->YR,any_eq_true->YS,of_mem_zip->Y1,nil_append->Y2,map_id->Y3,length_set->Y4,perm_ext_iff_of_nodup->Zd,perm_append_singleton->Ze,nodup_nil->Zn,findIdx?_eq_none_iff->Zo,drop_eq_getElem_cons->Zp,pairwise_singleton->Zu,length_eq_zero_iff->Zv,filter_cons_of_pos->Zw,filter_cons_of_neg->Zx,pairwise_lt_range->ZC,length_eq_one_iff->ZD,getElem?_set_self->ZE,dropWhile_sublist->ZF,getElem?_toArray->ZI,getElem?_reverse->ZJ,getElem?_eq_none->ZK,dropLast_eq_take->ZL,dropLast_subset->ZR,mem_map_of_mem->ZV,pairwise_cons->Z7,forIn_toArray->Z8,filter_filter->Z9,take_sublist->Ja5,find?_append->Ja6,any_eq_false->Ja7,zipIdx_cons->Jb3,perm_middle->Jb4,mem_reverse->Jb5,flatMap_map->Jb6,zipIdx_nil->Jc0,sum_append->Jc1,find?_some->Jc2,any_append->Jc3,take_zero->Jc9,all_cons->Jd1
open List.Nodup renaming sublist->WS,length_le_of_subset->Yw
open List.Pairwise renaming filter->YT,nil->Zf
open List.Perm renaming refl->Yj
open Nat renaming le_trans->J6,le_refl->J8,lt_of_lt_of_le->Rb,lt_of_le_of_lt->Rn,lt_irrefl->Ry,ne_of_lt->RC,zero_le->RP,div_div_eq_div_mul->RT,pow_succ->RV,mul_comm->R4,mul_le_mul->R6,mul_le_mul_right->R9,lt_succ_self->Ul,le_add_right->Um,pow_le_pow_right->Uq,le_succ->Uv,div_eq_of_lt->Uy,lt_succ_of_lt->UD,lt_trans->UF,lt_or_ge->UL,not_lt_zero->UO,add_mul->UP,mod_lt->UT,lt_trichotomy->U2,add_sub_cancel_left->U4,eq_zero_or_pos->U8,ne_of_gt->Wc,le_of_lt_succ->Wg,div_lt_of_lt_mul->Wk,mod_eq_of_lt->Wt,le_of_not_lt->Wu,one_mul->Wz,succ_pos->WA,mul_one->WJ,zero_mul->WK,zero_add->WL,sub_zero->WM,sub_self->WN,le_of_lt->WO,div_add_mod->WY,eq_of_mul_eq_mul_right->W1,pow_zero->W4,add_zero->W5,pow_pos->Yc,mul_assoc->Yd,mul_add->Ye,le_mul_of_pos_right->Yf,succ_le_succ->Yh,min_le_right->Yi,mul_add_div->Ym,div_lt_self->Yn,div_lt_iff_lt_mul->Yo,div_le_self->Yp,add_comm->Yq,dvd_trans->YD,add_sub_cancel->YE,add_assoc->YF,succ_ne_self->YV,lt_of_not_le->YW,dvd_mul_left->YX,mul_add_mod->Za,div_one->Zb,le_of_dvd->ZA,exists_eq_add_of_le->ZB,eq_zero_of_not_pos->ZH,succ_mul->ZP,le_of_eq->ZQ,pow_one->Z0,pow_le_pow_left->Z4,mul_pos->Z5,mul_le_mul_left->Z6,not_lt->Jb0,le_succ_of_le->Jb1,dvd_mul_right->Jb2,succ_lt_succ->Jb9,zero_div->Jg8,succ_add->Jg9,le_total->Jh0
open Ne renaming symm->UQ
open Option renaming toList_some->RM,map_eq_some_iff->WE,none_or->WZ,getD_some->YH,isSome_iff_exists->Y9,isSome_some->ZO,isSome_map->ZU,getD_none->ZZ,map_some->Ja4,some_or->Ja9,none->Jd0
open Option.some renaming inj->Uc
open Or renaming inl->Ro,inr->R8
open PUnit renaming unit->Jg7
open PyProof renaming noPylong_small->Zm
open PyProof.Rows renaming callWith_type1->RK,slot_tuple_getitem->RY,boot_isinstance->U1,boot_int->YQ,getItem_tuple->Jg1,envOfC->Jg2,callWith_builtin1->Jg3,boot_bool->Jg4,boot_abs->Jg5,SetOf_congr->Jg6
open PySem renaming boot_len->Rr,mem_of_lookup->Wq,Within->Zz,list_append->ZX,call->ZY
open PySem.Challenge renaming rw_evenmeet_k34_whole_planes_and_squares->Jc7,pw_evenmeet_k34_whole_planes_and_squares->Jc8
open PySem.EqMixed renaming ne_str_int->Jd7,ne_str_bool->Jd8,ne_int_str->Jd9,ne_bool_str->Je0,eq_str_int->Je1,eq_str_bool->Je2,eq_int_str->Je3,eq_bool_str->Je4
open PySem.EqNone renaming ne_str_none->Je7,ne_none_str->Je8,ne_none_none->Je9,ne_none_int->Jf0,ne_none_bool->Jf1,ne_int_none->Jf2,ne_bool_none->Jf3,eq_str_none->Jf4,eq_none_str->Jf5,eq_none_none->Jf6,eq_none_int->Jf7,eq_none_bool->Jf8,eq_int_none->Jf9,eq_bool_none->Jg0
open PySem.F renaming plainAttrs_list->RD,called_set->RS,type_list_append->RW,slot_list_append->RX,slot_tuple_iterator_next->US,type_list_extend->Wm,slot_list_extend->Wn,slot_zip_next->WF,entry_type_call->W8,args_tuple_iterator_next_1->Yr,entry_tuple_iterator_next->Yv,entry_enumerate_new->YM,plain_reversed_new->YN,args_object_init_2->YO,entry_object_init->YU,called_enumerate->YZ,args_tuple_add_2->Y0,entry_tuple_add->Y7,args_zip_next_1->Y8,typeCall_set_1->Zi,slot_tuple_add->Zj,entry_zip_next->Zk,entry_set_init->Zl,slot_set_and->Zt
open PySem.IsL renaming update->ZG
open PySem.MeetsSeq2 renaming wpAny_forIn_array->W9
open PySem.SeqAt renaming shaped->R7
open PySem.W renaming Frag->J4,mg_of->Rl,nsIn->Ru,mg_none_of->RF,findIn->R0,keepIn->Ud,kia_one->Ut,emptyDict->Uz,kitOne->UH,fnOf->UI,codeIn->UR,instObj->UX,isFn->Wl,cellsFrom_some->WB,plainGet->WI,hasDictIn->W0,makesIn->Yb,lookIn->Yk,plainGet_of->Yl,callWith_K->Yu,plainOver->Yy,methodObj->Yz,ktu_apart->YA,takerIn->YK,OpenLaw->YL,methodCall_KW->Zs,kitx_list->ZM,kitx_dict->ZN,handedIn->ZT,WalkO->Ja8
open PySem.W.Looks renaming here->Jd6
open PySem.Within renaming cons->Je6
open Sum renaming inl->YJ,inr->Y6
open Sum.inl renaming inj->Jc6
open True renaming intro->We
set_option Elab.async false
set_option linter.all false
set_option maxRecDepth 100000
namespace L2
open PySem PySem.Spec PyProof.Rows
abbrev Key:=Sum Int Str
def Jk:Key->Qb->Bool
 | .inl k,v=>Value.isInt k v
 | .inr x,v=>Value.isStrOf x v
def keyH (w:Qk):Key->Int
 | .inl k=>hashInt k
 | .inr x=>hashStr w x
theorem Ba:∀ {k:Key} {v:Qb},Jk k v=true->(∃ i t,k=YJ i/\v=Value.int i t)\/(∃ x t,k=Y6 x/\v=Value.str x t)
 | .inl i,v,h=>by
  obtain ⟨t,e⟩:=Value.isInt_shape (k:=i) (v:=v) h
  exact .inl ⟨i,t,rfl,e⟩
 | .inr x,v,h=>by
  obtain ⟨t,e⟩:=Value.isStrOf_shape (x:=x) (v:=v) h
  exact .inr ⟨x,t,rfl,e⟩
theorem keyIs_int (i:Int) (t:Tok):Jk (.inl i) (.int i t)=true:=by simp[Jk,Value.isInt]
theorem keyIs_str (x:Str) (t:Tok):Jk (.inr x) (.str x t)=true:=by simp[Jk,Value.isStrOf]
theorem key_ll (a b:Int):decide ((YJ a:Key)=YJ b)=(a == b):=by
 by_cases e:a=b
 ·subst e; simp
 ·have h:¬ (YJ a:Key)=YJ b:=λq=>e (Jc6 q)
  rw[decide_eq_false h]
  exact (beq_eq_false_iff_ne.mpr e).symm
theorem key_rr (a b:Str):decide ((Y6 a:Key)=Y6 b)=decide (a=b):=by
 by_cases e:a=b
 ·subst e; simp
 ·have h:¬ (Y6 a:Key)=Y6 b:=λq=>e (Sum.inr.inj q)
  rw[decide_eq_false h,decide_eq_false e]
theorem key_lr (a:Int) (b:Str):decide ((YJ a:Key)=Y6 b)=false:=decide_eq_false (λq=>nomatch q)
theorem key_rl (a:Str) (b:Int):decide ((Y6 a:Key)=YJ b)=false:=decide_eq_false (λq=>nomatch q)
def Ao (prog:Qj) (w:Qk):PySem.KeyKind prog w Key where
 is:=Jk
 hash:=keyH w
 inj:=λv a b ha hb=>by
  rcases Ba ha with ⟨i,t,rfl,rfl⟩ | ⟨x,t,rfl,rfl⟩
  ·rcases Ba hb with ⟨j,u,rfl,e⟩ | ⟨y,u,rfl,e⟩
   ·injection e with e1 _; rw[e1]
   ·exact nomatch e
  ·rcases Ba hb with ⟨j,u,rfl,e⟩ | ⟨y,u,rfl,e⟩
   ·exact nomatch e
   ·injection e with e1 _; rw[e1]
 byValue:=λk v h=>by
  rcases Ba h with ⟨i,t,rfl,rfl⟩ | ⟨x,t,rfl,rfl⟩ <;> rfl
 pyHash:=λhv h=>by
  rcases Ba hv with ⟨i,t,rfl,rfl⟩ | ⟨x,t,rfl,rfl⟩
  ·exact wpAny_pyHash_int h
  ·exact wpAny_pyHash_str h
 eqBool:=λhu hv h=>by
  rcases Ba hu with ⟨i,t,rfl,rfl⟩ | ⟨x,t,rfl,rfl⟩
  ·rcases Ba hv with ⟨j,u,rfl,rfl⟩ | ⟨y,u,rfl,rfl⟩
   ·rw[key_ll]at h; exact Xa h
   ·rw[key_lr]at h; exact SeqAt.EqAt.int_str i t y u _ _ _ _ h
  ·rcases Ba hv with ⟨j,u,rfl,rfl⟩ | ⟨y,u,rfl,rfl⟩
   ·rw[key_rl]at h; exact SeqAt.EqAt.str_int x t j u _ _ _ _ h
   ·rw[key_rr]at h; exact wpAny_eqBool_str h
 «strs»:=λk x t v h=>by
  rcases Ba h with ⟨i,u,rfl,e⟩ | ⟨y,u,rfl,e⟩
  ·exact nomatch e
  ·injection e with e1 _
   subst e1
   cases v <;> rfl
theorem mixKind_int (prog:Qj) (w:Qk) (i:Int) (t:Tok):(Ao prog w).is (.inl i) (.int i t)=true:=keyIs_int i t
theorem mixKind_str (prog:Qj) (w:Qk) (x:Str) (t:Tok):(Ao prog w).is (.inr x) (.str x t)=true:=keyIs_str x t
end L2
namespace L2
open PySem PySem.Spec PyProof.Rows
inductive V where
 | non | bl (b:Bool) | int (i:Int) | str (x:Str) | byt (b:Array UInt8) | flt (b:UInt64) | ref (a:Addr) | ty (n:String)
 deriving DecidableEq
def RelV:V->Qb->Prop
 | .non,u=>u=Value.none
 | .bl b,u=>u=Value.bool b
 | .int i,u=>∃ t,u=Value.int i t
 | .str x,u=>∃ t,u=Value.str x t
 | .byt b,u=>∃ t,u=Value.bytes b t
 | .flt b,u=>∃ t,u=Value.float b t
 | .ref a,u=>u=Value.ref a
 | .ty n,u=>u=Value.type n
abbrev Vals:List V->List Qb->Prop:=Paired RelV
theorem Vals.length {xs:List V} {us:List Qb} (r:Vals xs us):xs.length=us.length:=Paired.length r
theorem Vals.get:∀ {xs:List V} {us:List Qb} {i:Nat} {x:V},Vals xs us->xs[i]?=some x->∃ u,us[i]?=some u/\RelV x u
 | _,_,_,_,.nil,e=>by simp at e
 | _,_,0,_,.cons r _,e=>by simp at e; subst e; exact ⟨_,rfl,r⟩
 | _,_,i + 1,x,.cons _ t,e=>by
  obtain ⟨u,h1,h2⟩:=Vals.get (i:=i) (x:=x) t (by simpa using e)
  exact ⟨u,by simpa using h1,h2⟩
theorem Vals.set {x:V} {u:Qb} (r:RelV x u):∀ {xs:List V} {us:List Qb} (i:Nat),Vals xs us->Vals (xs.set i x) (us.set i u)
 | _,_,_,.nil=>.nil
 | _,_,0,.cons _ t=>.cons r t
 | _,_,i + 1,.cons q t=>.cons q (Vals.set r i t)
theorem Vals.append:∀ {xs ys:List V} {us ws:List Qb},Vals xs us->Vals ys ws->Vals (xs++ys) (us++ws)
 | _,_,_,_,.nil,s=>s
 | _,_,_,_,.cons r t,s=>.cons r (Vals.append t s)
theorem Vals.take:∀ {xs:List V} {us:List Qb} (n:Nat),Vals xs us->Vals (xs.take n) (us.take n)
 | _,_,0,_=>.nil
 | _,_,_ + 1,.nil=>.nil
 | _,_,n + 1,.cons r t=>.cons r (Vals.take n t)
theorem Vals.drop:∀ {xs:List V} {us:List Qb} (n:Nat),Vals xs us->Vals (xs.drop n) (us.drop n)
 | _,_,0,r=>r
 | _,_,_ + 1,.nil=>.nil
 | _,_,n + 1,.cons _ t=>Vals.drop n t
def RelO:Option V->Option Qb->Prop
 | some v,some u=>RelV v u
 | none,none=>True
 | _,_=>False
def KV {κ:Type}:List (κ×V)->List (κ×Qb)->Prop:=Paired λ(p:κ×V) (q:κ×Qb)=>p.1=q.1/\RelV p.2 q.2
def kV:Key->V
 | .inl i=>.int i
 | .inr x=>.str x
inductive HO where
 | lst (xs:List V)
 | tup (xs:List V)
 | dK (kvs:List (Key×V)) | dT (kvs:List (List Key×V))
 | set (S:Int->Bool) (n:Nat)
 | ins (C dx:Addr) (fs:List (Str×V))
 | own (x:Addr)
 | xd (fs:List (Str×V))
 | met (f x:Addr)
 | rng (lo hi:Int)
 | frz (o:Obj) (u:HO)
 | tbl (ps:Array Qb)
 | ext (φ:Heap->Prop)
abbrev Hp:=Addr->Option HO
def upd (H:Hp) (a:Addr) (o:HO):Hp:=λb=>if b=a then some o else H b
theorem Aa {H:Hp} {a:Addr} {o:HO}:upd H a o a=some o:=by unfold upd; rw[if_pos rfl]
theorem As {H:Hp} {a b:Addr} {o:HO} (h:b≠a):upd H a o b=H b:=by unfold upd; rw[if_neg h]
theorem Mb {H:Hp} {a b:Addr} {o u:HO} (h:H a=some o) (h':H b=some u) (d:o≠u):a≠b:=by
 intro e; subst e; rw[h]at h'; exact d (Uc h')
theorem AO {H:Hp} {a b:Addr} {o:HO} (h:H a=some o) (h':H b=none):a≠b:=by
 intro e; subst e; rw[h]at h'; cases h'
section
variable (P:Qj) (w:Qk)
def ObjOk (H:Hp) (h:Heap) (a:Addr):HO->Prop
 | .lst xs=>xs.length<=Qe/\∃ (its:List Qb) (n:Nat),Vals xs its/\h.get? a=some { cls:=.type "list",data:=.seq its.toArray n }
 | .tup xs=>xs.length<=Qe/\∃ its:List Qb,Vals xs its/\IsTup h a its.toArray
 | .dK kvs=>kvs.length<=Qe/\(a == sysModules)=false/\∃ vs,KV kvs vs/\h.DictOf (Ao P w) a vs
 | .dT kvs=>kvs.length<=Qe/\(a == sysModules)=false/\∃ xs:List (List Key×Addr×Qb),
   Paired (λ(p:List Key×V) (q:List Key×Addr×Qb)=>p.1=q.1/\H q.2.1=some (.tup (p.1.map kV))/\RelV p.2 q.2.2) kvs xs/\
   ∃ o es ep,h.get? a=some o/\o.ExactDict/\o.data=.dict es ep/\es.toList=xs.map (entryOfKey (tupleKind (Ao P w)))/\(xs.map (·.1)).Nodup
 | .set S n=>h.SetOf (intKind P w) a S n
 | .ins C dx fs=>H dx=some (.own a)/\fs.length<=1000/\dx≠a/\h.get? a=some (UX C dx)/\
   ∃ mA,h.Ns1 dx mA/\(∀ f,RelO (fs.lookup f) (mA f))/\Zz mA (fs.map (·.1))
 | .own _=>∃ o,h.get? a=some o
 | .xd fs=>∃ mA,h.Ns1 a mA/\∀ f,RelO (fs.lookup f) (mA f)
 | .rng lo hi=>∃ t u v,h.get? a=some { cls:=.type "range",data:=.fields #[.int lo t,.int hi u,.int 1 v] }
 | .frz o u=>h.get? a=some o/\ObjOk H h a u
 | .tbl ps=>h.get? a=some { cls:=.none,data:=.fields ps }
 | .met f x=>h.get? a=some (Yz (.ref f) (.ref x))
 | .ext φ=>φ h/\(∃ o,h.get? a=some o)/\∀ h1 h2:Heap,φ h1->(∀ o,h1.get? a=some o->h2.get? a=some o)->φ h2
def HOk (H:Hp) (h:Heap):Prop:=∀ a o,H a=some o->ObjOk P w H h a o
end
section
variable {P:Qj} {w:Qk} {H H':Hp} {h h':Heap} {a:Addr} {o:HO}
theorem ObjOk.lt (x:ObjOk P w H h a o):a < h.objs.size:=by
 cases o with
 | lst xs=>obtain ⟨_,_,_,_,e⟩:=x; exact Heap.lt_size e
 | tup xs=>obtain ⟨_,_,_,p⟩:=x; exact p.lt
 | dK kvs=>obtain ⟨_,_,_,_,o,_,_,e,_⟩:=x; exact Heap.lt_size e
 | dT kvs=>obtain ⟨_,_,_,_,o,_,_,e,_⟩:=x; exact Heap.lt_size e
 | set S n=>obtain ⟨o,_,_,_,e,_⟩:=x; exact Heap.lt_size e
 | ins C dx fs=>obtain ⟨_,_,_,e,_⟩:=x; exact Heap.lt_size e
 | own y=>obtain ⟨_,e⟩:=x; exact Heap.lt_size e
 | xd fs=>obtain ⟨_,⟨_,_,_,e,_⟩,_⟩:=x; exact Heap.lt_size e
 | rng lo hi=>obtain ⟨_,_,_,e⟩:=x; exact Heap.lt_size e
 | frz ob u=>obtain ⟨e,_⟩:=x; exact Heap.lt_size e
 | tbl ps=>exact Heap.lt_size (show h.get? a=some _ from x)
 | met f y=>exact Heap.lt_size (show h.get? a=some _ from x)
 | ext φ=>obtain ⟨_,⟨_,e⟩,_⟩:=x; exact Heap.lt_size e
theorem Paired.mapP {α β:Type} {F G:α->β->Prop}:∀ {l₁:List α} {l₂:List β},Paired F l₁ l₂->(∀ a b,F a b->G a b)->Paired G l₁ l₂
 | _,_,.nil,_=>.nil
 | _,_,.cons r t,f=>.cons (f _ _ r) (Paired.mapP t f)
theorem ObjOk.stay (x:ObjOk P w H h a o) (k:∀ b u,(b=a\/H b=some (.own a))->h.get? b=some u->h'.get? b=some u)
  (ho:∀ b,H b=some (.own a)->H' b=some (.own a)) (ht:∀ b xs,H b=some (.tup xs)->H' b=some (.tup xs)):ObjOk P w H' h' a o:=by
 induction o with
 | lst xs=>obtain ⟨z,its,n,r,e⟩:=x; exact ⟨z,its,n,r,k _ _ (.inl rfl) e⟩
 | tup xs=>obtain ⟨z,its,r,ob,e,c⟩:=x; exact ⟨z,its,r,ob,k _ _ (.inl rfl) e,c⟩
 | dK kvs=>obtain ⟨z,y,vs,r,ob,es,ep,e,c⟩:=x; exact ⟨z,y,vs,r,ob,es,ep,k _ _ (.inl rfl) e,c⟩
 | dT kvs=>
  obtain ⟨z,y,xs,r,ob,es,ep,e,c⟩:=x
  exact ⟨z,y,xs,Paired.mapP r λp q z=>⟨z.1,ht _ _ z.2.1,z.2.2⟩,ob,es,ep,k _ _ (.inl rfl) e,c⟩
 | set S n=>obtain ⟨ob,es,ep,t,e,c⟩:=x; exact ⟨ob,es,ep,t,k _ _ (.inl rfl) e,c⟩
 | ins C dx fs=>
  obtain ⟨d,z,ne,e,mA,⟨od,es,ep,e2,c⟩,r⟩:=x
  exact ⟨ho _ d,z,ne,k _ _ (.inl rfl) e,mA,⟨od,es,ep,k _ _ (.inr d) e2,c⟩,r⟩
 | own y=>obtain ⟨ob,e⟩:=x; exact ⟨ob,k _ _ (.inl rfl) e⟩
 | xd fs=>obtain ⟨mA,⟨od,es,ep,e,c⟩,r⟩:=x; exact ⟨mA,⟨od,es,ep,k _ _ (.inl rfl) e,c⟩,r⟩
 | rng lo hi=>obtain ⟨t,u,v,e⟩:=x; exact ⟨t,u,v,k _ _ (.inl rfl) e⟩
 | frz ob u ih=>obtain ⟨e,q⟩:=x; exact ⟨k _ _ (.inl rfl) e,ih q⟩
 | tbl ps=>
  have e:h.get? a=some { cls:=.none,data:=.fields ps }:=x
  show h'.get? a=some { cls:=.none,data:=.fields ps }
  exact k a _ (.inl rfl) e
 | met f y=>
  have e:h.get? a=some (Yz (.ref f) (.ref y)):=x
  show h'.get? a=some (Yz (.ref f) (.ref y))
  exact k a _ (.inl rfl) e
 | ext φ=>obtain ⟨p,⟨o,e⟩,st⟩:=x; exact ⟨st _ _ p λo q=>k _ _ (.inl rfl) q,⟨o,k _ _ (.inl rfl) e⟩,st⟩
theorem HOk.lt (x:HOk P w H h) (e:H a=some o):a < h.objs.size:=(x a o e).lt
theorem HOk.fresh (x:HOk P w H h) (e:h.objs.size<=a):H a=none:=by
 cases q:H a with
 | none=>rfl
 | some u=>exact absurd (Rb (x.lt q) e) (Ry _)
theorem HOk.kept (x:HOk P w H h) (k:∀ b u,h.get? b=some u->h'.get? b=some u):HOk P w H h':=λa o e=>
 (x a o e).stay (λb u _ q=>k b u q) (λ_ q=>q) λ_ _ q=>q
theorem HOk.laid (x:HOk P w H h) (k:∀ b u,h.get? b=some u->h'.get? b=some u) (hp:h.objs.size<=a) (new:ObjOk P w (upd H a o) h' a o):HOk P w (upd H a o) h':=λb u e=>by
 have hn:=x.fresh hp
 by_cases hb:b=a
 ·subst hb; rw[Aa]at e; cases e; exact new
 ·rw[As hb]at e
  exact (x b u e).stay (λc v _ q=>k c v q) (λc q=>by rw[As (AO q hn)]; exact q) λc xs q=>by rw[As (AO q hn)]; exact q
end
def Rd (H:Hp) (a:Addr) (u:HO):Prop:=H a=some u\/∃ o,H a=some (.frz o u)
theorem Rd.ok {P:Qj} {w:Qk} {H:Hp} {h:Heap} {a:Addr} {u:HO} (r:Rd H a u) (x:HOk P w H h):ObjOk P w H h a u:=by
 rcases r with r | ⟨o,r⟩
 ·exact x a u r
 ·obtain ⟨_,q⟩:=x a _ r
  exact q
def Mut:Option HO->Prop
 | some (.lst _)=>True
 | some (.dK _)=>True
 | some (.dT _)=>True
 | some (.set _ _)=>True
 | some (.ins _ _ _)=>True
 | some (.ext _)=>True
 | _=>False
section
variable {P:Qj} {w:Qk} {H:Hp} {h h':Heap} {x e:Addr} {o':HO}
theorem HOk.write (ok:HOk P w H h) (mu:Mut (H x)) (he:e=x\/H e=some (.own x)) (k:∀ b u,b≠e->h.get? b=some u->h'.get? b=some u) (heo:∃ u,h'.get? e=some u)
  (new:ObjOk P w (upd H x o') h' x o'):HOk P w (upd H x o') h':=λb u q=>by
 have nown:∀ c y,H c=some (.own y)->c≠x:=λc y r z=>by subst z; rw[r]at mu; exact mu
 have ntup:∀ c xs,H c=some (.tup xs)->c≠x:=λc xs r z=>by subst z; rw[r]at mu; exact mu
 by_cases hb:b=x
 ·subst hb; rw[Aa]at q; cases q; exact new
 ·rw[As hb]at q
  by_cases hbe:b=e
  ·have q':H b=some (.own x):=by
    rcases he with z | z
    ·exact absurd (hbe.trans z) hb
    ·rw[hbe]; exact z
   rw[q]at q'; cases q'
   obtain ⟨v,hv⟩:=heo
   exact ⟨v,by rw[hbe]; exact hv⟩
  ·refine (ok b u q).stay (λc v hc r=>k c v ?_ r) (λc r=>by rw[As (nown c b r)]; exact r) λc xs r=>by rw[As (ntup c xs r)]; exact r
   rcases hc with rfl | hc
   ·exact hbe
   ·rintro rfl
    rcases he with z | z
    ·exact nown c b hc z
    ·rw[hc]at z; cases z; exact hb rfl
end
structure Un (fs ex:List Addr) (H H':Hp) (h h':Heap):Prop where
 keep:∀ b o,h.get? b=some o->H b=none->b∉fs->b∉ex->h'.get? b=some o
 slot:∀ b o,h.get? b=some o->H b=none->b∈fs->b∉ex->∃ sl,h'.get? b=some { o with slots:=sl }
 free:∀ b o,h.get? b=some o->H b=none->b∉ex->H' b=none
 there:∀ b o,h.get? b=some o->b∉ex->∃ o',h'.get? b=some o'
 tups:∀ b xs,H b=some (.tup xs)->H' b=some (.tup xs)
 frzs:∀ b o u,H b=some (.frz o u)->H' b=some (.frz o u)
 tbls:∀ b ps,H b=some (.tbl ps)->∃ more,H' b=some (.tbl (ps++more))
section
variable {fs fs' ex ex':List Addr} {H H1 H2:Hp} {h h1 h2 h':Heap} {a x e:Addr} {o:HO}
theorem Un.any (u:Un fs ex H H1 h h1) {b:Addr} {ob:Obj} (q:h.get? b=some ob) (n:H b=none) (hx:b∉ex):∃ sl,h1.get? b=some { ob with slots:=sl }:=by
 by_cases hb:b∈fs
 ·exact u.slot b ob q n hb hx
 ·exact ⟨ob.slots,u.keep b ob q n hb hx⟩
theorem Un.kept (k:∀ b u,h.get? b=some u->h'.get? b=some u):Un fs ex H H h h':=
 ⟨λb ob q _ _ _=>k b ob q,λb ob q _ _ _=>⟨ob.slots,k b ob q⟩,λ_ _ _ n _=>n,λb ob q _=>⟨ob,k b ob q⟩,λ_ _ q=>q,λ_ _ _ q=>q,λ_ ps q=>⟨#[],by rw[q]; simp⟩⟩
theorem Un.refl:Un fs ex H H h h:=Un.kept λ_ _ q=>q
theorem Un.laid (k:∀ b u,h.get? b=some u->h'.get? b=some u) (hp:h.objs.size<=a) (hn:H a=none):Un fs ex H (upd H a o) h h' where
 keep:=λb u q _ _ _=>k b u q
 slot:=λb u q _ _ _=>⟨u.slots,k b u q⟩
 free:=λb u q n _=>by rw[As (RC (Rb (Heap.lt_size q) hp))]; exact n
 there:=λb u q _=>⟨u,k b u q⟩
 tups:=λb xs q=>by rw[As (AO q hn)]; exact q
 frzs:=λb u xs q=>by rw[As (AO q hn)]; exact q
 tbls:=λb ps q=>⟨#[],by rw[As (AO q hn),q]; simp⟩
theorem Un.write (mu:Mut (H x)) (he:e=x\/H e=some (.own x)) (k:∀ b u,b≠e->h.get? b=some u->h'.get? b=some u) (heo:∃ u,h'.get? e=some u):Un fs ex H (upd H x o) h h':=by
 have hx:∀ b,H b=none->b≠x:=λb n z=>by subst z; rw[n]at mu; exact mu
 have hb:∀ b,H b=none->b≠e:=λb n z=>by
  subst z
  rcases he with r | r
  ·exact hx b n r
  ·rw[n]at r; cases r
 have hm:∀ b u,H b=some u->¬ Mut (some u)->b≠x:=λb u q nm z=>by subst z; rw[q]at mu; exact nm mu
 refine ⟨λb u q n _ _=>k b u (hb b n) q,λb u q n _ _=>⟨u.slots,k b u (hb b n) q⟩,λb u q n _=>by rw[As (hx b n)]; exact n,λb u q _=>?_,
  λb xs q=>by rw[As (hm b _ q λz=>z)]; exact q,λb u xs q=>by rw[As (hm b _ q λz=>z)]; exact q,λb ps q=>⟨#[],by rw[As (hm b _ q λz=>z),q]; simp⟩⟩
 by_cases hbe:b=e
 ·subst hbe; exact heo
 ·exact ⟨u,k b u hbe q⟩
end
def trk (h:Heap) (H:Hp):List Addr:=(J1 h.objs.size).filter λa=>(H a).isSome
def hidT (h:Heap) (H:Hp):Heap:=PySem.W.hideAll h (trk h H)
theorem hidT_size (h:Heap) (H:Hp):(hidT h H).objs.size=h.objs.size:=PySem.W.hideAll_size _ _
theorem hidT_get {h:Heap} {H:Hp} {b:Addr} {o:Obj} (e:h.get? b=some o) (n:H b=none):(hidT h H).get? b=some o:=
 PySem.W.hideAll_get _ e λhm=>by
  have q:(H b).isSome=true:=(RZ.mp hm).2
  rw[n]at q; simp at q
theorem of_hidT {h:Heap} {H:Hp} {b:Addr} {o:Obj} (e:(hidT h H).get? b=some o):h.get? b=some o/\H b=none:=by
 have e':h.get? b=some o:=PySem.W.of_hideAll (trk h H) e
 refine ⟨e',?_⟩
 cases q:H b with
 | none=>rfl
 | some x=>
  have hm:b∈trk h H:=RZ.mpr ⟨Ra.mpr (Heap.lt_size e'),by simp[q]⟩
  have z:(hidT h H).get? b=none:=PySem.W.hideAll_none (trk h H) hm
  rw[z]at e; cases e
end L2
namespace L2
open PySem PySem.Spec PyProof.Rows
structure Mod (K:J4) (mg:Str->Option Qb) (base:Heap):Prop where
 kin:K.In base
 glob:base.Ns Qi mg
 blt:∃ mb,base.Ns builtinsNs mb/\∀ x:Str,x≠"__name__"->mb x=Qr x
 nolimit:base.NoLimit
structure Cx where
 prog:Qj
 w:Qk
 K:J4
 mg:Str->Option Qb
 base:Heap
 A:Qm
 N:List Str
 s₀:Qc
 H₀:Hp
 env:Env
 outer:List Env
 stack:List Env
 ex:List Addr
 fn:Str->Bool
 calm:Bool
 pn:List (Addr×Obj)
 xe:Qb->Qc->Prop
def frs (l:List Env):List Addr:=l.filterMap (·.frame)
abbrev Cx.fs (X:Cx):List Addr:=frs X.outer
def Vis (sc:Scope) (x:Str):Prop:=sc.names.lookup x=some .local\/sc.names.lookup x=some .cell\/sc.names.lookup x=some .free
def Loc (sc:Scope) (x:Str):Prop:=sc.names.lookup x=some .local\/sc.names.lookup x=some .cell
def Look (env:Env) (h:Heap) (m:Str->Option Qb) (x:Str) (u:Qb):Prop:=
 (env.kindOf x=some .local/\m x=some u)\/((env.kindOf x=some .cell\/env.kindOf x=some .free)/\∃ c,env.cells.lookup x=some c/\h.IsCell c (some u))
structure Cx.Ok (X:Cx):Prop where
 mod:Mod X.K X.mg X.base
 kind:X.env.scope.kind=.function
 glob:X.env.globals=Qi
 blt:X.env.builtins=builtinsNs
 above:X.s₀.heap.objs.size<=X.env.locals
 inj:∀ x y c,X.env.cells.lookup x=some c->X.env.cells.lookup y=some c->x=y
 has:∀ x,(X.env.kindOf x=some .cell\/X.env.kindOf x=some .free)->∃ c,X.env.cells.lookup x=some c
 cab:∀ x c,X.fn x=true->X.env.cells.lookup x=some c->X.s₀.heap.objs.size<=c
 hd:X.calm=true->X.A.handled=none
 frames:X.A.frames=some X.stack
 stk:X.stack=X.outer\/(X.stack=X.env::X.outer/\X.env.frame=some X.env.locals)
 exf:∀ b∈X.ex,b≠X.env.locals/\∀ x c,X.env.cells.lookup x=some c->c≠b
 bs:∀ b o,X.base.get? b=some o->X.s₀.heap.get? b=some o/\X.H₀ b=none
 bsz:X.base.objs.size<=X.s₀.heap.objs.size
 noex:∀ b o,X.base.get? b=some o->b∉X.ex
 exfs:∀ b∈X.ex,b∉X.fs
 funs:X.s₀.heap.FunFrames X.base X.outer
 frf:∀ b∈X.fs,X.H₀ b=none
structure Inv (X:Cx) (pins:List (Addr×Obj)) (σ:List (Option V)) (H:Hp) (s:Qc):Prop where
 ok:X.Ok
 os:s.os=X.s₀.os
 bare:AllBare s.gens
 base:Un X.fs X.ex X.H₀ H X.s₀.heap s.heap
 loc:∃ m,s.heap.Ns X.env.locals m/\∀ (i:Nat) (x:Str) (v:V),X.N[i]?=some x->σ[i]?=some (some v)->Vis X.env.scope x->∃ u,RelV v u/\Look X.env s.heap m x u
 cell:∀ x c,X.env.cells.lookup x=some c->∃ v,s.heap.IsCell c v
 free:H X.env.locals=none
 freeC:∀ x c,X.env.cells.lookup x=some c->H c=none
 pin:∀ p∈X.pn++pins,s.heap.get? p.1=some p.2/\H p.1=none/\p.1≠X.env.locals/\p.1∉X.fs/\∀ v,p.2.data≠.cell v
 hok:HOk X.prog X.w H s.heap
 len:σ.length=X.N.length
section
variable {X:Cx} {pins:List (Addr×Obj)} {σ:List (Option V)} {H H':Hp} {s:Qc} {h':Heap}
theorem Cx.Ok.nofr (ok:X.Ok) {b:Addr} {o:Obj} (e:X.base.get? b=some o):b∉X.fs:=λhb=>by
 have:=(ok.funs.mem hb).1
 rw[e]at this; cases this
theorem Inv.bs (I:Inv X pins σ H s):∀ b o,X.base.get? b=some o->s.heap.get? b=some o/\H b=none:=λb o e=>
 ⟨I.base.keep b o (I.ok.bs b o e).1 (I.ok.bs b o e).2 (I.ok.nofr e) (I.ok.noex b o e),I.base.free b o (I.ok.bs b o e).1 (I.ok.bs b o e).2 (I.ok.noex b o e)⟩
theorem Inv.bk (I:Inv X pins σ H s):∀ b o,X.base.get? b=some o->s.heap.get? b=some o:=λb o e=>(I.bs b o e).1
theorem Inv.mod (I:Inv X pins σ H s):Mod X.K X.mg X.base:=I.ok.mod
theorem Inv.kIn (I:Inv X pins σ H s):X.K.In s.heap:=I.ok.mod.kin.keeps I.bk
theorem Inv.lt (I:Inv X pins σ H s):X.env.locals < s.heap.objs.size:=let ⟨_,hn,_⟩:=I.loc; hn.lt
theorem Inv.sz (I:Inv X pins σ H s):X.s₀.heap.objs.size<=s.heap.objs.size:=J6 I.ok.above (WO I.lt)
theorem Inv.nofs (I:Inv X pins σ H s) {a:Addr} (h:s.heap.objs.size<=a):a∉X.fs:=λhb=>by
 obtain ⟨_,o,ho,_⟩:=I.ok.funs.mem hb
 exact absurd (Rb (Heap.lt_size ho) (J6 I.sz h)) (Ry _)
theorem Inv.cne (I:Inv X pins σ H s):∀ x c,X.env.cells.lookup x=some c->c≠X.env.locals:=λx c e z=>by
 obtain ⟨v,o,ho,hd⟩:=I.cell x c e
 obtain ⟨m,⟨o',es,ep,ho',hd',_⟩,_⟩:=I.loc
 rw[z,ho']at ho; cases ho; rw[hd']at hd; cases hd
theorem Inv.funs (I:Inv X pins σ H s):s.heap.FunFrames X.base X.outer:=by
 have all:∀ (l:List Env),(∀ b∈frs l,b∈X.fs)->X.s₀.heap.FunFrames X.base l->s.heap.FunFrames X.base l:=by
  intro l
  induction l with
  | nil=>intro _ _; trivial
  | cons env r ih=>
   intro hs hl
   obtain ⟨hk,⟨L,o,hf,hn,ho,hd⟩,hr⟩:=hl
   have hL:L∈X.fs:=hs L (by unfold frs; rw[UB,hf]; exact Rj)
   obtain ⟨sl,e⟩:=I.base.slot L o ho (I.ok.frf L hL) hL λz=>I.ok.exfs L z hL
   exact ⟨hk,⟨L,_,hf,hn,e,hd⟩,ih (λb hb=>hs b (by unfold frs; rw[UB,hf]; exact Re _ hb)) hr⟩
 exact all X.outer (λ_ hb=>hb) I.ok.funs
theorem Inv.stack (I:Inv X pins σ H s):s.heap.FunFrames X.base X.stack:=by
 rcases I.ok.stk with e | ⟨e,hf⟩
 ·rw[e]; exact I.funs
 ·rw[e]
  obtain ⟨m,hn,_⟩:=I.loc
  refine .cons (by rw[I.ok.kind]; decide) hf hn ?_ I.funs
  exact Heap.get?_none_of_le (J6 I.ok.bsz I.ok.above)
theorem Inv.stkSub (I:Inv X pins σ H s):∀ b∈frs X.stack,b∈X.env.locals::X.fs:=λb hb=>by
 rcases I.ok.stk with e | ⟨e,hf⟩
 ·rw[e]at hb; exact Re _ hb
 ·rw[e]at hb
  unfold frs at hb
  rw[UB,hf]at hb
  exact hb
theorem Inv.stkFree (I:Inv X pins σ H s):∀ b∈frs X.stack,H b=none:=λb hb=>by
 rcases Rg.mp (I.stkSub b hb) with e | hb
 ·rw[e]; exact I.free
 ·obtain ⟨_,o,ho,_⟩:=I.ok.funs.mem hb
  exact I.base.free b o ho (I.ok.frf b hb) λz=>I.ok.exfs b z hb
theorem Inv.step {g':Array GenState} {t':Nat} {d':Drawn} {ch:List Addr} (I:Inv X pins σ H s)
  (hch:∀ b∈ch,(b∈X.ex\/X.s₀.heap.objs.size<=b)/\b≠X.env.locals/\(∀ x c,X.env.cells.lookup x=some c->c≠b)/\∀ p∈X.pn++pins,p.1≠b)
  (keep:∀ b o,b≠X.env.locals->b∉X.fs->b∉ch->s.heap.get? b=some o->H b=none->h'.get? b=some o)
  (slot:∀ b o,b≠X.env.locals->b∈X.fs->b∉ch->s.heap.get? b=some o->H b=none->∃ sl,h'.get? b=some { o with slots:=sl }) (free:∀ b o,b∉ch->s.heap.get? b=some o->H b=none->H' b=none)
  (there:∀ b o,b∉ch->s.heap.get? b=some o->∃ o',h'.get? b=some o')
  (tups:∀ b xs,H b=some (.tup xs)->H' b=some (.tup xs)) (frzs:∀ b o u,H b=some (.frz o u)->H' b=some (.frz o u)) (tbls:∀ b ps,H b=some (.tbl ps)->∃ more,H' b=some (.tbl (ps++more)))
  (ns:∀ m,s.heap.Ns X.env.locals m->h'.Ns X.env.locals m) (hok:HOk X.prog X.w H' h') (hg:AllBare g') :
  Inv X pins σ H' { s with heap:=h',gens:=g',drawn:=d',toks:=t' }:=by
 have neL:∀ b o,X.s₀.heap.get? b=some o->b≠X.env.locals:=λb o e=>RC (Rb (Heap.lt_size e) I.ok.above)
 have neC:∀ b o,X.s₀.heap.get? b=some o->b∉X.ex->b∉ch:=λb o e hx hb=>by
  rcases (hch b hb).1 with z | z
  ·exact hx z
  ·exact absurd (Rb (Heap.lt_size e) z) (Ry _)
 have DD:∀ x c,X.env.cells.lookup x=some c->∀ v,s.heap.IsCell c v->h'.IsCell c v:=λx c e v ⟨o,ho,hd⟩=>by
  have nch:c∉ch:=λz=>(hch c z).2.2.1 x c e rfl
  by_cases hc:c∈X.fs
  ·obtain ⟨sl,q⟩:=slot c o (I.cne x c e) hc nch ho (I.freeC x c e)
   exact ⟨_,q,hd⟩
  ·exact ⟨o,keep c o (I.cne x c e) hc nch ho (I.freeC x c e),hd⟩
 refine ⟨I.ok,I.os,hg,⟨λb o e n hb hx=>?_,λb o e n hb hx=>?_,λb o e n hx=>?_,λb o e hx=>?_,λb xs e=>tups b xs (I.base.tups b xs e),λb o xs e=>frzs b o xs (I.base.frzs b o xs e),λb ps e=>?_⟩,?_,λx c e=>?_,?_,λx c e=>?_,λp hp=>?_,hok,I.len⟩
 ·exact keep b o (neL b o e) hb (neC b o e hx) (I.base.keep b o e n hb hx) (I.base.free b o e n hx)
 ·obtain ⟨sl,e1⟩:=I.base.slot b o e n hb hx
  obtain ⟨sl',e2⟩:=slot b _ (neL b o e) hb (neC b o e hx) e1 (I.base.free b o e n hx)
  exact ⟨sl',e2⟩
 ·obtain ⟨o',e1⟩:=I.base.there b o e hx
  exact free b o' (neC b o e hx) e1 (I.base.free b o e n hx)
 ·obtain ⟨o',e1⟩:=I.base.there b o e hx
  exact there b o' (neC b o e hx) e1
 ·obtain ⟨m1,e1⟩:=I.base.tbls b ps e
  obtain ⟨m2,e2⟩:=tbls b _ e1
  exact ⟨m1++m2,by rw[e2,Array.append_assoc]⟩
 ·obtain ⟨m,hn,hl⟩:=I.loc
  refine ⟨m,ns m hn,λi x v e1 e2 e3=>?_⟩
  obtain ⟨u,r,l⟩:=hl i x v e1 e2 e3
  refine ⟨u,r,?_⟩
  rcases l with l | ⟨k,c,e,z⟩
  ·exact .inl l
  ·exact .inr ⟨k,c,e,DD x c e _ z⟩
 ·obtain ⟨v,z⟩:=I.cell x c e
  exact ⟨v,DD x c e v z⟩
 ·obtain ⟨m,⟨o,_,_,ho,_⟩,_⟩:=I.loc
  exact free _ o (λz=>(hch _ z).2.1 rfl) ho I.free
 ·obtain ⟨v,o,ho,hd⟩:=I.cell x c e
  exact free c o (λz=>(hch c z).2.2.1 x c e rfl) ho (I.freeC x c e)
 ·obtain ⟨e,n,ne,nf,d⟩:=I.pin p hp
  have nch:p.1∉ch:=λz=>(hch p.1 z).2.2.2 p hp rfl
  exact ⟨keep p.1 p.2 ne nf nch e n,free p.1 p.2 nch e n,ne,nf,d⟩
theorem Inv.un {t':Nat} (I:Inv X pins σ H s) (u:Un X.fs [] H H' s.heap h') (hok:HOk X.prog X.w H' h'):Inv X pins σ H' { s with heap:=h',toks:=t' }:=by
 obtain ⟨m,⟨o,es,ep,ho,r⟩,_⟩:=id I.loc
 obtain ⟨sl,hL⟩:=u.any ho I.free (by simp)
 exact I.step (g':=s.gens) (d':=s.drawn) (ch:=[]) (λ_ z=>nomatch z) (λb o _ hb _ e n=>u.keep b o e n hb (by simp)) (λb o _ hb _ e n=>u.slot b o e n hb (by simp)) (λb o _ e n=>u.free b o e n (by simp)) (λb o _ e=>u.there b o e (by simp)) u.tups u.frzs u.tbls (λm' hm=>by
  obtain ⟨o',es',ep',ho',r'⟩:=hm
  rw[ho]at ho'; cases ho'
  exact ⟨_,es',ep',hL,r'⟩) hok I.bare
theorem Inv.call {g':Array GenState} {t':Nat} {d':Drawn} {ch:List Addr} (I:Inv X pins σ H s) (u:Un (frs X.stack) ch H H' s.heap h') (hok:HOk X.prog X.w H' h') (hg:AllBare g')
  (hch:∀ b∈ch,(b∈X.ex\/X.s₀.heap.objs.size<=b)/\b≠X.env.locals/\(∀ x c,X.env.cells.lookup x=some c->c≠b)/\∀ p∈X.pn++pins,p.1≠b) :
  Inv X pins σ H' { s with heap:=h',gens:=g',drawn:=d',toks:=t' }:=by
 obtain ⟨m,⟨o,es,ep,ho,r⟩,_⟩:=id I.loc
 obtain ⟨sl,hL⟩:=u.any ho I.free λz=>(hch _ z).2.1 rfl
 exact I.step (ch:=ch) hch (λb o hL hb hc e n=>u.keep b o e n (λz=>(Rg.mp (I.stkSub b z)).elim hL hb) hc) (λb o _ _ hc e n=>u.any e n hc) (λb o hc e n=>u.free b o e n hc) (λb o hc e=>u.there b o e hc) u.tups u.frzs u.tbls (λm' hm=>by
  obtain ⟨o',es',ep',ho',r'⟩:=hm
  rw[ho]at ho'; cases ho'
  exact ⟨_,es',ep',hL,r'⟩) hok hg
theorem Inv.turned {t':Nat} {it:Addr} (I:Inv X pins σ H s) (k:∀ b o,b≠it->s.heap.get? b=some o->h'.get? b=some o) (hn:H it=none) (hL:it≠X.env.locals)
  (h1:it∈X.ex\/X.s₀.heap.objs.size<=it) (h2:∀ x c,X.env.cells.lookup x=some c->c≠it) (h3:∀ p∈X.pn++pins,p.1≠it):Inv X pins σ H { s with heap:=h',toks:=t' }:=by
 have nit:∀ b u,H b=some u->b≠it:=λb u e z=>by rw[z,hn]at e; cases e
 refine I.step (g':=s.gens) (d':=s.drawn) (ch:=[it]) (λb hb=>?_) (λb o _ _ hc e _=>k b o (λz=>hc (by simp[z])) e) (λb o _ _ hc e _=>⟨o.slots,k b o (λz=>hc (by simp[z])) e⟩) (λ_ _ _ _ n=>n)
  (λb o hc e=>⟨o,k b o (λz=>hc (by simp[z])) e⟩) (λ_ _ e=>e) (λ_ _ _ e=>e) (λb ps e=>⟨#[],by rw[e]; simp⟩) (λm hm=>?_) (λb u e=>?_) I.bare
 ·have e:b=it:=by simpa using hb
  subst e
  exact ⟨h1,hL,h2,h3⟩
 ·obtain ⟨o,es,ep,ho,r⟩:=hm
  exact ⟨o,es,ep,k _ o (UQ hL) ho,r⟩
 ·refine (I.hok b u e).stay (λc v hc q=>k c v ?_ q) (λ_ q=>q) λ_ _ q=>q
  rcases hc with z | z
  ·rw[z]; exact nit b u e
  ·exact nit c _ z
theorem Inv.tok (I:Inv X pins σ H s) (t:Nat):Inv X pins σ H { s with toks:=t }:=I.un (h':=s.heap) (t':=t) Un.refl I.hok
theorem Inv.kept {t':Nat} (I:Inv X pins σ H s) (k:∀ b u,s.heap.get? b=some u->h'.get? b=some u):Inv X pins σ H { s with heap:=h',toks:=t' }:=I.un (Un.kept k) (I.hok.kept k)
theorem Inv.laid {a:Addr} {o:HO} {t':Nat} (I:Inv X pins σ H s) (k:∀ b u,s.heap.get? b=some u->h'.get? b=some u) (hp:s.heap.objs.size<=a) (new:ObjOk X.prog X.w (upd H a o) h' a o) :
  Inv X pins σ (upd H a o) { s with heap:=h',toks:=t' }:=I.un (Un.laid k hp (I.hok.fresh hp)) (I.hok.laid k hp new)
theorem Inv.write {x e:Addr} {o:HO} {t':Nat} (I:Inv X pins σ H s) (mu:Mut (H x)) (he:e=x\/H e=some (.own x)) (k:∀ b u,b≠e->s.heap.get? b=some u->h'.get? b=some u) (heo:∃ u,h'.get? e=some u)
  (new:ObjOk X.prog X.w (upd H x o) h' x o):Inv X pins σ (upd H x o) { s with heap:=h',toks:=t' }:=I.un (Un.write mu he k heo) (I.hok.write mu he k heo new)
theorem Inv.weak {σ':List (Option V)} (I:Inv X pins σ H s) (hl:σ'.length=σ.length) (w:∀ (i:Nat) v,σ'[i]?=some (some v)->σ[i]?=some (some v)):Inv X pins σ' H s:=
 ⟨I.ok,I.os,I.bare,I.base,let ⟨m,hn,hl'⟩:=I.loc; ⟨m,hn,λi x v e1 e2 e3=>hl' i x v e1 (w i v e2) e3⟩,I.cell,I.free,I.freeC,I.pin,I.hok,hl.trans I.len⟩
theorem Inv.pins_of {pins':List (Addr×Obj)} (I:Inv X pins σ H s) (h:∀ p∈pins',s.heap.get? p.1=some p.2/\H p.1=none/\p.1≠X.env.locals/\p.1∉X.fs/\∀ v,p.2.data≠.cell v):Inv X pins' σ H s:=
 ⟨I.ok,I.os,I.bare,I.base,I.loc,I.cell,I.free,I.freeC,λp hp=>(RU.mp hp).elim (λz=>I.pin p (Wj _ z)) (h p),I.hok,I.len⟩
theorem Ie {N:List Str} (hN:N.Nodup) {i j:Nat} {x:Str} (a:N[i]?=some x) (b:N[j]?=some x):i=j:=by
 obtain ⟨h1,e1⟩:=J3.mp a
 obtain ⟨h2,e2⟩:=J3.mp b
 exact (List.getElem_inj hN).mp (e1.trans e2.symm)
theorem store_ok2 {M:Model} {A:Qm} {E:Qb->Qc->Prop} {i:Nat} {x:Str} {v:V} {u:Qb} {Q:Unit->Qc->Prop} (I:Inv X pins σ H s) (hN:X.N.Nodup) (hi:X.N[i]?=some x) (hx:Loc X.env.scope x) (r:RelV v u)
  (h:∀ s',Inv X pins (σ.set i (some v)) H s'->(∃ a,Heap.SameBut a s.heap s'.heap/\(a=X.env.locals\/X.env.cells.lookup x=some a))->Q () s') (hf:X.fn x=true\/X.env.scope.names.lookup x=some .local:=by first | exact .inl rfl | exact .inr rfl | assumption):Qf M A (storeName X.env x u) Q E s:=by
 obtain ⟨m,hn,hl⟩:=id I.loc
 have hcls:(X.env.scope.kind == .class || (X.env.scope.kind == .module && X.env.locals != X.env.globals))=false:=by rw[I.ok.kind]; rfl
 have hiσ:i < σ.length:=by rw[I.len]; exact (J3.mp hi).1
 have cne:=I.cne
 have tracked:∀ {a:Addr} {h':Heap},(∃ o,s.heap.get? a=some o/\H a=none)->Heap.SameBut a s.heap h'->HOk X.prog X.w H h':=λ{a h'} ha hs b ob e=>by
  obtain ⟨_,_,hfree⟩:=ha
  refine (I.hok b ob e).stay (λc w' hc q=>(hs.2 c ?_).trans q) (λ_ q=>q) λ_ _ q=>q
  rintro rfl
  rcases hc with rfl | hc
  ·rw[hfree]at e; cases e
  ·rw[hfree]at hc; cases hc
 rcases hx with hk | hk
 ·refine wpAny_storeName_local hk hn (λh' hn' hs=>?_) hcls
  obtain ⟨oL,_,_,hoL,_⟩:=id hn
  refine h _ ⟨I.ok,I.os,I.bare,⟨λb o e n hb hx=>?_,λb o e n hb hx=>?_,I.base.free,λb o e hx=>?_,I.base.tups,I.base.frzs,I.base.tbls⟩,⟨_,hn',λj y v' e1 e2 e3=>?_⟩,λy c e=>?_,I.free,I.freeC,λp hp=>?_,tracked ⟨oL,hoL,I.free⟩ hs,by simpa using I.len⟩ ⟨_,hs,.inl rfl⟩
  ·exact (hs.2 b (RC (Rb (Heap.lt_size e) I.ok.above))).trans (I.base.keep b o e n hb hx)
  ·obtain ⟨sl,e1⟩:=I.base.slot b o e n hb hx
   exact ⟨sl,(hs.2 b (RC (Rb (Heap.lt_size e) I.ok.above))).trans e1⟩
  ·obtain ⟨o',e1⟩:=I.base.there b o e hx
   exact ⟨o',(hs.2 b (RC (Rb (Heap.lt_size e) I.ok.above))).trans e1⟩
  ·by_cases hj:j=i
   ·subst hj
    rw[hi]at e1; cases e1
    rw[ZE hiσ]at e2
    cases e2
    exact ⟨u,r,.inl ⟨hk,by simp⟩⟩
   ·rw[Yt (UQ hj)]at e2
    obtain ⟨u',r',q⟩:=hl j y v' e1 e2 e3
    refine ⟨u',r',?_⟩
    rcases q with ⟨k,e⟩ | ⟨k,c,e,z⟩
    ·refine .inl ⟨k,?_⟩
     have:y≠x:=λe=>hj (Ie hN e1 (e▸hi))
     simp[this,e]
    ·exact .inr ⟨k,c,e,z.sameBut hs (cne y c e)⟩
  ·obtain ⟨w',z⟩:=I.cell y c e
   exact ⟨w',z.sameBut hs (cne y c e)⟩
  ·obtain ⟨e,n,ne,nf,d⟩:=I.pin p hp
   exact ⟨(hs.2 p.1 ne).trans e,n,ne,nf,d⟩
 ·have hfn:X.fn x=true:=by
   rcases hf with z | z
   ·exact z
   ·rw[z]at hk; cases hk
  obtain ⟨c,hc⟩:=I.ok.has x (.inl hk)
  obtain ⟨w',z⟩:=I.cell x c hc
  refine wpAny_storeName_cell I.ok.kind hk hc z (λh' hc' hs=>?_)
  obtain ⟨oc,hoc,hocd⟩:=id z
  refine h { s with heap:=h' } ⟨I.ok,I.os,I.bare,⟨λb o e n hb hx=>?_,λb o e n hb hx=>?_,I.base.free,λb o e hx=>?_,I.base.tups,I.base.frzs,I.base.tbls⟩,⟨m,hn.sameBut hs (UQ (cne x c hc)),λj y v' e1 e2 e3=>?_⟩,λy c' e=>?_,I.free,I.freeC,λp hp=>?_,tracked ⟨oc,hoc,I.freeC x c hc⟩ hs,by simpa using I.len⟩ ⟨c,hs,.inr hc⟩
  ·exact (hs.2 b (RC (Rb (Heap.lt_size e) (I.ok.cab x c hfn hc)))).trans (I.base.keep b o e n hb hx)
  ·obtain ⟨sl,e1⟩:=I.base.slot b o e n hb hx
   exact ⟨sl,(hs.2 b (RC (Rb (Heap.lt_size e) (I.ok.cab x c hfn hc)))).trans e1⟩
  ·obtain ⟨o',e1⟩:=I.base.there b o e hx
   exact ⟨o',(hs.2 b (RC (Rb (Heap.lt_size e) (I.ok.cab x c hfn hc)))).trans e1⟩
  ·by_cases hj:j=i
   ·subst hj
    rw[hi]at e1; cases e1
    rw[ZE hiσ]at e2
    cases e2
    exact ⟨u,r,.inr ⟨.inl hk,c,hc,hc'⟩⟩
   ·rw[Yt (UQ hj)]at e2
    obtain ⟨u',r',q⟩:=hl j y v' e1 e2 e3
    refine ⟨u',r',?_⟩
    rcases q with q | ⟨k,c',e,z'⟩
    ·exact .inl q
    ·refine .inr ⟨k,c',e,z'.sameBut hs ?_⟩
     rintro rfl
     exact hj (Ie hN e1 (I.ok.inj _ _ _ e hc▸hi))
  ·by_cases hcc:c'=c
   ·subst hcc; exact ⟨_,hc'⟩
   ·obtain ⟨w2,z2⟩:=I.cell y c' e
    exact ⟨w2,z2.sameBut hs hcc⟩
  ·obtain ⟨e,n,ne,nf,d⟩:=I.pin p hp
   refine ⟨(hs.2 p.1 ?_).trans e,n,ne,nf,d⟩
   intro q
   rw[q,hoc]at e
   have q':oc=p.2:=Uc e
   exact d w' (by rw[<- q']; exact hocd)
theorem FD {M:Model} {A:Qm} {E:Qb->Qc->Prop} {i:Nat} {x:Str} {v:V} {u:Qb} {Q:Unit->Qc->Prop} (I:Inv X pins σ H s) (hN:X.N.Nodup) (hi:X.N[i]?=some x) (hx:Loc X.env.scope x) (r:RelV v u)
  (h:∀ s',Inv X pins (σ.set i (some v)) H s'->Q () s') (hf:X.fn x=true\/X.env.scope.names.lookup x=some .local:=by first | exact .inl rfl | exact .inr rfl | assumption):Qf M A (storeName X.env x u) Q E s:=
 store_ok2 I hN hi hx r (λs' I' _=>h s' I') hf
theorem Inv.call' {s':Qc} {ch:List Addr} (I:Inv X pins σ H s) (ho:s'.os=s.os) (u:Un (frs X.stack) ch H H' s.heap s'.heap) (hok:HOk X.prog X.w H' s'.heap) (hg:AllBare s'.gens)
  (hch:∀ b∈ch,(b∈X.ex\/X.s₀.heap.objs.size<=b)/\b≠X.env.locals/\(∀ x c,X.env.cells.lookup x=some c->c≠b)/\∀ p∈X.pn++pins,p.1≠b):Inv X pins σ H' s':=by
 obtain ⟨h',g',d',t',o'⟩:=s'
 have e:o'=s.os:=ho
 subst e
 exact I.call (g':=g') (t':=t') (d':=d') u hok hg hch
end
abbrev XK:=Qb->Option Addr->Hp->Prop
abbrev St:=List (Option V)
abbrev VK:=V->Hp->Prop
abbrev TE:=St->Hp->VK->Prop
abbrev TT:=St->Hp->(Bool->Hp->Prop)->Prop
abbrev TA:=St->Hp->(List V->Hp->Prop)->Prop
structure Ends where
 nx:St->Hp->Prop
 rt:VK
 bk:St->Hp->Prop:=λ_ _=>False
 ct:St->Hp->Prop:=λ_ _=>False
abbrev TS:=Ends->St->Hp->Prop
def EP (X:Cx) (pins:List (Addr×Obj)) (σ:St) (Q:VK) (u:Qb) (s':Qc):Prop:=∃ v H',Inv X pins σ H' s'/\RelV v u/\Q v H'
def TP (X:Cx) (pins:List (Addr×Obj)) (σ:St) (Q:Bool->Hp->Prop) (b:Bool) (s':Qc):Prop:=∃ H',Inv X pins σ H' s'/\Q b H'
def AP (X:Cx) (pins:List (Addr×Obj)) (σ:St) (Q:List V->Hp->Prop) (us:List Qb) (s':Qc):Prop:=∃ vs H',Inv X pins σ H' s'/\Vals vs us/\Q vs H'
def SP (X:Cx) (pins:List (Addr×Obj)) (D:Ends) (f:Flow) (s':Qc):Prop:=
 match f with
 | .next=>∃ σ' H',Inv X pins σ' H' s'/\D.nx σ' H'
 | .brk=>∃ σ' H',Inv X pins σ' H' s'/\D.bk σ' H'
 | .cont=>∃ σ' H',Inv X pins σ' H' s'/\D.ct σ' H'
 | .ret u=>∃ v σ' H',Inv X pins σ' H' s'/\RelV v u/\D.rt v H'
def PE (X:Cx) (e:Expr) (t:TE):Prop:=
 ∀ (pins:List (Addr×Obj)) (s:Qc) (σ:St) (H:Hp) (Q:VK),Inv X pins σ H s->t σ H Q->Qf (model X.prog X.w) X.A (eval e X.env) (EP X pins σ Q) X.xe s
def PT (X:Cx) (e:Expr) (t:TT):Prop:=
 ∀ (pins:List (Addr×Obj)) (s:Qc) (σ:St) (H:Hp) (Q:Bool->Hp->Prop),Inv X pins σ H s->t σ H Q->Qf (model X.prog X.w) X.A (isTrue e X.env (eval e X.env)) (TP X pins σ Q) X.xe s
def PW (X:Cx) (e:Expr) (t:TT):Prop:=
 ∀ (whole:Sem Qb) (pins:List (Addr×Obj)) (s:Qc) (σ:St) (H:Hp) (Q:Bool->Hp->Prop),Inv X pins σ H s->t σ H Q->Qf (model X.prog X.w) X.A (isTrue e X.env whole) (TP X pins σ Q) X.xe s
theorem PW.pt {X:Cx} {e:Expr} {t:TT} (h:PW X e t):PT X e t:=h _
def PA (X:Cx) (es:List Expr) (t:TA):Prop:=
 ∀ (pos:Pos) (pins:List (Addr×Obj)) (s:Qc) (σ:St) (H:Hp) (Q:List V->Hp->Prop),Inv X pins σ H s->t σ H Q->Qf (model X.prog X.w) X.A (spliced (backTo pos (Qg es X.env))) (AP X pins σ Q) X.xe s
def PS (X:Cx) (st:Stmt) (t:TS):Prop:=
 ∀ (pins:List (Addr×Obj)) (s:Qc) (σ:St) (H:Hp) (D:Ends),Inv X pins σ H s->t D σ H->Qf (model X.prog X.w) X.A (exec st X.env) (SP X pins D) X.xe s
def PSs (X:Cx) (st:List Stmt) (t:TS):Prop:=
 ∀ (pins:List (Addr×Obj)) (s:Qc) (σ:St) (H:Hp) (D:Ends),Inv X pins σ H s->t D σ H->Qf (model X.prog X.w) X.A (execs st X.env) (SP X pins D) X.xe s
theorem thn {α:Type} {t:Sem α} {Q Q':α->Qc->Prop} {M:Model} {A:Qm} {E:Qb->Qc->Prop} {s:Qc} (h:Qf M A t Q E s) (hQ:∀ a s,Q a s->Q' a s):Qf M A t Q' E s:=Qw h hQ λ_ _ x=>x
end L2
namespace L2
open PySem PySem.Spec PyProof.Rows
section
variable {X:Cx}
def tVar (i:Nat):TE:=λσ H Q=>∃ v,σ[i]?=some (some v)/\Q v H
def tC (v:V):TE:=λ_ H Q=>Q v H
theorem pe_var {i:Nat} {x:Str} {pos:Pos} (hN:X.N[i]?=some x) (hv:Vis X.env.scope x) (hd:(x == ("__debug__":Str))=false:=by decide) (hcd:(x == ("__classdict__":Str))=false:=by decide):PE X (.Name x pos) (tVar i):=by
 intro pins s σ H Q I h
 obtain ⟨v,e,h⟩:=h
 obtain ⟨m,hn,hl⟩:=I.loc
 obtain ⟨u,r,l⟩:=hl i x v hN e hv
 have fin:EP X pins σ Q u s:=⟨v,H,I,r,h⟩
 rcases l with ⟨hk,hm⟩ | ⟨hk,c,hc,hcell⟩
 ·exact wpAny_Name (Xk I.ok.kind hk hn hm fin) hd
 ·rcases hk with hk | hk
  ·exact wpAny_Name (Xo I.ok.kind hk hc hcell fin) hd
  ·exact wpAny_Name (wpAny_loadName_free I.ok.kind hk hc hcell fin hcd) hd
theorem pe_int {i j pos}:PE X (.Constant (.int i) j pos) (tC (.int i)):=λ_ _ _ H _ I h=>wpAny_Constant_int ⟨.int i,H,I.tok _,⟨_,rfl⟩,h⟩
theorem pe_bl {b j pos}:PE X (.Constant (.bool b) j pos) (tC (.bl b)):=λ_ _ _ H _ I h=>Constant_bool ⟨.bl b,H,I,rfl,h⟩
theorem pe_non {j pos}:PE X (.Constant .none j pos) (tC .non):=λ_ _ _ H _ I h=>Constant_none ⟨.non,H,I,rfl,h⟩
theorem pe_str {x j pos}:PE X (.Constant (.str x) j pos) (tC (.str x)):=λ_ _ _ H _ I h=>Calls.Constant_str ⟨.str x,H,I.tok _,⟨_,rfl⟩,h⟩
def Gl (X:Cx) (x:Str):Prop:=X.env.kindOf x=some .globalImplicit
theorem Hm {E:Qb->Qc->Prop} {pins:List (Addr×Obj)} {s:Qc} {σ:St} {H:Hp} {x:Str} {u:Qb} {pos:Pos} {Q:Qb->Qc->Prop} (I:Inv X pins σ H s) (hg:Gl X x) (hm:X.mg x=some u) (h:Q u s)
  (hd:(x == ("__debug__":Str))=false:=by decide):Qf (model X.prog X.w) X.A (eval (.Name x pos) X.env) Q E s:=
 Calls.Name_function_global I.ok.kind hg (Calls.loadGlobal_global (by rw[I.ok.glob]; exact I.mod.glob.keeps I.bk) hm h) hd
theorem BU {E:Qb->Qc->Prop} {pins:List (Addr×Obj)} {s:Qc} {σ:St} {H:Hp} {x:Str} {u:Qb} {pos:Pos} {Q:Qb->Qc->Prop} (I:Inv X pins σ H s) (hg:Gl X x) (hm:X.mg x=none) (hv:Qr x=some u) (h:Q u s)
  (hn:x≠"__name__":=by decide) (hd:(x == ("__debug__":Str))=false:=by decide):Qf (model X.prog X.w) X.A (eval (.Name x pos) X.env) Q E s:=by
 obtain ⟨mb,h1,h2⟩:=I.mod.blt
 exact Calls.Name_function_global I.ok.kind hg (Calls.loadGlobal_builtin (by rw[I.ok.glob]; exact I.mod.glob.keeps I.bk) hm (by rw[I.ok.blt]; exact h1.keeps I.bk) ((h2 x hn).trans hv) h) hd
theorem pe_glob {x:Str} {v:V} {u:Qb} {pos:Pos} (hg:Gl X x) (hm:X.mg x=some u) (r:RelV v u) (hd:(x == ("__debug__":Str))=false:=by decide):PE X (.Name x pos) (tC v):=
 λ_ _ _ H _ I h=>Hm I hg hm ⟨v,H,I,r,h⟩ hd
theorem pe_bltn {x:Str} {v:V} {u:Qb} {pos:Pos} (hg:Gl X x) (hm:X.mg x=none) (hv:Qr x=some u) (r:RelV v u) (hn:x≠"__name__":=by decide) (hd:(x == ("__debug__":Str))=false:=by decide):PE X (.Name x pos) (tC v):=
 λ_ _ _ H _ I h=>BU I hg hm hv ⟨v,H,I,r,h⟩ hn hd
variable {a b:Expr} {ta tb:TE} {pos:Pos}
def PC (X:Cx) (op:CmpOp) (a b:Expr) (t:TE):Prop:=
 ∀ (pins:List (Addr×Obj)) (s:Qc) (σ:St) (H:Hp) (Q:VK),Inv X pins σ H s->t σ H Q->
  Qf (model X.prog X.w) X.A (eval a X.env) (λv s₁=>Qf (model X.prog X.w) X.A (eval b X.env) (λu s₂=>Qf (model X.prog X.w) X.A (compareOp op v u) (EP X pins σ Q) X.xe s₂) X.xe s₁) X.xe s
def tB (t:TE):TT:=λσ H Q=>t σ H λx H1=>∃ c,x=.bl c/\Q c H1
theorem pt_cmp {op:CmpOp} {t:TE} (h:PC X op a b t) (h1:behindInMarks op b=false:=by first | exact nobehind _ (by decide) (by decide) | rfl):PT X (.Compare a [op] [b] pos) (tB t):=by
 intro pins s σ H Q I hw
 refine Xg (thn (h pins s σ H _ I hw) λv s1 h1=>thn h1 λu s2 h2=>thn h2 λc s3 ⟨x,H1,I1,r1,q1⟩=>?_) h1
 obtain ⟨d,rfl,q⟩:=q1
 cases r1
 exact QC ⟨H1,I1,q⟩
theorem pt_val {e:Expr} {t:TE} (h:PE X e t) (he:∀ whole,isTrue e X.env whole=(do let v <- whole; standAt e.pos; holding [v] (truthy v)):=by intro _; rfl):PT X e (tB t):=by
 intro pins s σ H Q I hw
 refine isTrue_plain (thn (h pins s σ H _ I hw) λv s1 ⟨x,H1,I1,r1,q1⟩=>?_) (he _)
 obtain ⟨d,rfl,q⟩:=q1
 cases r1
 exact QC ⟨H1,I1,q⟩
variable {tA tB':TT} {rest:List Expr}
def tAnd (t u:TT):TT:=λσ H Q=>t σ H λc H1=>if c=true then u σ H1 Q else Q false H1
def tOr (t u:TT):TT:=λσ H Q=>t σ H λc H1=>if c=true then Q true H1 else u σ H1 Q
def tNot (t:TT):TT:=λσ H Q=>t σ H λc H1=>Q (!c) H1
theorem pw_and1 (ha:PT X a tA):PW X (.BoolOp .And [a] pos) tA:=by
 intro wh pins s σ H Q I h
 refine isTrue_and (thn (ha pins s σ H Q I h) λc s1 e=>?_)
 cases c with
 | true=>exact isTrue_and_nil e
 | false=>exact e
theorem pw_or1 (ha:PT X a tA):PW X (.BoolOp .Or [a] pos) tA:=by
 intro wh pins s σ H Q I h
 refine isTrue_or (thn (ha pins s σ H Q I h) λc s1 e=>?_)
 cases c with
 | false=>exact isTrue_or_nil e
 | true=>exact e
theorem pw_and (ha:PT X a tA) (hb:PW X (.BoolOp .And (b::rest) pos) tB'):PW X (.BoolOp .And (a::b::rest) pos) (tAnd tA tB'):=by
 intro wh pins s σ H Q I h
 refine isTrue_and (thn (ha pins s σ H _ I h) λc s1 ⟨H1,I1,q1⟩=>?_)
 cases c with
 | true=>exact hb wh pins s1 σ H1 Q I1 q1
 | false=>exact ⟨H1,I1,q1⟩
theorem pw_or (ha:PT X a tA) (hb:PW X (.BoolOp .Or (b::rest) pos) tB'):PW X (.BoolOp .Or (a::b::rest) pos) (tOr tA tB'):=by
 intro wh pins s σ H Q I h
 refine isTrue_or (thn (ha pins s σ H _ I h) λc s1 ⟨H1,I1,q1⟩=>?_)
 cases c with
 | true=>exact ⟨H1,I1,q1⟩
 | false=>exact hb wh pins s1 σ H1 Q I1 q1
theorem pt_not (ha:PT X a tA):PT X (.UnaryOp .Not a pos) (tNot tA):=by
 intro pins s σ H Q I h
 exact isTrue_not (ha pins s σ H (λc H1=>Q (!c) H1) I h)
def Mc (ta tb:TE):TE:=λσ H Q=>ta σ H λx H1=>∃ c,x=.bl c/\if c=true then tb σ H1 Q else Q (.bl false) H1
def Md (ta:TE):TE:=λσ H Q=>ta σ H λx H1=>∃ c,x=.bl c/\Q (.bl (!c)) H1
theorem pe_one {op} {t:TE} (h:PE X a t):PE X (.BoolOp op [a] pos) t:=λpins s σ H Q I hw=>BoolOp_one (h pins s σ H Q I hw)
theorem pe_and (ha:PE X a ta) (hb:PE X (.BoolOp .And (b::rest) pos) tb):PE X (.BoolOp .And (a::b::rest) pos) (Mc ta tb):=by
 intro pins s σ H Q I h
 refine BoolOp_and (thn (ha pins s σ H _ I h) λv s1 ⟨x,H1,I1,r1,q1⟩=>?_)
 obtain ⟨c,rfl,q1⟩:=q1
 cases r1
 refine QC ?_
 cases c with
 | true=>exact hb pins s1 σ H1 Q I1 q1
 | false=>exact ⟨.bl false,H1,I1,rfl,q1⟩
theorem pe_not (ha:PE X a ta):PE X (.UnaryOp .Not a pos) (Md ta):=by
 intro pins s σ H Q I h
 refine UnaryOp_ (thn (ha pins s σ H _ I h) λv s1 ⟨x,H1,I1,r1,q1⟩=>?_)
 obtain ⟨c,rfl,q1⟩:=q1
 cases r1
 exact not_of (QC ⟨.bl (!c),H1,I1,rfl,q1⟩)
end
end L2
namespace L2
open PySem PySem.Spec PyProof.Rows
def SqL (K:J4) (H:Hp) (a:Addr) (xs:List V):Prop:=
 Rd H a (.lst xs)\/
  ∃ (o:Obj) (its:Array Qb) (n:Nat),K.lookup a=some o/\o.cls=.type "list"/\o.dict=none/\o.data=.seq its n/\its.size<=Qe/\Vals xs its.toList
def SqT (K:J4) (H:Hp) (a:Addr) (xs:List V):Prop:=
 Rd H a (.tup xs)\/
  ∃ (o:Obj) (its:Array Qb) (n:Nat),K.lookup a=some o/\o.cls=.type "tuple"/\o.data=.seq its n/\its.size<=Qe/\Vals xs its.toList
def absV:Qb->Option V
 | .none=>some .non
 | .bool b=>some (.bl b)
 | .int i _=>some (.int i)
 | .str x _=>some (.str x)
 | .bytes b _=>some (.byt b)
 | .float b _=>some (.flt b)
 | .ref a=>some (.ref a)
 | .type n=>some (.ty n)
 | _=>none
theorem RelV.abs {x:V} {u:Qb} (r:RelV x u):absV u=some x:=by
 cases x with
 | non=>cases r; rfl
 | bl _=>cases r; rfl
 | int _=>obtain ⟨t,rfl⟩:=r; rfl
 | str _=>obtain ⟨t,rfl⟩:=r; rfl
 | byt _=>obtain ⟨t,rfl⟩:=r; rfl
 | flt _=>obtain ⟨t,rfl⟩:=r; rfl
 | ref _=>cases r; rfl
 | ty _=>cases r; rfl
theorem RelV.inj {x y:V} {u:Qb} (r:RelV x u) (q:RelV y u):x=y:=Uc (r.abs.symm.trans q.abs)
theorem Vals.inj:∀ {xs ys:List V} {us:List Qb},Vals xs us->Vals ys us->xs=ys
 | _,_,_,.nil,.nil=>rfl
 | _,_,_,.cons r t,.cons r' t'=>by rw[r.inj r',Vals.inj t t']
section
variable {X:Cx} {pins:List (Addr×Obj)} {σ:St} {H:Hp} {s:Qc} {a:Addr} {xs ys:List V}
theorem SqL.of {K:J4} (h:H a=some (.lst xs)):SqL K H a xs:=.inl (.inl h)
theorem SqT.of {K:J4} (h:H a=some (.tup xs)):SqT K H a xs:=.inl (.inl h)
theorem Inv.list (I:Inv X pins σ H s) (h:SqL X.K H a xs):∃ its:List Qb,Vals xs its/\PlainL s.heap a its.toArray/\xs.length<=Qe:=by
 rcases h with h | ⟨o,its,n,hk,hc,hd,hs,hz,r⟩
 ·obtain ⟨z,its,n,r,e⟩:=h.ok I.hok
  exact ⟨its,r,⟨_,n,e,rfl,rfl,rfl⟩,z⟩
 ·refine ⟨its.toList,r,⟨o,n,I.kIn a o hk,hc,hd,by simpa using hs⟩,?_⟩
  have e:=r.length
  simp only[Rw]at e
  omega
theorem Inv.tuple (I:Inv X pins σ H s) (h:SqT X.K H a xs):∃ its:List Qb,Vals xs its/\IsTup s.heap a its.toArray/\xs.length<=Qe:=by
 rcases h with h | ⟨o,its,n,hk,hc,hs,hz,r⟩
 ·obtain ⟨z,its,r,p⟩:=h.ok I.hok
  exact ⟨its,r,p,z⟩
 ·refine ⟨its.toList,r,⟨o,I.kIn a o hk,hc,n,by simpa using hs⟩,?_⟩
  have e:=r.length
  simp only[Rw]at e
  omega
theorem Inv.list_inj (I:Inv X pins σ H s) (h:SqL X.K H a xs) (h':SqL X.K H a ys):xs=ys:=by
 obtain ⟨its,r,⟨o,n,e,_,_,d⟩,_⟩:=I.list h
 obtain ⟨its',r',⟨o',n',e',_,_,d'⟩,_⟩:=I.list h'
 rw[e]at e'; cases e'
 rw[d]at d'
 injection d' with d1 _
 have:its=its':=by simpa using congrArg Jd5 d1
 subst this
 exact r.inj r'
theorem Inv.tuple_inj (I:Inv X pins σ H s) (h:SqT X.K H a xs) (h':SqT X.K H a ys):xs=ys:=by
 obtain ⟨its,r,⟨o,e,_,n,d⟩,_⟩:=I.tuple h
 obtain ⟨its',r',⟨o',e',_,n',d'⟩,_⟩:=I.tuple h'
 rw[e]at e'; cases e'
 rw[d]at d'
 injection d' with d1 _
 have:its=its':=by simpa using congrArg Jd5 d1
 subst this
 exact r.inj r'
end
abbrev Cx.wish (X:Cx) (E:Qb->Qc->Prop):Cx:={ X with xe:=E }
abbrev Cx.nox (X:Cx):Cx:=X.wish λ_ _=>False
theorem Cx.Ok.wish {X:Cx} (ok:X.Ok) (E:Qb->Qc->Prop):(X.wish E).Ok:=
 ⟨ok.mod,ok.kind,ok.glob,ok.blt,ok.above,ok.inj,ok.has,ok.cab,ok.hd,ok.frames,ok.stk,ok.exf,ok.bs,ok.bsz,ok.noex,ok.exfs,ok.funs,ok.frf⟩
theorem Cx.Ok.unwish {X:Cx} {E:Qb->Qc->Prop} (ok:(X.wish E).Ok):X.Ok:=
 ⟨ok.mod,ok.kind,ok.glob,ok.blt,ok.above,ok.inj,ok.has,ok.cab,ok.hd,ok.frames,ok.stk,ok.exf,ok.bs,ok.bsz,ok.noex,ok.exfs,ok.funs,ok.frf⟩
section
variable {X:Cx} {pins:List (Addr×Obj)} {σ:St} {H:Hp} {s:Qc} {E:Qb->Qc->Prop}
theorem Inv.wish (I:Inv X pins σ H s) (E:Qb->Qc->Prop):Inv (X.wish E) pins σ H s:=⟨I.ok.wish E,I.os,I.bare,I.base,I.loc,I.cell,I.free,I.freeC,I.pin,I.hok,I.len⟩
theorem Inv.unwish (I:Inv (X.wish E) pins σ H s):Inv X pins σ H s:=⟨I.ok.unwish,I.os,I.bare,I.base,I.loc,I.cell,I.free,I.freeC,I.pin,I.hok,I.len⟩
theorem SP.unwish {D:Ends} {f:Flow} {s':Qc} (h:SP (X.wish E) pins D f s'):SP X pins D f s':=by
 cases f with
 | next=>obtain ⟨σ',H',I,q⟩:=h; exact ⟨σ',H',I.unwish,q⟩
 | brk=>obtain ⟨σ',H',I,q⟩:=h; exact ⟨σ',H',I.unwish,q⟩
 | cont=>obtain ⟨σ',H',I,q⟩:=h; exact ⟨σ',H',I.unwish,q⟩
 | ret u=>obtain ⟨v,σ',H',I,r,q⟩:=h; exact ⟨v,σ',H',I.unwish,r,q⟩
theorem PSs.nox {st:List Stmt} {t:TS} (h:PSs X.nox st t):PSs X st t:=λpins s σ H D I hw=>
 Qw (h pins s σ H D (I.wish _) hw) (λ_ _ q=>q.unwish) λ_ _ z=>UY z
end
section
variable {X:Cx} {st:Stmt} {rest:List Stmt} {t u:TS} {e:Expr} {te:TE} {pos:Pos}
def Me:TS:=λD σ H=>D.nx σ H
def tSeq (t u:TS):TS:=λD σ H=>t { D with nx:=u D } σ H
theorem pss_nil:PSs X [] Me:=λ_ _ σ H _ I h=>Q4 ⟨σ,H,I,h⟩
theorem pss_cons (h1:PS X st t) (h2:PSs X rest u):PSs X (st::rest) (tSeq t u):=by
 intro pins s σ H D I h
 refine wpAny_execs_cons (thn (h1 pins s σ H { D with nx:=u D } I h) λf s1 q=>?_)
 cases f with
 | next=>
  obtain ⟨σ',H',I',q⟩:=q
  exact h2 pins s1 σ' H' D I' q
 | ret v=>exact q
 | brk=>exact q
 | cont=>exact q
theorem pss_one (h1:PS X st t):PSs X [st] t:=by
 intro pins s σ H D I h
 refine wpAny_execs_cons (thn (h1 pins s σ H D I h) λf s1 q=>?_)
 cases f with
 | next=>exact Q4 q
 | ret v=>exact q
 | brk=>exact q
 | cont=>exact q
theorem Inv.quiet {pins:List (Addr×Obj)} {σ:St} {H:Hp} {s:Qc} (I:Inv X pins σ H s):interactive X.env=false:=by simp[interactive,I.ok.kind]
def Mf (te:TE):TS:=λD σ H=>te σ H λ_ H1=>D.nx σ H1
theorem ps_expr (he:PE X e te) (hs:swapsWith e none pos.line X.env=pure false:=by rfl):PS X (.Expr e pos) (Mf te):=by
 intro pins s σ H D I h
 exact wpAny_Expr_any (thn (he pins s σ H _ I h) λv s1 ⟨x,H1,I1,r1,q1⟩=>⟨σ,H1,I1,q1⟩) I.quiet hs
def tRet (te:TE):TS:=λD σ H=>te σ H D.rt
theorem ps_ret (he:PE X e te):PS X (.Return (some e) pos) (tRet te):=by
 intro pins s σ H D I h
 exact wpAny_Return_some (thn (he pins s σ H _ I h) λv s1 ⟨x,H1,I1,r1,q1⟩=>⟨x,σ,H1,I1,r1,q1⟩)
def tIfS (c:TT) (t u:TS):TS:=λD σ H=>c σ H λb H1=>if b=true then t D σ H1 else u D σ H1
theorem ps_if {c:Expr} {a b:List Stmt} {tc:TT} (hc:PT X c tc) (ha:PSs X a t) (hb:PSs X b u):PS X (.If c a b pos) (tIfS tc t u):=by
 intro pins s σ H D I h
 refine wpAny_If (thn (hc pins s σ H _ I h) λd s1 ⟨H1,I1,q1⟩=>?_)
 cases d with
 | true=>exact ha pins s1 σ H1 D I1 q1
 | false=>exact hb pins s1 σ H1 D I1 q1
def KU:TS:=λ_ _ _=>False
theorem pss_never {sts:List Stmt}:PSs X sts KU:=λ_ _ _ _ _ _ h=>h.elim
end
abbrev TG:=V->St->Hp->(St->Hp->Prop)->Prop
abbrev TGs:=List V->St->Hp->(St->Hp->Prop)->Prop
def PG (X:Cx) (target:Expr) (t:TG):Prop:=
 ∀ (pins:List (Addr×Obj)) (s:Qc) (σ:St) (H:Hp) (v:V) (u:Qb) (Q:St->Hp->Prop),Inv X pins σ H s->RelV v u->t v σ H Q->
  Qf (model X.prog X.w) X.A (assign target X.env u) (λ_ s'=>∃ σ' H',Inv X pins σ' H' s'/\Q σ' H') X.xe s
def PGs (X:Cx) (ts:List Expr) (t:TGs):Prop:=
 ∀ (pins:List (Addr×Obj)) (s:Qc) (σ:St) (H:Hp) (vs:List V) (us:List Qb) (Q:St->Hp->Prop),Inv X pins σ H s->Vals vs us->t vs σ H Q->
  Qf (model X.prog X.w) X.A (assignInOrder ((assignEach ts X.env).map (·.2)) us) (λ_ s'=>∃ σ' H',Inv X pins σ' H' s'/\Q σ' H') X.xe s
abbrev TSet:=V->V->V->Hp->(Hp->Prop)->Prop
def PSet (X:Cx) (t:TSet):Prop:=
 ∀ (pins:List (Addr×Obj)) (s:Qc) (σ:St) (H:Hp) (o i v:V) (ov iv u:Qb) (Q:Hp->Prop),Inv X pins σ H s->RelV o ov->RelV i iv->RelV v u->t o i v H Q->
  Qf (model X.prog X.w) X.A (setItem ov iv u) (λ_ s'=>∃ H',Inv X pins σ H' s'/\Q H') X.xe s
abbrev TIp:=V->V->Hp->VK->Prop
def PIp (X:Cx) (op:Operator) (t:TIp):Prop:=
 ∀ (pins:List (Addr×Obj)) (s:Qc) (σ:St) (H:Hp) (x y:V) (v u:Qb) (Q:VK),Inv X pins σ H s->RelV x v->RelV y u->t x y H Q->
  Qf (model X.prog X.w) X.A (inplaceOp op v u) (EP X pins σ Q) X.xe s
section
variable {X:Cx} {pos:Pos}
def AR (i:Nat):TG:=λv σ H Q=>Q (σ.set i (some v)) H
theorem pg_name {i:Nat} {x:Str} (hN:X.N.Nodup) (hi:X.N[i]?=some x) (hx:Loc X.env.scope x) (hf:X.fn x=true\/X.env.scope.names.lookup x=some .local:=by first | exact .inl rfl | exact .inr rfl | assumption):PG X (.Name x pos) (AR i):=by
 intro pins s σ H v u Q I r h
 exact wpAny_assign_Name (FD I hN hi hx r (λs' I'=>⟨_,H,I',h⟩) hf)
def gNil:TGs:=λvs σ H Q=>vs=[]/\Q σ H
def Gs (t:TG) (u:TGs):TGs:=λvs σ H Q=>∃ v r,vs=v::r/\t v σ H λσ' H'=>u r σ' H' Q
theorem pgs_nil:PGs X [] gNil:=by
 intro pins s σ H vs us Q I r h
 obtain ⟨e,h⟩:=h
 subst e
 cases r
 exact assignInOrder_nil ⟨σ,H,I,h⟩
theorem pgs_cons {e:Expr} {es:List Expr} {t:TG} {u:TGs} (h1:PG X e t) (h2:PGs X es u)
  (hs:(assignEach (e::es) X.env).map (·.2)=assign e X.env::(assignEach es X.env).map (·.2):=by rfl):PGs X (e::es) (Gs t u):=by
 intro pins s σ H vs us Q I r h
 obtain ⟨v,vr,e1,h⟩:=h
 subst e1
 cases r with
 | cons r rr=>
  rw[hs]
  refine assignInOrder_cons (thn (h1 pins s σ H _ _ _ I r h) λ_ s1 ⟨σ1,H1,I1,q1⟩=>?_)
  exact h2 pins s1 σ1 H1 _ _ Q I1 rr q1
def gTup (K:J4) (n:Nat) (t:TGs):TG:=λv σ H Q=>∃ a xs,v=.ref a/\SqT K H a xs/\xs.length=n/\t xs σ H Q
theorem pg_tup {es:List Expr} {k:Nat} {t:TGs} {n:Nat} (hc:X.calm=true) (h:PGs X es t)
  (hn:(assignEach es X.env).length=n:=by rfl) (hst:(assignEach es X.env).findIdx? (·.1)=none:=by rfl):PG X (.Tuple es k pos) (gTup X.K n t):=by
 intro pins s σ H v u Q I r hw
 obtain ⟨a,xs,e1,hq,hl,hw⟩:=hw
 subst e1
 cases r
 obtain ⟨its,rv,ht,hz⟩:=I.tuple hq
 refine assign_Tuple_tuple (I.ok.hd hc) ht (by simp[hn,<- hl,rv.length]) hst λh' hx=>?_
 have I1:Inv X pins σ H { s with heap:=h' }:=I.kept (t':=s.toks) λb o e=>hx b o (RC (Heap.lt_size e)) e
 exact h pins _ σ H xs _ Q I1 (by simpa using rv) hw
def gSub (to ti:TE) (t:TSet):TG:=λv σ H Q=>to σ H λo H1=>ti σ H1 λi H2=>t o i v H2 λH3=>Q σ H3
theorem pg_sub {o i:Expr} {to ti:TE} {t:TSet} (ho:PE X o to) (hi:PE X i ti) (hs:PSet X t)
  (ha:∀ v,assign (.Subscript o i pos) X.env v=(do
   let ov <- holding [v] (eval o X.env)
   let iv <- holding [v,ov] (eval i X.env)
   standAt pos
   holding [v,ov,iv] (setItem ov iv v)
   release [v,ov,iv] []):=by intro _; rfl):PG X (.Subscript o i pos) (gSub to ti t):=by
 intro pins s σ H v u Q I r h
 rw[ha]
 refine Qa (Qo (thn (ho pins s σ H _ I h) λov s1 ⟨x,H1,I1,r1,q1⟩=>?_))
 refine Qa (Qo (thn (hi pins s1 σ H1 _ I1 q1) λiv s2 ⟨y,H2,I2,r2,q2⟩=>?_))
 refine Qa (Q1 (Qa (Qo (thn (hs pins s2 σ H2 x y v ov iv u _ I2 r1 r2 r q2) λ_ s3 ⟨H3,I3,q3⟩=>?_))))
 exact wpAny_release ⟨σ,H3,I3,q3⟩
def tAsg (te:TE) (g:TG):TS:=λD σ H=>te σ H λx H1=>g x σ H1 D.nx
theorem ps_asg {tg e:Expr} {te:TE} {g:TG} (he:PE X e te) (hg:PG X tg g) (hs:swapsWithSole [tg] e pos.line X.env=pure false:=by rfl) (hw:swappedStores [tg] e X.env=pure none:=by rfl)
  (h1:(assignEach [tg] X.env).map (·.2)=[assign tg X.env]:=by rfl):PS X (.Assign [tg] e pos) (tAsg te g):=by
 intro pins s σ H D I h
 refine wpAny_Assign_stores (thn (he pins s σ H _ I h) λv s1 ⟨x,H1,I1,r1,q1⟩=>?_) hs hw
 rw[h1]
 exact thn (hg pins s1 σ H1 x v _ I1 r1 q1) λ_ s2 q=>q
theorem ps_set {i:Nat} {x:Str} {e:Expr} {te:TE} {pos':Pos} (hN:X.N.Nodup) (hi:X.N[i]?=some x) (hx:Loc X.env.scope x) (he:PE X e te) (hs:swapsWith e (some (.Name x pos')) pos.line X.env=pure false:=by rfl) (hf:X.fn x=true\/X.env.scope.names.lookup x=some .local:=by first | exact .inl rfl | exact .inr rfl | assumption) :
  PS X (.Assign [.Name x pos'] e pos) (tAsg te (AR i)):=by
 intro pins s σ H D I h
 refine wpAny_Assign_Name (thn (he pins s σ H _ I h) λv s1 ⟨y,H1,I1,r1,q1⟩=>?_) hs
 exact FD I1 hN hi hx r1 (λs2 I2=>⟨_,H1,I2,q1⟩) hf
def tAug (i:Nat) (te:TE) (ti:TIp):TS:=λD σ H=>∃ x,σ[i]?=some (some x)/\te σ H λy H1=>ti x y H1 λz H2=>D.nx (σ.set i (some z)) H2
theorem ps_aug {i:Nat} {x:Str} {e:Expr} {te:TE} {op:Operator} {ti:TIp} {pos':Pos} (hN:X.N.Nodup) (hi:X.N[i]?=some x) (hx:Loc X.env.scope x) (he:PE X e te) (ho:PIp X op ti) (hf:X.fn x=true\/X.env.scope.names.lookup x=some .local:=by first | exact .inl rfl | exact .inr rfl | assumption) :
  PS X (.AugAssign (.Name x pos') op e pos) (tAug i te ti):=by
 intro pins s σ H D I h
 obtain ⟨v,e1,h⟩:=h
 obtain ⟨m,hn,hl⟩:=I.loc
 have vis:Vis X.env.scope x:=by rcases hx with k | k; exact .inl k; exact .inr (.inl k)
 obtain ⟨u,r,l⟩:=hl i x v hi e1 vis
 refine wpAny_AugAssign_Name ?_
 have go:Qf (model X.prog X.w) X.A (eval e X.env) (λw s₂=>Qf (model X.prog X.w) X.A (inplaceOp op u w) (λr s₃=>Qf (model X.prog X.w) X.A (storeName X.env x r) (λ_=>SP X pins D .next) X.xe s₃) X.xe s₂) X.xe s:=by
  refine thn (he pins s σ H _ I h) λw s1 ⟨y,H1,I1,r1,q1⟩=>?_
  refine thn (ho pins s1 σ H1 v y u w _ I1 r r1 q1) λz s2 ⟨zv,H2,I2,r2,q2⟩=>?_
  exact FD I2 hN hi hx r2 (λs3 I3=>⟨_,H2,I3,q2⟩) hf
 rcases l with ⟨hk,hm⟩ | ⟨hk,c,hc,hcell⟩
 ·exact Xk I.ok.kind hk hn hm go
 ·rcases hk with hk | hk
  ·exact Xo I.ok.kind hk hc hcell go
  ·rcases hx with k | k
   ·have:X.env.scope.names.lookup x=some .free:=hk
    rw[k]at this; cases this
   ·have:X.env.scope.names.lookup x=some .free:=hk
    rw[k]at this; cases this
def Mg (to ti te:TE) (tget:V->V->Hp->VK->Prop) (tip:TIp) (tset:TSet):TS:=λD σ H=>to σ H λo H1=>ti σ H1 λi H2=>tget o i H2 λx H3=>te σ H3 λy H4=>tip x y H4 λz H5=>tset o i z H5 λH6=>D.nx σ H6
def PGet (X:Cx) (t:V->V->Hp->VK->Prop):Prop:=
 ∀ (pins:List (Addr×Obj)) (s:Qc) (σ:St) (H:Hp) (o i:V) (ov iv:Qb) (Q:VK),Inv X pins σ H s->RelV o ov->RelV i iv->t o i H Q->
  Qf (model X.prog X.w) X.A (getItem ov iv) (EP X pins σ Q) X.xe s
theorem ps_augS {o i e:Expr} {to ti te:TE} {tget:V->V->Hp->VK->Prop} {tip:TIp} {tset:TSet} {op:Operator} {tpos:Pos} (ho:PE X o to) (hi:PE X i ti) (hg:PGet X tget) (he:PE X e te) (hp:PIp X op tip) (hs:PSet X tset)
  (ha:∀ ov iv new,augStore i ov iv new=(do holding [new,ov,iv] (setItem ov iv new); release [new,ov,iv] []; pure .next):=by intros; rfl):PS X (.AugAssign (.Subscript o i tpos) op e pos) (Mg to ti te tget tip tset):=by
 intro pins s σ H D I h
 refine wpAny_AugAssign_SubscriptAny (thn (ho pins s σ H _ I h) λov s1 ⟨x1,H1,I1,r1,q1⟩=>?_) ha
 refine thn (hi pins s1 σ H1 _ I1 q1) λiv s2 ⟨x2,H2,I2,r2,q2⟩=>?_
 refine thn (hg pins s2 σ H2 x1 x2 ov iv _ I2 r1 r2 q2) λold s3 ⟨x3,H3,I3,r3,q3⟩=>?_
 refine thn (he pins s3 σ H3 _ I3 q3) λv s4 ⟨x4,H4,I4,r4,q4⟩=>?_
 refine thn (hp pins s4 σ H4 x3 x4 old v _ I4 r3 r4 q4) λnew s5 ⟨x5,H5,I5,r5,q5⟩=>?_
 exact thn (hs pins s5 σ H5 x1 x2 x5 ov iv new _ I5 r1 r2 r5 q5) λ_ s6 ⟨H6,I6,q6⟩=>⟨σ,H6,I6,q6⟩
def ipI (f:Int->Int->Int):TIp:=λx y H Q=>∃ i j,x=.int i/\y=.int j/\Q (.int (f i j)) H
theorem Ig:PIp X .Add (ipI λi j=>i + j):=by
 intro pins s σ H x y v u Q I r1 r2 h
 obtain ⟨i,j,e1,e2,q⟩:=h
 subst e1; subst e2
 obtain ⟨t,rfl⟩:=r1
 obtain ⟨t',rfl⟩:=r2
 exact iadd_int ⟨.int _,H,I.tok _,⟨_,rfl⟩,q⟩
theorem ip_sub:PIp X .Sub (ipI λi j=>i - j):=by
 intro pins s σ H x y v u Q I r1 r2 h
 obtain ⟨i,j,e1,e2,q⟩:=h
 subst e1; subst e2
 obtain ⟨t,rfl⟩:=r1
 obtain ⟨t',rfl⟩:=r2
 exact isub_int ⟨.int _,H,I.tok _,⟨_,rfl⟩,q⟩
end
section
variable {X:Cx} {pos:Pos}
def Jp (c:TT) (tb:TS):TS:=λD σ H=>∃ W:Nat->St->Hp->Prop,(∃ m,W m σ H)/\∀ m σ H,W m σ H->
 c σ H λb H1=>if b=true then ∃ N:St->Hp->Prop,(∀ σ' H',N σ' H'->∃ m',m' < m/\W m' σ' H')/\tb { D with nx:=N,ct:=N,bk:=D.nx } σ H1 else D.nx σ H1
theorem ps_while {c:Expr} {body:List Stmt} {tc:TT} {tb:TS} (hp:Xq (model X.prog X.w) X.A X.env X.xe) (hc:PT X c tc) (hb:PSs X body tb):PS X (.While c body [] pos) (Jp tc tb):=by
 intro pins s σ H D I h
 obtain ⟨W,⟨m0,w0⟩,turn⟩:=h
 refine wpAny_While (codeAny_whileLoop (λn s'=>∃ σ' H',Inv X pins σ' H' s'/\W n σ' H') ?_ m0 ⟨σ,H,I,w0⟩)
 rintro n s1 ⟨σ1,H1,I1,w1⟩
 refine QF hp (thn (hc pins s1 σ1 H1 _ I1 (turn n σ1 H1 w1)) λb s2 ⟨H2,I2,q2⟩=>?_)
 cases b with
 | true=>
  obtain ⟨N,hN,q2⟩:=q2
  rw[if_pos rfl]
  refine QF hp (thn (hb pins s2 σ1 H2 _ I2 q2) λf s3 q3=>?_)
  cases f with
  | next=>
   obtain ⟨σ3,H3,I3,n3⟩:=q3
   obtain ⟨m',hm,w3⟩:=hN σ3 H3 n3
   exact ⟨m',hm,σ3,H3,I3,w3⟩
  | cont=>
   obtain ⟨σ3,H3,I3,n3⟩:=q3
   obtain ⟨m',hm,w3⟩:=hN σ3 H3 n3
   exact ⟨m',hm,σ3,H3,I3,w3⟩
  | brk=>exact q3
  | ret v=>exact q3
 | false=>
  rw[if_neg Rx]
  exact Q4 ⟨σ1,H2,I2,q2⟩
end
structure It where
 go:Nat->Hp->Prop
 yld:Nat->Hp->V->Hp->Prop
 stop:Nat->Hp->Prop
def FpOk (X:Cx) (pins:List (Addr×Obj)) (H:Hp) (b:Addr):Prop:=
 H b=none/\b≠X.env.locals/\b∉X.fs/\(b∈X.ex\/X.s₀.heap.objs.size<=b)/\(∀ x c,X.env.cells.lookup x=some c->c≠b)/\∀ p∈X.pn++pins,p.1≠b
theorem Inv.fpOk {X:Cx} {pins:List (Addr×Obj)} {σ:St} {H H':Hp} {s:Qc} {b:Addr} (I:Inv X pins σ H s) (hb:s.heap.objs.size<=b) (hn:H' b=none):FpOk X pins H' b:=by
 refine ⟨hn,Wc (Rb I.lt hb),I.nofs hb,.inr (J6 I.sz hb),λx c e z=>?_,λp hp z=>?_⟩
 ·obtain ⟨v,q⟩:=I.cell x c e
  exact absurd (Rb q.lt (by rw[z]; exact hb)) (Ry _)
 ·exact absurd (Rb (Heap.lt_size (I.pin p hp).1) (by rw[z]; exact hb)) (Ry _)
structure Turn (P:Qj) (w:Qk) (K:J4) (tg:Expr) (J:It) (fp:List Addr) (it:Addr) (tn:Nat->Heap->Prop):Prop where
 mem:it∈fp
 obj:∀ i h,tn i h->∀ b∈fp,∃ o,h.get? b=some o/\∀ v,o.data≠.cell v
 keep:∀ i h h',tn i h->(∀ b∈fp,∀ o,h.get? b=some o->h'.get? b=some o)->tn i h'
 item:∀ (X:Cx),X.prog=P->X.w=w->X.K=K->X.calm=true->∀ (i:Nat) (pins:List (Addr×Obj)) (s:Qc) (σ:St) (H:Hp) (E:Qb->Qc->Prop),Inv X pins σ H s->(∀ b∈fp,FpOk X pins H b)->tn i s.heap->J.go i H->
  Qf (model P w) X.A (pyNext (.ref it)) (λr s1=>∃ u,r=some u/\
   Qf (model P w) X.A (letOwnedTupleGo tg (.ref it) u) (λ_ s2=>∃ x H',Inv X pins σ H' s2/\RelV x u/\J.yld i H x H'/\tn (i + 1) s2.heap/\∀ b∈fp,H' b=none) E s1) E s
 done:∀ (X:Cx),X.prog=P->X.w=w->X.K=K->X.calm=true->∀ (i:Nat) (pins:List (Addr×Obj)) (s:Qc) (σ:St) (H:Hp) (E:Qb->Qc->Prop),Inv X pins σ H s->(∀ b∈fp,FpOk X pins H b)->tn i s.heap->J.stop i H->
  Qf (model P w) X.A (pyNext (.ref it)) (λr s1=>r=none/\Inv X pins σ H s1) E s
 self:∀ (A:Qm) (i:Nat) (s:Qc) (Q:Qb->Qc->Prop) (E:Qb->Qc->Prop),tn i s.heap->Q (.ref it) s->Qf (model P w) A (pyIter (.ref it)) Q E s
abbrev TI:=St->Hp->(It->Hp->Prop)->Prop
def PIE (X:Cx) (pins:List (Addr×Obj)) (σ:St) (tg:Expr) (R:It->Hp->Prop) (itv:Qb) (s2:Qc):Prop:=
 ∃ (it:Addr) (fp:List Addr) (tn:Nat->Heap->Prop) (J:It) (H':Hp),itv=.ref it/\Inv X pins σ H' s2/\Turn X.prog X.w X.K tg J fp it tn/\tn 0 s2.heap/\(∀ b∈fp,FpOk X pins H' b)/\R J H'
def PI (X:Cx) (tg iter:Expr) (wi:TI):Prop:=
 ∀ (pins:List (Addr×Obj)) (s:Qc) (σ:St) (H:Hp) (R:It->Hp->Prop),Inv X pins σ H s->wi σ H R->
  Qf (model X.prog X.w) X.A (eval iter X.env) (λv s1=>Qf (model X.prog X.w) X.A (pyIter v) (PIE X pins σ tg R) X.xe s1) X.xe s
theorem Jq {M:Model} {A:Qm} {E:Qb->Qc->Prop} {s:Qc} {tg:Expr} {it:Addr} {u:Qb} {o:Obj} {n:String} {vs:Array Qb} {Q:Unit->Qc->Prop} (ho:s.heap.get? it=some o) (hc:o.cls=.type n) (hd:o.data=.fields vs)
  (hn:["enumerate", "zip", "dict_itemiterator", "dict_reverseitemiterator", "odict_iterator", "itertools.zip_longest", "itertools.pairwise"].contains n=false) (hQ:Q () s):Qf M A (letOwnedTupleGo tg (.ref it) u) Q E s:=by
 unfold letOwnedTupleGo
 cases tg <;> first
  | exact Qd hQ
  | (cases u <;> first
    | exact Qd hQ
    | (refine Qa (wpAny_load ho ?_)
       rw[hc,hd]
       show Qf M A (if (["enumerate", "zip", "dict_itemiterator", "dict_reverseitemiterator", "odict_iterator", "itertools.zip_longest", "itertools.pairwise"].contains n && vs[0]? == some (rawInt _))=true then _ else _) Q E s
       rw[if_neg (by intro h; rw[hn,Zq]at h; cases h)]
       exact Qd hQ))
def Itl (K:J4) (a:Addr):It:=
 ⟨λi H=>∃ xs x,SqL K H a xs/\xs[i]?=some x,λi H x H'=>H'=H/\∀ xs,SqL K H a xs->xs[i]?=some x,λi H=>∃ xs,SqL K H a xs/\xs.length<=i⟩
def Itt (K:J4) (a:Addr):It:=
 ⟨λi H=>∃ xs x,SqT K H a xs/\xs[i]?=some x,λi H x H'=>H'=H/\∀ xs,SqT K H a xs->xs[i]?=some x,λi H=>∃ xs,SqT K H a xs/\xs.length<=i⟩
def Itr (lo:Int) (n:Nat):It:=⟨λi _=>i < n,λi H x H'=>H'=H/\x=.int (lo + i),λi _=>n<=i⟩
theorem Gu {P:Qj} {w:Qk} {K:J4} {tg:Expr} (a it:Addr):Turn P w K tg (Itl K a) [it] it (λi h=>h.IsListIter it a i) where
 mem:=by simp
 obj:=λi h st b hb=>by
  have e:b=it:=by simpa using hb
  subst e
  obtain ⟨o,e,c,d⟩:=st
  exact ⟨o,e,λv z=>by rw[d]at z; cases z⟩
 keep:=λi h h' st k=>st.at λo e=>k it (by simp) o e
 item:=by
  intro X hP hw hK hc i pins s σ H E I hf st hg
  subst hP hw hK
  obtain ⟨xs,x,hq,hx⟩:=hg
  obtain ⟨its,rv,p,hz⟩:=I.list hq
  obtain ⟨u,hu,ru⟩:=rv.get hx
  obtain ⟨f0,f1,f2,f3,f4,f5⟩:=hf it (by simp)
  refine wpAny_pyNext_list_item st p.isList (x:=u) (by simpa using hu) λh' st' sb=>?_
  have I1:Inv X pins σ H { s with heap:=h' }:=I.turned (t':=s.toks) (λb o hb e=>(sb.2 b hb).trans e) f0 f1 f3 f4 f5
  obtain ⟨o,e,c,d⟩:=id st'
  exact ⟨u,rfl,Jq (s:={ s with heap:=h' }) e c d (by decide) ⟨x,H,I1,ru,⟨rfl,λys hy=>by rw[I.list_inj hy hq]; exact hx⟩,st',λb hb=>(hf b hb).1⟩⟩
 done:=by
  intro X hP hw hK hc i pins s σ H E I hf st hg
  subst hP hw hK
  obtain ⟨xs,hq,hx⟩:=hg
  obtain ⟨its,rv,p,hz⟩:=I.list hq
  obtain ⟨f0,f1,f2,f3,f4,f5⟩:=hf it (by simp)
  have hl:=rv.length
  exact wpAny_pyNext_list_end (I.ok.hd hc) st p.isList (by simp; omega) λh' eb=>⟨rfl,I.turned (t':=s.toks) (λb o hb e=>eb b o hb e) f0 f1 f3 f4 f5⟩
 self:=λ_ _ _ _ _ st h=>wpAny_pyIter_listiter st h
theorem Fo {P:Qj} {w:Qk} {K:J4} {tg:Expr} (a it:Addr):Turn P w K tg (Itt K a) [it] it (λi h=>h.IsTupleIter it a i) where
 mem:=by simp
 obj:=λi h st b hb=>by
  have e:b=it:=by simpa using hb
  subst e
  obtain ⟨o,e,c,d⟩:=st
  exact ⟨o,e,λv z=>by rw[d]at z; cases z⟩
 keep:=λi h h' st k=>st.at λo e=>k it (by simp) o e
 item:=by
  intro X hP hw hK hc i pins s σ H E I hf st hg
  subst hP hw hK
  obtain ⟨xs,x,hq,hx⟩:=hg
  obtain ⟨its,rv,p,hz⟩:=I.tuple hq
  obtain ⟨u,hu,ru⟩:=rv.get hx
  obtain ⟨f0,f1,f2,f3,f4,f5⟩:=hf it (by simp)
  refine wpAny_pyNext_tuple_item st (show s.heap.IsTuple a its.toArray from p) (x:=u) (by simpa using hu) λh' st' sb=>?_
  have I1:Inv X pins σ H { s with heap:=h' }:=I.turned (t':=s.toks) (λb o hb e=>(sb.2 b hb).trans e) f0 f1 f3 f4 f5
  obtain ⟨o,e,c,d⟩:=id st'
  exact ⟨u,rfl,Jq (s:={ s with heap:=h' }) e c d (by decide) ⟨x,H,I1,ru,⟨rfl,λys hy=>by rw[I.tuple_inj hy hq]; exact hx⟩,st',λb hb=>(hf b hb).1⟩⟩
 done:=by
  intro X hP hw hK hc i pins s σ H E I hf st hg
  subst hP hw hK
  obtain ⟨xs,hq,hx⟩:=hg
  obtain ⟨its,rv,p,hz⟩:=I.tuple hq
  obtain ⟨f0,f1,f2,f3,f4,f5⟩:=hf it (by simp)
  have hl:=rv.length
  exact wpAny_pyNext_tuple_end (I.ok.hd hc) st (show s.heap.IsTuple a its.toArray from p) (by simp; omega) λh' eb=>⟨rfl,I.turned (t':=s.toks) (λb o hb e=>eb b o hb e) f0 f1 f3 f4 f5⟩
 self:=λ_ _ _ _ _ st h=>wpAny_pyIter_tupleiter st h
theorem turn_range {P:Qj} {w:Qk} {K:J4} {tg:Expr} (it:Addr) (lo:Int) (n:Nat):Turn P w K tg (Itr lo n) [it] it (λi h=>IsRangeIter h it (lo + (i:Nat) * 1) ((n:Int) - (i:Nat)) 1) where
 mem:=by simp
 obj:=λi h st b hb=>by
  have e:b=it:=by simpa using hb
  subst e
  exact ⟨_,st,λv z=>by
   have z':Data.fields _=Data.cell v:=z
   cases z'⟩
 keep:=λi h h' st k=>k it (by simp) _ st
 item:=by
  intro X hP hw hK hc i pins s σ H E I hf st hg
  subst hP hw hK
  obtain ⟨f0,f1,f2,f3,f4,f5⟩:=hf it (by simp)
  have W:=Walks.range (prog:=X.prog) (w:=X.w) (I.ok.hd hc) it lo 1 n
  refine W.item i s _ _ hg st λv h' tk hv st' kk=>?_
  obtain ⟨t,rfl⟩:=hv
  have I1:Inv X pins σ H { s with heap:=h',toks:=tk }:=I.turned (λb o hb e=>kk b o (by simpa using hb) e) f0 f1 f3 f4 f5
  refine ⟨_,rfl,Jq (s:={ s with heap:=h',toks:=tk }) (n:="range_iterator") st' rfl rfl (by decide) ⟨.int (lo + i),H,I1,⟨t,?_⟩,⟨rfl,rfl⟩,st',λb hb=>(hf b hb).1⟩⟩
  rw[Int.mul_one]
 done:=by
  intro X hP hw hK hc i pins s σ H E I hf st hg
  subst hP hw hK
  obtain ⟨f0,f1,f2,f3,f4,f5⟩:=hf it (by simp)
  exact Xc (I.ok.hd hc) st (by have:n<=i:=hg; omega) λh' eb=>⟨rfl,I.turned (t':=s.toks) (λb o hb e=>eb b o hb e) f0 f1 f3 f4 f5⟩
 self:=λ_ _ _ _ _ st h=>Xd st h
end L2
namespace L2
open PySem PySem.Spec PyProof.Rows
section
variable {X:Cx} {tg:Expr}
def LE (K:J4) (tl:TE):TI:=λσ H R=>tl σ H λx H1=>∃ a,x=.ref a/\(∃ xs,SqL K H1 a xs)/\R (Itl K a) H1
def iTup (K:J4) (tl:TE):TI:=λσ H R=>tl σ H λx H1=>∃ a,x=.ref a/\(∃ xs,SqT K H1 a xs)/\R (Itt K a) H1
theorem pi_list {l:Expr} {tl:TE} (hl:PE X l tl):PI X tg l (LE X.K tl):=by
 intro pins s σ H R I h
 refine thn (hl pins s σ H _ I h) λv s1 ⟨x,H1,I1,r1,q1⟩=>?_
 obtain ⟨a,e,⟨xs,hq⟩,q⟩:=q1
 subst e
 cases r1
 obtain ⟨its,rv,p,hz⟩:=I1.list hq
 refine QZ p.isList ?_
 refine ⟨s1.heap.objs.size,[s1.heap.objs.size],_,_,H1,rfl,I1.kept (t':=s1.toks) λb o e=>Heap.get?_push_of_some _ e,Gu a _,⟨_,Heap.get?_push_size _ rfl,rfl,rfl⟩,λb hb=>?_,q⟩
 have e:b=s1.heap.objs.size:=by simpa using hb
 subst e
 exact I1.fpOk (J8 _) (I1.hok.fresh (J8 _))
theorem pi_tup {l:Expr} {tl:TE} (hl:PE X l tl):PI X tg l (iTup X.K tl):=by
 intro pins s σ H R I h
 refine thn (hl pins s σ H _ I h) λv s1 ⟨x,H1,I1,r1,q1⟩=>?_
 obtain ⟨a,e,⟨xs,hq⟩,q⟩:=q1
 subst e
 cases r1
 obtain ⟨its,rv,p,hz⟩:=I1.tuple hq
 refine Qs (show s1.heap.IsTuple a its.toArray from p) ?_
 refine ⟨s1.heap.objs.size,[s1.heap.objs.size],_,_,H1,rfl,I1.kept (t':=s1.toks) λb o e=>Heap.get?_push_of_some _ e,Fo a _,⟨_,Heap.get?_push_size _ rfl,rfl,rfl⟩,λb hb=>?_,q⟩
 have e:b=s1.heap.objs.size:=by simpa using hb
 subst e
 exact I1.fpOk (J8 _) (I1.hok.fresh (J8 _))
theorem Ih {pins:List (Addr×Obj)} {σ:St} {H:Hp} {s:Qc} {R:It->Hp->Prop} {E:Qb->Qc->Prop} {lo hi:Int} {t u v:Tok} {tk:Nat} (I:Inv X pins σ H s) (h1:-(2 ^ 62)<=lo) (h2:lo < 2 ^ 62) (h3:-(2 ^ 62)<=hi) (h4:hi < 2 ^ 62)
  (q:R (Itr lo (hi - lo).toNat) H):Qf (model X.prog X.w) X.A (pyIter (.ref s.heap.objs.size)) (PIE X pins σ tg R) E { s with heap:=s.heap.push { cls:=.type "range",data:=.fields #[.int lo t,.int hi u,.int 1 v] },toks:=tk }:=by
 refine wpAny_pyIter_range (IsRange.new ..) (small_one h1 h2 h3 h4) ?_
 have I1:Inv X pins σ H { s with heap:=s.heap.push { cls:=.type "range",data:=.fields #[.int lo t,.int hi u,.int 1 v] },toks:=tk }:=I.kept λb o e=>Heap.get?_push_of_some _ e
 refine ⟨(s.heap.push { cls:=.type "range",data:=.fields #[.int lo t,.int hi u,.int 1 v] }).objs.size,[(s.heap.push { cls:=.type "range",data:=.fields #[.int lo t,.int hi u,.int 1 v] }).objs.size],_,_,H,rfl,
  I1.kept (t':=tk) λb o e=>Heap.get?_push_of_some _ e,turn_range _ lo (hi - lo).toNat,?_,λb hb=>?_,q⟩
 ·have e1:lo + ((0:Nat):Int) * 1=lo:=by simp
  have e2:(((hi - lo).toNat:Nat):Int) - ((0:Nat):Int)=Builtin.Range.rangeSize lo hi 1:=by rw[rangeSize_one]; split <;> omega
  show IsRangeIter _ _ (lo + ((0:Nat):Int) * 1) ((((hi - lo).toNat:Nat):Int) - ((0:Nat):Int)) 1
  rw[e1,e2]
  exact Heap.get?_push_size _ rfl
 ·have e:b=(s.heap.push { cls:=.type "range",data:=.fields #[.int lo t,.int hi u,.int 1 v] }).objs.size:=by simpa using hb
  subst e
  exact I1.fpOk (J8 _) (I1.hok.fresh (J8 _))
def Mh (ta:TA):TI:=λσ H R=>ta σ H λvs H1=>∃ j:Int,vs=[.int j]/\-(2 ^ 62)<=j/\j < 2 ^ 62/\R (Itr 0 j.toNat) H1
def Mi (ta:TA):TI:=λσ H R=>ta σ H λvs H1=>∃ i j:Int,vs=[.int i,.int j]/\(-(2 ^ 62)<=i/\i < 2 ^ 62/\-(2 ^ 62)<=j/\j < 2 ^ 62)/\R (Itr i (j - i).toNat) H1
theorem pi_range1 {a:Expr} {ta:TA} {p pos:Pos} (hg:Gl X "range") (hm:X.mg "range"=none) (ha:PA X [a] ta) (hs:Qg [a] X.env=[(false,eval a X.env)]:=by rfl):PI X tg (.Call (.Name "range" p) [a] [] pos) (Mh ta):=by
 intro pins s σ H R I h
 refine Call_ (BU I hg hm boot_range (RK (thn (ha pos pins s σ H _ I h) λus s1 ⟨vs,H1,I1,r1,q1⟩=>?_) hs rfl))
 obtain ⟨j,e,q1,q2,q⟩:=q1
 subst e
 cases r1 with
 | cons r rr=>
  cases rr
  obtain ⟨t,rfl⟩:=r
  exact call_range_1 (Ih I1 (by omega) (by omega) q1 q2 (by simpa using q))
theorem pi_range2 {a b:Expr} {ta:TA} {p pos:Pos} (hg:Gl X "range") (hm:X.mg "range"=none) (ha:PA X [a,b] ta) (hs:Qg [a,b] X.env=[(false,eval a X.env),(false,eval b X.env)]:=by rfl) (hs2:Qg [b] X.env=[(false,eval b X.env)]:=by rfl) :
  PI X tg (.Call (.Name "range" p) [a,b] [] pos) (Mi ta):=by
 intro pins s σ H R I h
 refine Call_ (BU I hg hm boot_range (RK (thn (ha pos pins s σ H _ I h) λus s1 ⟨vs,H1,I1,r1,q1⟩=>?_) (by rw[hs,hs2]) (by rw[hs2]; rfl)))
 obtain ⟨i,j,e,⟨q1,q2,q3,q4⟩,q⟩:=q1
 subst e
 cases r1 with
 | cons r rr=>
  cases rr with
  | cons r' rr=>
   cases rr
   obtain ⟨t,rfl⟩:=r
   obtain ⟨t',rfl⟩:=r'
   exact call_range_2 (Ih I1 q1 q2 q3 q4 q)
def tFor (wi:TI) (g:TG) (tb:TS):TS:=λD σ H=>wi σ H λJ H1=>∃ W:Nat->Nat->St->Hp->Prop,(∃ m,W 0 m σ H1)/\∀ i m σ H,W i m σ H->
 (J.stop i H/\D.nx σ H)\/(J.go i H/\∃ N:St->Hp->Prop,(∀ σ' H',N σ' H'->∃ m',m' < m/\W (i + 1) m' σ' H')/\∀ x H',J.yld i H x H'->g x σ H' λσ2 H2=>tb { D with nx:=N,ct:=N,bk:=D.nx } σ2 H2)
def Gv (fp:List Addr) (h:Heap):List (Addr×Obj):=fp.filterMap λb=>(h.get? b).map λo=>(b,o)
theorem Cc {fp:List Addr} {h:Heap} {b:Addr} {o:Obj} (hb:b∈fp) (e:h.get? b=some o):(b,o)∈Gv fp h:=YB.mpr ⟨b,hb,by rw[e]; rfl⟩
theorem of_pinsAt {fp:List Addr} {h:Heap} {p:Addr×Obj} (hp:p∈Gv fp h):p.1∈fp/\h.get? p.1=some p.2:=by
 obtain ⟨b,hb,e⟩:=YB.mp hp
 cases q:h.get? b with
 | none=>rw[q]at e; cases e
 | some o=>
  rw[q]at e
  have e':(b,o)=p:=Uc e
  subst e'
  exact ⟨hb,q⟩
theorem Inv.pinned {pins:List (Addr×Obj)} {σ:St} {H:Hp} {s:Qc} {fp:List Addr} (I:Inv X pins σ H s) (hf:∀ b∈fp,FpOk X pins H b) (ho:∀ b∈fp,∃ o,s.heap.get? b=some o/\∀ v,o.data≠.cell v):Inv X (pins++Gv fp s.heap) σ H s:=
 I.pins_of λp hp=>(RU.mp hp).elim (λz=>I.pin p (RH _ z)) λz=>by
  obtain ⟨hb,e⟩:=of_pinsAt z
  obtain ⟨f0,f1,f2,_⟩:=hf p.1 hb
  obtain ⟨o,e',d⟩:=ho p.1 hb
  rw[e]at e'; cases e'
  exact ⟨e,f0,f1,f2,d⟩
theorem Inv.unpinned {pins pl:List (Addr×Obj)} {σ:St} {H:Hp} {s:Qc} (I:Inv X (pins++pl) σ H s):Inv X pins σ H s:=I.pins_of λp hp=>I.pin p (RH _ (Wj _ hp))
theorem ps_for {iter:Expr} {body:List Stmt} {wi:TI} {g:TG} {tb:TS} {pos:Pos} (hp:Xq (model X.prog X.w) X.A X.env X.xe) (hc:X.calm=true) (hi:PI X tg iter wi) (hg:PG X tg g) (hb:PSs X body tb)
  (hs:∀ x,foldedSetIterable iter X.env x=pure x:=by intro _; rfl):PS X (.For tg iter body [] pos) (tFor wi g tb):=by
 intro pins s σ H D I h
 refine wpAny_For (thn (hi pins s σ H _ I h) λv s1 h1=>thn h1 λitv s2 h2=>?_) hs
 obtain ⟨it,fp,tn,J,H2,e,I2,T,st2,f2,W,⟨m0,w0⟩,turn⟩:=h2
 subst e
 have stat:∀ {H':Hp},(∀ b∈fp,H' b=none)->∀ b∈fp,FpOk X pins H' b:=λhn b hb=>⟨hn b hb,(f2 b hb).2⟩
 refine codeAny_forLoop_any (λn s'=>∃ i σ' H',Inv X pins σ' H' s'/\tn i s'.heap/\(∀ b∈fp,H' b=none)/\W i n σ' H') ?_ m0 ⟨0,σ,H2,I2,st2,λb hb=>(f2 b hb).1,w0⟩
 rintro n s3 ⟨i,σ3,H3,I3,st3,fr3,w3⟩
 rcases turn i n σ3 H3 w3 with ⟨stop,qn⟩ | ⟨go,N,hN,step⟩
 ·refine QF hp (thn (T.done X rfl rfl rfl hc i pins s3 σ3 H3 X.xe I3 (stat fr3) st3 stop) λr s4 ⟨hr,I4⟩=>?_)
  subst hr
  exact Q4 ⟨σ3,H3,I4,qn⟩
 ·refine QF hp (thn (T.item X rfl rfl rfl hc i pins s3 σ3 H3 X.xe I3 (stat fr3) st3 go) λr s4 ⟨u,hr,h4⟩=>?_)
  subst hr
  refine QF hp (thn h4 λ_ s5 ⟨x,H5,I5,r5,y5,st5,fr5⟩=>?_)
  have I5':=I5.pinned (stat fr5) (T.obj _ _ st5)
  refine QF hp (thn (hg _ s5 σ3 H5 x u _ I5' r5 (step x H5 y5)) λ_ s6 ⟨σ6,H6,I6,q6⟩=>?_)
  refine QF hp (thn (hb _ s6 σ6 H6 _ I6 q6) λf s7 q7=>?_)
  have again:∀ {σ7:St} {H7:Hp},Inv X (pins++Gv fp s5.heap) σ7 H7 s7->N σ7 H7->∃ m,m < n/\∃ i σ' H',Inv X pins σ' H' s7/\tn i s7.heap/\(∀ b∈fp,H' b=none)/\W i m σ' H':=λ{σ7 H7} I7 n7=>by
   obtain ⟨m',hm,w7⟩:=hN σ7 H7 n7
   refine ⟨m',hm,i + 1,σ7,H7,I7.unpinned,T.keep _ _ _ st5 λb hb o e=>(I7.pin (b,o) (RH _ (RH _ (Cc hb e)))).1,λb hb=>?_,w7⟩
   obtain ⟨o,e,d⟩:=T.obj _ _ st5 b hb
   exact (I7.pin (b,o) (RH _ (RH _ (Cc hb e)))).2.1
  cases f with
  | next=>obtain ⟨σ7,H7,I7,n7⟩:=q7; exact again I7 n7
  | cont=>obtain ⟨σ7,H7,I7,n7⟩:=q7; exact again I7 n7
  | brk=>obtain ⟨σ7,H7,I7,q7⟩:=q7; exact ⟨σ7,H7,I7.unpinned,q7⟩
  | ret v=>obtain ⟨x7,σ7,H7,I7,r7,q7⟩:=q7; exact ⟨x7,σ7,H7,I7.unpinned,r7,q7⟩
end
theorem CV {K:J4} {a:Addr} {xs:List V} {g:TG} {tb:TS} {D:Ends} {σ:St} {H:Hp} (Pv:Nat->St->Hp->Prop) (h0:Pv 0 σ H) (hl:∀ i σ H,i<=xs.length->Pv i σ H->SqL K H a xs)
  (hs:∀ i x σ H,xs[i]?=some x->Pv i σ H->g x σ H λσ2 H2=>tb { D with nx:=Pv (i + 1),ct:=Pv (i + 1),bk:=D.nx } σ2 H2) (hd:∀ σ H,Pv xs.length σ H->D.nx σ H) :
  ∃ W:Nat->Nat->St->Hp->Prop,(∃ m,W 0 m σ H)/\∀ i m σ H,W i m σ H->
   ((Itl K a).stop i H/\D.nx σ H)\/((Itl K a).go i H/\∃ N:St->Hp->Prop,(∀ σ' H',N σ' H'->∃ m',m' < m/\W (i + 1) m' σ' H')/\∀ x H',(Itl K a).yld i H x H'->g x σ H' λσ2 H2=>tb { D with nx:=N,ct:=N,bk:=D.nx } σ2 H2):=by
 refine ⟨λi m σ H=>m=xs.length - i/\i<=xs.length/\Pv i σ H,⟨xs.length,by simp,RP _,h0⟩,?_⟩
 rintro i m σ H ⟨rfl,hi,p⟩
 have q:=hl i σ H hi p
 by_cases hlt:i < xs.length
 ·refine .inr ⟨⟨xs,xs[i],q,by simp[hlt]⟩,Pv (i + 1),λσ' H' p'=>⟨xs.length - (i + 1),by omega,rfl,hlt,p'⟩,λx H' y=>?_⟩
  obtain ⟨e,y⟩:=y
  subst e
  exact hs i x σ _ (y xs q) p
 ·have e:i=xs.length:=by omega
  subst e
  exact .inl ⟨⟨xs,q,J8 _⟩,hd σ H p⟩
theorem Hn {K:J4} {a:Addr} {xs:List V} {g:TG} {tb:TS} {D:Ends} {σ:St} {H:Hp} (Pv:Nat->St->Hp->Prop) (h0:Pv 0 σ H) (hl:∀ i σ H,i<=xs.length->Pv i σ H->SqT K H a xs)
  (hs:∀ i x σ H,xs[i]?=some x->Pv i σ H->g x σ H λσ2 H2=>tb { D with nx:=Pv (i + 1),ct:=Pv (i + 1),bk:=D.nx } σ2 H2) (hd:∀ σ H,Pv xs.length σ H->D.nx σ H) :
  ∃ W:Nat->Nat->St->Hp->Prop,(∃ m,W 0 m σ H)/\∀ i m σ H,W i m σ H->
   ((Itt K a).stop i H/\D.nx σ H)\/((Itt K a).go i H/\∃ N:St->Hp->Prop,(∀ σ' H',N σ' H'->∃ m',m' < m/\W (i + 1) m' σ' H')/\∀ x H',(Itt K a).yld i H x H'->g x σ H' λσ2 H2=>tb { D with nx:=N,ct:=N,bk:=D.nx } σ2 H2):=by
 refine ⟨λi m σ H=>m=xs.length - i/\i<=xs.length/\Pv i σ H,⟨xs.length,by simp,RP _,h0⟩,?_⟩
 rintro i m σ H ⟨rfl,hi,p⟩
 have q:=hl i σ H hi p
 by_cases hlt:i < xs.length
 ·refine .inr ⟨⟨xs,xs[i],q,by simp[hlt]⟩,Pv (i + 1),λσ' H' p'=>⟨xs.length - (i + 1),by omega,rfl,hlt,p'⟩,λx H' y=>?_⟩
  obtain ⟨e,y⟩:=y
  subst e
  exact hs i x σ _ (y xs q) p
 ·have e:i=xs.length:=by omega
  subst e
  exact .inl ⟨⟨xs,q,J8 _⟩,hd σ H p⟩
theorem AM {lo:Int} {n:Nat} {g:TG} {tb:TS} {D:Ends} {σ:St} {H:Hp} (Pv:Nat->St->Hp->Prop) (h0:Pv 0 σ H)
  (hs:∀ i σ H,i < n->Pv i σ H->g (.int (lo + i)) σ H λσ2 H2=>tb { D with nx:=Pv (i + 1),ct:=Pv (i + 1),bk:=D.nx } σ2 H2) (hd:∀ σ H,Pv n σ H->D.nx σ H) :
  ∃ W:Nat->Nat->St->Hp->Prop,(∃ m,W 0 m σ H)/\∀ i m σ H,W i m σ H->
   ((Itr lo n).stop i H/\D.nx σ H)\/((Itr lo n).go i H/\∃ N:St->Hp->Prop,(∀ σ' H',N σ' H'->∃ m',m' < m/\W (i + 1) m' σ' H')/\∀ x H',(Itr lo n).yld i H x H'->g x σ H' λσ2 H2=>tb { D with nx:=N,ct:=N,bk:=D.nx } σ2 H2):=by
 refine ⟨λi m σ H=>m=n - i/\i<=n/\Pv i σ H,⟨n,by simp,RP _,h0⟩,?_⟩
 rintro i m σ H ⟨rfl,hi,p⟩
 by_cases hlt:i < n
 ·refine .inr ⟨hlt,Pv (i + 1),λσ' H' p'=>⟨n - (i + 1),by omega,rfl,hlt,p'⟩,λx H' y=>?_⟩
  obtain ⟨e,y⟩:=y
  subst e y
  exact hs i σ _ hlt p
 ·have e:i=n:=by omega
  subst e
  exact .inl ⟨J8 _,hd σ H p⟩
end L2
namespace L2
open PySem PySem.Spec PyProof.Rows
abbrev R2:=V->V->Hp->VK->Prop
def OpR (X:Cx) (f:Qb->Qb->Sem Qb) (r:R2):Prop:=
 ∀ (pins:List (Addr×Obj)) (s:Qc) (σ:St) (H:Hp) (x y:V) (v u:Qb) (Q:VK),Inv X pins σ H s->RelV x v->RelV y u->r x y H Q->
  Qf (model X.prog X.w) X.A (f v u) (EP X pins σ Q) X.xe s
def UnR (X:Cx) (f:Qb->Sem Qb) (r:V->Hp->VK->Prop):Prop:=
 ∀ (pins:List (Addr×Obj)) (s:Qc) (σ:St) (H:Hp) (x:V) (v:Qb) (Q:VK),Inv X pins σ H s->RelV x v->r x H Q->
  Qf (model X.prog X.w) X.A (f v) (EP X pins σ Q) X.xe s
def Bx (X:Cx) (f:Qb) (r:List V->Hp->VK->Prop):Prop:=
 ∀ (pins:List (Addr×Obj)) (s:Qc) (σ:St) (H:Hp) (xs:List V) (us:List Qb) (Q:VK),Inv X pins σ H s->Vals xs us->r xs H Q->
  Qf (model X.prog X.w) X.A (call f us) (EP X pins σ Q) X.xe s
def tOp (r:R2) (ta tb:TE):TE:=λσ H Q=>ta σ H λx H1=>tb σ H1 λy H2=>r x y H2 Q
def tUn (r:V->Hp->VK->Prop) (ta:TE):TE:=λσ H Q=>ta σ H λx H1=>r x H1 Q
def rI (C:Int->Int->Prop) (g:Int->Int->V):R2:=λx y H Q=>∃ i j,x=.int i/\y=.int j/\C i j/\Q (g i j) H
def rI0 (g:Int->Int->V):R2:=λx y H Q=>∃ i j,x=.int i/\y=.int j/\Q (g i j) H
def rU (g:Int->V):V->Hp->VK->Prop:=λx H Q=>∃ i,x=.int i/\Q (g i) H
section
variable {X:Cx} {a b c:Expr} {ta tb tc:TE} {pos:Pos}
theorem binT (ha:PE X a ta) (hb:PE X b tb) {pins:List (Addr×Obj)} {s:Qc} {σ:St} {H:Hp} {R:V->V->Hp->Prop} (I:Inv X pins σ H s)
  (h:ta σ H λx H1=>tb σ H1 λy H2=>R x y H2) {Q:Qb->Qc->Prop} {f:Qb->Qb->Sem Qb}
  (hf:∀ v u s2 x y H2,Inv X pins σ H2 s2->RelV x v->RelV y u->R x y H2->Qf (model X.prog X.w) X.A (f v u) Q X.xe s2) :
  Qf (model X.prog X.w) X.A (eval a X.env) (λv s₁=>Qf (model X.prog X.w) X.A (eval b X.env) (λu s₂=>Qf (model X.prog X.w) X.A (f v u) Q X.xe s₂) X.xe s₁) X.xe s:=by
 refine thn (ha pins s σ H _ I h) λv s1 ⟨x,H1,I1,r1,q1⟩=>?_
 refine thn (hb pins s1 σ H1 _ I1 q1) λu s2 ⟨y,H2,I2,r2,q2⟩=>?_
 exact hf v u s2 x y H2 I2 r1 r2 q2
theorem pe_op {op:Operator} {r:R2} (ho:OpR X (binaryOp op) r) (ha:PE X a ta) (hb:PE X b tb):PE X (.BinOp a op b pos) (tOp r ta tb):=by
 intro pins s σ H Q I h
 exact wpAny_BinOp (binT ha hb I h λv u s2 x y H2 I2 rx ry q=>ho pins s2 σ H2 x y v u Q I2 rx ry q)
theorem pe_un {op:UnaryOp} {r:V->Hp->VK->Prop} (ho:UnR X (unaryOp op) r) (ha:PE X a ta):PE X (.UnaryOp op a pos) (tUn r ta):=by
 intro pins s σ H Q I h
 exact UnaryOp_ (thn (ha pins s σ H _ I h) λv s1 ⟨x,H1,I1,r1,q1⟩=>ho pins s1 σ H1 x v Q I1 r1 q1)
theorem opI {f:Qb->Qb->Sem Qb} {C:Int->Int->Prop} {g:Int->Int->Int}
  (rule:∀ (i j:Int) (t u:Tok) (s:Qc) (Q:Qb->Qc->Prop) (E:Qb->Qc->Prop),C i j->Q (.int (g i j) s.toks) { s with toks:=s.toks + 1 }->Qf (model X.prog X.w) X.A (f (.int i t) (.int j u)) Q E s) :
  OpR X f (rI C λi j=>.int (g i j)):=by
 intro pins s σ H x y v u Q I rx ry h
 obtain ⟨i,j,rfl,rfl,hc,q⟩:=h
 obtain ⟨t,rfl⟩:=rx
 obtain ⟨t',rfl⟩:=ry
 exact rule i j t t' s _ _ hc ⟨.int (g i j),H,I.tok _,⟨_,rfl⟩,q⟩
theorem opI0 {f:Qb->Qb->Sem Qb} {g:Int->Int->Int}
  (rule:∀ (i j:Int) (t u:Tok) (s:Qc) (Q:Qb->Qc->Prop) (E:Qb->Qc->Prop),Q (.int (g i j) s.toks) { s with toks:=s.toks + 1 }->Qf (model X.prog X.w) X.A (f (.int i t) (.int j u)) Q E s) :
  OpR X f (rI0 λi j=>.int (g i j)):=by
 intro pins s σ H x y v u Q I rx ry h
 obtain ⟨i,j,rfl,rfl,q⟩:=h
 obtain ⟨t,rfl⟩:=rx
 obtain ⟨t',rfl⟩:=ry
 exact rule i j t t' s _ _ ⟨.int (g i j),H,I.tok _,⟨_,rfl⟩,q⟩
theorem opB0 {f:Qb->Qb->Sem Qb} {g:Int->Int->Bool}
  (rule:∀ (i j:Int) (t u:Tok) (s:Qc) (Q:Qb->Qc->Prop) (E:Qb->Qc->Prop),Q (.bool (g i j)) s->Qf (model X.prog X.w) X.A (f (.int i t) (.int j u)) Q E s) :
  OpR X f (rI0 λi j=>.bl (g i j)):=by
 intro pins s σ H x y v u Q I rx ry h
 obtain ⟨i,j,rfl,rfl,q⟩:=h
 obtain ⟨t,rfl⟩:=rx
 obtain ⟨t',rfl⟩:=ry
 exact rule i j t t' s _ _ ⟨.bl (g i j),H,I,rfl,q⟩
def CDiv (i j:Int):Prop:=0 < j/\j < 1073741824
def CPow (i j:Int):Prop:=0<=j/\j<=1000000/\i.natAbs < 2 ^ 64
def CMul (i j:Int):Prop:=(-(2 ^ 64) < i/\i < 2 ^ 64)\/(-(2 ^ 64) < j/\j < 2 ^ 64)
theorem CMul.ok {i j:Int} (h:CMul i j):IntMulOk i j:=by
 rcases h with ⟨h1,h2⟩ | ⟨h1,h2⟩
 ·exact .of_left (intBits_le_64 h1 h2)
 ·exact .of_right (intBits_le_64 h1 h2)
theorem AZ:OpR X (binaryOp .Add) (rI0 λi j=>.int (i + j)):=opI0 λ_ _ _ _ _ _ _ q=>add_int q
theorem Fp:OpR X (binaryOp .Sub) (rI0 λi j=>.int (i - j)):=opI0 λ_ _ _ _ _ _ _ q=>sub_int q
theorem Bd:OpR X (binaryOp .Mult) (rI CMul λi j=>.int (i * j)):=opI λ_ _ _ _ _ _ _ hc q=>mul_int q hc.ok
theorem By:OpR X (binaryOp .FloorDiv) (rI CDiv λi j=>.int (i / j)):=opI λi j _ _ _ _ _ hc q=>by
 have h1:(0:Int) < j:=hc.1
 have h2:j < 1073741824:=hc.2
 exact floordiv_int (by omega) (by rw[Int.fdiv_eq_ediv_of_nonneg i (by omega)]; exact q) (.inl (Zm (by omega)))
theorem Bv:OpR X (binaryOp .Mod) (rI (λ_ j=>0 < j) λi j=>.int (i % j)):=opI λi j _ _ _ _ _ hc q=>by
 have h1:(0:Int) < j:=hc
 exact mod_int' (by omega) (by rw[Int.fmod_eq_emod_of_nonneg i (by omega)]; exact q)
theorem op_pow:OpR X (binaryOp .Pow) (rI CPow λi j=>.int (i ^ j.toNat)):=opI λ_ _ _ _ _ _ _ hc q=>pow_int_small hc.1 hc.2.1 hc.2.2 q
theorem unI {f:Qb->Sem Qb} {g:Int->Int}
  (rule:∀ (i:Int) (t:Tok) (s:Qc) (Q:Qb->Qc->Prop) (E:Qb->Qc->Prop),Q (.int (g i) s.toks) { s with toks:=s.toks + 1 }->Qf (model X.prog X.w) X.A (f (.int i t)) Q E s) :
  UnR X f (rU λi=>.int (g i)):=by
 intro pins s σ H x v Q I rx h
 obtain ⟨i,rfl,q⟩:=h
 obtain ⟨t,rfl⟩:=rx
 exact rule i t s _ _ ⟨.int (g i),H,I.tok _,⟨_,rfl⟩,q⟩
theorem KW:UnR X (unaryOp .USub) (rU λi=>.int (-i)):=unI λ_ _ _ _ _ q=>neg_int q
end
def scal:V->V->Bool
 | .non,.non=>true | .non,.int _=>true | .int _,.non=>true | .non,.bl _=>true | .bl _,.non=>true | .non,.str _=>true | .str _,.non=>true
 | .int _,.int _=>true | .bl _,.bl _=>true | .str _,.str _=>true | .byt _,.byt _=>true
 | .int _,.str _=>true | .str _,.int _=>true | .bl _,.str _=>true | .str _,.bl _=>true
 | _,_=>false
def rEq:R2:=λx y H Q=>scal x y=true/\Q (.bl (decide (x=y))) H
def rNe:R2:=λx y H Q=>scal x y=true/\Q (.bl (!decide (x=y))) H
theorem Jr {i j:Int}:decide (V.int i=V.int j)=(i == j):=by
 rw[Wb]
 simp
theorem KY {i j:Bool}:decide (V.bl i=V.bl j)=(i == j):=by
 rw[Wb]
 simp
theorem Js {i j:Str}:decide (V.str i=V.str j)=(i == j):=by
 rw[Wb]
 simp
theorem Jt {i j:Array UInt8}:decide (V.byt i=V.byt j)=(i.toList == j.toList):=by
 rw[Wb]
 cases i
 cases j
 simp
section
variable {X:Cx} {a b c:Expr} {ta tb tc:TE} {pos:Pos}
theorem AU {pins:List (Addr×Obj)} {σ:St} {H:Hp} {s:Qc} {Q:VK} {k k':Bool} (I:Inv X pins σ H s) (q:Q (.bl k) H) (e:k=k'):EP X pins σ Q (.bool k') s:=by
 subst e
 exact ⟨.bl k,H,I,rfl,q⟩
theorem Ju:OpR X (compareOp .Eq) rEq:=by
 intro pins s σ H x y v u Q I rx ry h
 obtain ⟨hs,q⟩:=h
 cases x with
 | non=>
  cases rx
  cases y with
  | non=>cases ry; exact Jf6 (AU I q (by simp))
  | bl j=>cases ry; exact Jf8 (AU I q (by simp))
  | int j=>obtain ⟨t',rfl⟩:=ry; exact Jf7 (AU I q (by simp))
  | str j=>obtain ⟨t',rfl⟩:=ry; exact Jf5 (AU I q (by simp))
  | _=>exact absurd (show false=true from hs) Rx
 | bl i=>
  cases rx
  cases y with
  | non=>cases ry; exact Jg0 (AU I q (by simp))
  | bl j=>cases ry; exact eq_bool (AU I q KY)
  | str j=>obtain ⟨t',rfl⟩:=ry; exact Je4 (AU I q (by simp))
  | _=>exact absurd (show false=true from hs) Rx
 | int i=>
  obtain ⟨t,rfl⟩:=rx
  cases y with
  | non=>cases ry; exact Jf9 (AU I q (by simp))
  | int j=>obtain ⟨t',rfl⟩:=ry; exact eq_int (AU I q Jr)
  | str j=>obtain ⟨t',rfl⟩:=ry; exact Je3 (AU I q (by simp))
  | _=>exact absurd (show false=true from hs) Rx
 | str i=>
  obtain ⟨t,rfl⟩:=rx
  cases y with
  | non=>cases ry; exact Jf4 (AU I q (by simp))
  | bl j=>cases ry; exact Je2 (AU I q (by simp))
  | int j=>obtain ⟨t',rfl⟩:=ry; exact Je1 (AU I q (by simp))
  | str j=>obtain ⟨t',rfl⟩:=ry; exact eq_str (AU I q Js)
  | _=>exact absurd (show false=true from hs) Rx
 | byt i=>
  obtain ⟨t,rfl⟩:=rx
  cases y with
  | byt j=>obtain ⟨t',rfl⟩:=ry; exact PySem.W.eq_bytes (AU I q Jt)
  | _=>exact absurd (show false=true from hs) Rx
 | _=>cases y <;> exact absurd (show false=true from hs) Rx
theorem Gw:OpR X (compareOp .NotEq) rNe:=by
 intro pins s σ H x y v u Q I rx ry h
 obtain ⟨hs,q⟩:=h
 cases x with
 | non=>
  cases rx
  cases y with
  | non=>cases ry; exact Je9 (AU I q (by simp))
  | bl j=>cases ry; exact Jf1 (AU I q (by simp))
  | int j=>obtain ⟨t',rfl⟩:=ry; exact Jf0 (AU I q (by simp))
  | str j=>obtain ⟨t',rfl⟩:=ry; exact Je8 (AU I q (by simp))
  | _=>exact absurd (show false=true from hs) Rx
 | bl i=>
  cases rx
  cases y with
  | non=>cases ry; exact Jf3 (AU I q (by simp))
  | bl j=>cases ry; exact ne_bool (AU I q (congrArg not KY))
  | str j=>obtain ⟨t',rfl⟩:=ry; exact Je0 (AU I q (by simp))
  | _=>exact absurd (show false=true from hs) Rx
 | int i=>
  obtain ⟨t,rfl⟩:=rx
  cases y with
  | non=>cases ry; exact Jf2 (AU I q (by simp))
  | int j=>obtain ⟨t',rfl⟩:=ry; exact ne_int (AU I q (congrArg not Jr))
  | str j=>obtain ⟨t',rfl⟩:=ry; exact Jd9 (AU I q (by simp))
  | _=>exact absurd (show false=true from hs) Rx
 | str i=>
  obtain ⟨t,rfl⟩:=rx
  cases y with
  | non=>cases ry; exact Je7 (AU I q (by simp))
  | bl j=>cases ry; exact Jd8 (AU I q (by simp))
  | int j=>obtain ⟨t',rfl⟩:=ry; exact Jd7 (AU I q (by simp))
  | str j=>obtain ⟨t',rfl⟩:=ry; exact ne_str (AU I q (congrArg not Js))
  | _=>exact absurd (show false=true from hs) Rx
 | byt i=>
  obtain ⟨t,rfl⟩:=rx
  cases y with
  | byt j=>obtain ⟨t',rfl⟩:=ry; exact PySem.W.ne_bytes (AU I q (congrArg not Jt))
  | _=>exact absurd (show false=true from hs) Rx
 | _=>cases y <;> exact absurd (show false=true from hs) Rx
theorem DE:OpR X (compareOp .Lt) (rI0 λi j=>.bl (decide (i < j))):=opB0 λ_ _ _ _ _ _ _ q=>lt_int q
theorem Mj:OpR X (compareOp .LtE) (rI0 λi j=>.bl (decide (i<=j))):=opB0 λ_ _ _ _ _ _ _ q=>le_int q
theorem Ec:OpR X (compareOp .Gt) (rI0 λi j=>.bl (decide (j < i))):=opB0 λ_ _ _ _ _ _ _ q=>gt_int q
theorem Ml:OpR X (compareOp .GtE) (rI0 λi j=>.bl (decide (j<=i))):=opB0 λ_ _ _ _ _ _ _ q=>ge_int q
theorem DF:OpR X (compareOp .IsNot) (λx y H Q=>y=.non/\Q (.bl (!decide (x=.non))) H):=by
 intro pins s σ H x y v u Q I rx ry h
 obtain ⟨rfl,q⟩:=h
 cases ry
 refine isnot_none_gen (AU I q ?_)
 cases x <;> first
  | (cases rx; rfl)
  | (obtain ⟨t,rfl⟩:=rx; rfl)
theorem Az (b:Expr) {op:CmpOp} (h:op≠.In:=by decide) (h2:op≠.NotIn:=by decide):behindInMarks op b=false:=by
 have e1:(op == CmpOp.In)=false:=by cases op <;> first | rfl | exact absurd rfl h
 have e2:(op == CmpOp.NotIn)=false:=by cases op <;> first | rfl | exact absurd rfl h2
 cases b <;> simp[behindInMarks,e1,e2]
theorem pe_cmpR {op:CmpOp} {r:R2} (ho:OpR X (compareOp op) r) (ha:PE X a ta) (hb:PE X b tb) (hm:behindInMarks op b=false):PE X (.Compare a [op] [b] pos) (tOp r ta tb):=by
 intro pins s σ H Q I h
 exact wpAny_Compare1 (binT ha hb I h λv u s2 x y H2 I2 rx ry q=>ho pins s2 σ H2 x y v u Q I2 rx ry q) hm
def Mm (t:TE):TT:=λσ H Q=>t σ H λx H'=>∃ k,x=.bl k/\Q k H'
theorem pt_cmpR {op:CmpOp} {r:R2} (ho:OpR X (compareOp op) r) (ha:PE X a ta) (hb:PE X b tb) (hm:behindInMarks op b=false):PT X (.Compare a [op] [b] pos) (Mm (tOp r ta tb)):=by
 intro pins s σ H Q I h
 refine Xg (thn (ha pins s σ H _ I h) λv s1 ⟨x,H1,I1,r1,q1⟩=>thn (hb pins s1 σ H1 _ I1 q1) λu s2 ⟨y,H2,I2,r2,q2⟩=>
  thn (ho pins s2 σ H2 x y v u _ I2 r1 r2 q2) λc s3 ⟨z,H3,I3,r3,k,e,q3⟩=>?_) hm
 subst e
 cases r3
 exact QC ⟨H3,I3,q3⟩
def KZ (r r':R2) (ta tb tc:TE):TE:=λσ H Q=>ta σ H λx H1=>tb σ H1 λy H2=>r x y H2 λz H3=>∃ k,z=.bl k/\
 (if k=true then tc σ H3 λw' H4=>r' y w' H4 Q else Q (.bl false) H3)
theorem pe_chain {op op':CmpOp} {r r':R2} (ho:OpR X (compareOp op) r) (ho':OpR X (compareOp op') r') (ha:PE X a ta) (hb:PE X b tb) (hc:PE X c tc)
  (hm:lastMarks [op,op'] [b,c]=false:=by with_unfolding_all rfl):PE X (.Compare a [op,op'] [b,c] pos) (KZ r r' ta tb tc):=by
 intro pins s σ H Q I h
 refine Compare_chain (thn (ha pins s σ H _ I h) λv s1 ⟨x,H1,I1,r1,q1⟩=>chain_link (thn (hb pins s1 σ H1 _ I1 q1) λu s2 ⟨y,H2,I2,r2,q2⟩=>
  thn (ho pins s2 σ H2 x y v u _ I2 r1 r2 q2) λd s3 ⟨z,H3,I3,r3,k,e,q3⟩=>?_)) hm
 subst e
 cases r3
 refine QC ?_
 cases k with
 | false=>exact ite_ff ⟨.bl false,H3,I3,rfl,q3⟩
 | true=>exact ite_tt (chain_last (thn (hc pins s3 σ H3 _ I3 q3) λw' s4 ⟨z',H4,I4,r4,q4⟩=>ho' pins s4 σ H4 y z' u w' Q I4 r2 r4 q4))
theorem Er:(Qe:Nat) < 2 ^ 63:=by rw[QN]; decide
theorem CB {x:V} {us:List Qb} (r:Vals [x] us):∃ u,us=[u]/\RelV x u:=by
 cases r with
 | cons r1 r2=>cases r2; exact ⟨_,rfl,r1⟩
theorem vals2 {x y:V} {us:List Qb} (r:Vals [x,y] us):∃ u w',us=[u,w']/\RelV x u/\RelV y w':=by
 cases r with
 | cons r1 r2=>
  cases r2 with
  | cons r3 r4=>cases r4; exact ⟨_,_,rfl,r1,r3⟩
theorem call_abs:Bx X (.builtin "abs") (λxs H Q=>∃ i,xs=[.int i]/\Q (.int (if i < 0 then -i else i)) H):=by
 intro pins s σ H xs us Q I r h
 obtain ⟨i,rfl,q⟩:=h
 obtain ⟨u,rfl,t,rfl⟩:=CB r
 exact call_abs_int λu tk=>⟨.int (if i < 0 then -i else i),H,I.tok _,⟨_,rfl⟩,q⟩
theorem call_int1:Bx X (.type "int") (λxs H Q=>(∃ i,xs=[.int i]/\Q (.int i) H)\/∃ k,xs=[.bl k]/\Q (.int (if k then 1 else 0)) H):=by
 intro pins s σ H xs us Q I r h
 rcases h with ⟨i,rfl,q⟩ | ⟨k,rfl,q⟩
 ·obtain ⟨u,rfl,t,rfl⟩:=CB r
  exact call_int_int ⟨.int i,H,I,⟨_,rfl⟩,q⟩
 ·obtain ⟨u,rfl,r1⟩:=CB r
  cases r1
  exact call_int_bool ⟨.int (if k then 1 else 0),H,I.tok _,⟨_,rfl⟩,q⟩
end
end L2
namespace L2
open PySem PySem.Spec PyProof.Rows
structure ObjM (h:Heap) (x dx C:Addr) (mA:Str->Option Qb):Prop where
 obj:h.get? x=some (UX C dx)
 ns:h.Ns1 dx mA
 ne:dx≠x
theorem lookIn_ns {h:Heap} {dx:Addr} {mA:Str->Option Qb} (n:h.Ns1 dx mA):∃ od,h.get? dx=some od/\∀ name,Yk name od=some (mA name):=by
 obtain ⟨o,es,ep,ho,hd,hk,_,hm⟩:=n
 refine ⟨o,ho,λname=>?_⟩
 have e:=hm name
 unfold nsFind findBy at e
 rw[<- Array.find?_toList]at e
 unfold Yk
 rw[hd]
 dsimp only
 split
 ·rename_i y q
  rw[q]at e
  exact congrArg some e
 ·rename_i q
  rw[q]at e
  have a:es.toList.any (·.refKey)=false:=by
   rw[Ja7]
   intro y hy
   obtain ⟨z,t,hkey⟩:=hk y (WQ.mp hy)
   simp[DictEntry.refKey,hkey]
  have a':¬ es.toList.any (·.refKey)=true:=by rw[a]; exact Rx
  rw[if_neg a']
  exact congrArg some e
theorem ObjM.look {h:Heap} {x dx C:Addr} {mA:Str->Option Qb} (I:ObjM h x dx C mA):∃ od,PySem.W.InstAt h x (UX C dx) C (some od)/\∀ name,Yk name od=some (mA name):=
 let ⟨od,ho,hl⟩:=lookIn_ns I.ns
 ⟨od,⟨I.obj,rfl,rfl,ho⟩,hl⟩
section
variable {prog:Qj} {w:Qk} {A:Qm} {E:Qb->Qc->Prop} {s:Qc} {K:J4} {x dx C f:Addr} {mA:Str->Option Qb} {name:Str} {v:Qb}
theorem get_map {expr:Bool} {Q:Qb->Qc->Prop} (X:K.In s.heap) (I:ObjM s.heap x dx C mA) (hg:WI K C name=true) (hh:W0 K C=true)
  (ha:R0 K (.ref C) name=some none) (hv:mA name=some v) (hv':ZT v=true) (h:Q v { s with toks:=s.toks + 1 }) :
  Qf (model prog w) A (getAttr (.ref x) name expr) Q E s:=by
 obtain ⟨od,J,hl⟩:=I.look
 exact PySem.W.get_value X J (Yl hg).1 (PySem.W.findObj_own hh ha rfl (by rw[hl,hv])) hv' h
theorem get_meth {pl:Sem Bool} {Q:Qb×List Qb->Qc->Prop} (X:K.In s.heap) (I:ObjM s.heap x dx C mA) (hg:WI K C name=true)
  (hf:R0 K (.ref C) name=some (some (.ref f))) (ht:Wl K (.ref f)=true) (hv:mA name=none) (h:Q (.ref f,[.ref x]) s) :
  Qf (model prog w) A (getMethod (.ref x) name pl) Q E s:=by
 obtain ⟨od,J,hl⟩:=I.look
 exact PySem.W.method_fn X J (Yl hg).1 (Yl hg).2 hf (beq_iff_eq.mp ht) (by show (Yk name od).map (·.isSome)=some false; rw[hl,hv]; rfl) h
theorem set_map {ns:List Str} {Q:Unit->Qc->Prop} (X:K.In s.heap) (I:ObjM s.heap x dx C mA)
  (hs:R0 K (.ref C) "__setattr__"=some (some (.builtin "object.__setattr__"))) (hp:Yy K C=true) (ht:YK K C name=some none) (hh:W0 K C=true)
  (hw:Zz mA ns) (hsz:ns.length<=Qe)
  (h:∀ h',ObjM h' x dx C (λy=>if y=name then some v else mA y)->Heap.SameBut dx s.heap h'->Q () { s with heap:=h',toks:=s.toks + 2 }) :
  Qf (model prog w) A (setAttr (.ref x) name v) Q E s:=by
 obtain ⟨od,J,hl⟩:=I.look
 refine PySem.W.set_plain X J hs (PySem.W.osa_open (s:={ s with toks:=s.toks + 1 }) (r:=none) X J hp ht λb=>?_)
 obtain ⟨cd,hc,hd'⟩:=PySem.W.any_some hh
 have hx:s.heap.get? x=some ⟨.ref C,some dx,.plain,#[]⟩:=I.obj
 refine Qa (Qd (Qa (Qa (wpAny_loadPart hx (Qa (Jd6 (s:={ s with toks:=s.toks + 1 }) (PySem.W.looks_clsIn X hc) ?_))))))
 rw[hd']
 refine Qd (a:=some dx) (Qa (Qd (Qa ?_)))
 refine wpAny_nsSet1 (s:={ s with toks:=s.toks + 1 }) I.ns λh' hn2 hs2=>?_
 obtain ⟨oD,esD,epD,hoD,hdD,hcD⟩:=hn2.count (Je6 name v hw)
 refine Qa (wpAny_lookBehind hoD (by rw[hdD]; exact pastItsLine_dict (J6 hcD (by rw[Rq]; omega))) ?_)
 exact Qd (h _ ⟨(hs2.2 _ (UQ I.ne)).trans I.obj,hn2,I.ne⟩ hs2)
theorem make_map {R:Result->Qc->Prop} {vs:List Qb} {kw:List (Str×Qb)} (X:K.In s.heap) (hm:Yb K C=true)
  (hi:R0 K (.ref C) "__init__"=some (some (.ref f))) (hf:PySem.W.typeIn K (.ref f)=some (.type "function"))
  (h:QJ (model prog w) (A.under (.builtin "type.__call__" ⟨.ref C::vs,kw⟩)) (.call (.ref f) ⟨.ref (s.heap.objs.size + 1)::vs,kw⟩) (PySem.W.InitBack (s.heap.objs.size + 1) R)
   { s with heap:=(s.heap.push Uz).push (UX C s.heap.objs.size) }) :
  QJ (model prog w) A (.call (.ref C) ⟨vs,kw⟩) R s:=by
 obtain ⟨hh,g,d,t,os⟩:=s
 exact PySem.W.make_core (PySem.W.makes_of X hm) (PySem.W.looks_findIn X hi) (λself=>PySem.W.bind_fn X self hf) (.inl rfl) h
end
def putF (f:Str) (v:V):List (Str×V)->List (Str×V)
 | []=>[(f,v)]
 | (g,x)::r=>if g=f then (g,v)::r else (g,x)::putF f v r
theorem AV (f g:Str) (v:V):∀ fs:List (Str×V),(putF f v fs).lookup g=if g=f then some v else fs.lookup g
 | []=>by
  show U3 g [(f,v)]=_
  by_cases h:g=f
  ·have hb:(g == f)=true:=beq_iff_eq.mpr h
   simp only[U3,hb,if_pos h]
  ·have hb:(g == f)=false:=beq_eq_false_iff_ne.mpr h
   simp only[U3,hb,if_neg h]
 | (k,x)::r=>by
  have ih:=AV f g v r
  rw[show putF f v ((k,x)::r)=(if k=f then (k,v)::r else (k,x)::putF f v r) from rfl]
  by_cases hk:k=f
  ·rw[if_pos hk]
   by_cases h:g=k
   ·have hb:(g == k)=true:=beq_iff_eq.mpr h
    simp only[U3,hb,if_pos (h.trans hk)]
   ·have hb:(g == k)=false:=beq_eq_false_iff_ne.mpr h
    simp only[U3,hb,if_neg (λe:g=f=>h (e.trans hk.symm))]
  ·rw[if_neg hk]
   by_cases h:g=k
   ·have hb:(g == k)=true:=beq_iff_eq.mpr h
    simp only[U3,hb,if_neg (λe:g=f=>hk (h.symm.trans e))]
   ·have hb:(g == k)=false:=beq_eq_false_iff_ne.mpr h
    simp only[U3,hb]
    exact ih
theorem Es (f:Str) (v:V):∀ fs:List (Str×V),f∈(putF f v fs).map (·.1)/\∀ g,g∈fs.map (·.1)->g∈(putF f v fs).map (·.1)
 | []=>⟨by simp[putF],λg h=>by simp at h⟩
 | (k,x)::r=>by
  obtain ⟨i1,i2⟩:=Es f v r
  rw[show putF f v ((k,x)::r)=(if k=f then (k,v)::r else (k,x)::putF f v r) from rfl]
  by_cases hk:k=f
  ·rw[if_pos hk]
   subst hk
   exact ⟨by simp,λg h=>by simpa using h⟩
  ·rw[if_neg hk]
   refine ⟨?_,λg h=>?_⟩
   ·rw[Rt]
    exact Re _ i1
   ·rw[Rt]at h ⊢
    rcases Rg.mp h with e | e
    ·exact Rg.mpr (.inl e)
    ·exact Re _ (i2 g e)
theorem BO (f:Str) (v:V):∀ fs:List (Str×V),(putF f v fs).length<=fs.length + 1
 | []=>by simp[putF]
 | (k,x)::r=>by
  have ih:=BO f v r
  rw[show putF f v ((k,x)::r)=(if k=f then (k,v)::r else (k,x)::putF f v r) from rfl]
  by_cases hk:k=f
  ·rw[if_pos hk,Rq,Rq]; omega
  ·rw[if_neg hk,Rq,Rq]; omega
theorem RelO.some_of {v:V} {o:Option Qb} (r:RelO (some v) o):∃ u,o=some u/\RelV v u:=by
 cases o with
 | none=>exact (show False from r).elim
 | some u=>exact ⟨u,rfl,r⟩
theorem RelO.none_of {o:Option Qb} (r:RelO none o):o=none:=by
 cases o with
 | none=>rfl
 | some u=>exact (show False from r).elim
theorem handed_of {v:V} {u:Qb} (r:RelV v u):ZT u=true:=by
 cases v with
 | non=>cases (show u=Value.none from r); rfl
 | bl b=>cases (show u=Value.bool b from r); rfl
 | int i=>obtain ⟨t,e⟩:=(show ∃ t,u=Value.int i t from r); cases e; rfl
 | str x=>obtain ⟨t,e⟩:=(show ∃ t,u=Value.str x t from r); cases e; rfl
 | byt b=>obtain ⟨t,e⟩:=(show ∃ t,u=Value.bytes b t from r); cases e; rfl
 | flt b=>obtain ⟨t,e⟩:=(show ∃ t,u=Value.float b t from r); cases e; rfl
 | ref a=>cases (show u=Value.ref a from r); rfl
 | ty n=>cases (show u=Value.type n from r); rfl
section
variable {P:Qj} {w:Qk} {H H':Hp} {h h':Heap} {a C dx:Addr} {fs fs':List (Str×V)}
theorem FE (hok:HOk P w H h) (e:H a=some (.ins C dx fs)):∃ mA,ObjM h a dx C mA/\(∀ f,RelO (fs.lookup f) (mA f))/\Zz mA (fs.map (·.1))/\fs.length<=1000/\H dx=some (.own a):=by
 obtain ⟨d,z,ne,ob,mA,n,r,q⟩:=(show ObjOk P w H h a (.ins C dx fs) from hok a _ e)
 exact ⟨mA,⟨ob,n,ne⟩,r,q,z,d⟩
end
structure Cls (K:J4) (C:Addr):Prop where
 pg:WI K C Str.empty=true
 hd:W0 K C=true
 po:Yy K C=true
 sa:R0 K (.ref C) "__setattr__"=some (some (.builtin "object.__setattr__"))
theorem Cls.get {K:J4} {C:Addr} (c:Cls K C) (f:Str):WI K C f=true:=c.pg
def NoAttr (K:J4) (C:Addr) (f:Str):Prop:=R0 K (.ref C) f=some none
theorem NoAttr.taker {K:J4} {C:Addr} {f:Str} (n:NoAttr K C f):YK K C f=some none:=by
 unfold YK
 rw[show R0 K (.ref C) f=some none from n]
 rfl
structure Meth (K:J4) (C:Addr) (m:Str) (f:Addr):Prop where
 at_:R0 K (.ref C) m=some (some (.ref f))
 fn:Wl K (.ref f)=true
 kp:Ud K (.ref f)=true
section
variable {X:Cx} {pins:List (Addr×Obj)} {σ:St} {H:Hp} {s:Qc} {a C dx:Addr} {fs:List (Str×V)} {f:Str} {v:V} {A:Qm} {E:Qb->Qc->Prop}
theorem getattr_ok {b:Bool} {Q:Qb->Qc->Prop} (I:Inv X pins σ H s) (e:H a=some (.ins C dx fs)) (c:Cls X.K C) (n:NoAttr X.K C f) (l:fs.lookup f=some v)
  (h:∀ u s',Inv X pins σ H s'->RelV v u->Q u s'):Qf (model X.prog X.w) A (getAttr (.ref a) f b) Q E s:=by
 obtain ⟨mA,O,r,_,_,_⟩:=FE I.hok e
 obtain ⟨u,hu,ru⟩:=RelO.some_of (v:=v) (o:=mA f) (by rw[<- l]; exact r f)
 exact get_map I.kIn O (c.get f) c.hd n hu (handed_of ru) (h u _ (I.tok _) ru)
theorem Fq {m:Str} {g:Addr} {pl:Sem Bool} {Q:Qb×List Qb->Qc->Prop} (I:Inv X pins σ H s) (e:H a=some (.ins C dx fs)) (c:Cls X.K C) (k:Meth X.K C m g) (l:fs.lookup m=none)
  (h:Q (.ref g,[.ref a]) s):Qf (model X.prog X.w) A (getMethod (.ref a) m pl) Q E s:=by
 obtain ⟨mA,O,r,_,_,_⟩:=FE I.hok e
 have hn:mA m=none:=RelO.none_of (by rw[<- l]; exact r m)
 exact get_meth I.kIn O (c.get m) k.at_ k.fn hn h
theorem setattr_ok {y:V} {u:Qb} {Q:Unit->Qc->Prop} (I:Inv X pins σ H s) (e:H a=some (.ins C dx fs)) (c:Cls X.K C) (n:NoAttr X.K C f) (hl:fs.length < 1000) (ry:RelV y u)
  (h:∀ s',Inv X pins σ (upd H a (.ins C dx (putF f y fs))) s'->Q () s'):Qf (model X.prog X.w) A (setAttr (.ref a) f u) Q E s:=by
 obtain ⟨mA,O,r,wi,_,ho⟩:=FE I.hok e
 have hz:(fs.map (·.1)).length<=Qe:=by rw[J0,QN]; omega
 refine set_map I.kIn O c.sa c.po n.taker c.hd wi hz λh' O' sb=>h _ ?_
 have hd:∃ o,h'.get? dx=some o:=let ⟨o,_,_,e',_⟩:=O'.ns; ⟨o,e'⟩
 refine I.write (x:=a) (e:=dx) (by rw[e]; exact We) (.inr ho) (λb q hb z=>(sb.2 b hb).trans z) hd ?_
 refine ⟨by rw[As O.ne]; exact ho,?_,O.ne,O'.obj,_,O'.ns,λg=>?_,λg hg=>?_⟩
 ·have:=BO f y fs; omega
 ·show RelO ((putF f y fs).lookup g) (if g=f then some u else mA g)
  rw[AV]
  by_cases q:g=f
  ·rw[if_pos q,if_pos q]; exact ry
  ·rw[if_neg q,if_neg q]; exact r g
 ·by_cases q:g=f
  ·rw[q]; exact (Es f y fs).1
  ·refine (Es f y fs).2 g (wi g λz=>hg ?_)
   show (if g=f then some u else mA g)=none
   rw[if_neg q]; exact z
theorem Inv.made (I:Inv X pins σ H s):Inv X pins σ (upd (upd H s.heap.objs.size (.own (s.heap.objs.size + 1))) (s.heap.objs.size + 1) (.ins C s.heap.objs.size []))
  { s with heap:=(s.heap.push Uz).push (UX C s.heap.objs.size) }:=by
 have e1:(s.heap.push Uz).get? s.heap.objs.size=some Uz:=Heap.get?_push_size s.heap rfl
 have e2:((s.heap.push Uz).push (UX C s.heap.objs.size)).get? (s.heap.objs.size + 1)=some (UX C s.heap.objs.size):=by
  have:=Heap.get?_push_size (s.heap.push Uz) (o:=UX C s.heap.objs.size) rfl
  rwa [Heap.size_push]at this
 have e3:(s.heap.push Uz).Ns s.heap.objs.size (λ_=>none):=⟨Uz,#[],_,e1,rfl,(λe he=>absurd he (by simp)),λ_=>rfl⟩
 have I1:=I.laid (a:=s.heap.objs.size) (o:=.own (s.heap.objs.size + 1)) (h':=s.heap.push Uz) (t':=s.toks) (λb u q=>Heap.get?_push_of_some _ q) (J8 _) ⟨_,e1⟩
 refine I1.laid (a:=s.heap.objs.size + 1) (o:=.ins C s.heap.objs.size []) (t':=s.toks) (λb u q=>Heap.get?_push_of_some _ q) (ZQ (Heap.size_push _ _)) ?_
 have ne:s.heap.objs.size≠s.heap.objs.size + 1:=RC (Ul _)
 refine ⟨by rw[As ne,Aa],RP _,ne,e2,λ_=>none,(Heap.Ns1.of_empty e3).at λo q=>Heap.get?_push_of_some _ q,λ_=>We,λy hy=>absurd rfl hy⟩
theorem attr_of {prog:Qj} {w:Qk} {env:Env} {e:Expr} {f:Str} {pos:Pos} {s:Qc} {Q:Qb->Qc->Prop} (hb:attributeBase e f env (eval e env)=eval e env)
  (h:Qf (model prog w) A (eval e env) (λo s₁=>Qf (model prog w) A (getAttr o f true) Q E s₁) E s):Qf (model prog w) A (eval (.Attribute e f pos) env) Q E s:=
 Attribute_any_ h (by rw[arm_eval_Attribute,hb])
end
def tFld (K:J4) (ta:TE) (f:Str):TE:=λσ H Q=>ta σ H λx H1=>∃ a C dx fs v,x=.ref a/\H1 a=some (.ins C dx fs)/\Cls K C/\NoAttr K C f/\fs.lookup f=some v/\Q v H1
def sFld (K:J4) (ta tv:TE) (f:Str):TS:=λD σ H=>tv σ H λy H1=>ta σ H1 λx H2=>∃ a C dx fs,x=.ref a/\H2 a=some (.ins C dx fs)/\Cls K C/\NoAttr K C f/\fs.length < 1000/\
 D.nx σ (upd H2 a (.ins C dx (putF f y fs)))
section
variable {X:Cx} {o e value:Expr} {f:Str} {pos pos' tpos:Pos} {ta tv:TE}
theorem pe_fld (he:PE X e ta) (hb:attributeBase e f X.env (eval e X.env)=eval e X.env):PE X (.Attribute e f pos) (tFld X.K ta f):=by
 intro pins s σ H Q I h
 refine attr_of hb (thn (he pins s σ H _ I h) λu s1 ⟨x,H1,I1,rx,a,C,dx,fs,v,ex,ea,c,n,l,q⟩=>?_)
 subst ex
 obtain rfl:u=Value.ref a:=rx
 exact getattr_ok I1 ea c n l λu' s2 I2 ru=>⟨v,H1,I2,ru,q⟩
theorem ps_fld (ha:PE X o ta) (hv:PE X value tv) (hs:swapsWith value (some (.Attribute o f pos')) pos.line X.env=pure false):PS X (.Assign [.Attribute o f pos'] value pos) (sFld X.K ta tv f):=by
 intro pins s σ H D I h
 refine plainObj_wpAny_Assign_Attribute (thn (hv pins s σ H _ I h) λu s1 ⟨y,H1,I1,ry,q⟩=>thn (ha pins s1 σ H1 _ I1 q) λov s2 ⟨x,H2,I2,rx,a,C,dx,fs,ex,ea,c,n,l,q2⟩=>?_) hs
 subst ex
 obtain rfl:ov=Value.ref a:=rx
 exact setattr_ok I2 ea c n l ry λs3 I3=>⟨σ,_,I3,q2⟩
end
section
variable {X:Cx} {pins:List (Addr×Obj)} {σ:St} {H:Hp} {s:Qc} {A:Qm} {E:Qb->Qc->Prop} {Q:Qb->Qc->Prop} {c:Qb} {b:Bool}
inductive TyOf (K:J4) (H:Hp):V->Qb->Prop where
 | non:TyOf K H .non (.type "NoneType")
 | bl (x:Bool):TyOf K H (.bl x) (.type "bool")
 | int (i:Int):TyOf K H (.int i) (.type "int")
 | str (x:Str):TyOf K H (.str x) (.type "str")
 | flt (x:UInt64):TyOf K H (.flt x) (.type "float")
 | lst {a:Addr} {xs:List V} (e:H a=some (.lst xs)):TyOf K H (.ref a) (.type "list")
 | frz {a:Addr} {o:Obj} {xs:List V} (e:H a=some (.frz o (.lst xs))):TyOf K H (.ref a) (.type "list")
 | tup {a:Addr} {xs:List V} (e:H a=some (.tup xs)):TyOf K H (.ref a) (.type "tuple")
 | dK {a:Addr} {kvs:List (Key×V)} (e:H a=some (.dK kvs)):TyOf K H (.ref a) (.type "dict")
 | dT {a:Addr} {kvs:List (List Key×V)} (e:H a=some (.dT kvs)):TyOf K H (.ref a) (.type "dict")
 | ins {a C dx:Addr} {fs:List (Str×V)} (e:H a=some (.ins C dx fs)) (cl:Cls K C) (ha:R0 K (.ref C) "__class__"=some (some (.builtin "object.__class__")))
   (hn:PySem.W.specialIn K (.builtin "object.__class__") "__get__"=some (some (.builtin "getset_descriptor.__get__"))) (htk:PySem.W.takesIn K (.builtin "object.__class__")=some true)
   (hm:PySem.W.mroIn K C (.type "object")=some true):TyOf K H (.ref a) (.ref C)
theorem isinst_ok {x:V} {u t:Qb} (I:Inv X pins σ H s) (rx:RelV x u) (ty:TyOf X.K H x t) (e:UH X.K t c=some b) (h:∀ tk,Q (.bool b) { s with toks:=tk }) :
  Qf (model X.prog X.w) A (call (.builtin "isinstance") [u,c]) Q E s:=by
 cases ty with
 | non=>cases (show u=Value.none from rx); exact Ut PySem.W.kitx_none I.kIn We e (λz=>nomatch z) h
 | bl y=>cases (show u=Value.bool y from rx); exact Ut PySem.W.kitx_bool I.kIn We e (λz=>nomatch z) h
 | int i=>obtain ⟨t,q⟩:=(show ∃ t,u=Value.int i t from rx); cases q; exact Ut PySem.W.kitx_int I.kIn We e (λz=>nomatch z) h
 | str y=>obtain ⟨t,q⟩:=(show ∃ t,u=Value.str y t from rx); cases q; exact Ut PySem.W.kitx_str I.kIn We e (λz=>nomatch z) h
 | flt y=>obtain ⟨t,q⟩:=(show ∃ t,u=Value.float y t from rx); cases q; exact Ut PySem.W.kitx_float I.kIn We e (λz=>nomatch z) h
 | @lst a xs ea=>
  cases (show u=Value.ref a from rx)
  obtain ⟨_,_,n,_,h1⟩:=(show ObjOk X.prog X.w H s.heap a (.lst xs) from I.hok a _ ea)
  exact Ut ZM I.kIn ⟨_,h1,rfl⟩ e (λz=>nomatch z) h
 | @frz a ob xs ea=>
  cases (show u=Value.ref a from rx)
  obtain ⟨_,_,_,n,_,h1⟩:=(show ObjOk X.prog X.w H s.heap a (.frz ob (.lst xs)) from I.hok a _ ea)
  exact Ut ZM I.kIn ⟨_,h1,rfl⟩ e (λz=>nomatch z) h
 | @tup a xs ea=>
  cases (show u=Value.ref a from rx)
  obtain ⟨_,_,_,p⟩:=(show ObjOk X.prog X.w H s.heap a (.tup xs) from I.hok a _ ea)
  obtain ⟨o,h1,h2,_⟩:=p
  exact Ut PySem.W.kitx_tuple I.kIn ⟨o,h1,h2⟩ e (λz=>nomatch z) h
 | @dK a kvs ea=>
  cases (show u=Value.ref a from rx)
  obtain ⟨_,_,vs,_,p⟩:=(show ObjOk X.prog X.w H s.heap a (.dK kvs) from I.hok a _ ea)
  obtain ⟨o,es,ep,h1,h2,_⟩:=p
  exact Ut ZN I.kIn ⟨o,h1,h2.1⟩ e (λz=>nomatch z) h
 | @dT a kvs ea=>
  cases (show u=Value.ref a from rx)
  obtain ⟨_,_,xs,_,o,es,ep,h1,h2,_⟩:=(show ObjOk X.prog X.w H s.heap a (.dT kvs) from I.hok a _ ea)
  exact Ut ZN I.kIn ⟨o,h1,h2.1⟩ e (λz=>nomatch z) h
 | @ins a C dx fs ea cl ha hn htk hm=>
  cases (show u=Value.ref a from rx)
  obtain ⟨mA,O,_⟩:=FE I.hok ea
  obtain ⟨od,J,_⟩:=O.look
  exact Ut (PySem.W.kitx_own (cl.get _) cl.hd ha hn htk hm) I.kIn J e (λz=>nomatch z) h
end
end L2
namespace L2
open PySem PySem.Spec PyProof.Rows
structure Room (k:Nat) (A:Qm):Prop where
 hd:A.handled=none
 dp:A.depth + 3 * k + 5 < recursionLimit
 un:A.units + 16 * k + 200 < cLine
 gd:A.guards=some []
theorem Room.mono {j k:Nat} {A:Qm} (r:Room k A) (h:j<=k):Room j A:=⟨r.hd,by have:=r.dp; omega,by have:=r.un; omega,r.gd⟩
theorem Room.deeper {k:Nat} {A:Qm} (r:Room (k + 1) A) (env:Env):Room k (A.deeper env):=
 ⟨r.hd,by have:=r.dp; show A.depth + 1 + 3 * k + 5 < _; omega,by have:=r.un; show A.units + 3 + 16 * k + 200 < _; omega,r.gd⟩
theorem make_depth {A:Qm} {C:Addr} {us:List Qb} {kw:List (Str×Qb)}:(A.under (.builtin "type.__call__" ⟨.ref C::us,kw⟩)).depth=A.depth + 1:=by
 first | rfl | simp[Around.under,Code.weight,Code.isCreation,Code.isGuard,Code.isCaller,Code.frames,Code.isFrame,guardIds]
theorem make_units {A:Qm} {C:Addr} {us:List Qb} {kw:List (Str×Qb)}:(A.under (.builtin "type.__call__" ⟨.ref C::us,kw⟩)).units=A.units + 1:=by
 first | rfl | simp[Around.under,Code.cUnits,Code.frames,Code.isFrame]
theorem Room.make {k:Nat} {A:Qm} (r:Room (k + 1) A) (C:Addr) (us:List Qb) (kw:List (Str×Qb)):Room k (A.under (.builtin "type.__call__" ⟨.ref C::us,kw⟩)):=
 ⟨r.hd,by have:=r.dp; rw[make_depth]; omega,by have:=r.un; rw[make_units]; omega,by simp[Around.under,r.gd,pushGuards,Code.guards,Code.isGuard,guardIds]⟩
theorem Room.depth {k:Nat} {A:Qm} (r:Room k A):A.depth < recursionLimit:=by have:=r.dp; omega
theorem Room.units {k:Nat} {A:Qm} (r:Room k A):A.units + 64 < cLine:=by have:=r.un; omega
def tNil:TA:=λ_ H Q=>Q [] H
def Jv (ta:TE) (tr:TA):TA:=λσ H Q=>ta σ H λx H1=>tr σ H1 λxs H2=>Q (x::xs) H2
section
variable {X:Cx} {e:Expr} {es:List Expr} {te:TE} {t:TA} {pos:Pos}
theorem pa_nil:PA X [] tNil:=λ_ _ _ _ H Q I h=>Calls.spliced_nil ⟨[],H,I,.nil,h⟩
theorem pa_cons (ha:PE X e te) (hr:PA X es t) (hs:Qg (e::es) X.env=(false,eval e X.env)::Qg es X.env:=by rfl):PA X (e::es) (Jv te t):=by
 intro pos pins s σ H Q I h
 rw[hs]
 show Qf _ _ (spliced ((false,eval e X.env)::backTo pos (Qg es X.env))) _ _ s
 refine Calls.spliced_cons (thn (ha pins s σ H _ I h) λu s1 ⟨x,H1,I1,r1,q1⟩=>?_)
 exact thn (hr pos pins s1 σ H1 _ I1 q1) λus s2 ⟨xs,H2,I2,r2,q2⟩=>⟨x::xs,H2,I2,.cons r1 r2,q2⟩
def tTup (t:TA):TE:=λσ H Q=>t σ H λxs H1=>xs.length<=Qe/\∀ p,H1 p=none->Q (.ref p) (upd H1 p (.tup xs))
def tLst (t:TA):TE:=λσ H Q=>t σ H λxs H1=>xs.length<=Qe/\∀ p,H1 p=none->Q (.ref p) (upd H1 p (.lst xs))
theorem pe_tup {x1} (h:PA X es t):PE X (.Tuple es x1 pos) (tTup t):=by
 intro pins s σ H Q I hq
 refine wpAny_Tuple_spliced (thn (h pos pins s σ H _ I hq) λus s1 ⟨xs,H1,I1,r,z,q⟩=>⟨by rw[<- r.length]; exact z,?_⟩)
 have hf:H1 s1.heap.objs.size=none:=I1.hok.fresh (J8 _)
 refine ⟨.ref s1.heap.objs.size,upd H1 s1.heap.objs.size (.tup xs),I1.laid (t':=s1.toks) (λb u e=>Heap.get?_push_of_some _ e) (J8 _) ?_,rfl,q _ hf⟩
 exact ⟨z,us,r,⟨_,Heap.get?_push_size _ rfl,rfl,_,rfl⟩⟩
theorem pe_lst (h:PA X es t):PE X (.List es pos) (tLst t):=by
 intro pins s σ H Q I hq
 refine wpAny_List_spliced (thn (h pos pins s σ H _ I hq) λus s1 ⟨xs,H1,I1,r,z,q⟩=>⟨by rw[<- r.length]; exact z,?_⟩)
 have hf:H1 s1.heap.objs.size=none:=I1.hok.fresh (J8 _)
 refine ⟨.ref s1.heap.objs.size,upd H1 s1.heap.objs.size (.lst xs),I1.laid (t':=s1.toks) (λb u e=>Heap.get?_push_of_some _ e) (J8 _) ?_,rfl,q _ hf⟩
 exact ⟨z,us,0,r,Heap.get?_push_size _ rfl⟩
end
abbrev Sp:=List V->Hp->VK->XK->Prop
abbrev CXT:=List Env->Hp->Qc->XK->Qb->Qc->Prop
structure Env0 (P:Qj) (w:Qk) (K:J4) (mg:Str->Option Qb) (base:Heap) (A:Qm) (outer:List Env) (s:Qc) (H:Hp):Prop where
 frames:A.frames=some outer
 mod:Mod K mg base
 bs:∀ b o,base.get? b=some o->s.heap.get? b=some o/\H b=none
 bsz:base.objs.size<=s.heap.objs.size
 funs:s.heap.FunFrames base outer
 frf:∀ b∈frs outer,H b=none
 hok:HOk P w H s.heap
 bare:AllBare s.gens
def CE (outer:List Env) (P:Qj) (w:Qk) (H:Hp) (s:Qc) (Q:VK) (u:Qb) (s':Qc):Prop:=
 ∃ v H',s'.os=s.os/\AllBare s'.gens/\Un (frs outer) [] H H' s.heap s'.heap/\HOk P w H' s'.heap/\RelV v u/\Q v H'
def CR (CX:CXT) (outer:List Env) (P:Qj) (w:Qk) (H:Hp) (s:Qc) (Q:VK) (E:XK) (r:Result) (s':Qc):Prop:=
 match r with
 | .ok (.ret u)=>CE outer P w H s Q u s'
 | .ok _=>False
 | .error e=>CX outer H s E e s'
structure FnOk (P:Qj) (w:Qk) (K:J4) (mg:Str->Option Qb) (base:Heap) (CX:CXT) (k:Nat) (f:Addr) (fd:Qh) (ps:List Str) (sp:Sp):Prop where
 len:∀ vs H Q E,sp vs H Q E->vs.length=ps.length
 run:∀ (A:Qm) (outer:List Env) (s:Qc) (H:Hp) (args:Args) (us:List Qb) (vs:List V) (Q:VK) (E:XK),Room k A->Env0 P w K mg base A outer s H->BindsTo s fd args (ps.zip us)->Vals vs us->sp vs H Q E->
  QJ (model P w) A (.call (.ref f) args) (CR CX outer P w H s Q E) s
theorem Env0.make {P:Qj} {w:Qk} {K:J4} {mg:Str->Option Qb} {base:Heap} {A:Qm} {outer:List Env} {s:Qc} {H:Hp} (e:Env0 P w K mg base A outer s H) (C:Addr) (us:List Qb) (kw:List (Str×Qb)) :
  Env0 P w K mg base (A.under (.builtin "type.__call__" ⟨.ref C::us,kw⟩)) outer s H:=⟨by first | exact e.frames | (simpa [Around.under,Code.envs,Code.isFrame,pushEnvs] using e.frames),e.mod,e.bs,e.bsz,e.funs,e.frf,e.hok,e.bare⟩
section
variable {X:Cx} {pins:List (Addr×Obj)} {σ:St} {H:Hp} {s s':Qc}
theorem Inv.env0 (I:Inv X pins σ H s):Env0 X.prog X.w X.K X.mg X.base X.A X.stack s H:=
 ⟨I.ok.frames,I.ok.mod,I.bs,J6 I.ok.bsz I.sz,I.stack,I.stkFree,I.hok,I.bare⟩
theorem Inv.after {Q:VK} {u:Qb} (I:Inv X pins σ H s) (h:CE X.stack X.prog X.w H s Q u s'):EP X pins σ Q u s':=by
 obtain ⟨v,H',os,bare,un,hok,r,q⟩:=h
 obtain ⟨hh,g,d,t,os'⟩:=s'
 obtain rfl:os'=s.os:=os
 exact ⟨v,H',I.call (h':=hh) (g':=g) (d':=d) (t':=t) (ch:=[]) un hok bare (λb z=>absurd z (by simp)),r,q⟩
end
def KL (sp:Sp) (dvs:List V) (E:XK) (t:TA):TE:=λσ H Q=>t σ H λvs H1=>sp (vs++dvs) H1 Q E
def KM (C:Addr) (m:Str) (sp:Sp) (dvs:List V) (E:XK) (ta:TE) (t:TA):TE:=λσ H Q=>ta σ H λx H1=>∃ a dx fs,x=.ref a/\H1 a=some (.ins C dx fs)/\fs.lookup m=none/\
 t σ H1 λvs H2=>sp (x::(vs++dvs)) H2 Q E
def Mn (C:Addr) (sp:Sp) (dvs:List V) (E:XK) (t:TA):TE:=λσ H Q=>t σ H λvs H1=>∀ x dx,H1 x=none->H1 dx=none->dx≠x->
 sp (.ref x::(vs++dvs)) (upd (upd H1 dx (.own x)) x (.ins C dx [])) (λv H2=>v=.non/\Q (.ref x) H2) E
def Binds (K:J4) (fd:Qh) (ps:List Str) (ds:List Qb):Prop:=
 ∀ (s:Qc) (us:List Qb),K.In s.heap->(us++ds).length=ps.length->BindsTo s fd ⟨us,[]⟩ (ps.zip (us++ds))
theorem Binds.all {K:J4} {fd:Qh} {ps:List Str} (h:∀ us:List Qb,us.length=ps.length->bindArgs fd ⟨us,[]⟩=pure (ps.zip us)):Binds K fd ps []:=λs us _ hl=>by
 rw[RJ]at hl ⊢
 exact .of_eq (h us hl)
def Cd (CX:CXT) (X:Cx) (E:XK):Prop:=∀ (pins:List (Addr×Obj)) (σ:St) (H:Hp) (s:Qc) (e:Qb) (s':Qc),Inv X pins σ H s->CX X.stack H s E e s'->X.xe e s'
section
variable {X:Cx} {CX:CXT} {k:Nat} {f C:Addr} {fd:Qh} {ps:List Str} {sp:Sp} {dvs:List V} {ds:List Qb} {E:XK} {x m:Str} {p pos apos:Pos} {e o:Expr} {es:List Expr} {ta:TE} {t:TA}
theorem Jw {pins:List (Addr×Obj)} {σ:St} {H:Hp} {s:Qc} {Q:VK} {us:List Qb} {vs:List V} (F:FnOk X.prog X.w X.K X.mg X.base CX k f fd ps sp) (hr:Room k X.A) (hb:Binds X.K fd ps ds) (hd:Vals dvs ds) (hx:Cd CX X E)
  (I:Inv X pins σ H s) (r:Vals vs us) (h:sp (vs++dvs) H Q E):Qf (model X.prog X.w) X.A (call (.ref f) us) (EP X pins σ Q) X.xe s:=by
 have r2:Vals (vs++dvs) (us++ds):=r.append hd
 have hl:(us++ds).length=ps.length:=by rw[<- r2.length]; exact F.len _ _ _ _ h
 refine Q8 (QB (F.run X.A X.stack s H ⟨us,[]⟩ (us++ds) (vs++dvs) Q E hr I.env0 (hb s us I.kIn hl) r2 h) λr s' hq=>?_)
 cases r with
 | error e=>exact hx pins σ H s e s' I hq
 | ok fl=>
  cases fl with
  | ret u=>exact I.after hq
  | next=>exact UY hq
  | brk=>exact UY hq
  | cont=>exact UY hq
theorem Jx (F:FnOk X.prog X.w X.K X.mg X.base CX k f fd ps sp) (hr:Room k X.A) (hg:Gl X x) (hm:X.mg x=some (.ref f)) (hk:Ud X.K (.ref f)=true) (hb:Binds X.K fd ps ds) (hd:Vals dvs ds) (hx:Cd CX X E)
  (ha:PA X (e::es) t) (hdb:(x == ("__debug__":Str))=false:=by decide) (he:Qg (e::es) X.env=(false,eval e X.env)::Qg es X.env:=by rfl) (hpl:(backTo pos (Qg es X.env)).any (·.1)=false:=by rfl) :
  PE X (.Call (.Name x p) (e::es) [] pos) (KL sp dvs E t):=by
 intro pins s σ H Q I h
 refine Qz (Hm I hg hm ?_ hdb)
 refine Yu (h₀:=X.base) I.ok.mod.kin hk (thn (ha pos pins s σ H _ I h) λus s1 ⟨vs,H1,I1,r,q⟩=>⟨I1.kIn,?_⟩) he hpl
 exact Jw F hr hb hd hx I1 r q
theorem pe_meth {pl:Sem Bool} (he:PE X o ta) (c:Cls X.K C) (hm:Meth X.K C m f) (F:FnOk X.prog X.w X.K X.mg X.base CX k f fd ps sp) (hr:Room k X.A) (hb:Binds X.K fd ps ds) (hd:Vals dvs ds) (hx:Cd CX X E) (ha:PA X (e::es) t)
  (hst:Qg (e::es) X.env=(false,eval e X.env)::Qg es X.env:=by rfl) (hpl:(backTo pos (Qg es X.env)).any (·.1)=false:=by rfl)
  (ht:eval (.Call (.Attribute o m apos) (e::es) [] pos) X.env=(do
   let ov <- eval o X.env
   standAt apos.atName
   let (f,first) <- holding [ov] (getMethod ov m pl)
   callWith pos f first (backTo pos (Qg (e::es) X.env)) (backToKw pos (keywordEach [] X.env))):=by rfl) :
  PE X (.Call (.Attribute o m apos) (e::es) [] pos) (KM C m sp dvs E ta t):=by
 intro pins s σ H Q I h
 refine Zs (pl:=pl) (thn (he pins s σ H _ I h) λu s1 ⟨x,H1,I1,rx,a,dx,fs,ex,ea,l,q⟩=>?_) ht
 subst ex
 obtain rfl:u=Value.ref a:=rx
 refine Fq I1 ea c hm l ?_
 refine Yu (first:=[.ref a]) (h₀:=X.base) I.ok.mod.kin hm.kp (thn (ha pos pins s1 σ H1 _ I1 q) λus s2 ⟨vs,H2,I2,r,q2⟩=>⟨I2.kIn,?_⟩) hst hpl
 exact Jw (us:=.ref a::us) (vs:=.ref a::vs) F hr hb hd hx I2 (.cons rfl r) q2
theorem pe_meth0 {pl:Sem Bool} (he:PE X o ta) (c:Cls X.K C) (hm:Meth X.K C m f) (F:FnOk X.prog X.w X.K X.mg X.base CX k f fd ps sp) (hr:Room k X.A) (hb:Binds X.K fd ps ds) (hd:Vals dvs ds) (hx:Cd CX X E)
  (ht:eval (.Call (.Attribute o m apos) [] [] pos) X.env=(do
   let ov <- eval o X.env
   standAt apos.atName
   let (f,first) <- holding [ov] (getMethod ov m pl)
   callWith pos f first (backTo pos (Qg [] X.env)) (backToKw pos (keywordEach [] X.env))):=by rfl) :
  PE X (.Call (.Attribute o m apos) [] [] pos) (KM C m sp dvs E ta tNil):=by
 intro pins s σ H Q I h
 refine Zs (pl:=pl) (thn (he pins s σ H _ I h) λu s1 ⟨x,H1,I1,rx,a,dx,fs,ex,ea,l,q⟩=>?_) ht
 subst ex
 obtain rfl:u=Value.ref a:=rx
 refine Fq I1 ea c hm l ?_
 exact PySem.W.callWith_K0 (first:=[.ref a]) I1.kIn hm.kp (Jw (us:=[.ref a]) (vs:=[.ref a]) F hr hb hd hx I1 (.cons rfl .nil) q)
structure Mk (K:J4) (C f:Addr):Prop where
 makes:Yb K C=true
 init:R0 K (.ref C) "__init__"=some (some (.ref f))
 fn:Wl K (.ref f)=true
 kp:Ud K (.ref C)=true
theorem run_make {pins:List (Addr×Obj)} {σ:St} {H:Hp} {s:Qc} {Q:VK} {us:List Qb} {vs:List V} (M:Mk X.K C f) (F:FnOk X.prog X.w X.K X.mg X.base CX k f fd ps sp) (hr:Room (k + 1) X.A) (hb:Binds X.K fd ps ds) (hd:Vals dvs ds)
  (hx:Cd CX X E) (I:Inv X pins σ H s) (r:Vals vs us)
  (h:∀ x dx,H x=none->H dx=none->dx≠x->sp (.ref x::(vs++dvs)) (upd (upd H dx (.own x)) x (.ins C dx [])) (λv H2=>v=.non/\Q (.ref x) H2) E) :
  Qf (model X.prog X.w) X.A (call (.ref C) us) (EP X pins σ Q) X.xe s:=by
 have hq:=h (s.heap.objs.size + 1) s.heap.objs.size (I.hok.fresh (Uv _)) (I.hok.fresh (J8 _)) (RC (Ul _))
 have I2:=Inv.made (C:=C) I
 have r2:Vals (V.ref (s.heap.objs.size + 1)::(vs++dvs)) (Value.ref (s.heap.objs.size + 1)::(us++ds)):=.cons rfl (r.append hd)
 have hl:(Value.ref (s.heap.objs.size + 1)::us++ds).length=ps.length:=by
  have e:=r2.length
  rw[F.len _ _ _ _ hq]at e
  exact e.symm
 refine Q8 (make_map (f:=f) I.kIn M.makes M.init (beq_iff_eq.mp M.fn) (QB (F.run _ X.stack _ _ ⟨Value.ref (s.heap.objs.size + 1)::us,[]⟩ (Value.ref (s.heap.objs.size + 1)::(us++ds)) _ _ E (hr.make C us [])
  (I2.env0.make C us []) (hb _ (Value.ref (s.heap.objs.size + 1)::us) I2.kIn hl) r2 hq) λr s' hq'=>?_))
 cases r with
 | error e=>exact hx pins σ _ _ e s' I2 hq'
 | ok fl=>
  cases fl with
  | ret u=>
   obtain ⟨v,H',I3,rv,ev,q3⟩:=I2.after hq'
   subst ev
   exact ⟨rv,⟨V.ref (s.heap.objs.size + 1),H',I3,rfl,q3⟩⟩
  | next=>exact UY hq'
  | brk=>exact UY hq'
  | cont=>exact UY hq'
theorem pe_make (M:Mk X.K C f) (F:FnOk X.prog X.w X.K X.mg X.base CX k f fd ps sp) (hr:Room (k + 1) X.A) (hg:Gl X x) (hm:X.mg x=some (.ref C)) (hb:Binds X.K fd ps ds) (hd:Vals dvs ds) (hx:Cd CX X E)
  (ha:PA X (e::es) t) (hdb:(x == ("__debug__":Str))=false:=by decide) (he:Qg (e::es) X.env=(false,eval e X.env)::Qg es X.env:=by rfl) (hpl:(backTo pos (Qg es X.env)).any (·.1)=false:=by rfl) :
  PE X (.Call (.Name x p) (e::es) [] pos) (Mn C sp dvs E t):=by
 intro pins s σ H Q I h
 refine Qz (Hm I hg hm ?_ hdb)
 refine Yu (h₀:=X.base) I.ok.mod.kin M.kp (thn (ha pos pins s σ H _ I h) λus s1 ⟨vs,H1,I1,r,q⟩=>⟨I1.kIn,?_⟩) he hpl
 exact run_make M F hr hb hd hx I1 r q
end
def PK (X:Cx) (kws:List Keyword) (t:TA):Prop:=
 ∀ (pos:Pos) (pins:List (Addr×Obj)) (s:Qc) (σ:St) (H:Hp) (Q:List V->Hp->Prop),Inv X pins σ H s->t σ H Q->Qf (model X.prog X.w) X.A (evalAll ((backToKw pos (keywordEach kws X.env)).map (·.2))) (AP X pins σ Q) X.xe s
section
variable {X:Cx} {CX:CXT} {k:Nat} {f C:Addr} {fd:Qh} {ps ks:List Str} {sp:Sp} {E:XK} {x m:Str} {p pos apos kpos:Pos} {e o:Expr} {es:List Expr} {kws:List Keyword} {te ta:TE} {t tk:TA} {nm:Option Str}
theorem pk_nil:PK X [] tNil:=λ_ _ _ _ H Q I h=>wpAny_evalAll_nil ⟨[],H,I,.nil,h⟩
theorem pk_cons (ha:PE X e te) (hr:PK X kws t):PK X (⟨nm,e,kpos⟩::kws) (Jv te t):=by
 intro pos pins s σ H Q I h
 show Qf _ _ (evalAll ((do let v <- eval e X.env; standAt pos; pure v)::(backToKw pos (keywordEach kws X.env)).map (·.2))) _ _ s
 refine wpAny_evalAll_cons (Qa (thn (ha pins s σ H _ I h) λu s1 ⟨x,H1,I1,r1,q1⟩=>Qa (Q1 (Qd ?_))))
 exact thn (hr pos pins s1 σ H1 _ I1 q1) λus s2 ⟨xs,H2,I2,r2,q2⟩=>⟨x::xs,H2,I2,.cons r1 r2,q2⟩
variable {g:List Qb->List Qb->List Qb} {gV:List V->List V->List V}
end
structure FnScope (N P:List Str) (sc:Scope):Prop where
 kind:sc.kind=.function
 co:sc.isCoroutine=false
 gen:sc.isGenerator=false
 nd:N.Nodup
 pre:N.take P.length=P
 par:∀ x∈P,sc.names.lookup x=some .local\/sc.names.lookup x=some .cell
 nofree:∀ y∈sc.names,y.2≠.free
theorem Gx {kindOf:Str->Option QP} {x:Str}:∀ {binds:List (Str×Qb)} {m:Str->Option Qb},(∀ v,(x,v)∉binds)->bindL kindOf binds m x=m x
 | [],_,_=>rfl
 | (n,v)::r,m,h=>by
  unfold bindL
  rw[Gx λw hw=>h w (Re _ hw)]
  split
  ·have:x≠n:=by rintro rfl; exact h v Rj
   simp[this]
  ·rfl
theorem Gy {kindOf:Str->Option QP} {x:Str}:∀ {binds:List (Str×Qb)} {m:Str->Option Qb},(∀ v,(x,v)∉binds)->bindC kindOf binds m x=m x
 | [],_,_=>rfl
 | (n,v)::r,m,h=>by
  unfold bindC
  rw[Gy λw hw=>h w (Re _ hw)]
  split
  ·rfl
  ·have:x≠n:=by rintro rfl; exact h v Rj
   simp[this]
theorem Gz {kindOf:Str->Option QP} {x:Str} {v:Qb}:∀ {P:List Str} {vs:List Qb} {i:Nat} {m:Str->Option Qb},P.Nodup->P[i]?=some x->vs[i]?=some v->kindOf x=some .local->
  bindL kindOf (P.zip vs) m x=some v
 | [],_,_,_,_,h,_,_=>by simp at h
 | _::_,[],_,_,_,_,h,_=>by simp at h
 | p::P,w::vs,0,m,nd,h1,h2,hk=>by
  simp at h1 h2; subst h1; subst h2
  show bindL kindOf ((p,w)::P.zip vs) m p=_
  unfold bindL
  rw[Gx λv hv=>(UN.mp nd).1 (Y1 hv).1,if_pos hk]
  simp
 | p::P,w::vs,i + 1,m,nd,h1,h2,hk=>by
  show bindL kindOf ((p,w)::P.zip vs) m x=_
  unfold bindL
  exact Gz (i:=i) (UN.mp nd).2 (by simpa using h1) (by simpa using h2) hk
theorem GA {kindOf:Str->Option QP} {x:Str} {v:Qb}:∀ {P:List Str} {vs:List Qb} {i:Nat} {m:Str->Option Qb},P.Nodup->P[i]?=some x->vs[i]?=some v->kindOf x≠some .local->
  bindC kindOf (P.zip vs) m x=some v
 | [],_,_,_,_,h,_,_=>by simp at h
 | _::_,[],_,_,_,_,h,_=>by simp at h
 | p::P,w::vs,0,m,nd,h1,h2,hk=>by
  simp at h1 h2; subst h1; subst h2
  show bindC kindOf ((p,w)::P.zip vs) m p=_
  unfold bindC
  rw[Gy λv hv=>(UN.mp nd).1 (Y1 hv).1,if_neg hk]
  simp
 | p::P,w::vs,i + 1,m,nd,h1,h2,hk=>by
  show bindC kindOf ((p,w)::P.zip vs) m x=_
  unfold bindC
  exact GA (i:=i) (UN.mp nd).2 (by simpa using h1) (by simpa using h2) hk
def start (N:List Str) (vs:List V):St:=vs.map some++RQ (N.length - vs.length) none
def cxOf (CX:CXT) (P:Qj) (w:Qk) (K:J4) (mg:Str->Option Qb) (base:Heap) (N:List Str) (qual:Str) (scope:Scope) (f:Addr) (cd:Qb) (A:Qm) (outer:List Env) (s:Qc) (H:Hp) (E:XK):Cx where
 prog:=P
 w:=w
 K:=K
 mg:=mg
 base:=base
 A:=A.deeper (envOfC qual scope s.heap.objs.size f cd)
 N:=N
 s₀:=s
 H₀:=H
 env:=envOfC qual scope s.heap.objs.size f cd
 outer:=outer
 stack:=envOfC qual scope s.heap.objs.size f cd::outer
 ex:=[]
 calm:=true
 fn:=λ_=>true
 pn:=[]
 xe:=λe s'=>Qf (model P w) (A.deeper (envOfC qual scope s.heap.objs.size f cd)) (leaving (envOfC qual scope s.heap.objs.size f cd) e) (λ_ s''=>CX outer H s E e s'') (λe' s''=>CX outer H s E e' s'') s'
theorem Ii {sc:Scope} {n:Nat} {x:Str} (h:sc.names.lookup x=some .cell):∃ c,(cellsFrom n sc.names []).lookup x=some c:=by
 have q:=WB sc.names n [] (.inl h)
 exact Y9.mp q
theorem inv_start {CX:CXT} {P:Qj} {w:Qk} {K:J4} {mg:Str->Option Qb} {base:Heap} {N ps:List Str} {qual:Str} {scope:Scope} {f:Addr} {cd:Qb} {A:Qm} {outer:List Env} {s s1:Qc} {H:Hp} {E:XK} {us:List Qb} {vs:List V}
  (S:FnScope N ps scope) (hd:A.handled=none) (e0:Env0 P w K mg base A outer s H) (hl:vs.length=ps.length) (r:Vals vs us)
  (x:InCallC s s.heap.objs.size (bindL (envOfC qual scope s.heap.objs.size f cd).kindOf (ps.zip us) λ_=>none) (cellsFrom (s.heap.objs.size + 1) scope.names []) (bindC (envOfC qual scope s.heap.objs.size f cd).kindOf (ps.zip us) λ_=>none) s1) :
  Inv (cxOf CX P w K mg base N qual scope f cd A outer s H E) [] (start N vs) H s1:=by
 have hpl:ps.length<=N.length:=by have:=congrArg WW S.pre; rw[RA]at this; omega
 obtain ⟨h1,tk,rfl,hk⟩:=x.done
 have noA:∀ b:Addr,b∉(cxOf CX P w K mg base N qual scope f cd A outer s H E).ex:=λb z=>absurd (show b∈([]:List Addr) from z) (by simp)
 refine ⟨⟨e0.mod,S.kind,rfl,rfl,J8 _,λy z c h1 h2=>?_,λy hy=>?_,λy c _ h=>?_,λ_=>hd,Around.frames_deeper e0.frames,.inr ⟨rfl,rfl⟩,λb z=>absurd z (noA b),e0.bs,e0.bsz,λb _ _=>noA b,λb z=>absurd z (noA b),e0.funs,e0.frf⟩,
  rfl,e0.bare,Un.kept hk,⟨_,x.toInCall.ns,λi y v h1 h2 h3=>?_⟩,λy c h=>⟨_,x.cell y c h⟩,e0.hok.fresh (J8 _),λy c h=>?_,λp hp=>absurd (show p∈([]:List (Addr×Obj)) from hp) (by simp),e0.hok.kept hk,?_⟩
 ·exact name_of_addr x.apart (Wq h1) (Wq h2)
 ·have hy:scope.names.lookup y=some .cell\/scope.names.lookup y=some .free:=hy
  rcases hy with hy | hy
  ·exact Ii hy
  ·exact absurd rfl (S.nofree _ (Wq hy))
 ·exact WO (x.above y c (Wq h))
 ·have hi:i < vs.length:=by
   unfold start at h2
   by_cases hi:i < vs.length
   ·exact hi
   ·rw[Up (by simpa using hi)]at h2
    rw[List.getElem?_replicate]at h2
    split at h2 <;> cases h2
  have ha:vs[i]?=some v:=by
   unfold start at h2
   rw[Wo (by simpa using hi),Rm]at h2
   cases e:vs[i]? with
   | none=>rw[e]at h2; cases h2
   | some a=>rw[e]at h2; cases h2; rfl
  obtain ⟨u,hu,rv⟩:=r.get ha
  have hp:ps[i]?=some y:=by
   rw[<- S.pre,UZ (by omega)]; exact h1
  have ndP:ps.Nodup:=by rw[<- S.pre]; exact S.nd.sublist (Ja5 _ _)
  refine ⟨u,rv,?_⟩
  rcases S.par y (Rf hp) with k | k
  ·exact .inl ⟨k,Gz ndP hp hu k⟩
  ·obtain ⟨c,e⟩:=Ii (n:=s.heap.objs.size + 1) k
   refine .inr ⟨.inl k,c,e,?_⟩
   have q:=x.cell y c e
   rw[GA ndP hp hu (by show scope.names.lookup y≠_; rw[k]; decide)]at q
   exact q
 ·exact e0.hok.fresh (WO (x.above y c (Wq h)))
 ·unfold start
  show _=N.length
  rw[Rk,J0,Wa]
  omega
theorem fn_of {CX:CXT} {P:Qj} {w:Qk} {K:J4} {mg:Str->Option Qb} {base:Heap} {k:Nat} {f:Addr} {name qual:Str} {params:Arguments} {body:List Stmt} {scope:Scope} {dV kV doc pm cdv ct oc:Qb} {an od:Option Addr}
  {osl:Array (Option Qb)} {N ps:List Str} {sp:Sp} (lk:K.lookup f=some ⟨oc,od,.func (UI name qual params body scope dV kV doc pm an cdv ct),osl⟩) (hcd:UR K cdv qual=true) (S:FnScope N ps scope)
  (len:∀ vs H Q E,sp vs H Q E->vs.length=ps.length)
  (hbody:∀ (A:Qm) (outer:List Env) (s:Qc) (H:Hp) (vs:List V) (Q:VK) (E:XK),Room k (A.deeper (envOfC qual scope s.heap.objs.size f cdv))->sp vs H Q E->
   ∃ t,PSs (cxOf CX P w K mg base N qual scope f cdv A outer s H E) body t/\t { nx:=λ_ H'=>Q .non H',rt:=Q } (start N vs) H) :
  FnOk P w K mg base CX (k + 1) f (UI name qual params body scope dV kV doc pm an cdv ct) ps sp:=by
 refine ⟨len,λA outer s H args us vs Q E hr e0 hb r hsp=>?_⟩
 have hl:=len _ _ _ _ hsp
 have KX:K.In s.heap:=e0.mod.kin.keeps λb o e=>(e0.bs b o e).1
 have lim:s.heap.NoLimit:=e0.mod.nolimit.keeps λb o e=>(e0.bs b o e).1
 have hkind:∀ y∈ps.zip us,scope.names.lookup y.1=some .local\/(scope.names.lookup y.1=some .cell/\((cellsFrom (s.heap.objs.size + 1) scope.names []).lookup y.1).isSome=true):=λ⟨n,v⟩ hy=>by
  rcases S.par n (Y1 hy).1 with q | q
  ·exact .inl q
  ·exact .inr ⟨q,WB _ _ _ (.inl q)⟩
 refine codeAny_call_function hr.depth (KX _ _ lk) rfl S.co S.gen rfl (PySem.W.codeRec_of KX hcd) (hb _ _ _ _ ?_)
 refine wpAny_newFunctionEnv_cells S.kind hkind λenv he s1 x=>?_
 subst he
 refine ⟨lim.keeps x.toInCall.keep,codeAny_func ?_⟩
 obtain ⟨t,ht,hq⟩:=hbody A outer s H vs Q E (hr.deeper _) hsp
 have I:Inv (cxOf CX P w K mg base N qual scope f cdv A outer s H E) [] (start N vs) H s1:=inv_start S hr.hd e0 hl r x
 refine Qw (ht [] s1 (start N vs) H _ I hq) (λfl s' hs=>?_) λe s' hs=>hs
 have fin:∀ {σ':St} {H':Hp} {v:V} {u:Qb},Inv (cxOf CX P w K mg base N qual scope f cdv A outer s H E) [] σ' H' s'->RelV v u->Q v H'->CE outer P w H s Q u s':=
  λ{σ' H' v u} J rv q=>⟨v,H',J.os,J.bare,J.base,J.hok,rv,q⟩
 cases fl with
 | ret u=>
  obtain ⟨v,σ',H',J,rv,q⟩:=hs
  exact fin J rv q
 | next=>
  obtain ⟨σ',H',J,q⟩:=hs
  exact fin (v:=V.non) (u:=Value.none) J rfl q
 | brk=>
  obtain ⟨_,_,_,q⟩:=hs
  exact UY q
 | cont=>
  obtain ⟨_,_,_,q⟩:=hs
  exact UY q
end L2
namespace L2
open PySem PySem.Spec PyProof.Rows
section
variable {X:Cx} {x:Str} {p pos:Pos} {e:Expr} {es:List Expr} {t:TA} {id T:String} {r:List V->Hp->VK->Prop}
def tCB (r:List V->Hp->VK->Prop) (t:TA):TE:=λσ H Q=>t σ H λvs H1=>r vs H1 Q
theorem pe_callB (hc:Bx X (.builtin id) r) (hg:Gl X x) (hm:X.mg x=none) (hv:Qr x=some (.builtin id)) (ha:PA X (e::es) t) (hn:x≠"__name__":=by decide) (hdb:(x == ("__debug__":Str))=false:=by decide)
  (he:Qg (e::es) X.env=(false,eval e X.env)::Qg es X.env:=by rfl) (hpl:(backTo pos (Qg es X.env)).any (·.1)=false:=by rfl):PE X (.Call (.Name x p) (e::es) [] pos) (tCB r t):=by
 intro pins s σ H Q I h
 refine Qz (BU I hg hm hv ?_ hn hdb)
 exact Jg3 (thn (ha pos pins s σ H _ I h) λus s1 ⟨vs,H1,I1,r1,q1⟩=>hc pins s1 σ H1 vs us Q I1 r1 q1) he hpl
theorem pe_callTy (hc:Bx X (.type T) r) (hg:Gl X x) (hm:X.mg x=none) (hv:Qr x=some (.type T)) (ha:PA X (e::es) t) (hn:x≠"__name__":=by decide) (hdb:(x == ("__debug__":Str))=false:=by decide)
  (he:Qg (e::es) X.env=(false,eval e X.env)::Qg es X.env:=by rfl) (hpl:(backTo pos (Qg es X.env)).any (·.1)=false:=by rfl):PE X (.Call (.Name x p) (e::es) [] pos) (tCB r t):=by
 intro pins s σ H Q I h
 refine Qz (BU I hg hm hv ?_ hn hdb)
 exact RK (thn (ha pos pins s σ H _ I h) λus s1 ⟨vs,H1,I1,r1,q1⟩=>hc pins s1 σ H1 vs us Q I1 r1 q1) he hpl
end
end L2
namespace HT
open PySem PyProof.Rows
section
open PySem.SeqAt
open PySem.AutoSeq1 (wpAny_loadPart')
open PySem.MeetsSeq PySem.MeetsSeq2 PySem.MeetsSeq3
end
section
variable {prog:Qj} {w:Qk} {A:Qm} {E:Qb->Qc->Prop} {s:Qc}
theorem cat_tup {t b:Addr} {vs ws:List Qb} {Q:Qb->Qc->Prop} (ht:IsTup s.heap t vs.toArray) (hb:IsTup s.heap b ws.toArray) (hv:vs≠[])
  (h1:ws=[]->Q (.ref t) s) (h2:ws≠[]->Q (.ref s.heap.objs.size) { s with heap:=s.heap.push { cls:=.type "tuple",data:=.seq (vs++ws).toArray } })
  (hsz:vs.length + ws.length<=Qe):Qf (model prog w) A (binaryOp .Add (.ref t) (.ref b)) Q E s:=by
 obtain ⟨⟨cls,dd,data,sl⟩,ho,hc,n,hd⟩:=id ht
 obtain ⟨⟨cls2,dd2,data2,sl2⟩,ho2,hc2,n2,hd2⟩:=id hb
 simp only at hc hd hc2 hd2
 subst hc hd hc2 hd2
 have e:vs.toArray++ws.toArray=(vs++ws).toArray:=by simp
 by_cases hw:ws=[]
 ·exact concat_meets ⟨_,ho,rfl⟩ ⟨_,ho2,rfl⟩ noFill_tuple_add seq_tuple_add Zj Y7 (Y0 _ _)
   (tuple_addW1 t b vs.toArray ws.toArray n n2 dd dd2 sl sl2 (by simpa using hv) (by simp[hw])) ⟨ho,ho2,h1 hw⟩
 ·refine concat_meets ⟨_,ho,rfl⟩ ⟨_,ho2,rfl⟩ noFill_tuple_add seq_tuple_add Zj Y7 (Y0 _ _)
   (tuple_addW2 t b vs.toArray ws.toArray n n2 dd dd2 sl sl2 (by simpa using hv) (by simpa using hw) (by rw[Ri,Ri]; exact hsz)) ⟨ho,ho2,?_⟩
  rw[e]
  exact h2 hw
def sIx (n d:Nat):Option Int->Nat
 | none=>d
 | some v=>if v < 0 then (v + (n:Int)).toNat else min v.toNat n
theorem sIx_nat (n d k:Nat):sIx n d (some (k:Int))=min k n:=by
 show (if (k:Int) < 0 then ((k:Int) + (n:Int)).toNat else min (k:Int).toNat n)=min k n
 rw[if_neg (by omega),Rc]
theorem sIx_le (n d:Nat) (hd:d<=n) (o:Option Int):sIx n d o<=n:=by
 cases o with
 | none=>exact hd
 | some v=>
  show (if v < 0 then (v + (n:Int)).toNat else min v.toNat n)<=n
  by_cases hv:v < 0
  ·rw[if_pos hv]; omega
  ·rw[if_neg hv]; exact Yi _ _
theorem Jy (v:Int) (n d:Nat):(if v < 0 then max (v + (n:Int)) 0 else min v (n:Int))=((sIx n d (some v):Nat):Int):=by
 show (if v < 0 then max (v + (n:Int)) 0 else min v (n:Int))=(((if v < 0 then (v + (n:Int)).toNat else min v.toNat n):Nat):Int)
 by_cases hv:v < 0
 ·simp only[if_pos hv]; omega
 ·simp only[if_neg hv]; omega
theorem adjust_gen (lo hi:Option Int) (n:Nat):Builtin.Slice.sliceAdjust lo hi 1 (n:Int)=(((sIx n 0 lo:Nat):Int),((sIx n n hi:Nat):Int)):=by
 have h1:¬ ((1:Int) < 0):=by omega
 unfold Builtin.Slice.sliceAdjust
 simp only[h1,if_false]
 refine Prod.ext ?_ ?_
 ·cases lo with
  | none=>rfl
  | some v=>exact Jy v n 0
 ·cases hi with
  | none=>rfl
  | some v=>exact Jy v n n
theorem places_gen (i j:Nat):Builtin.Slice.slicePlaces (i:Int) (j:Int) 1=j - i:=by
 unfold Builtin.Slice.slicePlaces
 have h1:(1:Int) > 0:=by omega
 simp only[h1,if_true,Int.ediv_one]
 split <;> omega
theorem Fr {v:Qb} {o:Option Int} {Q:Option Int->Qc->Prop} (p:IsPart v o) (h:Q o s):Qf (model prog w) A (Builtin.Slice.slicePartIndex v) Q E s:=by
 cases p with
 | none=>exact slicePart_none h
 | int i t=>exact slicePart_int h
theorem Cy {sl:Addr} {vl vu:Qb} {lo hi:Option Int} {n:Nat} {Q:Int×Int×Nat->Qc->Prop} (hs:s.heap.IsSliceOf sl vl vu .none) (pl:IsPart vl lo) (pu:IsPart vu hi)
  (h:Q (((sIx n 0 lo:Nat):Int),1,sIx n n hi - sIx n 0 lo) s):Qf (model prog w) A (Builtin.Slice.sliceApplied (.ref sl) (pure (n:Int))) Q E s:=by
 obtain ⟨os,hos,hcs,hds⟩:=id hs
 unfold Builtin.Slice.sliceApplied Builtin.Slice.sliceFields
 refine Qa (Qa (Qn hos hds (x:=vl) rfl (Qa (Qn hos hds (x:=vu) rfl (Qa (Qn hos hds (x:=.none) rfl (Qd ?_)))))))
 refine Qa (slicePart_none ?_)
 show Qf _ _ (if ((1:Int) == 0)=true then _ else _) _ _ s
 rw[if_neg (by decide)]
 refine Qa (Fr pl (Qa (Fr pu (Qa (Qd ?_)))))
 show Qf _ _ (match Builtin.Slice.sliceAdjust lo hi 1 (n:Int) with | (lo,hi)=>pure (lo,(1:Int),Builtin.Slice.slicePlaces lo hi 1)) _ _ s
 rw[adjust_gen lo hi n]
 show Qf _ _ (pure (((sIx n 0 lo:Nat):Int),(1:Int),Builtin.Slice.slicePlaces ((sIx n 0 lo:Nat):Int) ((sIx n n hi:Nat):Int) 1)) _ _ s
 rw[places_gen]
 exact Qd h
theorem pick_gen (xs:Array Qb) (i k:Nat):((J1 k).filterMap λ(m:Nat)=>xs[((i:Int) + (m:Int) * 1).toNat]?).toArray=((xs.toList.drop i).take k).toArray:=by
 have e:(λ(m:Nat)=>xs[((i:Int) + (m:Int) * 1).toNat]?)=λm=>xs[i + m]?:=by
  funext m
  have:((i:Int) + (m:Int) * 1).toNat=i + m:=by omega
  rw[this]
 rw[e]
 have:=pick_run xs i k
 rw[List.filterMap_map]at this
 have e2:((λx=>xs[x]?) ∘ λx=>i + x)=λm=>xs[i + m]?:=rfl
 rw[e2]at this
 rw[this]
theorem getItem_tuple_cut {t sl:Addr} {items:Array Qb} {vl vu:Qb} {lo hi:Option Int} {Q:Qb->Qc->Prop} (ht:IsTup s.heap t items) (hs:s.heap.IsSliceOf sl vl vu .none) (pl:IsPart vl lo) (pu:IsPart vu hi)
  (hw:¬ (sIx items.size 0 lo=0/\sIx items.size items.size hi=items.size))
  (h:Q (.ref s.heap.objs.size) { s with heap:=s.heap.push { cls:=.type "tuple",data:=.seq ((items.toList.drop (sIx items.size 0 lo)).take (sIx items.size items.size hi - sIx items.size 0 lo)).toArray } })
  (hsz:items.size<=Qe):Qf (model prog w) A (getItem (.ref t) (.ref sl)) Q E s:=by
 have htake:sizeOk (.seq ((items.toList.drop (sIx items.size 0 lo)).take (sIx items.size items.size hi - sIx items.size 0 lo)).toArray):=by
  show ((items.toList.drop (sIx items.size 0 lo)).take (sIx items.size items.size hi - sIx items.size 0 lo)).toArray.size<=Qe
  rw[Ri,RA,Uj,Rw]
  omega
 have hj:sIx items.size items.size hi<=items.size:=sIx_le _ _ (J8 _) hi
 obtain ⟨os,hos,hcs,hds⟩:=id hs
 have hTs:s.TypeIs (.ref sl) "slice":=⟨os,hos,hcs⟩
 unfold getItem
 try with_reducible refine Qo ?_
 first | refine Qa (Qd ?_) | skip
 refine Qa (wpAny_sequenceKey ht.typeIs (by decide) ?_)
 refine Qa (wpAny_callSpecial?_slot (name:=Str.ofString "__getitem__") ht.typeIs RY
  (Qq RY ht.typeIs entry_tuple_getitem ?_ (args_tuple_getitem _ _)))
 show Qf _ _ (Builtin.Tuple.tupleItemsOf (.ref t) >>= _) _ _ s
 refine Qa (tupleItemsOf_ ht ?_)
 refine Qa (Q5 hTs ?_)
 rw[if_pos (by decide)]
 refine Qa (Cy hs pl pu ?_)
 have hno:¬ ((((sIx items.size 0 lo:Nat):Int) == 0 && (1:Int) == 1 && (sIx items.size items.size hi - sIx items.size 0 lo) == items.size)=true):=by
  intro q
  rw[RL,RL]at q
  have q1:((sIx items.size 0 lo:Nat):Int)=0:=eq_of_beq q.1.1
  have q2:sIx items.size items.size hi - sIx items.size 0 lo=items.size:=eq_of_beq q.2
  exact hw ⟨by omega,by omega⟩
 show Qf _ _ (if (((sIx items.size 0 lo:Nat):Int) == 0 && (1:Int) == 1 && (sIx items.size items.size hi - sIx items.size 0 lo) == items.size)=true then _ else _) _ _ s
 rw[if_neg hno,pick_gen]
 first
  | exact Qa (m:=Builtin.Tuple.tupleExact _) (Qt (Qd ⟨_,rfl,Qd h⟩) htake)
  | exact Qa (m:=Builtin.Tuple.tupleExact _) (Qt (Qa (Qd (Qd ⟨_,rfl,Qd h⟩))) htake)
  | exact Qa (Qa (m:=Builtin.Tuple.tupleExact _) (Qt (Qd (Qd ⟨_,rfl,Qd h⟩)) htake))
  | exact Qa (Qa (m:=Builtin.Tuple.tupleExact _) (Qt (Qd ⟨_,rfl,Qd h⟩) htake))
end
end HT
namespace L2
open PySem PySem.Spec PyProof.Rows
abbrev TO:=St->Hp->(Option Int->Hp->Prop)->Prop
def PO (X:Cx) (e:Option Expr) (t:TO):Prop:=
 ∀ (pins:List (Addr×Obj)) (s:Qc) (σ:St) (H:Hp) (Q:Option Int->Hp->Prop),Inv X pins σ H s->t σ H Q->
  Qf (model X.prog X.w) X.A (evalPart e X.env) (λu s'=>∃ o H',Inv X pins σ H' s'/\IsPart u o/\Q o H') X.xe s
def Jz:TO:=λ_ H Q=>Q none H
def Mo (t:TE):TO:=λσ H Q=>t σ H λx H1=>∃ i,x=.int i/\Q (some i) H1
theorem intsAre_of {ns:List Int}:∀ {us:List Qb},Vals (ns.map V.int) us->IntsAre us ns:=by
 induction ns with
 | nil=>intro us r; rw[Uf]at r; cases r; exact .nil
 | cons n ns ih=>
  intro us r
  rw[Rt]at r
  cases r with
  | cons r1 r2=>
   obtain ⟨t,e⟩:=r1
   subst e
   exact .cons n t (ih r2)
section
variable {X:Cx} {e:Expr} {te:TE} {lo hi:Option Expr} {tl th:TO} {pos p2:Pos}
theorem po_none:PO X none Jz:=by
 intro pins s σ H Q I h
 rw[evalPart_none]
 exact Qd ⟨none,H,I,.none,h⟩
theorem po_some (h:PE X e te):PO X (some e) (Mo te):=by
 intro pins s σ H Q I hw
 rw[evalPart_some]
 refine thn (h pins s σ H _ I hw) λu s1 ⟨x,H1,I1,r1,q1⟩=>?_
 obtain ⟨i,rfl,q⟩:=q1
 obtain ⟨t,rfl⟩:=r1
 exact ⟨some i,H1,I1,.int i t,q⟩
def SlR (X:Cx) (r:V->Option Int->Option Int->Hp->VK->Prop):Prop:=
 ∀ (pins:List (Addr×Obj)) (s:Qc) (σ:St) (H:Hp) (x:V) (v vl vu:Qb) (lo hi:Option Int) (sl:Addr) (Q:VK),Inv X pins σ H s->RelV x v->s.heap.IsSliceOf sl vl vu .none->IsPart vl lo->IsPart vu hi->r x lo hi H Q->
  ∃ T id,typeLookup (.type T) "__getitem__"=pure (some (.builtin id))/\s.TypeIs v T/\Qf (model X.prog X.w) X.A (getItem v (.ref sl)) (EP X pins σ Q) X.xe s
def tSl (r:V->Option Int->Option Int->Hp->VK->Prop) (te:TE) (tl th:TO):TE:=λσ H Q=>te σ H λx H1=>tl σ H1 λl H2=>th σ H2 λu H3=>r x l u H3 Q
theorem pe_slice {r:V->Option Int->Option Int->Hp->VK->Prop} (hr:SlR X r) (he:PE X e te) (hl:PO X lo tl) (hu:PO X hi th):PE X (.Subscript e (.Slice lo hi none p2) pos) (tSl r te tl th):=by
 intro pins s σ H Q I h
 refine Subscript_ (thn (he pins s σ H _ I h) λv s1 ⟨x,H1,I1,r1,q1⟩=>?_)
 refine wpAny_Slice (thn (hl pins s1 σ H1 _ I1 q1) λvl s2 ⟨l,H2,I2,pl,q2⟩=>thn (hu pins s2 σ H2 _ I2 q2) λvu s3 ⟨u,H3,I3,pu,q3⟩=>?_)
 rw[evalPart_none]
 refine Qd ?_
 have I4:Inv X pins σ H3 { s3 with heap:=s3.heap.push { cls:=.type "slice",data:=.fields #[vl,vu,.none] } }:=I3.kept (t':=s3.toks) λb ob q=>Heap.get?_push_of_some _ q
 obtain ⟨T,id,hT,ht,hg⟩:=hr pins { s3 with heap:=s3.heap.push { cls:=.type "slice",data:=.fields #[vl,vu,.none] } } σ H3 x v vl vu l u s3.heap.objs.size Q I4 r1 (Heap.IsSliceOf.new ..) pl pu q3
 show Qf (model X.prog X.w) X.A (subscriptTail e (.Slice lo hi none p2) v (.ref s3.heap.objs.size)) (EP X pins σ Q) X.xe { s3 with heap:=s3.heap.push { cls:=.type "slice",data:=.fields #[vl,vu,.none] } }
 exact tail_any (ops:=[.ref s3.heap.objs.size,v]) ht hT hg (by with_unfolding_all rfl)
def cutV (xs:List V) (lo hi:Option Int):List V:=(xs.drop (HT.sIx xs.length 0 lo)).take (HT.sIx xs.length xs.length hi - HT.sIx xs.length 0 lo)
theorem Et (xs:List V) (lo hi:Option Int):(cutV xs lo hi).length<=xs.length:=by
 unfold cutV
 rw[RA,Uj]
 omega
def rSlT (K:J4):V->Option Int->Option Int->Hp->VK->Prop:=λx lo hi H Q=>∃ a xs,x=.ref a/\SqT K H a xs/\
 ¬ (HT.sIx xs.length 0 lo=0/\HT.sIx xs.length xs.length hi=xs.length)/\∀ p,H p=none->Q (.ref p) (upd H p (.tup (cutV xs lo hi)))
theorem Ij:SlR X (rSlT X.K):=by
 intro pins s σ H x v vl vu lo hi sl Q I rx hs pl pu h
 obtain ⟨a,xs,rfl,hx,hw,q⟩:=h
 cases rx
 obtain ⟨its,r,ht,hz⟩:=I.tuple hx
 have hlen:its.toArray.size=xs.length:=by rw[Ri]; exact r.length.symm
 refine ⟨"tuple",_,RY.lookup,ht.typeIs,?_⟩
 refine HT.getItem_tuple_cut ht hs pl pu (by rw[hlen]; exact hw) ?_ (by rw[hlen]; exact hz)
 rw[hlen]
 refine ⟨.ref s.heap.objs.size,_,I.laid (t':=s.toks) (o:=.tup (cutV xs lo hi)) (λb ob q=>Heap.get?_push_of_some _ q) (J8 _) ?_,rfl,q _ (I.hok.fresh (J8 _))⟩
 exact ⟨J6 (Et xs lo hi) hz,_,(r.drop (HT.sIx xs.length 0 lo)).take (HT.sIx xs.length xs.length hi - HT.sIx xs.length 0 lo),IsTup.new _ _⟩
def rCatT (K:J4):R2:=λx y H Q=>∃ a b xs ys,x=.ref a/\y=.ref b/\SqT K H a xs/\SqT K H b ys/\xs≠[]/\xs.length + ys.length<=Qe/\
 (ys=[]->Q (.ref a) H)/\(ys≠[]->∀ p,H p=none->Q (.ref p) (upd H p (.tup (xs++ys))))
theorem Vals.nil_iff {xs:List V} {us:List Qb} (r:Vals xs us):us=[]↔xs=[]:=by
 cases r with
 | nil=>simp
 | cons _ _=>simp
theorem JA:OpR X (binaryOp .Add) (rCatT X.K):=by
 intro pins s σ H x y v u Q I rx ry h
 obtain ⟨a,b,xs,ys,rfl,rfl,ha,hb,hx,hz,q1,q2⟩:=h
 cases rx
 cases ry
 obtain ⟨its,r1,p1,_⟩:=I.tuple ha
 obtain ⟨its2,r2,p2,_⟩:=I.tuple hb
 refine HT.cat_tup p1 p2 (λz=>hx (r1.nil_iff.mp z)) (λz=>⟨.ref a,H,I,rfl,q1 (r2.nil_iff.mp z)⟩) (λz=>?_) (by rw[<- r1.length,<- r2.length]; exact hz)
 refine ⟨.ref s.heap.objs.size,_,I.laid (t':=s.toks) (o:=.tup (xs++ys)) (λb ob q=>Heap.get?_push_of_some _ q) (J8 _) ?_,rfl,q2 (λw=>z (r2.nil_iff.mpr w)) _ (I.hok.fresh (J8 _))⟩
 exact ⟨by rw[Rk]; exact hz,_,r1.append r2,IsTup.new _ _⟩
end
end L2
namespace L2
open PySem PySem.Spec PyProof.Rows
def ixN (n:Nat) (i:Int):Option Nat:=if 0<=i then (if i < n then some i.toNat else none) else if -(n:Int)<=i then some (i + n).toNat else none
def atI {α:Type} (xs:List α) (i:Int):Option α:=(ixN xs.length i).bind λj=>xs[j]?
theorem JB {n:Nat} {i:Int} {j:Nat} (h:ixN n i=some j):seqIndex? i n=some j/\j < n/\-(n:Int)<=i/\i < n:=by
 unfold ixN at h
 by_cases h0:0<=i
 ·rw[if_pos h0]at h
  by_cases h1:i < n
  ·rw[if_pos h1]at h
   have e:i.toNat=j:=Uc h
   exact ⟨by rw[seqIndex_of h0 h1,e],by omega,by omega,h1⟩
  ·rw[if_neg h1]at h; cases h
 ·rw[if_neg h0]at h
  by_cases h1:-(n:Int)<=i
  ·rw[if_pos h1]at h
   have e:(i + n).toNat=j:=Uc h
   exact ⟨by rw[seqIndex_neg (by omega) h1,e],by omega,h1,by omega⟩
  ·rw[if_neg h1]at h; cases h
theorem Ho {α:Type} {xs:List α} {i:Int} {v:α} (h:atI xs i=some v):∃ j,seqIndex? i xs.length=some j/\xs[j]?=some v/\j < xs.length/\-(xs.length:Int)<=i/\i < xs.length:=by
 unfold atI at h
 cases e:ixN xs.length i with
 | none=>rw[e]at h; cases h
 | some j=>
  rw[e]at h
  obtain ⟨h1,h2,h3,h4⟩:=JB e
  exact ⟨j,h1,h,h2,h3,h4⟩
theorem AB {α:Type} {xs:List α} {j:Nat} {v:α} (h:xs[j]?=some v):atI xs (j:Int)=some v:=by
 have hj:j < xs.length:=(J3.mp h).1
 have e:ixN xs.length (j:Int)=some j:=by
  unfold ixN
  rw[if_pos (by omega),if_pos (by omega)]; simp
 unfold atI; rw[e]; exact h
theorem atI_last {α:Type} (xs:List α) (v:α):atI (xs++[v]) (-1)=some v:=by
 have hl:(xs++[v]).length=xs.length + 1:=by simp
 have e:ixN (xs++[v]).length (-1)=some xs.length:=by
  unfold ixN
  rw[hl,if_neg (by decide),if_pos (by omega)]
  congr 1
  omega
 unfold atI
 rw[e]
 show (xs++[v])[xs.length]?=some v
 simp
def JC (b:Expr):Prop:=∀ o i,subscripted b false o i=operate [o,i] (getItem o i)
def IxR (X:Cx) (r:R2):Prop:=
 ∀ (value slice:Expr) (pins:List (Addr×Obj)) (s:Qc) (σ:St) (H:Hp) (x y:V) (v u:Qb) (Q:VK),Inv X pins σ H s->RelV x v->RelV y u->r x y H Q->
  subscripted slice false v u=operate [v,u] (getItem v u)->Qf (model X.prog X.w) X.A (subscriptTail value slice v u) (EP X pins σ Q) X.xe s
def MtR (X:Cx) (id:String) (r:V->List V->Hp->VK->Prop):Prop:=
 ∀ (pins:List (Addr×Obj)) (s:Qc) (σ:St) (H:Hp) (x:V) (xs:List V) (v:Qb) (us:List Qb) (Q:VK),Inv X pins σ H s->RelV x v->Vals xs us->r x xs H Q->
  Qf (model X.prog X.w) X.A (call (.builtin id) (v::us)) (EP X pins σ Q) X.xe s
section
variable {X:Cx} {a b:Expr} {ta tb:TE} {pos:Pos}
theorem pe_ix {r:R2} (hr:IxR X r) (ha:PE X a ta) (hb:PE X b tb) (hs:JC b):PE X (.Subscript a b pos) (tOp r ta tb):=by
 intro pins s σ H Q I h
 exact Subscript_ (binT ha hb I h λv u s2 x y H2 I2 rx ry q=>hr a b pins s2 σ H2 x y v u Q I2 rx ry q (hs _ _))
def rIxL (K:J4):R2:=λx y H Q=>∃ p xs i v,x=.ref p/\y=.int i/\SqL K H p xs/\atI xs i=some v/\Q v H
def rIxT (K:J4):R2:=λx y H Q=>∃ p xs i v,x=.ref p/\y=.int i/\SqT K H p xs/\atI xs i=some v/\Q v H
theorem AF:IxR X (rIxL X.K):=by
 intro value slice pins s σ H x y v u Q I rx ry h hs
 obtain ⟨p,xs,i,z,rfl,rfl,hq,he,q⟩:=h
 cases rx
 obtain ⟨t,rfl⟩:=ry
 obtain ⟨its,r,pl,hz⟩:=I.list hq
 obtain ⟨j,h1,h2,h3,h4,h5⟩:=Ho he
 obtain ⟨w,ew,rw'⟩:=r.get h2
 have hl:=r.length
 have hn:=Er
 have fin:EP X pins σ Q w s:=⟨z,H,I,rw',q⟩
 by_cases h0:0<=i
 ·have hj:i.toNat=j:=by
   rw[seqIndex_of h0 h5]at h1
   exact Uc h1
  exact item_listR pl.isList h0 (by omega) (by rw[hj]; simpa using ew) fin hs
 ·have hj:(i + (its.toArray.size:Int)).toNat=j:=by
   rw[seqIndex_neg (by omega) h4]at h1
   rw[Ri,<- hl]
   exact Uc h1
  exact subscriptTail_builtinR (x:=w) pl.isList.typeIs slot_list_getitem.lookup
   (wpAny_getItem_list_neg (Q:=λr s'=>r=w/\EP X pins σ Q r s') pl.isList (by omega) (by rw[Ri] <;> omega) (by omega) (by rw[hj]; simpa using ew) ⟨rfl,fin⟩) hs
theorem Aw:IxR X (rIxT X.K):=by
 intro value slice pins s σ H x y v u Q I rx ry h hs
 obtain ⟨p,xs,i,z,rfl,rfl,hq,he,q⟩:=h
 cases rx
 obtain ⟨t,rfl⟩:=ry
 obtain ⟨its,r,pl,hz⟩:=I.tuple hq
 obtain ⟨j,h1,h2,h3,h4,h5⟩:=Ho he
 obtain ⟨w,ew,rw'⟩:=r.get h2
 have hl:=r.length
 have hn:=Er
 have fin:EP X pins σ Q w s:=⟨z,H,I,rw',q⟩
 exact subscriptTail_builtinR (x:=w) pl.typeIs slot_tuple_getitem.lookup
  (getItem_tuple (j:=j) (Q:=λr s'=>r=w/\EP X pins σ Q r s') pl (by omega) (by omega) (by rw[Ri,<- hl]; exact h1) (by simpa using ew) ⟨rfl,fin⟩) hs
theorem mapSeq_set (its:List Qb) (n j:Nat) (u:Qb):Obj.mapSeq (·.setIfInBounds j u) { cls:=.type "list",data:=.seq its.toArray n }={ cls:=.type "list",data:=.seq (its.set j u).toArray n }:=by
 simp[Obj.mapSeq]
theorem Inv.lst {pins:List (Addr×Obj)} {σ:St} {H:Hp} {s:Qc} {p:Addr} {xs:List V} (I:Inv X pins σ H s) (h:H p=some (.lst xs)) :
  ∃ (its:List Qb) (n:Nat),Vals xs its/\s.heap.get? p=some { cls:=.type "list",data:=.seq its.toArray n }/\xs.length<=Qe:=by
 obtain ⟨z,its,n,r,e⟩:=I.hok p _ h
 exact ⟨its,n,r,e,z⟩
theorem Inv.lstUpd {pins:List (Addr×Obj)} {σ:St} {H:Hp} {s:Qc} {p:Addr} {xs ys:List V} {its its':List Qb} {n n':Nat} {f:Obj->Obj} (I:Inv X pins σ H s) (h:H p=some (.lst xs))
  (ho:s.heap.get? p=some { cls:=.type "list",data:=.seq its.toArray n }) (hf:f { cls:=.type "list",data:=.seq its.toArray n }={ cls:=.type "list",data:=.seq its'.toArray n' }) (r:Vals ys its') (hz:ys.length<=Qe) (t:Nat) :
  Inv X pins σ (upd H p (.lst ys)) { s with heap:=s.heap.update p f,toks:=t }:=by
 have e:(s.heap.update p f).get? p=some { cls:=.type "list",data:=.seq its'.toArray n' }:=by
  rw[Heap.get?_update_self f ho (by rw[hf] <;> rfl),hf]
 refine I.write (x:=p) (e:=p) (by rw[h]; trivial) (.inl rfl) (λb u hb q=>(Heap.get?_update_other _ _ (UQ hb)).trans q) ⟨_,e⟩ ?_
 exact ⟨hz,its',n',r,e⟩
def rSetL:V->V->V->Hp->(Hp->Prop)->Prop:=λo i v H Q=>∃ p xs k j,o=.ref p/\i=.int k/\H p=some (.lst xs)/\ixN xs.length k=some j/\Q (upd H p (.lst (xs.set j v)))
theorem Dj:PSet X rSetL:=by
 intro pins s σ H o i v ov iv u Q I ro ri rv h
 obtain ⟨p,xs,k,j,rfl,rfl,hp,hj,q⟩:=h
 cases ro
 obtain ⟨t,rfl⟩:=ri
 obtain ⟨its,n,r,ho,hz⟩:=I.lst hp
 obtain ⟨h1,h2,h3,h4⟩:=JB hj
 have hl:=r.length
 have hn:=Er
 have I':Inv X pins σ (upd H p (.lst (xs.set j v))) { s with heap:=s.heap.update p (Obj.mapSeq (·.setIfInBounds j u)) }:=
  I.lstUpd hp ho (mapSeq_set its n j u) (r.set rv j) (by rw[Y4]; exact hz) s.toks
 by_cases h0:0<=k
 ·have hk:k.toNat=j:=by
   rw[seqIndex_of h0 h4]at h1
   exact Uc h1
  exact PySem.W.ki_setAt ho h0 (by omega) (by rw[Ri,<- hl]; exact h4) (by rw[hk]; exact ⟨_,I',q⟩)
 ·have hk:(k + (its.toArray.size:Int)).toNat=j:=by
   rw[seqIndex_neg (by omega) h3]at h1
   rw[Ri,<- hl]
   exact Uc h1
  exact PySem.W.ki_setBack ho (by omega) (by rw[Ri,<- hl]; exact h3) (by omega) (by rw[hk]; exact ⟨_,I',q⟩)
theorem slice_bounds (lo hi:Option Int) (n:Nat):(sliceBounds lo hi none n).1=((HT.sIx n 0 lo:Nat):Int)/\(sliceBounds lo hi none n).2.1=((HT.sIx n n hi:Nat):Int)/\(sliceBounds lo hi none n).2.2=1:=by
 refine ⟨?_,?_,rfl⟩
 ·cases lo with
  | none=>simp[sliceBounds,HT.sIx]
  | some i=>
   simp only[sliceBounds,HT.sIx,ZZ,show (1:Int) > 0 by decide,if_true]
   by_cases h:i < 0
   ·simp only[h,if_true] <;> omega
   ·simp only[h,if_false] <;> omega
 ·cases hi with
  | none=>simp[sliceBounds,HT.sIx]
  | some i=>
   simp only[sliceBounds,HT.sIx,ZZ,show (1:Int) > 0 by decide,if_true]
   by_cases h:i < 0
   ·simp only[h,if_true] <;> omega
   ·simp only[h,if_false] <;> omega
theorem slicePick_cut (its:List Qb) (lo hi:Option Int):slicePick its.toArray lo hi none=((its.drop (HT.sIx its.length 0 lo)).take (HT.sIx its.length its.length hi - HT.sIx its.length 0 lo)).toArray:=by
 obtain ⟨h1,h2,h3⟩:=slice_bounds lo hi its.toArray.size
 unfold slicePick
 rw[h1,h2,h3]
 simp only[sliceRange_one,pick_run,Ri] <;> rfl
def rSlL (K:J4):V->Option Int->Option Int->Hp->VK->Prop:=λx lo hi H Q=>∃ a xs,x=.ref a/\SqL K H a xs/\∀ p,H p=none->Q (.ref p) (upd H p (.lst (cutV xs lo hi)))
theorem DG:SlR X (rSlL X.K):=by
 intro pins s σ H x v vl vu lo hi sl Q I rx hs pl pu h
 obtain ⟨a,xs,rfl,hx,q⟩:=h
 cases rx
 obtain ⟨its,r,ht,hz⟩:=I.list hx
 have hlen:=r.length
 refine ⟨"list",_,slot_list_getitem.lookup,ht.isList.typeIs,?_⟩
 refine wpAny_getItem_list_slice ht.isList hs pl pu .none (by simp) ?_ (by rw[Ri] <;> omega)
 rw[slicePick_cut,<- hlen]
 refine ⟨.ref s.heap.objs.size,_,I.laid (t':=s.toks) (o:=.lst (cutV xs lo hi)) (λb ob q=>Heap.get?_push_of_some _ q) (J8 _) ?_,rfl,q _ (I.hok.fresh (J8 _))⟩
 exact ⟨J6 (Et xs lo hi) hz,_,0,(r.drop (HT.sIx xs.length 0 lo)).take (HT.sIx xs.length xs.length hi - HT.sIx xs.length 0 lo),Heap.get?_push_size _ rfl⟩
def Eu:V->Bool
 | .non=>true
 | .bl _=>true
 | .int _=>true
 | .str _=>true
 | _=>false
def eqV:V->V->Bool
 | .non,.non=>true
 | .bl a,.bl b=>a == b
 | .bl a,.int b=>(if a then 1 else 0) == b
 | .int a,.bl b=>a == (if b then 1 else 0)
 | .int a,.int b=>a == b
 | .str a,.str b=>a == b
 | _,_=>false
theorem eqAt_V {A:Qm} {s:Qc} {y x:V} {u v:Qb} (ry:RelV y u) (rx:RelV x v) (fy:Eu y=true) (fx:Eu x=true):SeqAt.EqAt A s u v (eqV y x):=by
 cases y with
 | non=>
  cases ry
  cases x with
  | non=>cases rx; exact SeqAt.EqAt.same _
  | bl b=>cases rx; exact SeqAt.EqAt.none_bool b
  | int b=>obtain ⟨t,rfl⟩:=rx; exact SeqAt.EqAt.none_int b t
  | str b=>obtain ⟨t,rfl⟩:=rx; exact SeqAt.EqAt.none_str b t
  | _=>exact absurd (show false=true from fx) Rx
 | bl a=>
  cases ry
  cases x with
  | non=>cases rx; exact SeqAt.EqAt.bool_none a
  | bl b=>cases rx; exact SeqAt.EqAt.bool_bool a b
  | int b=>obtain ⟨t,rfl⟩:=rx; exact SeqAt.EqAt.bool_int a b t
  | str b=>obtain ⟨t,rfl⟩:=rx; exact SeqAt.EqAt.bool_str a b t
  | _=>exact absurd (show false=true from fx) Rx
 | int a=>
  obtain ⟨t',rfl⟩:=ry
  cases x with
  | non=>cases rx; exact SeqAt.EqAt.int_none a t'
  | bl b=>cases rx; exact SeqAt.EqAt.int_bool a t' b
  | int b=>obtain ⟨t,rfl⟩:=rx; exact SeqAt.EqAt.int_int a t' b t
  | str b=>obtain ⟨t,rfl⟩:=rx; exact SeqAt.EqAt.int_str a t' b t
  | _=>exact absurd (show false=true from fx) Rx
 | str a=>
  obtain ⟨t',rfl⟩:=ry
  cases x with
  | non=>cases rx; exact SeqAt.EqAt.str_none a t'
  | bl b=>cases rx; exact SeqAt.EqAt.str_bool a t' b
  | int b=>obtain ⟨t,rfl⟩:=rx; exact SeqAt.EqAt.str_int a t' b t
  | str b=>obtain ⟨t,rfl⟩:=rx; exact SeqAt.EqAt.str_str a t' b t
  | _=>exact absurd (show false=true from fx) Rx
 | _=>exact absurd (show false=true from fy) Rx
def eqU (x:V) (u:Qb):Bool:=match u with
 | .none=>eqV .non x
 | .bool b=>eqV (.bl b) x
 | .int i _=>eqV (.int i) x
 | .str z _=>eqV (.str z) x
 | _=>false
theorem La {x y:V} {u:Qb} (r:RelV y u) (f:Eu y=true):eqU x u=eqV y x:=by
 cases y with
 | non=>cases r; rfl
 | bl b=>cases r; rfl
 | int i=>obtain ⟨t,rfl⟩:=r; rfl
 | str z=>obtain ⟨t,rfl⟩:=r; rfl
 | _=>exact absurd (show false=true from f) Rx
theorem Ew {x:V}:∀ {xs:List V} {us:List Qb},Vals xs us->xs.all Eu=true->us.any (eqU x)=xs.any λy=>eqV y x
 | _,_,.nil,_=>rfl
 | y::xs,u::us,.cons r t,f=>by
  rw[Jd1,RL]at f
  rw[WU,WU,La r f.1,Ew t f.2]
theorem Dk {A:Qm} {s:Qc} {x:V} {v:Qb} (rx:RelV x v) (fx:Eu x=true):∀ {xs:List V} {us:List Qb},Vals xs us->xs.all Eu=true->∀ u∈us,SeqAt.EqAt A s u v (eqU x u)
 | _,_,.nil,_=>λu hu=>by cases hu
 | y::xs,u::us,.cons r t,f=>λu' hu=>by
  rw[Jd1,RL]at f
  rcases Rg.mp hu with rfl | hu
  ·rw[La r f.1]; exact eqAt_V r rx f.1 fx
  ·exact Dk rx fx t f.2 u' hu
def inV (x:V) (xs:List V):Bool:=xs.any λy=>eqV y x
def rIn (K:J4) (neg:Bool):R2:=λx y H Q=>∃ p xs,y=.ref p/\(SqL K H p xs\/SqT K H p xs)/\Eu x=true/\xs.all Eu=true/\Q (.bl (if neg then !inV x xs else inV x xs)) H
theorem BD:OpR X (compareOp .In) (rIn X.K false):=by
 intro pins s σ H x y v u Q I rx ry h
 obtain ⟨p,xs,rfl,hq,fx,fs,q⟩:=h
 cases ry
 rcases hq with hq | hq
 ·obtain ⟨its,r,pl,hz⟩:=I.list hq
  refine SeqAt.in_listAt (eqU x) pl.isList (λw hw=>Dk rx fx r fs w (by simpa using hw)) ⟨.bl _,H,I,rfl,?_⟩
  rw[show its.toArray.any (eqU x)=its.any (eqU x) by simp,Ew r fs]
  exact q
 ·obtain ⟨its,r,pl,hz⟩:=I.tuple hq
  refine SeqAt.in_tupleAt (eqU x) pl (λw hw=>Dk rx fx r fs w (by simpa using hw)) ⟨.bl _,H,I,rfl,?_⟩
  rw[show its.toArray.any (eqU x)=its.any (eqU x) by simp,Ew r fs]
  exact q
theorem op_notIn_seq:OpR X (compareOp .NotIn) (rIn X.K true):=by
 intro pins s σ H x y v u Q I rx ry h
 obtain ⟨p,xs,rfl,hq,fx,fs,q⟩:=h
 cases ry
 rcases hq with hq | hq
 ·obtain ⟨its,r,pl,hz⟩:=I.list hq
  refine SeqAt.notIn_listAt (eqU x) pl.isList (λw hw=>Dk rx fx r fs w (by simpa using hw)) ⟨.bl _,H,I,rfl,?_⟩
  rw[show its.toArray.any (eqU x)=its.any (eqU x) by simp,Ew r fs]
  exact q
 ·obtain ⟨its,r,pl,hz⟩:=I.tuple hq
  refine SeqAt.notIn_tupleAt (eqU x) pl (λw hw=>Dk rx fx r fs w (by simpa using hw)) ⟨.bl _,H,I,rfl,?_⟩
  rw[show its.toArray.any (eqU x)=its.any (eqU x) by simp,Ew r fs]
  exact q
theorem Ak:Bx X (.builtin "len") (λxs H Q=>∃ p ys,xs=[.ref p]/\(SqL X.K H p ys\/SqT X.K H p ys)/\Q (.int ys.length) H):=by
 intro pins s σ H xs us Q I r h
 obtain ⟨p,ys,rfl,hq,q⟩:=h
 obtain ⟨u,rfl,rx⟩:=CB r
 cases rx
 have hn:=Er
 rcases hq with hq | hq
 ·obtain ⟨its,r',pl,hz⟩:=I.list hq
  have hlen:=r'.length
  exact Calls.call_len_list pl.isList (by simp only[Ri] <;> omega) ⟨.int ys.length,H,I.tok _,⟨s.toks + 1,by rw[Ri,hlen]⟩,q⟩
 ·obtain ⟨its,r',pl,hz⟩:=I.tuple hq
  have hlen:=r'.length
  exact len_tuple pl (by simp only[Ri] <;> omega) ⟨.int ys.length,H,I.tok _,⟨s.toks + 1,by rw[Ri,hlen]⟩,q⟩
theorem DT:Bx X (.type "list") (λxs H Q=>∃ p ys,xs=[.ref p]/\(SqL X.K H p ys\/SqT X.K H p ys)/\∀ l,H l=none->Q (.ref l) (upd H l (.lst ys))):=by
 intro pins s σ H xs us Q I r h
 obtain ⟨p,ys,rfl,hq,q⟩:=h
 obtain ⟨u,rfl,rx⟩:=CB r
 cases rx
 have fin:∀ (its:List Qb),Vals ys its->ys.length<=Qe->∀ (h':Heap) (c':Nat),(∀ b o',s.heap.get? b=some o'->h'.get? b=some o')->
   h'.get? s.heap.objs.size=some { cls:=.type "list",dict:=none,data:=.seq its.toArray c',slots:=#[] }->EP X pins σ Q (.ref s.heap.objs.size) { s with heap:=h' }:=λits r' hz h' c' kp e=>
  ⟨.ref s.heap.objs.size,_,I.laid (t':=s.toks) kp (J8 _) (show ObjOk X.prog X.w _ h' _ (.lst ys) from ⟨hz,its,c',r',e⟩),rfl,q _ (I.hok.fresh (J8 _))⟩
 rcases hq with hq | hq
 ·obtain ⟨its,r',pl,hz⟩:=I.list hq
  have hlen:=r'.length
  obtain ⟨o,ho,hc,n,hd⟩:=pl.isList
  exact call_list_seq p (.inl rfl) ho hc hd (λh' c' kp e=>fin its r' hz h' c' kp e) (by simp only[Ri] <;> omega)
 ·obtain ⟨its,r',pl,hz⟩:=I.tuple hq
  have hlen:=r'.length
  obtain ⟨o,ho,hc,n,hd⟩:=pl
  exact call_list_seq p (.inr rfl) ho hc hd (λh' c' kp e=>fin its r' hz h' c' kp e) (by simp only[Ri] <;> omega)
theorem Ay:Bx X (.type "tuple") (λxs H Q=>∃ p ys,xs=[.ref p]/\((SqL X.K H p ys/\∀ l,H l=none->Q (.ref l) (upd H l (.tup ys)))\/(SqT X.K H p ys/\Q (.ref p) H))):=by
 intro pins s σ H xs us Q I r h
 obtain ⟨p,ys,rfl,h⟩:=h
 obtain ⟨u,rfl,rx⟩:=CB r
 cases rx
 rcases h with ⟨hq,q⟩ | ⟨hq,q⟩
 ·obtain ⟨its,r',pl,hz⟩:=I.list hq
  have hlen:=r'.length
  refine call_tuple_list pl.isList (λh' kp=>?_) (by simp only[Ri] <;> omega)
  have I1:Inv X pins σ H { s with heap:=h' }:=I.kept (t':=s.toks) kp
  have I2:Inv X pins σ (upd H h'.objs.size (.tup ys)) { s with heap:=h'.push { cls:=.type "tuple",data:=.seq its.toArray } }:=
   I1.laid (t':=s.toks) (λb o e=>Heap.get?_push_of_some _ e) (J8 _) (show ObjOk X.prog X.w _ _ _ (.tup ys) from ⟨hz,its,r',IsTup.new _ _⟩)
  exact ⟨.ref h'.objs.size,_,I2,rfl,q _ (I1.hok.fresh (J8 _))⟩
 ·obtain ⟨its,r',pl,hz⟩:=I.tuple hq
  exact call_tuple_same pl ⟨.ref p,H,I,rfl,q⟩
def tyV (K:J4) (T:String) (x:V) (H:Hp):Prop:=match x with
 | .str _=>T="str"
 | .int _=>T="int"
 | .ref p=>(T="list"/\∃ xs,SqL K H p xs)\/(T="tuple"/\∃ o,K.lookup p=some o/\o.cls=.type "tuple"/\o.dict=none)\/
   (T="dict"/\((∃ kvs,H p=some (.dK kvs))\/∃ kvs,H p=some (.dT kvs)))\/(T="set"/\∃ S n,H p=some (.set S n))
 | _=>False
theorem Lb {pins:List (Addr×Obj)} {σ:St} {H:Hp} {s:Qc} {T:String} {x:V} {v:Qb} (I:Inv X pins σ H s) (r:RelV x v) (ty:tyV X.K T x H) :
  s.TypeIs v T/\∀ a,v=.ref a->∃ ob,s.heap.get? a=some ob/\ob.dict=none:=by
 cases x with
 | str z=>
  obtain ⟨t,rfl⟩:=r
  cases (show T="str" from ty)
  exact ⟨typeIs_str s z t,λ_ e=>nomatch e⟩
 | int i=>
  obtain ⟨t,rfl⟩:=r
  cases (show T="int" from ty)
  exact ⟨typeIs_int s i t,λ_ e=>nomatch e⟩
 | ref p=>
  cases r
  rcases ty with ⟨rfl,xs,hq⟩ | ⟨rfl,o,hk,hc,hd⟩ | ⟨rfl,hk⟩ | ⟨rfl,S,n,hk⟩
  ·obtain ⟨its,_,pl,_⟩:=I.list hq
   refine ⟨pl.isList.typeIs,λa e=>?_⟩
   cases e
   obtain ⟨o,n,e,c,hd,_⟩:=pl
   exact ⟨o,e,hd⟩
  ·refine ⟨⟨o,I.kIn p o hk,hc⟩,λa e=>?_⟩
   cases e
   exact ⟨o,I.kIn _ o hk,hd⟩
  ·have z:∃ o,s.heap.get? p=some o/\o.ExactDict:=by
    rcases hk with ⟨kvs,hk⟩ | ⟨kvs,hk⟩
    ·obtain ⟨_,_,_,_,o,_,_,e,ex,_⟩:=I.hok p _ hk
     exact ⟨o,e,ex⟩
    ·obtain ⟨_,_,_,_,o,_,_,e,ex,_⟩:=I.hok p _ hk
     exact ⟨o,e,ex⟩
   obtain ⟨o,e,ex⟩:=z
   refine ⟨⟨o,e,ex.1⟩,λa e2=>?_⟩
   cases e2
   exact ⟨o,e,ex.2.1⟩
  ·obtain ⟨o,_,_,_,e,ex,_⟩:=I.hok p _ hk
   refine ⟨⟨o,e,ex.1⟩,λa e2=>?_⟩
   cases e2
   exact ⟨o,e,ex.2.1⟩
 | _=>exact UY ty
def tBM0 (K:J4) (T:String) (r:V->List V->Hp->VK->Prop) (to:TE):TE:=λσ H Q=>to σ H λx H1=>tyV K T x H1/\r x [] H1 Q
def tBM (K:J4) (T:String) (r:V->List V->Hp->VK->Prop) (to:TE) (t:TA):TE:=λσ H Q=>to σ H λx H1=>tyV K T x H1/\t σ H1 λxs H2=>r x xs H2 Q
variable {o e:Expr} {es:List Expr} {to:TE} {t:TA} {name:Str} {apos cpos:Pos} {T id:String} {r:V->List V->Hp->VK->Prop}
theorem pe_bm0 (pa:PlainAttrs T) (slot:Slot T name id) (hty:typeOf (.builtin id)=pure (.type "method_descriptor")) (hm:MtR X id r) (ho:PE X o to)
  (hbase:attributeBase o name X.env (eval o X.env)=eval o X.env:=by rfl) (hline:(apos.endLine == cpos.line)=true:=by rfl):PE X (.Call (.Attribute o name apos) [] [] cpos) (tBM0 X.K T r to):=by
 intro pins s σ H Q I h
 refine wpAny_Call_method0_late hbase hline (thn (ho pins s σ H _ I h) λv s1 ⟨x,H1,I1,r1,ty,q1⟩=>?_)
 obtain ⟨h1,h2⟩:=Lb I1 r1 ty
 exact ⟨T,id,pa,slot,hty,h1,h2,Calls.callWith_builtin rfl (PySem.evalArgs_none (hm pins s1 σ H1 x [] v [] Q I1 r1 .nil q1))⟩
theorem pe_bm (pa:PlainAttrs T) (slot:Slot T name id) (hty:typeOf (.builtin id)=pure (.type "method_descriptor")) (hm:MtR X id r) (ho:PE X o to) (ha:PA X (e::es) t)
  (hbase:attributeBase o name X.env (eval o X.env)=eval o X.env:=by rfl)
  (hfew:((backTo cpos (Qg (e::es) X.env)).all (λx=>!x.1) && (backToKw cpos (keywordEach [] X.env)).all (λx=>x.1.isSome)
   && decide ((e::es).length + ([]:List Keyword).length + (if ([]:List Keyword).isEmpty then 0 else 1) < 30))=true:=by rfl)
  (hline:(apos.endLine == cpos.line)=true:=by rfl) (hs:Qg (e::es) X.env=(false,eval e X.env)::Qg es X.env:=by rfl) (hplain:(backTo cpos (Qg es X.env)).any (·.1)=false:=by rfl) :
  PE X (.Call (.Attribute o name apos) (e::es) [] cpos) (tBM X.K T r to t):=by
 intro pins s σ H Q I h
 refine wpAny_Call_method_late hbase hfew hline rfl (thn (ho pins s σ H _ I h) λv s1 ⟨x,H1,I1,r1,ty,q1⟩=>?_)
 obtain ⟨h1,h2⟩:=Lb I1 r1 ty
 refine ⟨T,id,pa,slot,hty,h1,h2,?_⟩
 have hA:=ha cpos pins s1 σ H1 _ I1 q1
 rw[hs]at hA ⊢
 refine Calls.callWith_builtin (by show (false || (backTo cpos (Qg es X.env)).any (·.1))=false; rw[hplain] <;> rfl) (Calls.evalArgs_plain ?_)
 exact thn hA λus s2 ⟨vs,H2,I2,r2,q2⟩=>hm pins s2 σ H2 x vs v us Q I2 r1 r2 q2
end
end L2
namespace L2
open PySem PySem.Spec PyProof.Rows
def MtM (X:Cx) (id:String) (r:V->List V->Hp->VK->Prop):Prop:=
 ∀ (pins:List (Addr×Obj)) (s:Qc) (σ:St) (H:Hp) (x:V) (xs:List V) (v:Qb) (us:List Qb) (Q:VK),Inv X pins σ H s->RelV x v->Vals xs us->r x xs H Q->
  Qf (model X.prog X.w) X.A (call (.builtin id) (v::us)) (EP X pins σ Q) X.xe s
theorem Vals.one:∀ {x:V} {us:List Qb},Vals [x] us->∃ u,us=[u]/\RelV x u
 | _,_,.cons r .nil=>⟨_,rfl,r⟩
theorem Vals.zero:∀ {us:List Qb},Vals [] us->us=[]
 | _,.nil=>rfl
theorem Vals.dropLast {xs:List V} {us:List Qb} (h:Vals xs us):Vals xs.dropLast us.dropLast:=by
 induction h with
 | nil=>exact .nil
 | cons r t ih=>
  cases t with
  | nil=>exact .nil
  | cons q t'=>exact .cons r ih
theorem erase_last {α:Type} (l:List α):l.eraseIdx (l.length - 1)=l.dropLast:=by
 induction l with
 | nil=>rfl
 | cons a r ih=>
  cases r with
  | nil=>rfl
  | cons b r=>
   have e:(a::b::r).length - 1=((b::r).length - 1) + 1:=by
    have h1:(a::b::r).length=r.length + 2:=rfl
    have h2:(b::r).length=r.length + 1:=rfl
    omega
   rw[e,List.eraseIdx_cons_succ,ih]
   all_goals rfl
section
variable {X:Cx} {pins:List (Addr×Obj)} {σ:St} {H:Hp} {s:Qc} {l b:Addr} {xs ys zs:List V}
theorem Inv.lset {its its':List Qb} {n:Nat} {f:Array Qb->Array Qb} {t':Nat} (I:Inv X pins σ H s) (hH:H l=some (.lst xs))
  (e:s.heap.get? l=some { cls:=.type "list",data:=.seq its.toArray n }) (hf:f its.toArray=its'.toArray) (hv:Vals ys its') (hz:ys.length<=Qe) :
  Inv X pins σ (upd H l (.lst ys)) { s with heap:=s.heap.update l (Obj.mapSeq f),toks:=t' }:=by
 have q:=ZG e f
 rw[hf]at q
 refine I.write (x:=l) (e:=l) (by rw[hH]; exact trivial) (.inl rfl) (λb' u hb hu=>(Heap.get?_update_other s.heap (Obj.mapSeq f) (UQ hb)).trans hu) ⟨_,q⟩ ?_
 exact ⟨hz,its',_,hv,q⟩
theorem Inv.fresh (I:Inv X pins σ H s):H s.heap.objs.size=none:=I.hok.fresh (J8 _)
theorem Inv.lstM (I:Inv X pins σ H s) (hH:H l=some (.lst xs)):xs.length<=Qe/\∃ (its:List Qb) (n:Nat),Vals xs its/\xs.length=its.length/\s.heap.get? l=some { cls:=.type "list",data:=.seq its.toArray n }:=by
 obtain ⟨z,its,n,r,e⟩:=I.hok l _ hH
 exact ⟨z,its,n,r,r.length,e⟩
theorem notLongL {n:Nat} (h:n<=Qe):Builtin.List.listTooLong n=false:=by
 unfold Builtin.List.listTooLong
 exact decide_eq_false (by omega)
end
section
variable {X:Cx}
def rAppend:V->List V->Hp->VK->Prop:=λx vs H Q=>∃ l xs y,x=.ref l/\vs=[y]/\H l=some (.lst xs)/\xs.length < Qe/\Q .non (upd H l (.lst (xs++[y])))
theorem Be:MtM X "list.append" rAppend:=by
 intro pins s σ H x vs v us Q I rx rv h
 obtain ⟨l,xs,y,rfl,rfl,hH,hz,q⟩:=h
 cases rx
 obtain ⟨u,rfl,ru⟩:=rv.one
 obtain ⟨z,its,n,r,hl,e⟩:=I.lstM hH
 refine call_meets F.slot_list_append ⟨_,e,rfl⟩ F.entry_list_append (F.args_list_append_2 _ _) (ZX l its.toArray n u (by rw[Ri]; omega)) ⟨e,?_⟩
 refine ⟨.non,_,I.lset (its':=its++[u]) hH e (by simp) (r.append (.cons ru .nil)) ?_,rfl,q⟩
 rw[Rk,UV]
 omega
def rExtend:V->List V->Hp->VK->Prop:=λx vs H Q=>∃ l b xs zs,x=.ref l/\vs=[.ref b]/\H l=some (.lst xs)/\H b=some (.lst zs)/\xs.length + zs.length<=Qe/\Q .non (upd H l (.lst (xs++zs)))
theorem Dl:MtM X "list.extend" rExtend:=by
 intro pins s σ H x vs v us Q I rx rv h
 obtain ⟨l,b,xs,zs,rfl,rfl,hH,hB,hz,q⟩:=h
 cases rx
 obtain ⟨u,rfl,ru⟩:=rv.one
 cases ru
 obtain ⟨z,its,n,r,hl,e⟩:=I.lstM hH
 obtain ⟨z2,its2,n2,r2,hl2,e2⟩:=I.lstM hB
 have hsz:its.toArray.size + its2.toArray.size<=Qe:=by rw[Ri,Ri]; omega
 have hlong:¬ (!its.toArray.isEmpty && Builtin.List.listTooLong (its.toArray.size + its2.toArray.size))=true:=by
  rw[notLongL hsz,Zr]
  exact Rx
 refine call_meets F.slot_list_extend ⟨_,e,rfl⟩ F.entry_list_extend (F.args_list_extend_2 _ _)
  (AutoSeq1.list_extend_list_list_0 l its.toArray n b its2.toArray n2 hlong (by rw[Ri]; omega) (by omega)) ⟨e,e2,?_⟩
 refine ⟨.non,_,I.lset (its':=its++its2) hH e (by simp) (r.append r2) ?_,rfl,q⟩
 rw[Rk]
 omega
def rPop:V->List V->Hp->VK->Prop:=λx vs H Q=>∃ l xs y,x=.ref l/\vs=[]/\H l=some (.lst xs)/\xs[xs.length - 1]?=some y/\Q y (upd H l (.lst xs.dropLast))
theorem mt_pop:MtM X "list.pop" rPop:=by
 intro pins s σ H x vs v us Q I rx rv h
 obtain ⟨l,xs,y,rfl,rfl,hH,hy,q⟩:=h
 cases rx
 have hus:=rv.zero
 subst hus
 obtain ⟨z,its,n,r,hl,e⟩:=I.lstM hH
 obtain ⟨u,hu,ru⟩:=r.get hy
 have hy':its.toArray[its.toArray.size - 1]?=some u:=by
  show its.toArray[its.length - 1]?=some u
  rw[<- U9,<- hl]
  exact hu
 refine call_meets F.slot_list_pop ⟨_,e,rfl⟩ F.entry_list_pop (F.args_list_pop_1 _) (MeetsSeq.list_pop_last l its.toArray n u hy' (by rw[Ri]; omega)) ⟨e,?_⟩
 refine ⟨y,_,I.lset (its':=its.dropLast) hH e ?_ r.dropLast ?_,ru,q⟩
 ·show its.toArray.eraseIdxIfInBounds (its.toArray.size - 1)=its.dropLast.toArray
  rw[Ri,List.eraseIdxIfInBounds_toArray,erase_last]
 ·rw[UJ]
  omega
end
section
variable {prog:Qj} {w:Qk} {A:Qm} {E:Qb->Qc->Prop} {s:Qc}
end
section
variable {X:Cx}
end
end L2
namespace Att
open PySem PySem.W PySem.Calls PyProof.Rows
theorem ints_of_wellAll {P:Params} {h:Heap}:∀ (ns:List Int) (vs:List Qb),WellAll P h vs (ns.map WData.int)->IntsAre vs ns:=by
 intro ns
 induction ns with
 | nil=>
  intro vs w
  rw[Uf]at w
  cases w
  exact .nil
 | cons n ns ih=>
  intro vs w
  rw[Rt]at w
  cases w with
  | cons a b=>
   cases a
   exact .cons _ _ (ih _ b)
theorem script_of {l:OpenLaw} {n:Nat} (hn:l.most=some n) {P:Params} {h:Heap} {args:List WData} {vals:List Qb}
  (hpre:l.row.toRowW.claim.pre args=true) (hwl:WellAll P h vals args) :
  ∃ a vs ns,vals=[Value.ref a]/\args=[WData.list (ns.map WData.int)]/\h.get? a=some { cls:=.type "list",data:=.seq vs.toArray }/\IntsAre vs ns/\ns.length<=n:=by
 have hsh:WShape.hasAll [] args [.list .int]=true:=(pre_splitW hpre).1
 have hc:l.pre.holds [] { args:=args }=true:=(pre_splitW hpre).2
 obtain ⟨d,r,rfl,h1,h2⟩:=hasAllW_cons hsh
 obtain rfl:=hasAllW_nil h2
 obtain ⟨xs,rfl,h3⟩:=hasW_list h1
 obtain ⟨ns,rfl⟩:=items_int h3
 have hlen:ns.length<=n:=by
  unfold OpenLaw.pre at hc
  have h4:(WTm.not (.lt (.lit (.int (n:Int))) (.len (.arg 0)))).holds [] { args:=[.list (ns.map .int)] }=true:=by
   have h4:=(holds_andW hc).1
   rw[hn]at h4
   exact h4
  have h5:=condW_of h4 (w_not (w_lt w_lit (w_len_list (w_arg rfl))))
  rw[J0]at h5
  refine Wu λq=>?_
  have q':(n:Int) < ((ns.length:Nat):Int):=by omega
  first
   | (rw[decide_eq_true q']at h5; exact absurd h5 (by decide))
   | (simp at h5; omega)
 cases hwl with
 | cons w1 w2=>
  cases w2
  cases w1 with
  | list ho hall=>exact ⟨_,_,ns,rfl,rfl,ho,ints_of_wellAll ns _ hall,hlen⟩
theorem post_true (l:OpenLaw) (args:List WData):l.row.toRowW.claim.post args (.bool true) args=true:=
 postW_of (r:=l.row.toRowW) (X:=(true == true))
  (show WShape.has [] (.bool true) .bool=true by first | rfl | decide | simp[WShape.has,WShape.arms,WShape.armsAll])
  (show (WTm.eq .res (.lit (.bool true))).value [] { args:=args,res:=some (.bool true),after:=args }=some (.bool (true == true)) from w_eq_bool (w_res rfl) w_lit) rfl
theorem attach_call {l:OpenLaw} {n:Nat} {q:Qj} {loose:List Str} {XP:(Str->Option Qb)->Heap->Prop} {YP:Qk->Heap->Prop} {d:DefRec}
  (hn:l.most=some n) (hdf:d.params.defaults=[])
  (call:∀ (w:Qk) (s₀ s₁:Qc) (mg mb:Str->Option Qb) (fa:Addr) (o:Obj) (pm cd doc:Qb) (a:Addr) (vs:List Qb) (ns:List Int),
   Ground q loose [] XP w s₀ mg mb s₁.heap->YP w s₁.heap->
   s₁.heap.get? fa=some o->o.data=.func (docDef d.name d.params d.body d.scope pm cd doc)->s₁.heap.CodeRec cd d.name->mg d.name=some (.ref fa)->
   s₁.heap.get? a=some { cls:=.type "list",data:=.seq vs.toArray }->IntsAre vs ns->ns.length<=n->s₁.gens=#[]->
   QJ (model l.prog w) callerA (.call (.ref fa) ⟨[.ref a],[]⟩) (λr s'=>r=.ok (.ret (.bool true))/\OldK s₁.heap s'.heap/\s'.os=s₁.os/\AllBare s'.gens) s₁) :
  WalkO q loose XP YP l.row.toRowW d [] (λf vs=>ZY f vs):=by
 intro w s₀ s₁ mg mb G Y fa o pm cd doc dV kV ho hd hcd hD hmg hg args vals as hpre hlay hrd hwl hlo
 obtain rfl:dV=.none:=Dflts.none hD hdf
 obtain rfl:kV=.none:=Dflts.noKw hD
 obtain ⟨a,vs,ns,rfl,rfl,hobj,hints,hlen⟩:=script_of hn hpre hwl
 refine enter_call (QB (call w s₀ s₁ mg mb fa o pm cd doc a vs ns G Y ho (fd_plain hd) hcd hmg hobj hints hlen hg) λr s' hq=>?_)
 obtain ⟨rfl,h2,h3,h4⟩:=hq
 exact ⟨.inl ⟨.bool true,.bool true,[],rfl,λ_=>rfl,.bool true,post_true l _,λ_=>⟨Zf,λ_ hm=>(nomatch hm)⟩⟩,h2,h3,h4⟩
section
variable {prog:Qj} {w:Qk} {A:Qm} {E:Qb->Qc->Prop} {s:Qc} {K:Frag}
end
end Att
namespace L2
open PySem PySem.Spec PyProof.Rows
theorem GB:∀ {vs:List Qb} {ns:List Int},IntsAre vs ns->Vals (ns.map V.int) vs
 | _,_,.nil=>.nil
 | _,_,.cons n t h=>.cons ⟨t,rfl⟩ (GB h)
def Only (H:Hp):Prop:=∀ b,H b=none\/∃ o xs,H b=some (.frz o (.lst xs))
theorem law_call {P:Qj} {w:Qk} {K:J4} {mg mb:Str->Option Qb} {CX:CXT} {k:Nat} {fa a:Addr} {fd:Qh} {x:Str} {sp:Sp} {s₁:Qc} {vs:List Qb} {ns:List Int}
  (KX:K.In s₁.heap) (hns:s₁.heap.Ns Qi mg) (hb:s₁.heap.Ns builtinsNs mb) (hbb:∀ x:Str,x≠"__name__"->mb x=Qr x) (hlim:s₁.heap.NoLimit) (hg:s₁.gens=#[])
  (ha:s₁.heap.get? a=some { cls:=.type "list",data:=.seq vs.toArray }) (hi:IntsAre vs ns) (hl:ns.length<=Qe) (hr:Room k callerA)
  (F:∀ base:Heap,K.In base->base.Ns Qi mg->FnOk P w K mg base CX k fa fd [x] sp) (hbind:∀ (s:Qc) (u:Qb),BindsTo s fd ⟨[u],[]⟩ [(x,u)])
  (hsp:∀ H:Hp,Only H->SqL K H a (ns.map V.int)->sp [.ref a] H (λv _=>v=.bl true) λ_ _ _=>False)
  (hCX:∀ H e s',CX [] H s₁ (λ_ _ _=>False) e s'->False) :
  QJ (model P w) callerA (.call (.ref fa) ⟨[.ref a],[]⟩) (λr s'=>r=.ok (.ret (.bool true))/\OldK s₁.heap s'.heap/\s'.os=s₁.os/\AllBare s'.gens) s₁:=by
 have rv:=GB hi
 have lenV:=hi.length
 have core:∀ H:Hp,Only H->SqL K H a (ns.map V.int)->HOk P w H s₁.heap->(∀ b,H b≠none->b=a)->(H a≠none->K.lookup a=none)->
   QJ (model P w) callerA (.call (.ref fa) ⟨[.ref a],[]⟩) (λr s'=>r=.ok (.ret (.bool true))/\OldK s₁.heap s'.heap/\s'.os=s₁.os/\AllBare s'.gens) s₁:=by
  intro H hO hS hok hA hK
  have base_of:∀ {b:Addr} {o:Obj},s₁.heap.get? b=some o->H b=none->(hidT s₁.heap H).get? b=some o:=λe n=>hidT_get e n
  have noA:∀ {b:Addr} {o:Obj} {es:Array DictEntry} {ep:Nat},s₁.heap.get? b=some o->o.data=.dict es ep->H b=none:=λ{b o es ep} e d=>by
   cases q:H b with
   | none=>rfl
   | some u=>
    have e':b=a:=hA b (by rw[q]; simp)
    subst e'
    rw[ha]at e; cases e
    have d':Data.seq vs.toArray _=Data.dict es ep:=d
    cases d'
  have nsK:∀ {b:Addr} {m:Str->Option Qb},s₁.heap.Ns b m->(hidT s₁.heap H).Ns b m:=λ{b m} ⟨o,es,ep,e,d,r⟩=>⟨o,es,ep,base_of e (noA e d),d,r⟩
  have hKb:K.In (hidT s₁.heap H):=λb o e=>base_of (KX b o e) (by
   cases q:H b with
   | none=>rfl
   | some u=>
    have e':b=a:=hA b (by rw[q]; simp)
    subst e'
    rw[hK (by rw[q]; simp)]at e; cases e)
  have hM:Mod K mg (hidT s₁.heap H):=⟨hKb,nsK hns,⟨mb,nsK hb,hbb⟩,let ⟨mc,h1,h2⟩:=hlim; ⟨mc,nsK h1,h2⟩⟩
  have e0:Env0 P w K mg (hidT s₁.heap H) callerA [] s₁ H:=⟨rfl,hM,λb o e=>of_hidT e,ZQ (hidT_size _ _),trivial,λb hb=>absurd (show b∈([]:List Addr) from hb) (by simp),hok,.of_eq hg⟩
  refine QB ((F _ hKb (nsK hns)).run callerA [] s₁ H ⟨[.ref a],[]⟩ [.ref a] [.ref a] _ _ hr e0 (hbind s₁ (.ref a)) (.cons rfl .nil) (hsp H hO hS)) λr s' h=>?_
  cases r with
  | error e=>exact (hCX H e s' h).elim
  | ok fl=>
   cases fl with
   | next=>exact UY h
   | brk=>exact UY h
   | cont=>exact UY h
   | ret u=>
    obtain ⟨v,H',os,bare,un,hok',r',q⟩:=h
    have q':v=.bl true:=q
    subst q'
    obtain rfl:u=Value.bool true:=r'
    refine ⟨rfl,OldK.of_keep λb o e=>?_,os,bare⟩
    cases q:H b with
    | none=>exact un.keep b o e q (by intro z; exact absurd (show b∈([]:List Addr) from z) (by simp)) (by simp)
    | some u=>
     rcases hO b with z | ⟨ob,xs,z⟩
     ·rw[q]at z; cases z
     ·have z2:=un.frzs b ob _ z
      obtain ⟨e1,_⟩:=hok b _ z
      obtain ⟨e2,_⟩:=hok' b _ z2
      rw[e]at e1; cases e1
      exact e2
 cases hk:K.lookup a with
 | some o=>
  have e:=KX a o hk
  rw[ha]at e
  cases e
  refine core (λ_=>none) (λ_=>.inl rfl) (.inr ⟨_,vs.toArray,_,hk,rfl,rfl,rfl,by rw[Ri,lenV]; exact hl,by simpa using rv⟩) (λb u z=>by have z':(none:Option HO)=some u:=z; cases z') (λb z=>absurd rfl z) λz=>absurd rfl z
 | none=>
  refine core (λb=>if b=a then some (.frz { cls:=.type "list",data:=.seq vs.toArray } (.lst (ns.map V.int))) else none) (λb=>?_) (.inl (.inr ⟨{ cls:=.type "list",data:=.seq vs.toArray },if_pos rfl⟩)) (λb u z=>?_) (λb z=>?_) λ_=>hk
  ·by_cases hb:b=a
   ·exact .inr ⟨_,_,if_pos hb⟩
   ·exact .inl (if_neg hb)
  ·by_cases hb:b=a
   ·have z':=(if_pos hb).symm.trans z
    cases z'
    subst hb
    exact ⟨ha,by rw[J0]; exact hl,vs,_,rv,ha⟩
   ·have z':=(if_neg hb).symm.trans z
    cases z'
  ·by_cases hb:b=a
   ·exact hb
   ·exact absurd (if_neg hb) z
end L2
namespace L2
open PySem PySem.Spec PyProof.Rows
abbrev KOf {K:J4} {h:Heap} (_:K.In h):J4:=K
theorem walk_of {l:YL} {n k:Nat} {q:Qj} {loose:List Str} {XP:(Str->Option Qb)->Heap->Prop} {YP:Qk->Heap->Prop} {d:DefRec} {K:Params->J4} {CX:Qk->CXT} {sp:Qk->Sp} {x:Str}
  (hn:l.most=some n) (hn2:n<=Qe) (hdf:d.params.defaults=[]) (hr:Room k callerA)
  (hY:∀ (w:Qk) (h:Heap),YP w h->(K w.params).In h)
  (F:∀ (w:Qk) (mg:Str->Option Qb) (fa:Addr) (h:Heap),(K w.params).In h->h.Ns Qi mg->mg d.name=some (.ref fa)->
   ∃ fd:Qh,(∀ (s:Qc) (u:Qb),BindsTo s fd ⟨[u],[]⟩ [(x,u)])/\
    ∀ base:Heap,(K w.params).In base->base.Ns Qi mg->FnOk l.prog w (K w.params) mg base (CX w) k fa fd [x] (sp w))
  (hsp:∀ (w:Qk) (H:Hp) (a:Addr) (ns:List Int),ns.length<=n->Only H->SqL (K w.params) H a (ns.map V.int)->sp w [.ref a] H (λv _=>v=.bl true) λ_ _ _=>False)
  (hCX:∀ (w:Qk) (H:Hp) (s:Qc) (e:Qb) (s':Qc),CX w [] H s (λ_ _ _=>False) e s'->False) :
  Ja8 q loose XP YP l.row.toRowW d [] (λf vs=>ZY f vs):=by
 refine Att.attach_call hn hdf λw s₀ s₁ mg mb fa o pm cd doc a vs ns G Y ho hd hcd hmg hobj hints hlen hg=>?_
 have KX:=hY w _ Y
 obtain ⟨fd,hb,hF⟩:=F w mg fa _ KX G.T.g hmg
 exact law_call KX G.T.g G.T.b G.T.builtins G.T.nolimit hg hobj hints (J6 hlen hn2) hr hF hb (λH hO hS=>hsp w H a ns hlen hO hS) λH e s'=>hCX w H s₁ e s'
end L2
namespace L2
open PySem PySem.Spec PyProof.Rows
def Ex (s:Stmt) (j:Nat):Stmt:=match s with
 | .ClassDef _ _ _ body _ _ _ _ _ _ _=>body.getD j (.Pass ⟨0,0,0,0⟩)
 | _=>.Pass ⟨0,0,0,0⟩
def Ca (s:Stmt):Arguments:=match s with
 | .FunctionDef _ a _ _ _ _ _ _ _ _=>a
 | _=>{ posonlyargs:=[],args:=[],vararg:=none,kwonlyargs:=[],kw_defaults:=[],kwarg:=none,defaults:=[] }
def BH (s:Stmt):List Stmt:=match s with
 | .FunctionDef _ _ b _ _ _ _ _ _ _=>b
 | _=>[]
def Ae (s:Stmt):Scope:=match s with
 | .FunctionDef _ _ _ _ _ _ sc _ _ _=>sc
 | _=>{ kind:=.function,names:=[],isGenerator:=false,isCoroutine:=false }
abbrev CX0:CXT:=λ_ _ _ _ _ _=>False
abbrev E0:XK:=λ_ _ _=>False
theorem Av {X:Cx}:Cd CX0 X E0:=λ_ _ _ _ _ _ _ h=>h.elim
structure Fun (K:J4) (x qual:Str) (st:Stmt) (f:Addr) (fd:Qh):Prop where
 ex:∃ (oc:Qb) (od:Option Addr) (kV doc pm:Qb) (an:Option Addr) (cdv ct:Qb) (osl:Array (Option Qb)),
  fd=UI x qual (Ca st) (BH st) (Ae st) .none kV doc pm an cdv ct/\K.lookup f=some ⟨oc,od,.func fd,osl⟩/\UR K cdv qual=true
 kp:Ud K (.ref f)=true
section
variable {P:Qj} {w:Qk} {K:J4} {mg:Str->Option Qb} {base:Heap}
theorem Fun.ok {x qual:Str} {st:Stmt} {f:Addr} {fd:Qh} {N ps:List Str} {k:Nat} {sp:Sp} (F:Fun K x qual st f fd) (S:FnScope N ps (Ae st)) (len:∀ vs H Q E,sp vs H Q E->vs.length=ps.length)
  (hbody:∀ (cdv:Qb) (A:Qm) (outer:List Env) (s:Qc) (H:Hp) (vs:List V) (Q:VK) (E:XK),Room k (A.deeper (envOfC qual (Ae st) s.heap.objs.size f cdv))->sp vs H Q E->
   ∃ t,PSs (cxOf CX0 P w K mg base N qual (Ae st) f cdv A outer s H E).nox (BH st) t/\t { nx:=λ_ H'=>Q .non H',rt:=Q } (start N vs) H):FnOk P w K mg base CX0 (k + 1) f fd ps sp:=by
 obtain ⟨oc,od,kV,doc,pm,an,cdv,ct,osl,rfl,lk,hcd⟩:=F.ex
 refine fn_of lk hcd S len λA outer s H vs Q E hr hsp=>?_
 obtain ⟨t,h,q⟩:=hbody cdv A outer s H vs Q E hr hsp
 exact ⟨t,h.nox,q⟩
theorem Fun.binds {x qual:Str} {st:Stmt} {f:Addr} {fd:Qh} {ps:List Str} (F:Fun K x qual st f fd)
  (h:∀ (kV doc pm:Qb) (an:Option Addr) (cdv ct:Qb) (us:List Qb),us.length=ps.length->bindArgs (UI x qual (Ca st) (BH st) (Ae st) .none kV doc pm an cdv ct) ⟨us,[]⟩=pure (ps.zip us)):Binds K fd ps []:=by
 obtain ⟨oc,od,kV,doc,pm,an,cdv,ct,osl,rfl,lk,hcd⟩:=F.ex
 exact .all (h kV doc pm an cdv ct)
theorem Fs {x qual:Str} {st:Stmt} {f:Addr} {oc:Qb} {od an:Option Addr} {osl:Array (Option Qb)} {kV doc pm cdv ct:Qb} (l:K.lookup f=some ⟨oc,od,.func (UI x qual (Ca st) (BH st) (Ae st) .none kV doc pm an cdv ct),osl⟩)
  (c:UR K cdv qual=true) (k:Ud K (.ref f)=true):Fun K x qual st f (UI x qual (Ca st) (BH st) (Ae st) .none kV doc pm an cdv ct):=⟨⟨oc,od,kV,doc,pm,an,cdv,ct,osl,rfl,l,c⟩,k⟩
end
section
variable {X:Cx}
theorem pv (i:Nat) {x:Str} {pos:Pos} (hN:X.N[i]?=some x:=by rfl) (hv:Vis X.env.scope x:=by first | exact Ro rfl | exact R8 (Ro rfl) | exact R8 (R8 rfl)) (hd:(x == ("__debug__":Str))=false:=by decide)
  (hcd:(x == ("__classdict__":Str))=false:=by decide):PE X (.Name x pos) (tVar i):=pe_var hN hv hd hcd
end
theorem iteF {A B:Prop} (h:B):if false=true then A else B:=by
 rw[if_neg Rx]
 exact h
theorem iteT {A B:Prop} (h:A):if true=true then A else B:=by
 rw[if_pos rfl]
 exact h
theorem ite2 {c A B:Prop} [Decidable c] (h1:c->A) (h2:¬ c->B):if c then A else B:=by
 by_cases h:c
 ·rw[if_pos h]
  exact h1 h
 ·rw[if_neg h]
  exact h2 h
theorem JD {c A B:Prop} [Decidable c] (hc:c) (h:B):if (!decide c)=true then A else B:=by
 rw[decide_eq_true hc]
 exact iteF h
def Same (H H':Hp):Prop:=∀ b o,H b=some o->H' b=some o
theorem Same.refl (H:Hp):Same H H:=λ_ _ h=>h
theorem Same.trans {H H1 H2:Hp} (a:Same H H1) (b:Same H1 H2):Same H H2:=λc o h=>b c o (a c o h)
theorem Same.free {H H':Hp} (e:Same H H') {l:Addr} (h:H' l=Jd0):H l=Jd0:=by
 cases q:H l with
 | none=>rfl
 | some o=>
  rw[e l o q]at h
  cases h
theorem Same.seq {K:J4} {H H':Hp} {a:Addr} {xs:List V} (e:Same H H') (h:SqL K H a xs):SqL K H' a xs:=by
 rcases h with (h | ⟨o,h⟩) | h
 ·exact .inl (.inl (e _ _ h))
 ·exact .inl (.inr ⟨o,e _ _ h⟩)
 ·exact .inr h
end L2
set_option maxHeartbeats 4000000
namespace L2
open PySem PySem.Spec PyProof.Rows
section
variable {X:Cx} {pins:List (Addr×Obj)} {σ:St} {H H':Hp} {s s':Qc}
theorem Inv.nopins (I:Inv X pins σ H s):Inv X [] σ H s:=I.pins_of λp hp=>nomatch hp
end
section
variable {P:Qj} {w:Qk} {K:J4} {mg:Str->Option Qb} {base:Heap} {N:List Str} {qual:Str} {scope:Scope} {f:Addr} {cd:Qb} {A:Qm} {outer:List Env} {s:Qc} {H:Hp} {E:XK}
end
end L2
namespace PySem.W
open PySem PySem.Calls PyProof.Rows Builtin Builtin.ObjectAttr Builtin.Getset_descriptor
section
variable {prog:Qj} {w:Qk} {A:Qm} {E:Qb->Qc->Prop} {s:Qc} {K:Frag} {x C D:Addr} {ox:Obj}
end
end PySem.W
namespace L2
open PySem PySem.Spec PyProof.Rows
theorem Cp {X:Cx}:Bx X (.builtin "isinstance") (λxs H Q=>∃ x c t b,xs=[x,c]/\TyOf X.K H x t/\(∀ u,RelV c u->UH X.K t u=some b)/\Q (.bl b) H):=by
 intro pins s σ H xs us Q I r h
 obtain ⟨x,c,t,b,rfl,ty,k,q⟩:=h
 obtain ⟨u,w',rfl,r1,r2⟩:=vals2 r
 exact isinst_ok I r1 ty (k _ r2) λtk=>⟨.bl b,H,I.tok tk,rfl,q⟩
section
variable {X:Cx} {pins:List (Addr×Obj)} {σ:St} {H:Hp} {s:Qc}
theorem Inv.track {a:Addr} {o:HO} (I:Inv X pins σ H s) (hn:H a=none) (h0:X.s₀.heap.get? a=none) (hL:a≠X.env.locals) (hc:∀ x c,X.env.cells.lookup x=some c->c≠a) (hp:∀ p∈X.pn++pins,p.1≠a)
  (new:ObjOk X.prog X.w (upd H a o) s.heap a o):Inv X pins σ (upd H a o) s:=by
 have ne:∀ b u,H b=some u->b≠a:=λb u e=>AO e hn
 refine ⟨I.ok,I.os,I.bare,⟨I.base.keep,I.base.slot,λb ob e n hx=>?_,I.base.there,λb xs e=>?_,λb ob u e=>?_,λb ps e=>?_⟩,I.loc,I.cell,?_,λx c e=>?_,λp hp'=>?_,λb u e=>?_,I.len⟩
 ·rw[As (λz=>by rw[z,h0]at e; cases e)]
  exact I.base.free b ob e n hx
 ·have q:=I.base.tups b xs e
  rw[As (ne b _ q)]; exact q
 ·have q:=I.base.frzs b ob u e
  rw[As (ne b _ q)]; exact q
 ·obtain ⟨m,q⟩:=I.base.tbls b ps e
  exact ⟨m,by rw[As (ne b _ q)]; exact q⟩
 ·rw[As (UQ hL)]; exact I.free
 ·rw[As (hc x c e)]; exact I.freeC x c e
 ·obtain ⟨e,n,r⟩:=I.pin p hp'
  exact ⟨e,by rw[As (hp p hp')]; exact n,r⟩
 ·by_cases hb:b=a
  ·subst hb; rw[Aa]at e; cases e; exact new
  ·rw[As hb]at e
   exact (I.hok b u e).stay (λ_ _ _ q=>q) (λc q=>by rw[As (ne c _ q)]; exact q) λc xs q=>by rw[As (ne c _ q)]; exact q
end
end L2
namespace L2
open PySem PySem.Spec PyProof.Rows
theorem Inv.big {X:Cx} {pins:List (Addr×Obj)} {σ:St} {H:Hp} {s:Qc} (I:Inv X pins σ H s):sysModules < s.heap.objs.size:=by
 have h:Qi < s.heap.objs.size:=(I.mod.glob.keeps I.bk).lt
 exact UF (by decide) h
end L2
namespace L2
open PySem PySem.Spec PyProof.Rows
def WTurn (Pv:St->Hp->Prop) (mu:St->Hp->Nat) (m:Nat) (tb:TS) (D:Ends) (σ:St) (H1:Hp):Prop:=
 ∃ N:St->Hp->Prop,(∀ σ' H',N σ' H'->∃ m',m' < m/\m'=mu σ' H'/\Pv σ' H')/\tb { D with nx:=N,ct:=N,bk:=D.nx } σ H1
theorem WTurn.of {Pv:St->Hp->Prop} {mu:St->Hp->Nat} {m:Nat} {tb:TS} {D:Ends} {σ:St} {H1:Hp}
  (h:tb { D with nx:=λσ' H'=>Pv σ' H'/\mu σ' H' < m,ct:=λσ' H'=>Pv σ' H'/\mu σ' H' < m,bk:=D.nx } σ H1):WTurn Pv mu m tb D σ H1:=
 ⟨_,λσ' H' ⟨p,l⟩=>⟨_,l,rfl,p⟩,h⟩
theorem CC {c:TT} {tb:TS} {D:Ends} {σ:St} {H:Hp} (Pv:St->Hp->Prop) (mu:St->Hp->Nat) (h0:Pv σ H)
  (hs:∀ m σ H,Pv σ H->m=mu σ H->c σ H λb H1=>if b=true then WTurn Pv mu m tb D σ H1 else D.nx σ H1):Jp c tb D σ H:=by
 refine ⟨λm σ H=>m=mu σ H/\Pv σ H,⟨_,rfl,h0⟩,?_⟩
 rintro m σ H ⟨e,p⟩
 exact hs m σ H p e
theorem ifT {c A B:Prop} [Decidable c] (h:c) (k:A):if decide c=true then A else B:=by
 rw[if_pos (decide_eq_true h)]
 exact k
theorem ifF {c A B:Prop} [Decidable c] (h:¬ c) (k:B):if decide c=true then A else B:=by
 rw[if_neg (λz=>h (of_decide_eq_true z))]
 exact k
theorem blT {Q:VK} {H:Hp} {c:Prop} [Decidable c] (h:c) (k:Q (.bl true) H):Q (.bl (decide c)) H:=by
 rw[decide_eq_true h]
 exact k
end L2
namespace L2
open PySem PySem.Spec PyProof.Rows
theorem cellOf_some {env:Env} {x:Str} {c:Addr} (h:env.cells.lookup x=some c):cellOf env x=pure c:=by
 unfold cellOf
 rw[h]
theorem DH {env:Env}:∀ (names:List (Str×QP)) (cs:List (Str×Addr)),(∀ x,(x,NameKind.free)∈names->∃ c,env.cells.lookup x=some c)->
  (∀ x c,cs.lookup x=some c->env.cells.lookup x=some c)->
  ∃ cl:List (Str×Addr),(forIn names cs λ(y:Str×QP) (r:List (Str×Addr))=>if (y.2 == .free)=true then (do let c <- cellOf env y.1; pure (UK ((y.1,c)::r)):Sem _) else pure (UK r))=pure cl/\
   (∀ x c,cl.lookup x=some c->env.cells.lookup x=some c)/\(∀ x,((x,NameKind.free)∈names\/∃ c,cs.lookup x=some c)->∃ c,cl.lookup x=some c)
 | [],cs,_,h2=>⟨cs,rfl,h2,λx hx=>hx.elim (λz=>nomatch z) id⟩
 | (y,k)::names,cs,h1,h2=>by
  by_cases hk:k=.free
  ·subst hk
   obtain ⟨c,hc⟩:=h1 y (Rj ..)
   obtain ⟨cl,e,a,b⟩:=DH names ((y,c)::cs) (λx hx=>h1 x (Re _ hx)) (λx c' hx=>by
    rw[Ui]at hx
    split at hx
    ·rename_i hb
     have hb':x=y:=by simpa using hb
     cases hx
     rw[hb']
     exact hc
    ·exact h2 x c' hx)
   refine ⟨cl,?_,a,λx hx=>b x ?_⟩
   ·rw[WC]
    simp only[beq_self_eq_true,if_true,cellOf_some hc]
    exact e
   ·rcases hx with hx | ⟨c',hx⟩
    ·rcases Rg.mp hx with z | z
     ·cases z
      exact .inr ⟨c,by simp⟩
     ·exact .inl z
    ·by_cases hb:(x == y)=true
     ·exact .inr ⟨c,by rw[Ui,hb]⟩
     ·exact .inr ⟨c',by rw[Ui,Jb8 _ |>.mp hb]; exact hx⟩
  ·obtain ⟨cl,e,a,b⟩:=DH names cs (λx hx=>h1 x (Re _ hx)) h2
   have hb:(k == NameKind.free)=false:=by simpa using hk
   refine ⟨cl,?_,a,λx hx=>b x ?_⟩
   ·rw[WC]
    simp only[hb,Uu,if_false]
    exact e
   ·rcases hx with hx | hx
    ·rcases Rg.mp hx with z | z
     ·cases z
      exact absurd rfl hk
     ·exact .inl z
    ·exact .inr hx
theorem closure_of {scope:Scope} {env:Env} (h:∀ x,(x,NameKind.free)∈scope.names->∃ c,env.cells.lookup x=some c) :
  ∃ cl,closureFor scope env=pure cl/\(∀ x c,cl.lookup x=some c->env.cells.lookup x=some c)/\∀ x,(x,NameKind.free)∈scope.names->∃ c,cl.lookup x=some c:=by
 obtain ⟨cl,e,a,b⟩:=DH scope.names [] h (λx c hx=>nomatch hx)
 refine ⟨cl,?_,a,λx hx=>b x (.inl hx)⟩
 refine Eq.trans (b:=(forIn scope.names [] λ(y:Str×QP) (r:List (Str×Addr))=>if (y.2 == .free)=true then (do let c <- cellOf env y.1; pure (UK ((y.1,c)::r)):Sem _) else pure (UK r)) >>= λr=>pure r) rfl ?_
 rw[e]
 rfl
section
variable {prog:Qj} {w:Qk} {A:Qm} {R:Result->Qc->Prop} {s:Qc}
theorem compLoop_anyX {elt target iter:Expr} {ifs:List Expr} {scope:Scope} {pos:Pos} {it acc:Qb} {env:Env} (I:Nat->Qc->Prop)
  (turn:∀ n s,I n s->Qf (model prog w) A (pyNext it) (λr s1=>match r with
   | none=>R (.ok .next) s1
   | some v=>Qf (model prog w) A (letOwnedTupleGo target it v) (λ_ s1'=>Qf (model prog w) A (assign target env v) (λ_ s2=>
     Qf (model prog w) A (forIn ifs true λc r=>if r=true then do let ok <- isTrue c env (eval c env); pure (UK ok) else pure (UK r)) (λok s3=>
      if ok=true then Qf (model prog w) A (eval elt env) (λx s4=>
       Qf (model prog w) A (call (.builtin "list.append") [acc,x]) (λ_ s5=>∃ m,m < n/\I m s5) (λ_ _=>False) s4) (notedBy (model prog w) A env λx s'=>R (.error x) s') s3
      else ∃ m,m < n/\I m s3) (λ_ _=>False) s2) (λ_ _=>False) s1') (λ_ _=>False) s1) (λ_ _=>False) s)
  (n:Nat) (h:I n s):QJ (model prog w) A (.compLoop (.ListComp elt [⟨target,iter,ifs,0⟩] scope pos) 0 it acc env) R s:=by
 refine codeAny_loop rfl I (λn s hI=>?_) n h
 show Qf _ A ((compTurn (.ListComp elt [⟨target,iter,ifs,0⟩] scope pos) 0 it acc env).onRaise (λx=>do noteFrame x env; theTreesLotGoes x)) _ _ s
 refine wpAny_noted ?_
 rw[compTurn_list]
 refine Qa (Q1 (Qa (Qw (turn n s hI) (λr s1 h1=>?_) λ_ _ h'=>h'.elim)))
 cases r with
 | none=>exact Qd h1
 | some v=>
  refine Qa (Qw h1 (λ_ s1' h1'=>?_) λ_ _ h'=>h'.elim)
  refine Qa (Qw h1' (λ_ s2 h2=>Qa (Qw h2 (λok s3 h3=>?_) λ_ _ h'=>h'.elim)) λ_ _ h'=>h'.elim)
  cases ok with
  | false=>exact Qd ⟨rfl,h3⟩
  | true=>
   exact Qa (Qa (Qw h3 (λx s4 h4=>Qa (Qw h4 (λ_ s5 h5=>Qd (Qd ⟨rfl,h5⟩)) λ_ _ h'=>h'.elim)) λ_ _ h'=>h'))
end
def cxC (X:Cx) (s:Qc) (H:Hp) (scope:Scope) (cl:List (Str×Addr)) (C:Addr) (N:List Str) (fp:List Addr):Cx where
 prog:=X.prog
 w:=X.w
 K:=X.K
 mg:=X.mg
 base:=X.base
 A:=X.A
 N:=N
 s₀:=s
 H₀:=H
 env:=compEnvC scope cl C X.env
 outer:=X.stack
 stack:=X.stack
 ex:=fp
 fn:=λx=>scope.names.lookup x == some NameKind.cell
 calm:=X.calm
 pn:=[]
 xe:=λ_ _=>False
def seen (σ:St) (src:List (Option Nat)):St:=src.map λo=>match o with | some j=>(σ[j]?).join | none=>none
structure CompScope (X:Cx) (scope:Scope) (N:List Str) (src:List (Option Nat)):Prop where
 kind:scope.kind=.function
 cells:∀ y∈scope.names,y.2=.cell->scope.names.lookup y.1=some .cell
 own:∀ y∈scope.names,y.2=.local->scope.names.lookup y.1=some .local
 has:∀ x,(x,NameKind.free)∈scope.names->X.env.kindOf x=some .cell\/X.env.kindOf x=some .free
 len:src.length=N.length
 src:∀ (i j:Nat) (x:Str),src[i]?=some (some j)->N[i]?=some x->X.N[j]?=some x/\(x,NameKind.free)∈scope.names/\scope.names.lookup x=some .free
theorem BP {env:Env}:∀ {names:List (Str×QP)} {x:Str},names.lookup x=some .free->
  (names.map λ(n,k)=>if (k == NameKind.free && env.scope.kind == .function && env.kindOf n == some .cell) then (n,NameKind.cell) else (n,k)).lookup x=some .cell\/
  (names.map λ(n,k)=>if (k == NameKind.free && env.scope.kind == .function && env.kindOf n == some .cell) then (n,NameKind.cell) else (n,k)).lookup x=some .free
 | [],_,h=>by simp at h
 | (n,k)::r,x,h=>by
  have ih:=@BP env r x
  show U3 x ((if (k == NameKind.free && env.scope.kind == .function && env.kindOf n == some .cell)=true then (n,NameKind.cell) else (n,k))::_)=_\/U3 x ((if (k == NameKind.free && env.scope.kind == .function && env.kindOf n == some .cell)=true then (n,NameKind.cell) else (n,k))::_)=_
  cases hx:x == n with
  | true=>
   simp only[Ui,hx]at h
   cases h
   by_cases hc:(NameKind.free == NameKind.free && env.scope.kind == .function && env.kindOf n == some .cell)=true
   ·rw[if_pos hc]; left; simp only[Ui,hx]
   ·rw[if_neg hc]; right; simp only[Ui,hx]
  | false=>
   simp only[Ui,hx]at h
   by_cases hc:(k == NameKind.free && env.scope.kind == .function && env.kindOf n == some .cell)=true
   ·rw[if_pos hc]; simp only[Ui,hx]; exact ih h
   ·rw[if_neg hc]; simp only[Ui,hx]; exact ih h
theorem DU {env:Env}:∀ {names:List (Str×QP)} {x:Str},
  ((names.map λ(n,k)=>if (k == NameKind.free && env.scope.kind == .function && env.kindOf n == some .cell) then (n,NameKind.cell) else (n,k)).lookup x=some .cell\/
  (names.map λ(n,k)=>if (k == NameKind.free && env.scope.kind == .function && env.kindOf n == some .cell) then (n,NameKind.cell) else (n,k)).lookup x=some .free)->(x,NameKind.free)∈names\/(x,NameKind.cell)∈names
 | [],_,h=>by simp at h
 | (n,k)::r,x,h=>by
  have ih:=@DU env r x
  change U3 x ((if (k == NameKind.free && env.scope.kind == .function && env.kindOf n == some .cell)=true then (n,NameKind.cell) else (n,k))::_)=_\/U3 x ((if (k == NameKind.free && env.scope.kind == .function && env.kindOf n == some .cell)=true then (n,NameKind.cell) else (n,k))::_)=_ at h
  cases hx:x == n with
  | true=>
   have e:x=n:=by simpa using hx
   by_cases hc:(k == NameKind.free && env.scope.kind == .function && env.kindOf n == some .cell)=true
   ·have hk:k=.free:=by
     simp only[RL,beq_iff_eq]at hc
     exact hc.1.1
    rw[e,hk]; exact .inl (Rj ..)
   ·rw[if_neg hc]at h
    simp only[Ui,hx,Option.some.injEq]at h
    rcases h with h | h
    ·rw[e,h]; exact .inr (Rj ..)
    ·rw[e,h]; exact .inl (Rj ..)
  | false=>
   by_cases hc:(k == NameKind.free && env.scope.kind == .function && env.kindOf n == some .cell)=true
   ·rw[if_pos hc]at h; simp only[Ui,hx]at h; exact (ih h).imp (Re _) (Re _)
   ·rw[if_neg hc]at h; simp only[Ui,hx]at h; exact (ih h).imp (Re _) (Re _)
def Weak (σ σ2:St):Prop:=σ2.length=σ.length/\∀ (i:Nat) (v:V),σ[i]?=some (some v)->σ2[i]?=some (some v)
theorem Weak.refl (σ:St):Weak σ σ:=⟨rfl,λ_ _ h=>h⟩
theorem Weak.set {σ:St} {i:Nat} {o:Option V} (h:∀ v,σ[i]?≠some (some v)):Weak σ (σ.set i o):=⟨by simp,λj v e=>by
 have:i≠j:=λz=>h v (z▸e)
 rw[Yt this]
 exact e⟩
theorem Weak.trans {a b c:St} (h:Weak a b) (h':Weak b c):Weak a c:=⟨h'.1.trans h.1,λi v e=>h'.2 i v (h.2 i v e)⟩
def PIf (X:Cx) (ifs:List Expr) (t:TT):Prop:=∀ (pins:List (Addr×Obj)) (s:Qc) (σ:St) (H:Hp) (Q:Bool->Hp->Prop),Inv X pins σ H s->t σ H Q->
 Qf (model X.prog X.w) X.A (forIn ifs true λc r=>if r=true then do let ok <- isTrue c X.env (eval c X.env); pure (UK ok) else pure (UK r)) (TP X pins σ Q) X.xe s
def tYes:TT:=λ_ H Q=>Q true H
theorem pif_nil {X:Cx}:PIf X [] tYes:=λ_ _ _ H _ I h=>wpAny_tests_nil ⟨H,I,h⟩
theorem pif_one {X:Cx} {c:Expr} {t:TT} (h:PT X c t):PIf X [c] t:=λpins s σ H Q I q=>wpAny_tests_one (h pins s σ H Q I q)
def Jl (src:List (Option Nat)) (wi:TI) (g:TG) (tc:TT) (te:TE):TE:=λσ H Q=>wi σ H λJ H1=>∃ W:Nat->Nat->List V->Hp->Prop,(∃ m,W 0 m [] H1)/\∀ i m ys H2,W i m ys H2->
 (J.stop i H2/\ys.length<=Qe/\∀ p,H2 p=none->Q (.ref p) (upd H2 p (.lst ys)))\/
 (J.go i H2/\∀ x H3,J.yld i H2 x H3->g x (seen σ src) H3 λσ2 H4=>Weak (seen σ src) σ2/\tc σ2 H4 λb H5=>
  if b=true then te σ2 H5 λy H6=>ys.length < Qe/\∃ m',m' < m/\W (i + 1) m' (ys++[y]) H6 else ∃ m',m' < m/\W (i + 1) m' ys H5)
theorem BJ:∀ (names:List (Str×QP)) (n:Nat) (acc:List (Str×Addr)),cellsFrom n names acc=cellsFrom n names []++acc
 | [],_,acc=>rfl
 | (x,k)::r,n,acc=>by
  unfold cellsFrom
  split
  ·rw[BJ r (n + 1) ((x,n)::acc),BJ r (n + 1) [(x,n)],UC]
   rfl
  ·exact BJ r n acc
theorem Cq:∀ (names:List (Str×QP)) (n:Nat) (acc:List (Str×Addr)) (x:Str) (c:Addr),(x,c)∈cellsFrom n names acc->(x,c)∈acc\/(x,NameKind.cell)∈names
 | [],_,_,_,_,h=>.inl h
 | (y,k)::r,n,acc,x,c,h=>by
  unfold cellsFrom at h
  split at h
  ·rename_i hk
   have hk':k=.cell:=by simpa using hk
   rcases Cq r _ _ x c h with z | z
   ·rcases Rg.mp z with z | z
    ·cases z
     exact .inr (hk'▸Rj ..)
    ·exact .inl z
   ·exact .inr (Re _ z)
  ·rcases Cq r _ _ x c h with z | z
   ·exact .inl z
   ·exact .inr (Re _ z)
theorem new_around {M:Model} {A:Qm} {E:Qb->Qc->Prop} {s:Qc} {scope:Scope} {globals:Addr} {cl:List (Str×Addr)} {qual:Str} {env:Env} {Q:Env->Qc->Prop}
  (h:∀ h',h'.Ns s.heap.objs.size (λ_=>none)->(∀ b o,s.heap.get? b=some o->h'.get? b=some o)->CellsOk h' (s.heap.objs.size + 1) (cellsFrom (s.heap.objs.size + 1) scope.names [])->
   Q { scope,locals:=s.heap.objs.size,globals,cells:=cellsFrom (s.heap.objs.size + 1) scope.names []++cl,qual,func:=none,code:=env.code,frame:=env.frame,builtins:=env.builtins } { s with heap:=h' }) :
  Qf M A (newFunctionEnv scope globals cl [] qual none .none (some env)) Q E s:=by
 simp only[newFunctionEnv,ZO,if_true]
 refine Qa (wpAny_alloc ?_)
 refine Qa (wpAny_layCells _ (λname kind cells=>by cases hkc:kind == NameKind.cell <;> simp[hkc]) _ _ _ _ ?_)
 have ok:=cellsFrom_ok scope.names (s.heap.push { cls:=.type "dict",data:=.dict #[] }) (s.heap.objs.size + 1) [] ⟨λ_ _ hm=>(nomatch hm),Zf⟩ (by rw[Heap.size_push]; exact J8 _)
 rw[Heap.size_push]at ok
 rw[show ({ s with heap:=s.heap.push { cls:=.type "dict",data:=.dict #[] } }:Qc).heap.objs.size=s.heap.objs.size + 1 from Heap.size_push ..,BJ]
 rw[W7]
 exact Qa (Qd (Qd (h _ ((Heap.Ns.new s.heap (.type "dict")).keeps (pushCells_keeps _ _)) (λb o e=>pushCells_keeps _ _ b o (Heap.get?_push_of_some _ e)) ok)))
theorem comp_coreX {X:Cx} {elt tg iter:Expr} {ifs:List Expr} {scope:Scope} {pos pos2:Pos} {N:List Str} {src:List (Option Nat)} {wi:TI} {g:TG} {tc:TT} {te:TE} {use:Option (Qb->Sem Unit)} {Post:Qb->Qc->Prop} {pins:List (Addr×Obj)} {s:Qc} {σ:St} {H:Hp} {Q:VK}
  (hc:X.calm=true) (S:CompScope X scope N src) (hi:PI X tg iter wi)
  (hg:∀ s H cl C fp,PG (cxC X s H scope cl C N fp) tg g) (hf:∀ s H cl C fp,PIf (cxC X s H scope cl C N fp) ifs tc) (xc:Cx->Qb->Qc->Prop) (he:∀ s H cl C fp,(X.ex=[]->∀ b o,X.s₀.heap.get? b=some o->b∉fp/\∃ o',s.heap.get? b=some o')->PE ((cxC X s H scope cl C N fp).wish (xc (cxC X s H scope cl C N fp))) elt te)
  (hs:∀ x,foldedSetIterable iter X.env x=pure x) (I:Inv X pins σ H s) (h:Jl src wi g tc te σ H Q)
  (fin:∀ (C a:Addr) (H1:Hp) (s':Qc),(∀ h',Heap.SameBut C s'.heap h'->Inv X pins σ H1 { s' with heap:=h' })->FpOk X pins H1 C->(∃ m,s'.heap.Ns C m)->Q (.ref a) H1->compPost (model X.prog X.w) X.A X.xe use Post (.ref a) C (.ok .next) s')
  (bad:∀ (s2:Qc) (H2:Hp) (cl:List (Str×Addr)) (C:Addr) (fp:List Addr) (acc e:Qb) (s':Qc),(∀ σ' H' s',Inv (cxC X s2 H2 scope cl C N fp) [] σ' H' s'->∀ h',Heap.SameBut C s'.heap h'->Inv X pins σ H' { s' with heap:=h' })->(X.ex=[]->∀ b o,X.s₀.heap.get? b=some o->b∉fp/\∃ o',s2.heap.get? b=some o')->xc (cxC X s2 H2 scope cl C N fp) e s'->
   notedBy (model X.prog X.w) X.A (compEnvC scope cl C X.env) (λx s''=>compPost (model X.prog X.w) X.A X.xe use Post acc C (.error x) s'') e s') :
  Qf (model X.prog X.w) X.A (comprehension (.ListComp elt [⟨tg,iter,ifs,0⟩] scope pos) scope X.env pos2 (newList []) false (eval iter X.env) use) Post X.xe s:=by
 obtain ⟨cl,hcl,cl1,cl2⟩:=closure_of (scope:=scope) (env:=X.env) (λx hx=>I.ok.has x (S.has x hx))
 refine wpAny_comprehension_free (use:=use) rfl hs hcl S.kind S.own (thn (hi pins s σ H _ I h) λv s1 h1=>thn h1 λitv s2 h2=>?_)
 obtain ⟨it,fp,tn,J,H2,rfl,I2,T,st2,f2,W,⟨m0,w0⟩,turn⟩:=h2
 refine Qt (new_around λh3 hns hsb cok=>?_)
 dsimp only at hns hsb cok ⊢
 generalize hHd:s2.heap.push { cls:=.type "list",dict:=none,data:=.seq ([]:List Qb).toArray }=Hd at hns hsb cok ⊢
 have hCs:Hd.objs.size=s2.heap.objs.size + 1:=by rw[<- hHd,Heap.size_push]
 have hDC:s2.heap.objs.size≠Hd.objs.size:=by rw[hCs]; exact RC (Ul _)
 have below:∀ b,b < s2.heap.objs.size->b≠Hd.objs.size/\b≠s2.heap.objs.size:=λb hb=>⟨by rw[hCs]; exact RC (UD hb),RC hb⟩
 have old:∀ b o,s2.heap.get? b=some o->h3.get? b=some o:=λb o e=>hsb b o (hHd▸Heap.get?_push_of_some _ e)
 have hacc:h3.get? s2.heap.objs.size=some { cls:=.type "list",dict:=none,data:=.seq ([]:List Qb).toArray }:=hsb _ _ (hHd▸Heap.get?_push_size _ rfl)
 have fpObj:=T.obj 0 _ st2
 have fpLt:∀ b∈fp,b < s2.heap.objs.size:=λb hb=>by
  obtain ⟨o,e,_⟩:=fpObj b hb
  exact Heap.lt_size e
 generalize hown:cellsFrom (Hd.objs.size + 1) scope.names []=own at cok ⊢
 have ownC:∀ x c,(x,c)∈own->scope.names.lookup x=some .cell:=λx c hm=>by
  rw[<- hown]at hm
  rcases Cq _ _ _ _ _ hm with z | z
  ·exact nomatch z
  ·exact S.cells _ z rfl
 have two:∀ x c,(own++cl).lookup x=some c->(cl.lookup x=some c/\c < s2.heap.objs.size)\/((x,c)∈own/\h3.IsCell c none/\Hd.objs.size < c):=λx c e=>by
  rw[W2]at e
  cases ho:own.lookup x with
  | none=>
   rw[ho,WZ]at e
   obtain ⟨v,q⟩:=I2.cell x c (cl1 x c e)
   exact .inl ⟨e,q.lt⟩
  | some c'=>
   rw[ho,Ja9]at e
   cases e
   have hm:=mem_of_lookup ho
   exact .inr ⟨hm,(cok.empty x c hm).1,(cok.empty x c hm).2⟩
 have cellNe:∀ x c,(own++cl).lookup x=some c->c≠s2.heap.objs.size/\∀ b∈fp,c≠b:=λx c e=>by
  rcases two x c e with ⟨e,lt⟩ | ⟨_,_,lt⟩
  ·exact ⟨RC lt,λb hb=>(f2 b hb).2.2.2.2.1 x c (cl1 x c e)⟩
  ·rw[hCs]at lt
   exact ⟨Wc (UF (Ul _) lt),λb hb=>Wc (UF (fpLt b hb) (UF (Ul _) lt))⟩
 have fresh:∀ a,s2.heap.objs.size<=a->s2.heap.get? a=none:=λa ha=>by
  cases e:s2.heap.get? a with
  | none=>rfl
  | some o'=>exact absurd (Heap.lt_size e) (Jb0.mpr ha)
 have okY:(cxC X s2 H2 scope (own++cl) Hd.objs.size N fp).Ok:=by
  refine ⟨I2.ok.mod,S.kind,I2.ok.glob,I2.ok.blt,?_,?_,?_,?_,λhcc=>I2.ok.hd hcc,I2.ok.frames,.inl rfl,λb hb=>⟨(below b (fpLt b hb)).1,λx c e=>(cellNe x c e).2 b hb⟩,
   I2.bs,J6 I2.ok.bsz I2.sz,λb o e hb=>?_,λb hb z=>(Rg.mp (I2.stkSub b z)).elim (f2 b hb).2.1 (f2 b hb).2.2.1,I2.stack,I2.stkFree⟩
  ·show s2.heap.objs.size<=Hd.objs.size
   rw[hCs]; exact Uv _
  ·intro x y c e1 e2
   rcases two x c e1 with ⟨e1,l1⟩ | ⟨m1,_,l1⟩ <;> rcases two y c e2 with ⟨e2,l2⟩ | ⟨m2,_,l2⟩
   ·exact I2.ok.inj x y c (cl1 x c e1) (cl1 y c e2)
   ·rw[hCs]at l2; exact absurd (UF l1 (UF (Ul _) l2)) (Ry _)
   ·rw[hCs]at l1; exact absurd (UF l2 (UF (Ul _) l1)) (Ry _)
   ·exact name_of_addr cok.apart m1 m2
  ·intro x hx
   show ∃ c,(own++cl).lookup x=some c
   rw[W2]
   cases ho:own.lookup x with
   | some c=>exact ⟨c,rfl⟩
   | none=>
    rw[WZ]
    rcases DU hx with z | z
    ·exact cl2 x z
    ·have:=WB scope.names (Hd.objs.size + 1) [] (.inl (S.cells _ z rfl))
     rw[hown,ho]at this
     cases this
  ·intro x c hf e
   have hf':scope.names.lookup x=some .cell:=by simpa [cxC] using hf
   have:=WB scope.names (Hd.objs.size + 1) [] (.inl hf')
   rw[hown]at this
   obtain ⟨c',ho⟩:=Y9.mp this
   have e':(own++cl).lookup x=some c:=e
   rw[W2,ho,Ja9]at e'
   cases e'
   have:=(cok.empty x c (mem_of_lookup ho)).2
   show s2.heap.objs.size<=c
   rw[hCs]at this
   omega
  ·rcases (f2 b hb).2.2.2.1 with z | z
   ·exact I2.ok.noex b o e z
   ·exact absurd (Rb (Heap.lt_size e) (J6 I2.ok.bsz z)) (Ry _)
 have IY:Inv (cxC X s2 H2 scope (own++cl) Hd.objs.size N fp) [] (seen σ src) H2 { s2 with heap:=h3 }:=by
  refine ⟨okY,rfl,I2.bare,Un.kept old,⟨_,hns,λi x v e1 e2 _=>?_⟩,λx c e=>?_,I2.hok.fresh (by show s2.heap.objs.size<=Hd.objs.size; rw[hCs]; exact Uv _),?_,λp hp=>(nomatch hp),I2.hok.kept old,?_⟩
  ·unfold seen at e2
   rw[Rm]at e2
   cases hsr:src[i]? with
   | none=>rw[hsr]at e2; cases e2
   | some oj=>
    rw[hsr]at e2
    cases oj with
    | none=>cases e2
    | some j=>
     obtain ⟨hN,hfr,hlk⟩:=S.src i j x hsr e1
     have e3:σ[j]?=some (some v):=by
      have:(σ[j]?).join=some v:=Uc e2
      cases hj:σ[j]? with
      | none=>rw[hj]at this; cases this
      | some o=>rw[hj]at this; cases this; rfl
     have hk:=S.has x hfr
     have vis:Vis X.env.scope x:=by
      rcases hk with z | z
      ·exact .inr (.inl z)
      ·exact .inr (.inr z)
     obtain ⟨m,hnm,hl⟩:=I2.loc
     obtain ⟨u,r,l⟩:=hl j x v hN e3 vis
     refine ⟨u,r,.inr ⟨BP hlk,?_⟩⟩
     rcases l with ⟨l1,_⟩ | ⟨_,c,ec,ic⟩
     ·rcases hk with z | z <;> (rw[l1]at z; cases z)
     ·obtain ⟨c',ec'⟩:=cl2 x hfr
      have:=cl1 x c' ec'
      rw[ec]at this
      cases this
      obtain ⟨o,ho,hd⟩:=ic
      have hno:own.lookup x=none:=by
       cases ho:own.lookup x with
       | none=>rfl
       | some c2=>
        have:=ownC x c2 (mem_of_lookup ho)
        rw[hlk]at this
        cases this
      exact ⟨c,by show (own++cl).lookup x=some c; rw[W2,hno,WZ]; exact ec',o,old _ _ ho,hd⟩
  ·rcases two x c e with ⟨e,_⟩ | ⟨_,q,_⟩
   ·obtain ⟨v,o,ho,hd⟩:=I2.cell x c (cl1 x c e)
    exact ⟨v,o,old _ _ ho,hd⟩
   ·exact ⟨none,q⟩
  ·intro x c e
   rcases two x c e with ⟨e,_⟩ | ⟨_,_,lt⟩
   ·exact I2.freeC x c (cl1 x c e)
   ·exact I2.hok.fresh (by rw[hCs]at lt; omega)
  ·show (seen σ src).length=N.length
   unfold seen
   rw[J0,S.len]
 have dFs:s2.heap.objs.size∉frs X.stack:=λz=>by
  obtain ⟨_,o,ho,_⟩:=I2.stack.mem z
  exact absurd (Heap.lt_size ho) (Ry _)
 have cFs:Hd.objs.size∉frs X.stack:=λz=>by
  obtain ⟨_,o,ho,_⟩:=I2.stack.mem z
  have z2:=Heap.lt_size ho
  rw[hCs]at z2
  exact absurd z2 (Jb0.mpr (Uv _))
 have stat:∀ {H':Hp} {pn:List (Addr×Obj)},(∀ b∈fp,H' b=none)->(∀ p∈pn,p.1=s2.heap.objs.size)->∀ b∈fp,FpOk (cxC X s2 H2 scope (own++cl) Hd.objs.size N fp) pn H' b:=λhn hp b hb=>
  ⟨hn b hb,(below b (fpLt b hb)).1,okY.exfs b hb,.inl hb,λx c e=>(cellNe x c e).2 b hb,λp q z=>(below b (fpLt b hb)).2 (z▸hp p q)⟩
 have neC:∀ b o,s2.heap.get? b=some o->b≠Hd.objs.size:=λb o e=>(below b (Heap.lt_size e)).1
 have key:∀ σ' H' s',Inv (cxC X s2 H2 scope (own++cl) Hd.objs.size N fp) [] σ' H' s'->∀ h',Heap.SameBut Hd.objs.size s'.heap h'->Inv X pins σ H' { s' with heap:=h' }:=λσ' H' s4 I6 h' hsb'=>by
  have kp:∀ b o,b≠Hd.objs.size->s4.heap.get? b=some o->h'.get? b=some o:=λb o hb e=>(hsb'.2 b hb).trans e
  have un:Un (frs X.stack) fp H2 H' s2.heap h':=by
   have u0:Un (frs X.stack) fp H2 H' s2.heap s4.heap:=I6.base
   refine ⟨λb o e n' hb hx=>kp b o (neC b o e) (u0.keep b o e n' hb hx),λb o e n' hb hx=>?_,u0.free,λb o e hx=>?_,u0.tups,u0.frzs,u0.tbls⟩
   ·obtain ⟨sl,e1⟩:=u0.slot b o e n' hb hx
    exact ⟨sl,kp b _ (neC b o e) e1⟩
   ·obtain ⟨o',e1⟩:=u0.there b o e hx
    exact ⟨o',kp b o' (neC b o e) e1⟩
  have nC:H' Hd.objs.size=none:=I6.free
  have hok:HOk X.prog X.w H' h':=λa o e=>(I6.hok a o e).stay (λb u hb q'=>kp b u (λz=>by
   rcases hb with rfl | hb
   ·rw[z,nC]at e; cases e
   ·rw[z,nC]at hb; cases hb) q') (λ_ q'=>q') λ_ _ q'=>q'
  exact I2.call' (s':={ s4 with heap:=h' }) I6.os un hok I6.bare (λb hb=>⟨(f2 b hb).2.2.2.1,(f2 b hb).2.1,(f2 b hb).2.2.2.2.1,(f2 b hb).2.2.2.2.2⟩)
 have olds:X.ex=[]->∀ b o,X.s₀.heap.get? b=some o->b∉fp/\∃ o',s2.heap.get? b=some o':=λhex b o e=>by
  refine ⟨λhb=>?_,I2.base.there b o e (by rw[hex]; simp)⟩
  rcases (f2 b hb).2.2.2.1 with z | z
  ·rw[hex]at z
   cases z
  ·exact absurd (Heap.lt_size e) (Jb0.mpr z)
 have loop:∀ sA:Qc,sA={ s2 with heap:=h3 }->
   QJ (model X.prog X.w) X.A (.compLoop (.ListComp elt [⟨tg,iter,ifs,0⟩] scope pos) 0 (.ref it) (.ref s2.heap.objs.size) (compEnvC scope (own++cl) Hd.objs.size X.env))
    (compPost (model X.prog X.w) X.A X.xe use Post (.ref s2.heap.objs.size) Hd.objs.size) sA:=by
  rintro sA rfl
  refine compLoop_anyX (λn s'=>∃ (i:Nat) (ys:List V) (its:List Qb) (k:Nat) (σ3:St) (H3:Hp),Inv (cxC X s2 H2 scope (own++cl) Hd.objs.size N fp) [] σ3 H3 s'/\Weak (seen σ src) σ3/\tn i s'.heap/\(∀ b∈fp,H3 b=none)/\W i n ys H3/\
    s'.heap.get? s2.heap.objs.size=some { cls:=.type "list",data:=.seq its.toArray k }/\Vals ys its/\H3 s2.heap.objs.size=none) ?_ m0
   ⟨0,[],[],0,_,H2,IY,Weak.refl _,T.keep 0 _ _ st2 (λb hb o e=>old b o e),λb hb=>(f2 b hb).1,w0,hacc,.nil,I2.fresh⟩
  rintro n s3 ⟨i,ys,its,k,σ3,H3,I3,wk,st3,fr3,w3,hD,rv,nD⟩
  have I4:Inv (cxC X s2 H2 scope (own++cl) Hd.objs.size N fp) [] (seen σ src) H3 s3:=I3.weak wk.1.symm wk.2
  have I5:Inv (cxC X s2 H2 scope (own++cl) Hd.objs.size N fp) [(s2.heap.objs.size,{ cls:=.type "list",data:=.seq its.toArray k })] (seen σ src) H3 s3:=I4.pins_of λp hp=>by
   cases Rh.mp hp
   exact ⟨hD,nD,hDC,dFs,λv z=>nomatch z⟩
  have one:∀ p∈[((s2.heap.objs.size,{ cls:=.type "list",data:=.seq its.toArray k }):Addr×Obj)],p.1=s2.heap.objs.size:=λp hp=>by
   cases Rh.mp hp
   rfl
  rcases turn i n ys H3 w3 with ⟨stop,hlen,q⟩ | ⟨go,step⟩
  ·refine thn (T.done (cxC X s2 H2 scope (own++cl) Hd.objs.size N fp) rfl rfl rfl hc i _ s3 _ H3 _ I5 (stat fr3 one) st3 stop) λr s4 ⟨hr,I6⟩=>?_
   subst hr
   have hD4:=(I6.pin _ (RH _ (Rh.mpr rfl))).1
   obtain ⟨m,hn4,_⟩:=I6.loc
   refine fin Hd.objs.size s2.heap.objs.size (upd H3 s2.heap.objs.size (.lst ys)) s4 (λh' hsb'=>?_) (I2.fpOk (by rw[hCs]; exact Uv _) (by rw[As (UQ hDC)]; exact I6.free)) ⟨m,hn4⟩ (q _ nD)
   have kp:∀ b o,b≠Hd.objs.size->s4.heap.get? b=some o->h'.get? b=some o:=λb o hb e=>(hsb'.2 b hb).trans e
   have I7:Inv X pins σ H3 { s4 with heap:=h' }:=key _ _ s4 I6.nopins h' hsb'
   have e0:X.s₀.heap.get? s2.heap.objs.size=none:=by
    cases e:X.s₀.heap.get? s2.heap.objs.size with
    | none=>rfl
    | some o=>exact absurd (Rb (Heap.lt_size e) I2.sz) (Ry _)
   have I8:Inv X pins σ (upd H3 s2.heap.objs.size (.lst ys)) { s4 with heap:=h' }:=I7.track nD e0 (λz=>Ry _ (z▸I2.lt)) (λx c e z=>by
    obtain ⟨v,q'⟩:=I2.cell x c e
    exact Ry _ (z▸q'.lt)) (λp hp z=>Ry _ (z▸Heap.lt_size (I2.pin p hp).1)) ⟨hlen,its,k,rv,kp _ _ hDC hD4⟩
   exact I8
  ·refine thn (T.item (cxC X s2 H2 scope (own++cl) Hd.objs.size N fp) rfl rfl rfl hc i _ s3 _ H3 _ I5 (stat fr3 one) st3 go) λr s4 ⟨u,hr,h4⟩=>?_
   subst hr
   refine thn h4 λ_ s5 ⟨x,H5,I6,r5,y5,st5,fr5⟩=>?_
   have I6':=I6.pinned (stat fr5 one) (T.obj _ _ st5)
   refine thn (hg _ _ _ _ _ _ s5 _ H5 x u _ I6' r5 (step x H5 y5)) λ_ s6 ⟨σ6,H6,I7,wk6,q6⟩=>?_
   refine thn (hf _ _ _ _ _ _ s6 σ6 H6 _ I7 q6) λok s7 ⟨H7,I8,q7⟩=>?_
   have back:∀ {σ':St} {H':Hp} {s':Qc},Inv (cxC X s2 H2 scope (own++cl) Hd.objs.size N fp) ([(s2.heap.objs.size,{ cls:=.type "list",data:=.seq its.toArray k })]++Gv fp s5.heap) σ' H' s'->
     tn (i + 1) s'.heap/\(∀ b∈fp,H' b=none)/\s'.heap.get? s2.heap.objs.size=some { cls:=.type "list",data:=.seq its.toArray k }/\H' s2.heap.objs.size=none:=λ{σ' H' s'} J=>by
    have jD:=J.pin (s2.heap.objs.size,{ cls:=.type "list",data:=.seq its.toArray k }) (by simp)
    refine ⟨T.keep _ _ _ st5 λb hb o e=>(J.pin (b,o) (RH _ (RH _ (Cc hb e)))).1,λb hb=>?_,jD.1,jD.2.1⟩
    obtain ⟨o,e,d⟩:=T.obj _ _ st5 b hb
    exact (J.pin (b,o) (RH _ (RH _ (Cc hb e)))).2.1
   cases ok with
   | false=>
    rw[if_neg Rx]at q7
    rw[if_neg Rx]
    obtain ⟨m',hm,w'⟩:=q7
    obtain ⟨b1,b2,b3,b4⟩:=back I8
    exact ⟨m',hm,i + 1,ys,its,k,σ6,H7,I8.nopins,wk6,b1,b2,w',b3,rv,b4⟩
   | true=>
    rw[if_pos rfl]at q7
    rw[if_pos rfl]
    refine Qw (he _ _ _ _ _ olds _ s7 σ6 H7 _ (I8.wish _) q7) (λu2 s8 ⟨y,H8,I9',r9,hlt,m',hm,w'⟩=>?_) λe s8 z=>bad _ _ _ _ _ _ e s8 key olds z
    have I9:=I9'.unwish
    obtain ⟨b1,b2,b3,b4⟩:=back I9
    have hl:=rv.length
    refine call_meets F.slot_list_append ⟨_,b3,rfl⟩ F.entry_list_append (F.args_list_append_2 _ _) (ZX s2.heap.objs.size its.toArray k u2 (by rw[Ri]; omega)) ⟨b3,?_⟩
    have qu:=ZG b3 (·.push u2)
    rw[show its.toArray.push u2=(its++[u2]).toArray by simp]at qu
    refine ⟨m',hm,i + 1,ys++[y],its++[u2],_,σ6,H8,?_,wk6,?_,b2,w',qu,rv.append (.cons r9 .nil),b4⟩
    ·exact I9.nopins.turned (it:=s2.heap.objs.size) (λb o hb e=>(Heap.get?_update_other s8.heap (Obj.mapSeq _) (UQ hb)).trans e) b4 hDC (.inr (J8 _)) (λx c e z=>(cellNe x c e).1 z) (λp hp=>nomatch hp)
    ·exact T.keep _ _ _ b1 λb hb o e=>(Heap.get?_update_other s8.heap (Obj.mapSeq _) ((below b (fpLt b hb)).2.symm)).trans e
 exact codeAny_compStart_list (loop _ rfl) (T.self _ 0 _ _ _ (T.keep 0 _ _ st2 (λb hb o e=>old b o e)) (loop _ rfl))
theorem GC {X:Cx} {elt tg iter:Expr} {ifs:List Expr} {scope:Scope} {pos pos2:Pos} {N:List Str} {src:List (Option Nat)} {wi:TI} {g:TG} {tc:TT} {te:TE} {use:Option (Qb->Sem Unit)} {Post:Qb->Qc->Prop} {pins:List (Addr×Obj)} {s:Qc} {σ:St} {H:Hp} {Q:VK}
  (hc:X.calm=true) (S:CompScope X scope N src) (hi:PI X tg iter wi)
  (hg:∀ s H cl C fp,PG (cxC X s H scope cl C N fp) tg g) (hf:∀ s H cl C fp,PIf (cxC X s H scope cl C N fp) ifs tc) (he:∀ s H cl C fp,PE (cxC X s H scope cl C N fp) elt te)
  (hs:∀ x,foldedSetIterable iter X.env x=pure x) (I:Inv X pins σ H s) (h:Jl src wi g tc te σ H Q)
  (fin:∀ (C a:Addr) (H1:Hp) (s':Qc),(∀ h',Heap.SameBut C s'.heap h'->Inv X pins σ H1 { s' with heap:=h' })->FpOk X pins H1 C->(∃ m,s'.heap.Ns C m)->Q (.ref a) H1->compPost (model X.prog X.w) X.A X.xe use Post (.ref a) C (.ok .next) s') :
  Qf (model X.prog X.w) X.A (comprehension (.ListComp elt [⟨tg,iter,ifs,0⟩] scope pos) scope X.env pos2 (newList []) false (eval iter X.env) use) Post X.xe s:=
 comp_coreX hc S hi hg hf (λ_ _ _=>False) (λs H cl C fp _=>he s H cl C fp) hs I h fin λ_ _ _ _ _ _ _ _ _ _ z=>z.elim
theorem pe_comp {X:Cx} {elt tg iter:Expr} {ifs:List Expr} {scope:Scope} {pos:Pos} {N:List Str} {src:List (Option Nat)} {wi:TI} {g:TG} {tc:TT} {te:TE} (hc:X.calm=true) (S:CompScope X scope N src) (hi:PI X tg iter wi)
  (hg:∀ s H cl C fp,PG (cxC X s H scope cl C N fp) tg g) (hf:∀ s H cl C fp,PIf (cxC X s H scope cl C N fp) ifs tc) (he:∀ s H cl C fp,PE (cxC X s H scope cl C N fp) elt te)
  (hs:∀ x,foldedSetIterable iter X.env x=pure x:=by intro _; rfl):PE X (.ListComp elt [⟨tg,iter,ifs,0⟩] scope pos) (Jl src wi g tc te):=by
 intro pins s σ H Q I h
 rw[eval_ListComp]
 refine GC (use:=none) hc S hi hg hf he hs I h λC a H1 s' key _ ⟨m,hn⟩ q=>⟨m,hn,λh' sb=>⟨.ref a,H1,key h' sb,rfl,q⟩⟩
theorem ps_setComp {X:Cx} {elt tg iter:Expr} {ifs:List Expr} {scope:Scope} {pos spos pos':Pos} {x:Str} {i:Nat} {N:List Str} {src:List (Option Nat)} {wi:TI} {g:TG} {tc:TT} {te:TE} (hc:X.calm=true) (S:CompScope X scope N src) (hi:PI X tg iter wi)
  (hg:∀ s H cl C fp,PG (cxC X s H scope cl C N fp) tg g) (hf:∀ s H cl C fp,PIf (cxC X s H scope cl C N fp) ifs tc) (he:∀ s H cl C fp,PE (cxC X s H scope cl C N fp) elt te) (ht:PG X (.Name x pos') (AR i))
  (hsw:swapsWith (.ListComp elt [⟨tg,iter,ifs,0⟩] scope pos) (some (.Name x pos')) spos.line X.env=pure true:=by rfl)
  (hs:∀ x,foldedSetIterable iter X.env x=pure x:=by intro _; rfl):PS X (.Assign [.Name x pos'] (.ListComp elt [⟨tg,iter,ifs,0⟩] scope pos) spos) (tAsg (Jl src wi g tc te) (AR i)):=by
 intro pins s σ H D I h
 rw[exec_Assign_Name_used _ _ _ _ hsw]
 refine Qa (Q1 (Qa ?_))
 rw[arm_evalThenUse_ListComp]
 refine Qa ?_
 refine GC (use:=some (assign (.Name x pos') X.env)) hc S hi hg hf he hs I h λC a H1 s' key fp ⟨m,o,es,ep,ho,hd,hk⟩ q=>?_
 have I1:Inv X pins σ H1 s':=key s'.heap (Heap.SameBut.refl _ _)
 have I2:=I1.pinned (fp:=[C]) (λb hb=>by rw[Rh.mp hb]; exact fp) (λb hb=>by rw[Rh.mp hb]; exact ⟨o,ho,λv z=>by rw[hd]at z; cases z⟩)
 refine thn (ht _ s' σ H1 (.ref a) (.ref a) _ I2 rfl q) λ_ s5 ⟨σ5,H5,I5,q5⟩=>?_
 have pC:=I5.pin (C,o) (RH _ (RH _ (Cc (Rh.mpr rfl) ho)))
 obtain ⟨f0,f1,f2,f3,f4,f5⟩:=fp
 refine ⟨m,⟨o,es,ep,pC.1,hd,hk⟩,λh' sb=>?_⟩
 exact Qd (Qd ⟨σ5,H5,I5.unpinned.turned (it:=C) (t':=s5.toks) (λb o' hb e=>(sb.2 b hb).trans e) pC.2.1 f1 f3 f4 f5,q5⟩)
def Hq (osc sc:Scope) (oN N:List Str) (src:List (Option Nat)):Bool:=
 sc.names.all (λy=>decide (y.2≠.cell) || decide (sc.names.lookup y.1=some .cell)) && sc.names.all (λy=>decide (y.2≠.local) || decide (sc.names.lookup y.1=some .local)) &&
 sc.names.all (λy=>decide (y.2≠.free) || decide (osc.names.lookup y.1=some .cell) || decide (osc.names.lookup y.1=some .free)) && decide (src.length=N.length) &&
 (J1 src.length).all (λi=>match src[i]?,N[i]? with | some (some j),some x=>decide (oN[j]?=some x) && decide ((x,NameKind.free)∈sc.names) && decide (sc.names.lookup x=some .free) | _,_=>true)
theorem Al {X:Cx} {scope:Scope} {N:List Str} {src:List (Option Nat)} (osc:Scope) (oN:List Str) (e1:X.env.scope=osc) (e2:X.N=oN) (c:Hq osc scope oN N src=true) (k:scope.kind=.function):CompScope X scope N src:=by
 unfold Hq at c
 simp only[RL,Ue,decide_eq_true_eq,Y5]at c
 obtain ⟨⟨⟨⟨c1,c2⟩,c3⟩,c4⟩,c5⟩:=c
 refine ⟨k,λy hy e=>(c1 y hy).resolve_left λz=>z e,λy hy e=>?_,λx hx=>?_,c4,λi j x h1 h2=>?_⟩
 ·rcases c2 y hy with z | z
  ·exact absurd e z
  ·exact z
 ·show X.env.scope.names.lookup x=_\/X.env.scope.names.lookup x=_
  rw[e1]
  rcases c3 (x,.free) hx with (z | z) | z
  ·exact absurd rfl z
  ·exact .inl z
  ·exact .inr z
 ·have hi:i < src.length:=(J3.mp h1).1
  have z:=c5 i (Ra.mpr hi)
  rw[h1,h2]at z
  simp only[RL,decide_eq_true_eq]at z
  rw[e2]
  exact ⟨z.1.1,z.1.2,z.2⟩
theorem Ey {X:Cx} {scope:Scope} {N:List Str} {src:List (Option Nat)} (oN:List Str) (e2:X.N=oN) (c:Hq X.env.scope scope oN N src=true) (k:scope.kind=.function):CompScope X scope N src:=Al X.env.scope oN rfl e2 c k
end L2
namespace L2
open PySem PySem.Spec PyProof.Rows
mutual
def IsD (K:J4) (H:Hp):Q0->V->Prop
 | .none,v=>v=.non
 | .bool b,v=>v=.bl b
 | .int i,v=>v=.int i
 | .str x,v=>v=.str x
 | .list ds,v=>∃ a xs,v=.ref a/\SqL K H a xs/\IsDs K H ds xs
 | .tuple ds,v=>∃ a xs,v=.ref a/\SqT K H a xs/\IsDs K H ds xs
 | .dict _,_=>False
def IsDs (K:J4) (H:Hp):List Q0->List V->Prop
 | [],xs=>xs=[]
 | d::ds,xs=>∃ x r,xs=x::r/\IsD K H d x/\IsDs K H ds r
end
theorem isTup_reads {h:Heap} {a:Addr} {its:Array Qb} (t:IsTup h a its):∃ o n,h.get? a=some o/\o.cls=.type "tuple"/\o.data=.seq its n:=by
 obtain ⟨o,ho,hc,n,hd⟩:=t
 exact ⟨o,n,ho,hc,hd⟩
section
variable {X:Cx} {pins:List (Addr×Obj)} {σ:St} {H:Hp} {s:Qc}
mutual
theorem IsD.reads (I:Inv X pins σ H s):∀ (d:Q0) {v:V} {u:Qb},IsD X.K H d v->RelV v u->∃ as,Reads s.heap u d as
 | .none,v,u,h,r=>by
  simp only[IsD]at h; subst h
  cases (show u=.none from r); exact ⟨_,.none⟩
 | .bool b,v,u,h,r=>by
  simp only[IsD]at h; subst h
  cases (show u=.bool b from r); exact ⟨_,.bool b⟩
 | .int i,v,u,h,r=>by
  simp only[IsD]at h; subst h
  obtain ⟨t,rfl⟩:=r; exact ⟨_,.int i t⟩
 | .str x,v,u,h,r=>by
  simp only[IsD]at h; subst h
  obtain ⟨t,rfl⟩:=r; exact ⟨_,.str x t⟩
 | .list ds,v,u,h,r=>by
  simp only[IsD]at h
  obtain ⟨a,xs,rfl,hs,hd⟩:=h
  cases (show u=.ref a from r)
  obtain ⟨its,rv,p,_⟩:=I.list hs
  obtain ⟨o,ho,hc,n,hdd⟩:=p.isList
  obtain ⟨as,ra⟩:=IsDs.reads I ds hd rv
  exact ⟨_,.list ho hc hdd (by simpa using ra)⟩
 | .tuple ds,v,u,h,r=>by
  simp only[IsD]at h
  obtain ⟨a,xs,rfl,hs,hd⟩:=h
  cases (show u=.ref a from r)
  obtain ⟨its,rv,p,_⟩:=I.tuple hs
  obtain ⟨o,n,ho,hc,hdd⟩:=isTup_reads p
  obtain ⟨as,ra⟩:=IsDs.reads I ds hd rv
  exact ⟨_,.tuple ho hc hdd (by simpa using ra)⟩
 | .dict _,v,u,h,r=>by
  simp only[IsD]at h
theorem IsDs.reads (I:Inv X pins σ H s):∀ (ds:List Q0) {vs:List V} {us:List Qb},IsDs X.K H ds vs->Vals vs us->∃ as,ReadsAll s.heap us ds as
 | [],vs,us,h,r=>by
  simp only[IsDs]at h; subst h
  cases r; exact ⟨_,.nil⟩
 | d::ds,vs,us,h,r=>by
  simp only[IsDs]at h
  obtain ⟨x,rr,rfl,hx,hr⟩:=h
  cases r with
  | cons r1 r2=>
   obtain ⟨as,ra⟩:=IsD.reads I d hx r1
   obtain ⟨bs,rb⟩:=IsDs.reads I ds hr r2
   exact ⟨_,.cons ra rb⟩
end
end
mutual
theorem IsD.imp {K:J4} {H H':Hp} (sl:∀ a xs,SqL K H a xs->SqL K H' a xs) (st:∀ a xs,SqT K H a xs->SqT K H' a xs):∀ (d:Q0) {v:V},IsD K H d v->IsD K H' d v
 | .none,v,h=>by simp only[IsD]at h ⊢; exact h
 | .bool b,v,h=>by simp only[IsD]at h ⊢; exact h
 | .int i,v,h=>by simp only[IsD]at h ⊢; exact h
 | .str x,v,h=>by simp only[IsD]at h ⊢; exact h
 | .list ds,v,h=>by
  simp only[IsD]at h ⊢
  obtain ⟨a,xs,e,hs,hd⟩:=h
  exact ⟨a,xs,e,sl a xs hs,IsDs.imp sl st ds hd⟩
 | .tuple ds,v,h=>by
  simp only[IsD]at h ⊢
  obtain ⟨a,xs,e,hs,hd⟩:=h
  exact ⟨a,xs,e,st a xs hs,IsDs.imp sl st ds hd⟩
 | .dict _,v,h=>by simp only[IsD]at h
theorem IsDs.imp {K:J4} {H H':Hp} (sl:∀ a xs,SqL K H a xs->SqL K H' a xs) (st:∀ a xs,SqT K H a xs->SqT K H' a xs):∀ (ds:List Q0) {vs:List V},IsDs K H ds vs->IsDs K H' ds vs
 | [],vs,h=>by simp only[IsDs]at h ⊢; exact h
 | d::ds,vs,h=>by
  simp only[IsDs]at h ⊢
  obtain ⟨x,r,e,hx,hr⟩:=h
  exact ⟨x,r,e,IsD.imp sl st d hx,IsDs.imp sl st ds hr⟩
end
def rEqD (K:J4) (neg:Bool):R2:=λx y H Q=>∃ da db,IsD K H da x/\IsD K H db y/\R7 da=true/\R7 db=true/\Q (.bl (if neg then !PyData.eqv da db else PyData.eqv da db)) H
theorem GD {X:Cx} (hu:X.A.units + 64 < cLine):OpR X (compareOp .Eq) (rEqD X.K false):=by
 intro pins s σ H x y v u Q I rx ry h
 obtain ⟨da,db,ha,hb,sa,sb,q⟩:=h
 obtain ⟨as,ra⟩:=IsD.reads I da ha rx
 obtain ⟨bs,rb⟩:=IsD.reads I db hb ry
 exact PySem.SeqAt.compareEq_shaped ra rb sa sb hu ⟨.bl _,H,I,rfl,q⟩
theorem Lc {X:Cx} (hu:X.A.units + 64 < cLine):OpR X (compareOp .NotEq) (rEqD X.K true):=by
 intro pins s σ H x y v u Q I rx ry h
 obtain ⟨da,db,ha,hb,sa,sb,q⟩:=h
 obtain ⟨as,ra⟩:=IsD.reads I da ha rx
 obtain ⟨bs,rb⟩:=IsD.reads I db hb ry
 exact PySem.SeqAt.compareNe_shaped ra rb sa sb hu ⟨.bl _,H,I,rfl,q⟩
theorem Ik:∀ {bs:List Bool} {us:List Qb},Vals (bs.map V.bl) us->LSm.BoolsAre us bs
 | [],_,.nil=>.nil
 | b::bs,_,.cons h t=>by
  cases (show _=Value.bool b from h)
  exact .cons b (Ik t)
theorem Il {X:Cx} (hc:X.calm=true):Bx X (.builtin "all") (λxs H Q=>∃ (a:Addr) (bs:List Bool),xs=[.ref a]/\SqL X.K H a (bs.map V.bl)/\Q (.bl (bs.all id)) H):=by
 intro pins s σ H xs us Q I r h
 obtain ⟨a,bs,rfl,hS,q⟩:=h
 obtain ⟨u,rfl,ru⟩:=r.one
 cases (show u=Value.ref a from ru)
 obtain ⟨its,rv,p,_⟩:=I.list hS
 have hl:=p.isList
 have hb:=Ik rv
 have hlt:a < s.heap.objs.size:=by obtain ⟨_,e,_⟩:=hl; exact Heap.lt_size e
 refine call_all_walk (QZ hl ?_)
 refine ⟨s.heap.objs.size,[s.heap.objs.size,a],[s.heap.objs.size],its.toArray.size,_,_,λi=>(bs[i]?).getD true,rfl,Walks.list (A:=X.A.in1) (I.ok.hd hc) _ a (RC hlt) its.toArray,
  ⟨⟨_,Heap.get?_push_size _ rfl,rfl,rfl⟩,hl.push _⟩,λi v s' Q' E' hP hQ=>?_,λh' tk hk=>?_⟩
 ·obtain ⟨b,e,rfl⟩:=hb.get i v (by simpa using hP)
  simp only[e,YH]at hQ
  exact QC hQ
 ·have e:((J1 its.toArray.size).all λi=>(bs[i]?).getD true)=bs.all id:=by
   rw[Ri,hb.length]; exact LSm.range_all bs
  rw[e]
  exact ⟨.bl _,H,I.kept (LSm.kept_iter hk),rfl,q⟩
def Pm (P:Qj) (w:Qk) (K:J4) (mg:Str->Option Qb) (base:Heap) (CX:CXT) (k:Nat) (x:Str) (ps:List Str) (sp:Sp):Prop:=
 ∃ (f:Addr) (fd:Qh),mg x=some (.ref f)/\Ud K (.ref f)=true/\Binds K fd ps []/\FnOk P w K mg base CX k f fd ps sp
theorem pe_callP {X:Cx} {CX:CXT} {k:Nat} {x:Str} {ps:List Str} {sp:Sp} {E:XK} {p pos:Pos} {e:Expr} {es:List Expr} {t:TA} (h:Pm X.prog X.w X.K X.mg X.base CX k x ps sp) (hr:Room k X.A) (hg:Gl X x) (hx:Cd CX X E) (ha:PA X (e::es) t)
  (hdb:(x == ("__debug__":Str))=false:=by decide) (he:Qg (e::es) X.env=(false,eval e X.env)::Qg es X.env:=by rfl) (hpl:(backTo pos (Qg es X.env)).any (·.1)=false:=by rfl) :
  PE X (.Call (.Name x p) (e::es) [] pos) (KL sp [] E t):=by
 obtain ⟨f,fd,hm,hk,hb,F⟩:=h
 exact Jx F hr hg hm hk hb .nil hx ha hdb he hpl
end L2
namespace L2
open PySem PySem.Spec PyProof.Rows
set_option autoImplicit true
set_option relaxedAutoImplicit true
structure QE (X:Cx) (e:Expr) (t:TE):Prop where
 h:PE X e t
structure QT (X:Cx) (e:Expr) (t:TT):Prop where
 h:PT X e t
structure QW (X:Cx) (e:Expr) (t:TT):Prop where
 h:PW X e t
structure QA (X:Cx) (e:List Expr) (t:TA):Prop where
 h:PA X e t
structure QS (X:Cx) (e:Stmt) (t:TS):Prop where
 h:PS X e t
structure QSs (X:Cx) (e:List Stmt) (t:TS):Prop where
 h:PSs X e t
structure QGs (X:Cx) (e:List Expr) (t:TGs):Prop where
 h:PGs X e t
structure QG (X:Cx) (e:Expr) (t:TG):Prop where
 h:PG X e t
structure QIf (X:Cx) (e:List Expr) (t:TT):Prop where
 h:PIf X e t
structure QO (X:Cx) (e:Option Expr) (t:TO):Prop where
 h:PO X e t
structure QI (X:Cx) (tg iter:Expr) (t:TI):Prop where
 h:PI X tg iter t
theorem QW.pt {X:Cx} {e:Expr} {t:TT} (k:QW X e t):QT X e t:=⟨k.h.pt⟩
theorem Af {i j pos}:QE X (.Constant (.int i) j pos) (tC (.int i)):=⟨pe_int ⟩
theorem LF {b j pos}:QE X (.Constant (.bool b) j pos) (tC (.bl b)):=⟨pe_bl ⟩
theorem Cz {j pos}:QE X (.Constant .none j pos) (tC .non):=⟨pe_non ⟩
theorem Dd {x j pos}:QE X (.Constant (.str x) j pos) (tC (.str x)):=⟨pe_str ⟩
theorem qe_glob {x:Str} {v:V} {u:Qb} {pos:Pos} (hg:Gl X x) (hm:X.mg x=some u) (r:RelV v u) (hd:(x == ("__debug__":Str))=false:=by decide):QE X (.Name x pos) (tC v):=⟨pe_glob (hg) (hm) (r) (hd)⟩
theorem FG {x:Str} {v:V} {u:Qb} {pos:Pos} (hg:Gl X x) (hm:X.mg x=none) (hv:Qr x=some u) (r:RelV v u) (hn:x≠"__name__":=by decide) (hd:(x == ("__debug__":Str))=false:=by decide):QE X (.Name x pos) (tC v):=⟨pe_bltn (hg) (hm) (hv) (r) (hn) (hd)⟩
theorem CA {e:Expr} {t:TE} (h:QE X e t) (he:∀ whole,isTrue e X.env whole=(do let v <- whole; standAt e.pos; holding [v] (truthy v)):=by intro _; rfl):QT X e (tB t):=⟨pt_val h.h (he)⟩
theorem Hr (ha:QT X a tA):QW X (.BoolOp .And [a] pos) tA:=⟨pw_and1 ha.h⟩
theorem Ez (ha:QT X a tA):QW X (.BoolOp .Or [a] pos) tA:=⟨pw_or1 ha.h⟩
theorem JE (ha:QT X a tA) (hb:QW X (.BoolOp .And (b::restq) pos) tB'):QW X (.BoolOp .And (a::b::restq) pos) (tAnd tA tB'):=⟨pw_and ha.h hb.h⟩
theorem Fn (ha:QT X a tA) (hb:QW X (.BoolOp .Or (b::restq) pos) tB'):QW X (.BoolOp .Or (a::b::restq) pos) (tOr tA tB'):=⟨pw_or ha.h hb.h⟩
theorem CD (ha:QT X a tA):QT X (.UnaryOp .Not a pos) (tNot tA):=⟨pt_not ha.h⟩
theorem Im {op} {t:TE} (h:QE X a t):QE X (.BoolOp op [a] pos) t:=⟨pe_one h.h⟩
theorem Io (ha:QE X a ta) (hb:QE X (.BoolOp .And (b::restq) pos) tb):QE X (.BoolOp .And (a::b::restq) pos) (Mc ta tb):=⟨pe_and ha.h hb.h⟩
theorem qe_not (ha:QE X a ta):QE X (.UnaryOp .Not a pos) (Md ta):=⟨pe_not ha.h⟩
theorem AA :QSs X [] Me:=⟨pss_nil ⟩
theorem Ad (h1:QS X stq t) (h2:QSs X restq u):QSs X (stq::restq) (tSeq t u):=⟨pss_cons h1.h h2.h⟩
theorem Ah (h1:QS X stq t):QSs X [stq] t:=⟨pss_one h1.h⟩
theorem AK (he:QE X e te) (hs:swapsWith e none pos.line X.env=pure false:=by rfl):QS X (.Expr e pos) (Mf te):=⟨ps_expr he.h (hs)⟩
theorem Ax (he:QE X e te):QS X (.Return (some e) pos) (tRet te):=⟨ps_ret he.h⟩
theorem Bb {c:Expr} {a b:List Stmt} {tc:TT} (hc:QT X c tc) (ha:QSs X a t) (hb:QSs X b u):QS X (.If c a b pos) (tIfS tc t u):=⟨ps_if hc.h ha.h hb.h⟩
theorem Ai {i:Nat} {x:Str} (hN:X.N.Nodup) (hiq:X.N[i]?=some x) (hx:Loc X.env.scope x) (hf:X.fn x=true\/X.env.scope.names.lookup x=some .local:=by first | exact .inl rfl | exact .inr rfl | assumption):QG X (.Name x pos) (AR i):=⟨pg_name (hN) (hiq) (hx) (hf)⟩
theorem Bq :QGs X [] gNil:=⟨pgs_nil ⟩
theorem AC {e:Expr} {es:List Expr} {t:TG} {u:TGs} (h1:QG X e t) (h2:QGs X es u) (hs:(assignEach (e::es) X.env).map (·.2)=assign e X.env::(assignEach es X.env).map (·.2):=by rfl):QGs X (e::es) (Gs t u):=⟨pgs_cons h1.h h2.h (hs)⟩
theorem BV {es:List Expr} {k:Nat} {t:TGs} {n:Nat} (hc:X.calm=true) (h:QGs X es t) (hn:(assignEach es X.env).length=n:=by rfl) (hst:(assignEach es X.env).findIdx? (·.1)=none:=by rfl):QG X (.Tuple es k pos) (gTup X.K n t):=⟨pg_tup (hc) h.h (hn) (hst)⟩
theorem Ip {o i:Expr} {to ti:TE} {t:TSet} (ho:QE X o to) (hiq:QE X i ti) (hs:PSet X t) (ha:∀ v,assign (.Subscript o i pos) X.env v=(do
   let ov <- holding [v] (eval o X.env)
   let iv <- holding [v,ov] (eval i X.env)
   standAt pos
   holding [v,ov,iv] (setItem ov iv v)
   release [v,ov,iv] []):=by intro _; rfl):QG X (.Subscript o i pos) (gSub to ti t):=⟨pg_sub ho.h hiq.h (hs) (ha)⟩
theorem Iq {tg e:Expr} {te:TE} {g:TG} (he:QE X e te) (hg:QG X tg g) (hs:swapsWithSole [tg] e pos.line X.env=pure false:=by rfl) (hw:swappedStores [tg] e X.env=pure none:=by rfl) (h1:(assignEach [tg] X.env).map (·.2)=[assign tg X.env]:=by rfl):QS X (.Assign [tg] e pos) (tAsg te g):=⟨ps_asg he.h hg.h (hs) (hw) (h1)⟩
theorem An {i:Nat} {x:Str} {e:Expr} {te:TE} {pos':Pos} (hN:X.N.Nodup) (hiq:X.N[i]?=some x) (hx:Loc X.env.scope x) (he:QE X e te) (hs:swapsWith e (some (.Name x pos')) pos.line X.env=pure false:=by rfl) (hf:X.fn x=true\/X.env.scope.names.lookup x=some .local:=by first | exact .inl rfl | exact .inr rfl | assumption):QS X (.Assign [.Name x pos'] e pos) (tAsg te (AR i)):=⟨ps_set (hN) (hiq) (hx) he.h (hs) (hf)⟩
theorem Ir {i:Nat} {x:Str} {e:Expr} {te:TE} {op:Operator} {ti:TIp} {pos':Pos} (hN:X.N.Nodup) (hiq:X.N[i]?=some x) (hx:Loc X.env.scope x) (he:QE X e te) (ho:PIp X op ti) (hf:X.fn x=true\/X.env.scope.names.lookup x=some .local:=by first | exact .inl rfl | exact .inr rfl | assumption):QS X (.AugAssign (.Name x pos') op e pos) (tAug i te ti):=⟨ps_aug (hN) (hiq) (hx) he.h (ho) (hf)⟩
theorem qs_augS {o i e:Expr} {to ti te:TE} {tget:V->V->Hp->VK->Prop} {tip:TIp} {tset:TSet} {op:Operator} {tpos:Pos} (ho:QE X o to) (hiq:QE X i ti) (hg:PGet X tget) (he:QE X e te) (hp:PIp X op tip) (hs:PSet X tset) (ha:∀ ov iv new,augStore i ov iv new=(do holding [new,ov,iv] (setItem ov iv new); release [new,ov,iv] []; pure .next):=by intros; rfl):QS X (.AugAssign (.Subscript o i tpos) op e pos) (Mg to ti te tget tip tset):=⟨ps_augS ho.h hiq.h (hg) he.h (hp) (hs) (ha)⟩
theorem BW {c:Expr} {body:List Stmt} {tc:TT} {tb:TS} (hp:Xq (model X.prog X.w) X.A X.env X.xe) (hc:QT X c tc) (hb:QSs X body tb):QS X (.While c body [] pos) (Jp tc tb):=⟨ps_while (hp) hc.h hb.h⟩
theorem Bz {l:Expr} {tl:TE} (hl:QE X l tl):QI X tg l (LE X.K tl):=⟨pi_list hl.h⟩
theorem DV {l:Expr} {tl:TE} (hl:QE X l tl):QI X tg l (iTup X.K tl):=⟨pi_tup hl.h⟩
theorem Ar {a:Expr} {ta:TA} {p pos:Pos} (hg:Gl X "range") (hm:X.mg "range"=none) (ha:QA X [a] ta) (hs:Qg [a] X.env=[(false,eval a X.env)]:=by rfl):QI X tg (.Call (.Name "range" p) [a] [] pos) (Mh ta):=⟨pi_range1 (hg) (hm) ha.h (hs)⟩
theorem Dm {a b:Expr} {ta:TA} {p pos:Pos} (hg:Gl X "range") (hm:X.mg "range"=none) (ha:QA X [a,b] ta) (hs:Qg [a,b] X.env=[(false,eval a X.env),(false,eval b X.env)]:=by rfl) (hs2:Qg [b] X.env=[(false,eval b X.env)]:=by rfl):QI X tg (.Call (.Name "range" p) [a,b] [] pos) (Mi ta):=⟨pi_range2 (hg) (hm) ha.h (hs) (hs2)⟩
theorem AJ {iter:Expr} {body:List Stmt} {wi:TI} {g:TG} {tb:TS} {pos:Pos} (hp:Xq (model X.prog X.w) X.A X.env X.xe) (hc:X.calm=true) (hiq:QI X tg iter wi) (hg:QG X tg g) (hb:QSs X body tb) (hs:∀ x,foldedSetIterable iter X.env x=pure x:=by intro _; rfl):QS X (.For tg iter body [] pos) (tFor wi g tb):=⟨ps_for (hp) (hc) hiq.h hg.h hb.h (hs)⟩
theorem Aq {op:Operator} {r:R2} (ho:OpR X (binaryOp op) r) (ha:QE X a ta) (hb:QE X b tb):QE X (.BinOp a op b pos) (tOp r ta tb):=⟨pe_op (ho) ha.h hb.h⟩
theorem Mq {op:UnaryOp} {r:V->Hp->VK->Prop} (ho:UnR X (unaryOp op) r) (ha:QE X a ta):QE X (.UnaryOp op a pos) (tUn r ta):=⟨pe_un (ho) ha.h⟩
theorem DI {op:CmpOp} {r:R2} (ho:OpR X (compareOp op) r) (ha:QE X a ta) (hb:QE X b tb) (hm:behindInMarks op b=false):QE X (.Compare a [op] [b] pos) (tOp r ta tb):=⟨pe_cmpR (ho) ha.h hb.h (hm)⟩
theorem Ap {op:CmpOp} {r:R2} (ho:OpR X (compareOp op) r) (ha:QE X a ta) (hb:QE X b tb) (hm:behindInMarks op b=false):QT X (.Compare a [op] [b] pos) (Mm (tOp r ta tb)):=⟨pt_cmpR (ho) ha.h hb.h (hm)⟩
theorem qe_chain {op op':CmpOp} {r r':R2} (ho:OpR X (compareOp op) r) (ho':OpR X (compareOp op') r') (ha:QE X a ta) (hb:QE X b tb) (hc:QE X c tc) (hm:lastMarks [op,op'] [b,c]=false:=by with_unfolding_all rfl):QE X (.Compare a [op,op'] [b,c] pos) (KZ r r' ta tb tc):=⟨pe_chain (ho) (ho') ha.h hb.h hc.h (hm)⟩
theorem Dn (he:QE X e ta) (hb:attributeBase e f X.env (eval e X.env)=eval e X.env):QE X (.Attribute e f pos) (tFld X.K ta f):=⟨pe_fld he.h (hb)⟩
theorem JF (ha:QE X o ta) (hv:QE X value tv) (hs:swapsWith value (some (.Attribute o f pos')) pos.line X.env=pure false):QS X (.Assign [.Attribute o f pos'] value pos) (sFld X.K ta tv f):=⟨ps_fld ha.h hv.h (hs)⟩
theorem Ab :QA X [] tNil:=⟨pa_nil ⟩
theorem AI {x1} (h:QA X es t):QE X (.Tuple es x1 pos) (tTup t):=⟨pe_tup h.h⟩
theorem Bw (h:QA X es t):QE X (.List es pos) (tLst t):=⟨pe_lst h.h⟩
theorem qe_call (F:FnOk X.prog X.w X.K X.mg X.base CX k f fd ps sp) (hr:Room k X.A) (hg:Gl X x) (hm:X.mg x=some (.ref f)) (hk:Ud X.K (.ref f)=true) (hb:Binds X.K fd ps ds) (hd:Vals dvs ds) (hx:Cd CX X E) (ha:QA X (e::es) t) (hdb:(x == ("__debug__":Str))=false:=by decide) (he:Qg (e::es) X.env=(false,eval e X.env)::Qg es X.env:=by rfl) (hpl:(backTo pos (Qg es X.env)).any (·.1)=false:=by rfl):QE X (.Call (.Name x p) (e::es) [] pos) (KL sp dvs E t):=⟨Jx (F) (hr) (hg) (hm) (hk) (hb) (hd) (hx) ha.h (hdb) (he) (hpl)⟩
theorem Am (hc:Bx X (.builtin idq) r) (hg:Gl X x) (hm:X.mg x=none) (hv:Qr x=some (.builtin idq)) (ha:QA X (e::es) t) (hn:x≠"__name__":=by decide) (hdb:(x == ("__debug__":Str))=false:=by decide) (he:Qg (e::es) X.env=(false,eval e X.env)::Qg es X.env:=by rfl) (hpl:(backTo pos (Qg es X.env)).any (·.1)=false:=by rfl):QE X (.Call (.Name x p) (e::es) [] pos) (tCB r t):=⟨pe_callB (hc) (hg) (hm) (hv) ha.h (hn) (hdb) (he) (hpl)⟩
theorem AD (hc:Bx X (.type T) r) (hg:Gl X x) (hm:X.mg x=none) (hv:Qr x=some (.type T)) (ha:QA X (e::es) t) (hn:x≠"__name__":=by decide) (hdb:(x == ("__debug__":Str))=false:=by decide) (he:Qg (e::es) X.env=(false,eval e X.env)::Qg es X.env:=by rfl) (hpl:(backTo pos (Qg es X.env)).any (·.1)=false:=by rfl):QE X (.Call (.Name x p) (e::es) [] pos) (tCB r t):=⟨pe_callTy (hc) (hg) (hm) (hv) ha.h (hn) (hdb) (he) (hpl)⟩
theorem CG :QO X none Jz:=⟨po_none ⟩
theorem BI (h:QE X e te):QO X (some e) (Mo te):=⟨po_some h.h⟩
theorem BB {r:V->Option Int->Option Int->Hp->VK->Prop} (hr:SlR X r) (he:QE X e te) (hl:QO X loq tl) (hu:QO X hiq th):QE X (.Subscript e (.Slice loq hiq none p2) pos) (tSl r te tl th):=⟨pe_slice (hr) he.h hl.h hu.h⟩
theorem Au {r:R2} (hr:IxR X r) (ha:QE X a ta) (hb:QE X b tb) (hs:JC b):QE X (.Subscript a b pos) (tOp r ta tb):=⟨pe_ix (hr) ha.h hb.h (hs)⟩
theorem qe_bm0 (pa:PlainAttrs T) (slot:Slot T nameq idq) (hty:typeOf (.builtin idq)=pure (.type "method_descriptor")) (hm:MtR X idq r) (ho:QE X o to) (hbase:attributeBase o nameq X.env (eval o X.env)=eval o X.env:=by rfl) (hline:(apos.endLine == cpos.line)=true:=by rfl):QE X (.Call (.Attribute o nameq apos) [] [] cpos) (tBM0 X.K T r to):=⟨pe_bm0 (pa) (slot) (hty) (hm) ho.h (hbase) (hline)⟩
theorem Df (pa:PlainAttrs T) (slot:Slot T nameq idq) (hty:typeOf (.builtin idq)=pure (.type "method_descriptor")) (hm:MtR X idq r) (ho:QE X o to) (ha:QA X (e::es) t) (hbase:attributeBase o nameq X.env (eval o X.env)=eval o X.env:=by rfl) (hfew:((backTo cpos (Qg (e::es) X.env)).all (λx=>!x.1) && (backToKw cpos (keywordEach [] X.env)).all (λx=>x.1.isSome)
   && decide ((e::es).length + ([]:List Keyword).length + (if ([]:List Keyword).isEmpty then 0 else 1) < 30))=true:=by rfl) (hline:(apos.endLine == cpos.line)=true:=by rfl) (hs:Qg (e::es) X.env=(false,eval e X.env)::Qg es X.env:=by rfl) (hplain:(backTo cpos (Qg es X.env)).any (·.1)=false:=by rfl):QE X (.Call (.Attribute o nameq apos) (e::es) [] cpos) (tBM X.K T r to t):=⟨pe_bm (pa) (slot) (hty) (hm) ho.h ha.h (hbase) (hfew) (hline) (hs) (hplain)⟩
theorem qv (i:Nat) {x:Str} {pos:Pos} (hN:X.N[i]?=some x:=by rfl) (hv:Vis X.env.scope x:=by first | exact Ro rfl | exact R8 (Ro rfl) | exact R8 (R8 rfl)) (hd:(x == ("__debug__":Str))=false:=by decide) (hcd:(x == ("__classdict__":Str))=false:=by decide):QE X (.Name x pos) (tVar i):=⟨pv (i) (hN) (hv) (hd) (hcd)⟩
theorem AQ {X:Cx}:QIf X [] tYes:=⟨pif_nil ⟩
theorem BQ {X:Cx} {c:Expr} {t:TT} (h:QT X c t):QIf X [c] t:=⟨pif_one h.h⟩
theorem Aj {X:Cx} {CX:CXT} {k:Nat} {x:Str} {ps:List Str} {sp:Sp} {E:XK} {p pos:Pos} {e:Expr} {es:List Expr} {t:TA} (h:Pm X.prog X.w X.K X.mg X.base CX k x ps sp) (hr:Room k X.A) (hg:Gl X x) (hx:Cd CX X E) (ha:QA X (e::es) t) (hdb:(x == ("__debug__":Str))=false:=by decide) (he:Qg (e::es) X.env=(false,eval e X.env)::Qg es X.env:=by rfl) (hpl:(backTo pos (Qg es X.env)).any (·.1)=false:=by rfl):QE X (.Call (.Name x p) (e::es) [] pos) (KL sp [] E t):=⟨pe_callP (h) (hr) (hg) (hx) ha.h (hdb) (he) (hpl)⟩
def Hs:Expr->Bool
 | .Starred ..=>false
 | _=>true
theorem Do {e:Expr} {es:List Expr} {env:Env} (h:Hs e=true):Qg (e::es) env=(false,eval e env)::Qg es env:=by
 cases e <;> first | rfl | cases h
theorem qac {X:Cx} {e:Expr} {es:List Expr} {te:TE} {t:TA} (ha:QE X e te) (hr:QA X es t) (hs:Hs e=true:=by rfl):QA X (e::es) (Jv te t):=⟨pa_cons ha.h hr.h (Do hs)⟩
theorem AH {X:Cx} {elt tg iter:Expr} {ifs:List Expr} {scope:Scope} {pos:Pos} {N:List Str} {src:List (Option Nat)} {wi:TI} {g:TG} {tc:TT} {te:TE} (hc:X.calm=true) (S:CompScope X scope N src) (hi:QI X tg iter wi)
  (hg:∀ s H cl C fp,QG (cxC X s H scope cl C N fp) tg g) (hf:∀ s H cl C fp,QIf (cxC X s H scope cl C N fp) ifs tc) (he:∀ s H cl C fp,QE (cxC X s H scope cl C N fp) elt te)
  (hs:∀ x,foldedSetIterable iter X.env x=pure x:=by intro _; rfl):QE X (.ListComp elt [⟨tg,iter,ifs,0⟩] scope pos) (Jl src wi g tc te):=
 ⟨pe_comp hc S hi.h (λs H cl C fp=>(hg s H cl C fp).h) (λs H cl C fp=>(hf s H cl C fp).h) (λs H cl C fp=>(he s H cl C fp).h) hs⟩
theorem Ce {X:Cx} {elt tg iter:Expr} {ifs:List Expr} {scope:Scope} {pos spos pos':Pos} {x:Str} {i:Nat} {N:List Str} {src:List (Option Nat)} {wi:TI} {g:TG} {tc:TT} {te:TE} (hc:X.calm=true) (S:CompScope X scope N src) (hi:QI X tg iter wi)
  (hg:∀ s H cl C fp,QG (cxC X s H scope cl C N fp) tg g) (hf:∀ s H cl C fp,QIf (cxC X s H scope cl C N fp) ifs tc) (he:∀ s H cl C fp,QE (cxC X s H scope cl C N fp) elt te) (ht:QG X (.Name x pos') (AR i))
  (hsw:swapsWith (.ListComp elt [⟨tg,iter,ifs,0⟩] scope pos) (some (.Name x pos')) spos.line X.env=pure true:=by rfl)
  (hs:∀ x,foldedSetIterable iter X.env x=pure x:=by intro _; rfl):QS X (.Assign [.Name x pos'] (.ListComp elt [⟨tg,iter,ifs,0⟩] scope pos) spos) (tAsg (Jl src wi g tc te) (AR i)):=
 ⟨ps_setComp hc S hi.h (λs H cl C fp=>(hg s H cl C fp).h) (λs H cl C fp=>(hf s H cl C fp).h) (λs H cl C fp=>(he s H cl C fp).h) ht.h hsw hs⟩
theorem Bh {X:Cx} {sts:List Stmt}:QSs X sts KU:=⟨pss_never⟩
section
variable {P:Qj} {w:Qk} {K:J4} {mg:Str->Option Qb} {base:Heap} {x qual:Str} {st:Stmt} {f:Addr} {fd:Qh} {N ps:List Str} {k:Nat} {sp:Sp}
theorem Fun.okQ (F:Fun K x qual st f fd) (S:FnScope N ps (Ae st)) (len:∀ vs H Q E,sp vs H Q E->vs.length=ps.length)
  (hbody:∀ (cdv:Qb) (A:Qm) (outer:List Env) (s:Qc) (H:Hp) (vs:List V) (Q:VK) (E:XK),Room k (A.deeper (envOfC qual (Ae st) s.heap.objs.size f cdv))->sp vs H Q E->
   ∃ t,QSs (cxOf CX0 P w K mg base N qual (Ae st) f cdv A outer s H E).nox (BH st) t/\t { nx:=λ_ H'=>Q .non H',rt:=Q } (start N vs) H):FnOk P w K mg base CX0 (k + 1) f fd ps sp:=
 F.ok S len λcdv A outer s H vs Q E hr h=>let ⟨t,a,b⟩:=hbody cdv A outer s H vs Q E hr h; ⟨t,a.h,b⟩
end
end L2
namespace L2
open PySem PySem.Spec PyProof.Rows
def Its (lo c:Int) (n:Nat):It:=⟨λi _=>i < n,λi H x H'=>H'=H/\x=.int (lo + (i:Nat) * c),λi _=>n<=i⟩
theorem turn_rangeS {P:Qj} {w:Qk} {K:J4} {tg:Expr} (it:Addr) (lo c:Int) (n:Nat):Turn P w K tg (Its lo c n) [it] it (λi h=>IsRangeIter h it (lo + (i:Nat) * c) ((n:Int) - (i:Nat)) c) where
 mem:=by simp
 obj:=λi h st b hb=>by
  have e:b=it:=by simpa using hb
  subst e
  exact ⟨_,st,λv z=>by
   have z':Data.fields _=Data.cell v:=z
   cases z'⟩
 keep:=λi h h' st k=>k it (by simp) _ st
 item:=by
  intro X hP hw hK hc i pins s σ H E I hf st hg
  subst hP hw hK
  obtain ⟨f0,f1,f2,f3,f4,f5⟩:=hf it (by simp)
  have W:=Walks.range (prog:=X.prog) (w:=X.w) (I.ok.hd hc) it lo c n
  refine W.item i s _ _ hg st λv h' tk hv st' kk=>?_
  obtain ⟨t,rfl⟩:=hv
  have I1:Inv X pins σ H { s with heap:=h',toks:=tk }:=I.turned (λb o hb e=>kk b o (by simpa using hb) e) f0 f1 f3 f4 f5
  exact ⟨_,rfl,Jq (s:={ s with heap:=h',toks:=tk }) (n:="range_iterator") st' rfl rfl (by decide) ⟨.int (lo + (i:Nat) * c),H,I1,⟨t,rfl⟩,⟨rfl,rfl⟩,st',λb hb=>(hf b hb).1⟩⟩
 done:=by
  intro X hP hw hK hc i pins s σ H E I hf st hg
  subst hP hw hK
  obtain ⟨f0,f1,f2,f3,f4,f5⟩:=hf it (by simp)
  exact Xc (I.ok.hd hc) st (by have:n<=i:=hg; omega) λh' eb=>⟨rfl,I.turned (t':=s.toks) (λb o hb e=>eb b o hb e) f0 f1 f3 f4 f5⟩
 self:=λ_ _ _ _ _ st h=>Xd st h
section
variable {X:Cx} {tg:Expr}
theorem range_itS {pins:List (Addr×Obj)} {σ:St} {H:Hp} {s:Qc} {R:It->Hp->Prop} {E:Qb->Qc->Prop} {lo hi c:Int} {n:Nat} {t u v:Tok} {tk:Nat} (I:Inv X pins σ H s) (hsm:Builtin.Range.small lo hi c=true) (hn:Builtin.Range.rangeSize lo hi c=(n:Int))
  (q:R (Its lo c n) H):Qf (model X.prog X.w) X.A (pyIter (.ref s.heap.objs.size)) (PIE X pins σ tg R) E { s with heap:=s.heap.push { cls:=.type "range",data:=.fields #[.int lo t,.int hi u,.int c v] },toks:=tk }:=by
 refine wpAny_pyIter_range (IsRange.new ..) hsm ?_
 have I1:Inv X pins σ H { s with heap:=s.heap.push { cls:=.type "range",data:=.fields #[.int lo t,.int hi u,.int c v] },toks:=tk }:=I.kept λb o e=>Heap.get?_push_of_some _ e
 refine ⟨(s.heap.push { cls:=.type "range",data:=.fields #[.int lo t,.int hi u,.int c v] }).objs.size,[(s.heap.push { cls:=.type "range",data:=.fields #[.int lo t,.int hi u,.int c v] }).objs.size],_,_,H,rfl,
  I1.kept (t':=tk) λb o e=>Heap.get?_push_of_some _ e,turn_rangeS _ lo c n,?_,λb hb=>?_,q⟩
 ·have e1:lo + ((0:Nat):Int) * c=lo:=by simp
  have e2:((n:Nat):Int) - ((0:Nat):Int)=Builtin.Range.rangeSize lo hi c:=by rw[hn]; simp
  show IsRangeIter _ _ (lo + ((0:Nat):Int) * c) (((n:Nat):Int) - ((0:Nat):Int)) c
  rw[e1,e2]
  exact Heap.get?_push_size _ rfl
 ·have e:b=(s.heap.push { cls:=.type "range",data:=.fields #[.int lo t,.int hi u,.int c v] }).objs.size:=by simpa using hb
  subst e
  exact I1.fpOk (J8 _) (I1.hok.fresh (J8 _))
def Mr (ta:TA):TI:=λσ H R=>ta σ H λvs H1=>∃ (i j k:Int) (n:Nat),vs=[.int i,.int j,.int k]/\k≠0/\k.natAbs < 1073741824/\Builtin.Range.small i j k=true/\Builtin.Range.rangeSize i j k=(n:Int)/\R (Its i k n) H1
theorem pi_range3 {a b c:Expr} {ta:TA} {p pos:Pos} (hg:Gl X "range") (hm:X.mg "range"=none) (ha:PA X [a,b,c] ta) (hs:Qg [a,b,c] X.env=[(false,eval a X.env),(false,eval b X.env),(false,eval c X.env)]:=by rfl) (hs2:Qg [b,c] X.env=[(false,eval b X.env),(false,eval c X.env)]:=by rfl) :
  PI X tg (.Call (.Name "range" p) [a,b,c] [] pos) (Mr ta):=by
 intro pins s σ H R I h
 refine Call_ (BU I hg hm boot_range (RK (thn (ha pos pins s σ H _ I h) λus s1 ⟨vs,H1,I1,r1,q1⟩=>?_) (by rw[hs,hs2]) (by rw[hs2]; rfl)))
 obtain ⟨i,j,k,n,e,k0,kb,q1,q2,q⟩:=q1
 subst e
 cases r1 with
 | cons r rr=>
  cases rr with
  | cons r' rr=>
   cases rr with
   | cons r'' rr=>
    cases rr
    obtain ⟨t,rfl⟩:=r
    obtain ⟨t',rfl⟩:=r'
    obtain ⟨t'',rfl⟩:=r''
    exact call_range_3 k0 (range_itS I1 q1 q2 q) (.inl (Zm kb))
theorem GE {a b c:Expr} {ta:TA} {p pos:Pos} (hg:Gl X "range") (hm:X.mg "range"=none) (ha:QA X [a,b,c] ta) (hs:Qg [a,b,c] X.env=[(false,eval a X.env),(false,eval b X.env),(false,eval c X.env)]:=by rfl) (hs2:Qg [b,c] X.env=[(false,eval b X.env),(false,eval c X.env)]:=by rfl) :
  QI X tg (.Call (.Name "range" p) [a,b,c] [] pos) (Mr ta):=⟨pi_range3 hg hm ha.h hs hs2⟩
end
theorem AX {lo:Int} {n:Nat} {g:TG} {tc:TT} {te:TE} {σ':St} {H:Hp} {G:Addr->Hp->List V->Prop} (Pv:Nat->List V->Hp->Prop) (h0:Pv 0 [] H)
  (hs:∀ i ys H (N:List V->Hp->Prop),i < n->Pv i ys H->(∀ ys' H',Pv (i + 1) ys' H'->N ys' H')->g (.int (lo + i)) σ' H λσ2 H4=>Weak σ' σ2/\tc σ2 H4 λb H5=>if b=true then te σ2 H5 λy H6=>ys.length < Qe/\N (ys++[y]) H6 else N ys H5)
  (hd:∀ ys H,Pv n ys H->ys.length<=Qe/\∀ p,H p=none->G p H ys) :
  ∃ W:Nat->Nat->List V->Hp->Prop,(∃ m,W 0 m [] H)/\∀ i m ys H2,W i m ys H2->
   ((Itr lo n).stop i H2/\ys.length<=Qe/\∀ p,H2 p=none->G p H2 ys)\/
   ((Itr lo n).go i H2/\∀ x H3,(Itr lo n).yld i H2 x H3->g x σ' H3 λσ2 H4=>Weak σ' σ2/\tc σ2 H4 λb H5=>
    if b=true then te σ2 H5 λy H6=>ys.length < Qe/\∃ m',m' < m/\W (i + 1) m' (ys++[y]) H6 else ∃ m',m' < m/\W (i + 1) m' ys H5):=by
 refine ⟨λi m ys H=>m=n - i/\i<=n/\Pv i ys H,⟨n,rfl,RP _,h0⟩,?_⟩
 rintro i m ys H2 ⟨rfl,hi,p⟩
 by_cases hlt:i < n
 ·refine .inr ⟨hlt,λx H' y=>?_⟩
  obtain ⟨e,rfl⟩:=y
  subst e
  exact hs i ys _ (λys' H''=>∃ m',m' < n - i/\m'=n - (i + 1)/\i + 1<=n/\Pv (i + 1) ys' H'') hlt p (λys' H'' p'=>⟨_,by omega,rfl,hlt,p'⟩)
 ·have e:i=n:=by omega
  subst e
  exact .inl ⟨J8 _,hd ys H2 p⟩
end L2
namespace EM
def IsPr (p:Nat):Prop:=2<=p/\∀ d,d ∣ p->d=1\/d=p
theorem IsPr.dvd_pr {p q:Nat} (hp:IsPr p) (hq:IsPr q) (h:p ∣ q):p=q:=by
 rcases hq.2 p h with h | h
 ·have:=hp.1; omega
 ·exact h
theorem pr_of_least {p n:Nat} (h2:2<=p) (hd:p ∣ n) (hl:∀ d,2<=d->d < p->¬ d ∣ n) (_:1<=n):IsPr p:=by
 refine ⟨h2,λd hdp=>?_⟩
 have hle:=ZA (by omega) hdp
 rcases UL d 2 with h | h
 ·have:d≠0:=λz=>by
   subst z
   have:=Nat.eq_zero_of_zero_dvd hdp
   omega
  exact .inl (by omega)
 ·rcases UL d p with h' | h'
  ·exact absurd (YD hdp hd) (hl d h h')
  ·exact .inr (by omega)
theorem pr_of_end {p n:Nat} (hn:2<=n) (hl:∀ d,2<=d->d < p->¬ d ∣ n) (hp:n < p * p):IsPr n:=by
 refine ⟨hn,λd hd=>?_⟩
 have hle:=ZA (by omega) hd
 obtain ⟨c,rfl⟩:=hd
 have d0:d≠0:=λz=>by subst z; simp at hn
 have c0:c≠0:=λz=>by subst z; simp at hn
 by_cases hd1:d=1
 ·exact .inl hd1
 by_cases hc1:c=1
 ·exact .inr (by rw[hc1,WJ])
 exfalso
 have h1:p<=d:=Wu λz=>hl d (by omega) z ⟨c,rfl⟩
 have h2:p<=c:=Wu λz=>hl c (by omega) z ⟨d,R4 d c⟩
 have:=R6 h1 h2
 omega
def Cr:List (Nat×Nat)->Nat
 | []=>1
 | x::r=>x.1 ^ x.2 * Cr r
theorem CH:∀ (a b:List (Nat×Nat)),Cr (a++b)=Cr a * Cr b
 | [],b=>by simp[Cr]
 | x::r,b=>by simp only[Ws,Cr,CH r b,Yd]
structure Fac (n:Nat) (L:List (Nat×Nat)):Prop where
 pr:∀ x∈L,IsPr x.1/\1<=x.2
 asc:L.Pairwise λx y=>x.1 < y.1
 prod:Cr L=n
structure FacTo (n p left:Nat) (L:List (Nat×Nat)):Prop where
 pr:∀ x∈L,IsPr x.1/\1<=x.2/\x.1 < p
 asc:L.Pairwise λx y=>x.1 < y.1
 prod:Cr L * left=n
 two:2<=p
 pos:1<=left
 no:∀ d,2<=d->d < p->¬ d ∣ left
theorem FacTo.start {n:Nat} (h:1<=n):FacTo n 2 n []:=⟨nofun,.nil,by simp[Cr],by omega,h,λd h1 h2=>by omega⟩
theorem Is {L:List (Nat×Nat)} {x:Nat×Nat} (h:L.Pairwise λx y=>x.1 < y.1) (hx:∀ y∈L,y.1 < x.1):(L++[x]).Pairwise λx y=>x.1 < y.1:=
 Ys.mpr ⟨h,Zu _ _,λa ha b hb=>by rw[Rh.mp hb]; exact hx a ha⟩
theorem FacTo.some {n p left left0 often:Nat} {L:List (Nat×Nat)} (F:FacTo n p left0 L) (e:left0=left * p ^ often) (ho:1<=often) (hnd:¬ p ∣ left):FacTo n (p + 1) left (L++[(p,often)]):=by
 have hpos:1<=left:=by
  rcases U8 left with h | h
  ·subst h; have:=F.pos; simp at e; omega
  ·exact h
 have hpd:p ∣ left0:=by
  rw[e]
  obtain ⟨k,rfl⟩:∃ k,often=k + 1:=⟨often - 1,by omega⟩
  rw[RV,<- Yd]
  exact YX _ _
 refine ⟨λx hx=>?_,Is F.asc λy hy=>(F.pr y hy).2.2,?_,by have:=F.two; omega,hpos,λd h2 hlt hd=>?_⟩
 ·rcases RU.mp hx with h | h
  ·obtain ⟨a,b,c⟩:=F.pr x h
   exact ⟨a,b,by omega⟩
  ·rw[Rh.mp h]
   exact ⟨pr_of_least F.two hpd F.no F.pos,ho,by show p < p + 1; omega⟩
 ·rw[CH,<- F.prod,e]
  show Cr L * (p ^ often * 1) * left=_
  rw[WJ,Yd,R4 (p ^ often) left]
 ·rcases UL d p with h | h
  ·exact F.no d h2 h (e▸YD hd (Jb2 _ _))
  ·have:d=p:=by omega
   subst this; exact hnd hd
theorem FacTo.none {n p left:Nat} {L:List (Nat×Nat)} (F:FacTo n p left L) (hnd:¬ p ∣ left):FacTo n (p + 1) left L:=
 ⟨λx hx=>let ⟨a,b,c⟩:=F.pr x hx; ⟨a,b,by omega⟩,F.asc,F.prod,by have:=F.two; omega,F.pos,λd h2 hlt hd=>by
  rcases UL d p with h | h
  ·exact F.no d h2 h hd
  ·have:d=p:=by omega
   subst this; exact hnd hd⟩
theorem FacTo.last {n p left:Nat} {L:List (Nat×Nat)} (F:FacTo n p left L) (hp:left < p * p) (h1:1 < left):Fac n (L++[(left,1)]):=by
 have hpl:p<=left:=Wu λz=>F.no left h1 z (Nat.dvd_refl _)
 refine ⟨λx hx=>?_,Is F.asc λy hy=>Rb (F.pr y hy).2.2 hpl,?_⟩
 ·rcases RU.mp hx with h | h
  ·obtain ⟨a,b,_⟩:=F.pr x h
   exact ⟨a,b⟩
  ·rw[Rh.mp h]
   exact ⟨pr_of_end h1 F.no hp,J8 1⟩
 ·rw[CH,<- F.prod]
  show Cr L * (left ^ 1 * 1)=_
  rw[Z0,WJ]
theorem FacTo.done {n p left:Nat} {L:List (Nat×Nat)} (F:FacTo n p left L) (h1:¬ 1 < left):Fac n L:=by
 refine ⟨λx hx=>let ⟨a,b,_⟩:=F.pr x hx; ⟨a,b⟩,F.asc,?_⟩
 have:=F.pos
 have e:left=1:=by omega
 rw[<- F.prod,e,WJ]
theorem EA:∀ {L:List (Nat×Nat)},(∀ x∈L,IsPr x.1/\1<=x.2)->1<=Cr L
 | [],_=>J8 1
 | x::r,h=>by
  have h1:=(h x (Rj ..)).1.1
  have h2:=EA λy hy=>h y (Re _ hy)
  exact Z5 (Yc (by omega)) h2
theorem JG:∀ {L:List (Nat×Nat)} {x:Nat×Nat},x∈L->x.1 ^ x.2 ∣ Cr L
 | y::r,x,h=>by
  rcases Rg.mp h with h | h
  ·subst h; exact Jb2 _ _
  ·exact YD (JG h) (YX _ _)
theorem JH:∀ {L:List (Nat×Nat)},(∀ x∈L,IsPr x.1/\1<=x.2)->2 ^ L.length<=Cr L
 | [],_=>J8 1
 | x::r,h=>by
  have h1:=(h x (Rj ..)).1.1
  have h3:=(h x (Rj ..)).2
  have h2:=JH λy hy=>h y (Re _ hy)
  have h4:=Nat.le_self_pow (n:=x.2) (by omega) x.1
  rw[Rq,RV,R4]
  exact R6 (J6 h1 h4) h2
theorem FacTo.short {n p left:Nat} {L:List (Nat×Nat)} (F:FacTo n p left L) (hn:n < 2 ^ 60):L.length < 60:=by
 have h1:=JH λx hx=>let ⟨a,b,_⟩:=F.pr x hx; ⟨a,b⟩
 have h2:Cr L<=n:=F.prod▸Yf _ F.pos
 refine YW λz=>?_
 have:=Uq (n:=2) (by decide) z
 omega
theorem FacTo.le {n p left:Nat} {L:List (Nat×Nat)} (F:FacTo n p left L):left<=n:=by
 have h2:=EA λx hx=>let ⟨a,b,_⟩:=F.pr x hx; ⟨a,b⟩
 exact F.prod▸Nat.le_mul_of_pos_left _ h2
theorem root_lt {p n:Nat} (h:p * p<=n) (hn:n < 2 ^ 60):p < 2 ^ 30:=by
 refine YW λz=>?_
 have:=R6 z z
 omega
theorem two_le_self {p n:Nat} (h2:2<=p) (h:p * p<=n):2 * p<=n:=J6 (R9 p h2) h
theorem newton {n r:Nat} (hr:1<=r):n < ((r + n / r) / 2 + 1) * ((r + n / r) / 2 + 1):=by
 generalize hq:n / r=q
 have h1:n < r * (q + 1):=by
  have:=Nat.lt_mul_div_succ n (show 0 < r by omega)
  rw[hq]at this
  exact this
 generalize hm:(r + q) / 2=m
 have h2:r + q + 1<=2 * (m + 1):=by omega
 have h3:4 * (r * (q + 1))<=(r + q + 1) * (r + q + 1):=by
  rcases Jh0 r (q + 1) with h | h
  ·obtain ⟨d,hd⟩:=ZB h
   rw[show r + q + 1=r + (q + 1) by omega,hd]
   have:(r + (r + d)) * (r + (r + d))=4 * (r * (r + d)) + d * d:=by
    simp only[Ye,UP]
    have:d * r=r * d:=R4 d r
    omega
   omega
  ·obtain ⟨d,hd⟩:=ZB h
   rw[show r + q + 1=r + (q + 1) by omega,hd]
   generalize q + 1=u
   have:(u + d + u) * (u + d + u)=4 * ((u + d) * u) + d * d:=by
    simp only[Ye,UP]
    have:d * u=u * d:=R4 d u
    omega
   omega
 have h4:=R6 h2 h2
 have h5:2 * (m + 1) * (2 * (m + 1))=4 * ((m + 1) * (m + 1)):=Nat.mul_mul_mul_comm 2 (m + 1) 2 (m + 1)
 omega
theorem newton_less {n r:Nat} (h:n < r * r):(r + n / r) / 2 < r:=by
 have h1:n / r < r:=by
  rcases U8 r with z | z
  ·subst z; simp at h
  ·exact (Yo z).mpr h
 omega
theorem Fac.of_pr {p:Nat} {L:List (Nat×Nat)} (F:Fac p L) (hp:IsPr p):L=[(p,1)]:=by
 have h2:=hp.1
 match L,F with
 | [],F=>
  have e:=F.prod
  simp only[Cr]at e
  omega
 | x::r,F=>
  obtain ⟨q1,q2⟩:=F.pr x (Rj ..)
  have hd:=JG (Rj (a:=x) (l:=r))
  rw[F.prod]at hd
  have hx:x.1 ∣ p:=by
   obtain ⟨k,hk⟩:∃ k,x.2=k + 1:=⟨x.2 - 1,by omega⟩
   rw[hk,RV]at hd
   exact YD (YX _ _) hd
  have hxp:x.1=p:=q1.dvd_pr hp hx
  have hrp:=EA λy hy=>F.pr y (Re _ hy)
  have e:=F.prod
  simp only[Cr,hxp]at e
  have h1:p ^ x.2<=p:=by
   have:=Yf (p ^ x.2) hrp
   omega
  have hx2:x.2=1:=by
   rcases UL x.2 2 with z | z
   ·omega
   ·have h3:=Uq (n:=p) (by omega) z
    have h4:=R9 p h2
    rw[Nat.pow_two]at h3
    omega
  rw[hx2,Z0]at e
  have hr1:Cr r=1:=by
   have h5:p * Cr r=p * 1:=by omega
   exact Nat.eq_of_mul_eq_mul_left (by omega) h5
  have hr:r=[]:=by
   match r,F,hr1 with
   | [],_,_=>rfl
   | y::r',F,hr1=>
    have h6:=JH λz hz=>F.pr z (Re _ hz)
    rw[hr1,Rq,RV]at h6
    have:=Yc (n:=r'.length) (show 0 < 2 by decide)
    omega
  rw[hr]
  have:x=(p,1):=by
   rw[<- hxp,<- hx2]
  rw[this]
theorem Fac.pr_of {p:Nat} (F:Fac p [(p,1)]):IsPr p:=(F.pr _ (Rj ..)).1
end EM
namespace EM
end EM
namespace E1
open PySem L2
inductive WholeIs (K:J4) (H:Hp):V->Bool->Prop where
 | int (i:Int):WholeIs K H (.int i) true
 | bl (x:Bool):WholeIs K H (.bl x) false
 | odd {v:V} {T:String} (ty:TyOf K H v (.type T)) (k:UH K (.type T) (.type "int")=some false):WholeIs K H v false
section
variable (K:J4)
theorem kit_int_int:UH K (.type "int") (.type "int")=some true:=by kernel_rfl
theorem kit_int_bool:UH K (.type "int") (.type "bool")=some false:=by kernel_rfl
theorem kit_bool_int:UH K (.type "bool") (.type "int")=some true:=by kernel_rfl
theorem kit_bool_bool:UH K (.type "bool") (.type "bool")=some true:=by kernel_rfl
end
theorem EB {n:String} {K:J4} {t:Qb} {b:Bool} (h:UH K t (.type n)=some b):∀ u,RelV (.ty n) u->UH K t u=some b:=λu r=>by
 cases (show u=Value.type n from r)
 exact h
def DJ (K:J4):Sp:=λvs H Q _=>∃ v b,vs=[v]/\WholeIs K H v b/\Q (.bl b) H
theorem Ac {q:Addr} {H:Hp} {o:HO} (n:H q=none):Same H (upd H q o):=λb u h=>by rw[As (AO h n)]; exact h
theorem Ld (i:Int):0<=(if i < 0 then -i else i):=by split <;> omega
theorem cut_ints {ns:List Int} {lo hi:Option Int}:∀ x∈cutV (ns.map V.int) lo hi,∃ z,x=V.int z:=λx hx=>by
 unfold cutV at hx
 obtain ⟨z,_,e⟩:=RB.mp (Wi (WR hx))
 exact ⟨z,e.symm⟩
def TupsAt (H:Hp):List V->List (Nat×Nat)->Prop
 | [],[]=>True
 | v::vs,x::xs=>(∃ t,v=.ref t/\H t=some (.tup [.int (x.1:Nat),.int (x.2:Nat)]))/\TupsAt H vs xs
 | _,_=>False
theorem TupsAt.imp {H H':Hp} (h:∀ t xs,H t=some (.tup xs)->H' t=some (.tup xs)):∀ {ws:List V} {L:List (Nat×Nat)},TupsAt H ws L->TupsAt H' ws L
 | [],[],_=>trivial
 | v::vs,x::xs,⟨⟨t,e,q⟩,r⟩=>⟨⟨t,e,h _ _ q⟩,r.imp h⟩
theorem TupsAt.same {H H':Hp} (s:Same H H') {ws:List V} {L:List (Nat×Nat)} (h:TupsAt H ws L):TupsAt H' ws L:=h.imp λt xs q=>s _ _ q
theorem TupsAt.upd {H:Hp} {l:Addr} {o:HO} {ys:List V} (hl:H l=some (.lst ys)) {ws:List V} {L:List (Nat×Nat)} (h:TupsAt H ws L):TupsAt (upd H l o) ws L:=
 h.imp λt xs q=>by rw[As (Mb q hl (by intro z; cases z))]; exact q
theorem TupsAt.snoc {H:Hp} {t:Addr} {x:Nat×Nat} (e:H t=some (.tup [.int (x.1:Nat),.int (x.2:Nat)])):∀ {ws:List V} {L:List (Nat×Nat)},TupsAt H ws L->TupsAt H (ws++[.ref t]) (L++[x])
 | [],[],_=>⟨⟨t,rfl,e⟩,trivial⟩
 | v::vs,y::ys,⟨a,r⟩=>⟨a,r.snoc e⟩
theorem TupsAt.len {H:Hp}:∀ {ws:List V} {L:List (Nat×Nat)},TupsAt H ws L->ws.length=L.length
 | [],[],_=>rfl
 | v::vs,y::ys,⟨_,r⟩=>by rw[Rq,Rq,r.len]
theorem AG {H H':Hp} {l:Addr} {o:HO} (s:Same H H') (hl:H l=none):Same H (upd H' l o):=λb u e=>by
 rw[As (AO e hl)]
 exact s _ _ e
def ptup (x:Nat×Nat):Q0:=.tuple [.int (x.1:Nat),.int (x.2:Nat)]
theorem FH {K:J4} {H:Hp}:∀ {ws:List V} {L:List (Nat×Nat)},TupsAt H ws L->IsDs K H (L.map ptup) ws
 | [],[],_=>by simp only[Uf,IsDs]
 | v::vs,x::xs,⟨⟨t,e,q⟩,r⟩=>by
  simp only[Rt,IsDs]
  refine ⟨v,vs,rfl,?_,FH r⟩
  simp only[ptup,IsD]
  exact ⟨t,_,e,SqT.of q,by simp[IsDs,IsD]⟩
theorem GG:∀ (L M:List (Nat×Nat)),PyData.eqvAll (L.map ptup) (M.map ptup)=decide (L=M)
 | [],[]=>by simp[PyData.eqvAll]
 | [],m::M=>by simp[PyData.eqvAll]
 | x::L,[]=>by simp[PyData.eqvAll]
 | (a,b)::L,(c,d)::M=>by
  have h1:((a:Int) == (c:Int))=decide (a=c):=by
   rw[Wb]; simp; omega
  have h2:((b:Int) == (d:Int))=decide (b=d):=by
   rw[Wb]; simp; omega
  simp only[Rt,PyData.eqvAll,ptup,PyData.eqv,GG L M,h1,h2,Bool.and_true]
  rw[Wb]
  simp[and_assoc]
theorem GH:∀ L:List (Nat×Nat),PyData.canLayAll0 (L.map ptup)=true
 | []=>by simp[PyData.canLayAll0]
 | x::L=>by simp[PyData.canLayAll0,ptup,PyData.canLay0,GH L]
theorem EC:∀ L:List (Nat×Nat),PyData.depthAll (L.map ptup)<=1
 | []=>by simp[PyData.depthAll]
 | x::L=>by
  have:=EC L
  simp[PyData.depthAll,ptup,PyData.depth]
  omega
theorem DW (L:List (Nat×Nat)):R7 (.list (L.map ptup))=true:=by
 unfold R7
 rw[RL]
 refine ⟨by simp only[PyData.canLay0]; exact GH L,decide_eq_true ?_⟩
 have:=EC L
 simp only[PyData.depth]
 omega
def ED:Sp:=λvs H Q _=>∃ i:Int,vs=[.int i]/\i < 2 ^ 60/\∀ (b:Bool) (H':Hp),Same H H'->(b=true↔∃ p:Nat,i=(p:Int)/\EM.IsPr p)->Q (.bl b) H'
theorem kit_tup_tup (K:J4):UH K (.type "tuple") (.type "tuple")=some true:=by kernel_rfl
theorem AL {K:J4} {x:Str} {st:Stmt} {f:Addr} {oc:Qb} {od an:Option Addr} {osl:Array (Option Qb)} {kV doc pm cdv ct:Qb}
  (a:Ru K Qi x=some (some (.ref f)))
  (l:K.lookup f=some ⟨oc,od,.func (UI x x (Ca st) (BH st) (Ae st) .none kV doc pm an cdv ct),osl⟩)
  (c:UR K cdv x=true) (k:Ud K (.ref f)=true) :
  ∃ (f:Addr) (fd:Qh),Ru K Qi x=some (some (.ref f))/\Fun K x x st f fd:=⟨f,_,a,Fs l c k⟩
def KN (K:J4):Sp:=λvs H Q _=>∃ (a:Addr) (ns:List Int),vs=[.ref a]/\SqL K H a (ns.map V.int)/\ns.length<=63/\∀ H',Q (.bl true) H'
theorem walk {l:YL} {q:Qj} {loose:List Str} {XP:(Str->Option Qb)->Heap->Prop} {YP:Qk->Heap->Prop} {d:DefRec} {K:Params->J4} {k:Nat} (hr:Room k PySem.callerA) (hn:l.most=some 63) (hdf:d.params.defaults=[])
  (hY:∀ (w:Qk) (h:Heap),YP w h->(K w.params).In h)
  (F:∀ (w:Qk) (mg:Str->Option Qb) (fa:Addr) (h:Heap),(K w.params).In h->h.Ns Qi mg->mg d.name=some (.ref fa)->
   ∃ fd:Qh,(∀ (s:Qc) (u:Qb),BindsTo s fd ⟨[u],[]⟩ [("_law_script",u)])/\∀ base:Heap,(K w.params).In base->base.Ns Qi mg->FnOk l.prog w (K w.params) mg base CX0 k fa fd ["_law_script"] (KN (K w.params))) :
  Ja8 q loose XP YP l.row.toRowW d [] (λf vs=>ZY f vs):=
 L2.walk_of (n:=63) (k:=k) (x:="_law_script") (CX:=λ_=>CX0) (sp:=λw=>KN (K w.params)) hn (by decide) hdf hr hY F (λ_ _ a ns hl _ hS=>⟨a,ns,rfl,hS,hl,λ_=>rfl⟩) λ_ _ _ _ _ z=>z
abbrev At (K:J4) (x:Str) (st:Stmt):Prop:=∃ (f:Addr) (fd:Qh),Ru K Qi x=some (some (.ref f))/\Fun K x x st f fd
end E1
namespace L2
open PySem PySem.Spec PyProof.Rows
theorem DX {ns:List Int} {us:List Qb} (r:Vals (ns.map V.int) us):IntsAre us ns:=intsAre_of r
theorem DY:∀ {ns:List Int} {us:List Qb},IntsAre us ns->Vals (ns.map V.int) us
 | _,_,.nil=>.nil
 | _,_,.cons n tk t=>.cons ⟨tk,rfl⟩ (DY t)
def Le (K:J4):List V->Hp->VK->Prop:=λxs H Q=>∃ (a:Addr) (ns:List Int),xs=[.ref a]/\SqL K H a (ns.map V.int)/\ns.length < 64/\∀ (l:Addr) (ns':List Int),H l=none->ns'.Perm ns->ns'.Pairwise (·<=·)->Q (.ref l) (upd H l (.lst (ns'.map V.int)))
theorem call_sortI {X:Cx}:Bx X (.builtin "sorted") (Le X.K):=by
 intro pins s σ H xs us Q I r h
 obtain ⟨a,ns,rfl,hq,h64,q⟩:=h
 obtain ⟨u,rfl,rx⟩:=CB r
 cases rx
 obtain ⟨its,r',pl,hz⟩:=I.list hq
 have hlen:=r'.length
 rw[J0]at hlen
 refine sorted_ints pl.isList (DX r') (by omega) λout ns' a1 a2 a3=>?_
 obtain ⟨e,he⟩:=sortedAll_at s.heap its out
 have hl2:=a2.length_eq
 refine ⟨.ref (s.heap.objs.size + 1),_,I.laid (t':=s.toks) (o:=.lst (ns'.map V.int)) (λb o=>sortedAll_old) (Uv _) ?_,rfl,q _ _ (I.hok.fresh (Uv _)) a2 a3⟩
 refine ⟨by rw[J0,hl2]; exact J6 (WO h64) (by decide),out.toList,e,DY a1,?_⟩
 rw[Array.toArray_toList]
 exact he
theorem call_len_setI {X:Cx}:Bx X (.builtin "len") (λxs H Q=>∃ (p:Addr) (S:Int->Bool) (n:Nat),xs=[.ref p]/\H p=some (.set S n)/\Q (.int n) H):=by
 intro pins s σ H xs us Q I r h
 obtain ⟨p,S,n,rfl,hp,q⟩:=h
 obtain ⟨u,rfl,rx⟩:=CB r
 cases rx
 obtain ⟨o,es,ep,t,ho,hex,hd,_,_,hb,hf,rfl⟩:=(show s.heap.SetOf (intKind X.prog X.w) p S n from I.hok p _ hp)
 refine call_len_set ho hex hd hf ?_ ⟨.int es.size,H,I.tok _,⟨_,rfl⟩,q⟩
 have:es.size < 4096:=hb
 omega
def rMulL (K:J4):R2:=λx y H Q=>∃ (a:Addr) (xs:List V) (n:Int),x=.ref a/\y=.int n/\SqL K H a xs/\n < 2 ^ 63/\0<=n/\xs.length * n.toNat<=65536/\∀ l,H l=none->Q (.ref l) (upd H l (.lst (RQ n.toNat xs).flatten))
theorem GI {xs:List V} {us:List Qb} (r:Vals xs us):∀ n,Vals (RQ n xs).flatten (RQ n us).flatten
 | 0=>.nil
 | n + 1=>by
  rw[WV,WV,U0,U0]
  exact r.append (GI r n)
theorem FI {X:Cx}:OpR X (binaryOp .Mult) (rMulL X.K):=by
 intro pins s σ H x y v u Q I rx ry h
 obtain ⟨a,xs,n,rfl,rfl,hx,hn,h0,hsz,q⟩:=h
 cases rx
 obtain ⟨tk,rfl⟩:=ry
 obtain ⟨its,r,pl,hz⟩:=I.list hx
 have hlen:=r.length
 obtain ⟨⟨oc,od,odt,osl⟩,k,hl,e1,e2,e3⟩:=pl
 dsimp only at e1 e2 e3
 subst e1 e2 e3
 refine wpAny_binaryOp_repeat_ref (T:="list") (U:="int") (by decide) ⟨_,hl,rfl⟩ (λs'=>typeIs_int s' n tk) noFill_list_mul F.fills_int_mul F.slot_int_rmul repeat_list F.slot_int_index.lookup
  (call_meets F.slot_int_rmul (typeIs_int s n tk) F.entry_int_rmul (F.args_int_rmul_2 _ _) (lm_int_rmul_list_any n tk a its.toArray k _ _)
   ⟨hl,rfl,⟨_,hl,rfl⟩,call_meets F.slot_list_mul ⟨_,hl,rfl⟩ F.entry_list_mul (F.args_list_mul_2 _ _)
    (lm_list_mul_any a its.toArray k _ _ n tk (by simp[Builtin.List.listFitsIndex]; omega) (by rw[Ri,<- hlen]; omega) (by rw[Ri,<- hlen]; simp[Builtin.List.listTooLong,Qe]; omega))
    ⟨hl,?_⟩⟩)
 rw[listMul_foldl_if,List.toList_toArray]
 refine ⟨.ref s.heap.objs.size,_,I.laid (t':=s.toks) (o:=.lst (RQ n.toNat xs).flatten) (λb ob q=>Heap.get?_push_of_some _ q) (J8 _) ?_,rfl,q _ (I.hok.fresh (J8 _))⟩
 refine ⟨?_,(RQ n.toNat its).flatten,0,GI r _,Heap.get?_push_size _ rfl⟩
 rw[List.length_flatten,List.map_replicate,List.sum_replicate_nat,R4]
 exact J6 hsz (by decide)
theorem Inv.turnedL {X:Cx} {pins:List (Addr×Obj)} {σ:St} {H:Hp} {s:Qc} {h':Heap} {t':Nat} {wr:List Addr} (I:Inv X pins σ H s) (k:∀ b o,b∉wr->s.heap.get? b=some o->h'.get? b=some o) (hf:∀ b∈wr,FpOk X pins H b):Inv X pins σ H { s with heap:=h',toks:=t' }:=by
 have nit:∀ b u,H b=some u->b∉wr:=λb u e z=>by rw[(hf b z).1]at e; cases e
 refine I.step (g':=s.gens) (d':=s.drawn) (ch:=wr) (λb hb=>?_) (λb o _ _ hc e _=>k b o hc e) (λb o _ _ hc e _=>⟨o.slots,k b o hc e⟩) (λ_ _ _ _ n=>n) (λb o hc e=>⟨o,k b o hc e⟩) (λ_ _ e=>e) (λ_ _ _ e=>e) (λb ps e=>⟨#[],by rw[e]; simp⟩) (λm hm=>?_) (λb u e=>?_) I.bare
 ·obtain ⟨_,f1,_,f3,f4,f5⟩:=hf b hb
  exact ⟨f3,f1,f4,f5⟩
 ·obtain ⟨o,es,ep,ho,r⟩:=hm
  exact ⟨o,es,ep,k _ o (λz=>(hf _ z).2.1 rfl) ho,r⟩
 ·refine (I.hok b u e).stay (λc v hc q=>k c v ?_ q) (λ_ q=>q) λ_ _ q=>q
  rcases hc with z | z
  ·exact z▸nit b u e
  ·exact nit c _ z
def Ite (K:J4) (a:Addr):It:=
 ⟨λi H=>∃ xs x,SqL K H a xs/\xs[i]?=some x,λi H v H'=>∃ T x,(∀ xs,SqL K H a xs->xs[i]?=some x)/\H T=none/\v=.ref T/\H'=upd H T (.tup [.int (i:Nat),x]),λi H=>∃ xs,SqL K H a xs/\xs.length<=i⟩
theorem Inv.tracked {X:Cx} {pins:List (Addr×Obj)} {σ:St} {H:Hp} {s s':Qc} {T:Addr} {o:HO} (I0:Inv X pins σ H s) (I:Inv X pins σ H s') (hT:s.heap.objs.size<=T) (new:ObjOk X.prog X.w (upd H T o) s'.heap T o):Inv X pins σ (upd H T o) s':=by
 obtain ⟨f0,f1,f2,f3,f4,f5⟩:=I0.fpOk (H':=H) hT (I0.hok.fresh hT)
 refine I.track f0 ?_ f1 f4 f5 new
 cases e:X.s₀.heap.get? T with
 | none=>rfl
 | some ob=>exact absurd (Rb (Heap.lt_size e) (J6 I0.sz hT)) (Ry _)
theorem turn_enum {P:Qj} {w:Qk} {K:J4} {elts:List Expr} {k:Nat} {tp:Pos} (l e it:Addr) (hei:e≠it):Turn P w K (.Tuple elts k tp) (Ite K l) [e,it] e (λi h=>(∃ old,IsEnum h e it ((i:Nat):Int) old)/\h.IsListIter it l i) where
 mem:=by simp
 obj:=λi h st b hb=>by
  obtain ⟨⟨old,he⟩,o,ho,hc,hd⟩:=st
  simp only[Rg,Rv,or_false]at hb
  rcases hb with rfl | rfl
  ·exact ⟨_,he,λv z=>by cases z⟩
  ·exact ⟨o,ho,λv z=>by rw[hd]at z; cases z⟩
 keep:=λi h h' st kp=>⟨⟨_,kp e (by simp) _ st.1.choose_spec⟩,st.2.at λo q=>kp it (by simp) o q⟩
 item:=by
  intro X hP hw hK hc i pins s σ H E I hf st hg
  subst hP hw hK
  obtain ⟨xs,x,hq,hx⟩:=hg
  obtain ⟨its,rv,p,hz⟩:=I.list hq
  obtain ⟨u,hu,ru⟩:=rv.get hx
  obtain ⟨⟨old,he⟩,hit⟩:=st
  have hlt:∀ b∈[e,it],b≠s.heap.objs.size:=λb hb z=>by
   simp only[Rg,Rv,or_false]at hb
   rcases hb with rfl | rfl
   ·exact absurd (z▸Heap.lt_size he) (Ry _)
   ·obtain ⟨_,ho,_⟩:=hit
    exact absurd (z▸Heap.lt_size ho) (Ry _)
  have fr:H s.heap.objs.size=none:=I.hok.fresh (J8 _)
  refine wpAny_pyNext_enum_item he hit p.isList (x:=u) (by simpa using hu) hei λh' ho hit' hT hsz hk=>?_
  have I1:Inv X pins σ H { s with heap:=h',toks:=s.toks + 1 }:=I.turnedL (wr:=[e,it]) (λb o hb q=>hk b o (λz=>hb (by simp[z])) (λz=>hb (by simp[z])) q) hf
  have I2:Inv X pins σ (upd H s.heap.objs.size (.tup [.int (i:Nat),x])) { s with heap:=h',toks:=s.toks + 1 }:=I.tracked I1 (J8 _) ⟨by show 2<=Qe; decide,[.int i s.toks,u],.cons ⟨_,rfl⟩ (.cons ru .nil),⟨_,hT,rfl,_,rfl⟩⟩
  have hf2:∀ b∈[e,it],FpOk X pins (upd H s.heap.objs.size (.tup [.int (i:Nat),x])) b:=λb hb=>by
   obtain ⟨f0,f1,f2,f3,f4,f5⟩:=hf b hb
   exact ⟨by rw[As (hlt b hb)]; exact f0,f1,f2,f3,f4,f5⟩
  refine ⟨_,rfl,QV ho λh'' he' hs'=>?_⟩
  refine ⟨.ref s.heap.objs.size,_,I2.turnedL (wr:=[e]) (t':=s.toks + 1) (λb o hb q=>(hs'.2 b (λz=>hb (by simp[z]))).trans q) (λb hb=>hf2 b (by rw[Rh.mp hb]; simp)),rfl,⟨_,x,λys hy=>by rw[I.list_inj hy hq]; exact hx,fr,rfl,rfl⟩,⟨⟨_,by simpa using he'⟩,hit'.at λo q=>(hs'.2 it hei.symm).trans q⟩,λb hb=>(hf2 b hb).1⟩
 done:=by
  intro X hP hw hK hc i pins s σ H E I hf st hg
  subst hP hw hK
  obtain ⟨xs,hq,hx⟩:=hg
  obtain ⟨its,rv,p,hz⟩:=I.list hq
  have hl:=rv.length
  obtain ⟨⟨old,he⟩,hit⟩:=st
  exact wpAny_pyNext_enum_end (I.ok.hd hc) he hit p.isList (by simp; omega) λh' eb=>⟨rfl,I.turnedL (wr:=[it]) (t':=s.toks) (λb o hb q=>eb b o (λz=>hb (by simp[z])) q) (λb hb=>hf b (by rw[Rh.mp hb]; simp))⟩
 self:=λ_ _ _ _ _ st h=>QH st.1.choose_spec h
section
variable {X:Cx} {elts:List Expr} {k:Nat} {tp:Pos}
def Ms (K:J4) (ta:TA):TI:=λσ H R=>ta σ H λvs H1=>∃ a,vs=[.ref a]/\(∃ xs,SqL K H1 a xs)/\R (Ite K a) H1
theorem pi_enum {a:Expr} {ta:TA} {p pos:Pos} (hg:Gl X "enumerate") (hm:X.mg "enumerate"=none) (ha:PA X [a] ta) (hs:Qg [a] X.env=[(false,eval a X.env)]:=by rfl):PI X (.Tuple elts k tp) (.Call (.Name "enumerate" p) [a] [] pos) (Ms X.K ta):=by
 intro pins s σ H R I h
 refine Call_ (BU I hg hm (show Qr "enumerate"=some (.type "enumerate") by decide +kernel) (RK (thn (ha pos pins s σ H _ I h) λus s1 ⟨vs,H1,I1,r1,q1⟩=>?_) (by rw[hs]; rfl) (by rfl)))
 obtain ⟨a,e,⟨xs,hq⟩,q⟩:=q1
 subst e
 obtain ⟨u,rfl,rx⟩:=CB r1
 cases rx
 obtain ⟨its,rv,pl,hz⟩:=I1.list hq
 refine call_enumerate_list pl.isList λh' he hit hsz kp=>?_
 have I2:Inv X pins σ H1 { s1 with heap:=h' }:=I1.kept (t':=s1.toks) kp
 refine QH he ?_
 refine ⟨s1.heap.objs.size + 1,[s1.heap.objs.size + 1,s1.heap.objs.size],_,_,H1,rfl,I2,turn_enum a _ _ (YV _),⟨⟨_,he⟩,hit⟩,λb hb=>?_,q⟩
 simp only[Rg,Rv,or_false]at hb
 rcases hb with rfl | rfl
 ·exact I1.fpOk (Uv _) (I1.hok.fresh (Uv _))
 ·exact I1.fpOk (J8 _) (I1.hok.fresh (J8 _))
theorem EE {a:Expr} {ta:TA} {p pos:Pos} (hg:Gl X "enumerate") (hm:X.mg "enumerate"=none) (ha:QA X [a] ta) (hs:Qg [a] X.env=[(false,eval a X.env)]:=by rfl):QI X (.Tuple elts k tp) (.Call (.Name "enumerate" p) [a] [] pos) (Ms X.K ta):=⟨pi_enum hg hm ha.h hs⟩
end
theorem FJ {K:J4} {a:Addr} {xs:List V} {g:TG} {tb:TS} {D:Ends} {σ:St} {H:Hp} (Pv:Nat->St->Hp->Prop) (h0:Pv 0 σ H) (hl:∀ i σ H,i<=xs.length->Pv i σ H->SqL K H a xs)
  (hs:∀ i x T σ H,xs[i]?=some x->Pv i σ H->H T=none->g (.ref T) σ (upd H T (.tup [.int (i:Nat),x])) λσ2 H2=>tb { D with nx:=Pv (i + 1),ct:=Pv (i + 1),bk:=D.nx } σ2 H2) (hd:∀ σ H,Pv xs.length σ H->D.nx σ H) :
  ∃ W:Nat->Nat->St->Hp->Prop,(∃ m,W 0 m σ H)/\∀ i m σ H,W i m σ H->
   ((Ite K a).stop i H/\D.nx σ H)\/((Ite K a).go i H/\∃ N:St->Hp->Prop,(∀ σ' H',N σ' H'->∃ m',m' < m/\W (i + 1) m' σ' H')/\∀ x H',(Ite K a).yld i H x H'->g x σ H' λσ2 H2=>tb { D with nx:=N,ct:=N,bk:=D.nx } σ2 H2):=by
 refine ⟨λi m σ H=>m=xs.length - i/\i<=xs.length/\Pv i σ H,⟨xs.length,by simp,RP _,h0⟩,?_⟩
 rintro i m σ H ⟨rfl,hi,p⟩
 have q:=hl i σ H hi p
 by_cases hlt:i < xs.length
 ·refine .inr ⟨⟨xs,xs[i],q,by simp[hlt]⟩,Pv (i + 1),λσ' H' p'=>⟨xs.length - (i + 1),by omega,rfl,hlt,p'⟩,λv H' y=>?_⟩
  obtain ⟨T,x,hx,hT,rfl,rfl⟩:=y
  exact hs i x T σ _ (hx xs q) p hT
 ·have e:i=xs.length:=by omega
  subst e
  exact .inl ⟨⟨xs,q,J8 _⟩,hd σ H p⟩
structure TxtB (mg:Str->Option Qb):Prop where
 isi:mg "isinstance"=none
 int:mg "int"=none
 bool:mg "bool"=none
 abs:mg "abs"=none
 len:mg "len"=none
 range:mg "range"=none
 tup:mg "tuple"=none
 lst:mg "list"=none
 sor:mg "sorted"=none
 all:mg "all"=none
 set:mg "set"=none
 zip:mg "zip"=none
 enu:mg "enumerate"=none
 any:mg "any"=none
 max:mg "max"=none
 min:mg "min"=none
 str:mg "str"=none
 sum:mg "sum"=none
def nats (L:List Nat):List V:=L.map λp=>V.int ((p:Nat):Int)
theorem Dp (L:List Nat):nats L=(L.map λp=>((p:Nat):Int)).map V.int:=by simp[nats]
theorem AE (L:List Nat) (j:Nat):nats (L++[j])=nats L++[V.int (j:Int)]:=by unfold nats; rw[Rp]; rfl
theorem Ag (L:List Nat):(nats L).length=L.length:=by unfold nats; rw[J0]
def BlAt (H:Hp):List V->List (List Nat)->Prop
 | [],[]=>True
 | v::vs,b::bs=>(∃ a,v=.ref a/\H a=some (.lst (nats b)))/\BlAt H vs bs
 | _,_=>False
theorem BlAt.len {H:Hp}:∀ {vs:List V} {bs:List (List Nat)},BlAt H vs bs->vs.length=bs.length
 | [],[],_=>rfl
 | _::_,_::_,h=>by rw[Rq,Rq,BlAt.len h.2]
theorem BlAt.imp {H H':Hp}:∀ {vs:List V} {bs:List (List Nat)},BlAt H vs bs->(∀ a xs,V.ref a∈vs->H a=some (.lst xs)->H' a=some (.lst xs))->BlAt H' vs bs
 | [],[],_,_=>trivial
 | v::vs,b::bs,⟨⟨a,e,q⟩,r⟩,k=>⟨⟨a,e,k a _ (e▸Rj ..) q⟩,r.imp λa xs h1 h2=>k a xs (Re _ h1) h2⟩
theorem BlAt.same {H H':Hp} (s:Same H H') {vs:List V} {bs:List (List Nat)} (h:BlAt H vs bs):BlAt H' vs bs:=h.imp λa xs _ q=>s _ _ q
theorem BlAt.snoc {H:Hp} {a:Addr} {b:List Nat} (e:H a=some (.lst (nats b))):∀ {vs:List V} {bs:List (List Nat)},BlAt H vs bs->BlAt H (vs++[.ref a]) (bs++[b])
 | [],[],_=>⟨⟨a,rfl,e⟩,trivial⟩
 | _::_,_::_,h=>⟨h.1,h.2.snoc e⟩
theorem BlAt.get {H:Hp}:∀ {vs:List V} {bs:List (List Nat)} {i:Nat} {v:V},BlAt H vs bs->vs[i]?=some v->∃ a b,v=.ref a/\bs[i]?=some b/\H a=some (.lst (nats b))
 | v::vs,b::bs,0,_,h,e=>by
  cases e
  obtain ⟨a,e,q⟩:=h.1
  exact ⟨a,b,e,rfl,q⟩
 | _::vs,_::bs,i + 1,v,h,e=>BlAt.get (i:=i) h.2 e
def TpAt (H:Hp):List V->List (List Nat)->Prop
 | [],[]=>True
 | v::vs,b::bs=>(∃ a,v=.ref a/\H a=some (.tup (nats b)))/\TpAt H vs bs
 | _,_=>False
theorem TpAt.len {H:Hp}:∀ {vs:List V} {bs:List (List Nat)},TpAt H vs bs->vs.length=bs.length
 | [],[],_=>rfl
 | _::_,_::_,h=>by rw[Rq,Rq,TpAt.len h.2]
theorem TpAt.same {H H':Hp} (s:∀ a xs,H a=some (.tup xs)->H' a=some (.tup xs)):∀ {vs:List V} {bs:List (List Nat)},TpAt H vs bs->TpAt H' vs bs
 | [],[],_=>trivial
 | v::vs,b::bs,⟨⟨a,e,q⟩,r⟩=>⟨⟨a,e,s _ _ q⟩,r.same s⟩
theorem TpAt.snoc {H:Hp} {a:Addr} {b:List Nat} (e:H a=some (.tup (nats b))):∀ {vs:List V} {bs:List (List Nat)},TpAt H vs bs->TpAt H (vs++[.ref a]) (bs++[b])
 | [],[],_=>⟨⟨a,rfl,e⟩,trivial⟩
 | _::_,_::_,h=>⟨h.1,h.2.snoc e⟩
theorem TpAt.get {H:Hp}:∀ {vs:List V} {bs:List (List Nat)} {i:Nat} {v:V},TpAt H vs bs->vs[i]?=some v->∃ a b,v=.ref a/\bs[i]?=some b/\H a=some (.tup (nats b))
 | v::vs,b::bs,0,_,h,e=>by
  cases e
  obtain ⟨a,e,q⟩:=h.1
  exact ⟨a,b,e,rfl,q⟩
 | _::vs,_::bs,i + 1,v,h,e=>TpAt.get (i:=i) h.2 e
structure Blk (p:Nat) (b:List Nat):Prop where
 nd:b.Nodup
 lt:∀ x∈b,x < p
theorem Iu:∀ (n:Nat) (b:List Nat),b.Nodup->(∀ x∈b,x < n)->b.length<=n
 | 0,[],_,_=>J8 _
 | 0,x::b,_,h=>absurd (h x (Rj ..)) (UO _)
 | n + 1,b,hn,hl=>by
  have h1:=Iu n (b.filter (λx=>decide (x≠n))) (hn.filter _) (λx hx=>by
   have:=RZ.mp hx
   have h2:=hl x this.1
   have h3:x≠n:=of_decide_eq_true this.2
   omega)
  by_cases hm:n∈b
  ·have e:b.length=(b.filter (λx=>decide (x≠n))).length + 1:=by
    clear h1 hl
    induction b with
    | nil=>cases hm
    | cons y b ih=>
     rw[UN]at hn
     by_cases hy:y=n
     ·subst hy
      rw[Zx (by simp)]
      have:b.filter (λx=>decide (x≠y))=b:=Yx.mpr λx hx=>decide_eq_true λz=>hn.1 (z▸hx)
      rw[this]; rfl
     ·rw[Zw (by simpa using hy)]
      have hm':n∈b:=(Rg.mp hm).resolve_left (λz=>hy z.symm)
      simp only[Rq]
      rw[ih hn.2 hm']
   omega
  ·have:b.filter (λx=>decide (x≠n))=b:=Yx.mpr λx hx=>decide_eq_true λz=>hm (z▸hx)
   rw[this]at h1
   omega
theorem Blk.len {p:Nat} {b:List Nat} (h:Blk p b):b.length<=p:=Iu p b h.nd h.lt
def iSeq (K:J4) (tl:TE):TI:=λσ H R=>tl σ H λx H1=>∃ a,x=.ref a/\(((∃ xs,SqL K H1 a xs)/\R (Itl K a) H1)\/((∃ xs,SqT K H1 a xs)/\R (Itt K a) H1))
theorem pi_seq {X:Cx} {tg l:Expr} {tl:TE} (hl:PE X l tl):PI X tg l (iSeq X.K tl):=by
 intro pins s σ H R I h
 refine thn (hl pins s σ H _ I h) λv s1 ⟨x,H1,I1,r1,q1⟩=>?_
 obtain ⟨a,e,q⟩:=q1
 subst e
 cases r1
 have fp:∀ b∈[s1.heap.objs.size],FpOk X pins H1 b:=λb hb=>by
  have e:b=s1.heap.objs.size:=by simpa using hb
  subst e
  exact I1.fpOk (J8 _) (I1.hok.fresh (J8 _))
 rcases q with ⟨⟨xs,hq⟩,q⟩ | ⟨⟨xs,hq⟩,q⟩
 ·obtain ⟨its,rv,p,hz⟩:=I1.list hq
  exact QZ p.isList ⟨s1.heap.objs.size,[s1.heap.objs.size],_,_,H1,rfl,I1.kept (t':=s1.toks) λb o e=>Heap.get?_push_of_some _ e,Gu a _,⟨_,Heap.get?_push_size _ rfl,rfl,rfl⟩,fp,q⟩
 ·obtain ⟨its,rv,p,hz⟩:=I1.tuple hq
  exact Qs (show s1.heap.IsTuple a its.toArray from p) ⟨s1.heap.objs.size,[s1.heap.objs.size],_,_,H1,rfl,I1.kept (t':=s1.toks) λb o e=>Heap.get?_push_of_some _ e,Fo a _,⟨_,Heap.get?_push_size _ rfl,rfl,rfl⟩,fp,q⟩
theorem qi_seq {X:Cx} {tg l:Expr} {tl:TE} (hl:QE X l tl):QI X tg l (iSeq X.K tl):=⟨pi_seq hl.h⟩
def KO (K:J4):List V->Hp->VK->Prop:=λxs H Q=>∃ p ys,xs=[.ref p]/\(SqL K H p ys\/SqT K H p ys)/\Q (.int ys.length) H
theorem EF {X:Cx}:Bx X (.builtin "len") (KO X.K):=Ak
def LG (K:J4):List V->Hp->VK->Prop:=λxs H Q=>∃ p ys,xs=[.ref p]/\((SqL K H p ys/\∀ l,H l=none->Q (.ref l) (upd H l (.tup ys)))\/(SqT K H p ys/\Q (.ref p) H))
theorem GJ {X:Cx}:Bx X (.type "tuple") (LG X.K):=Ay
theorem TpAt.sm {H H':Hp} (s:Same H H') {vs:List V} {bs:List (List Nat)} (h:TpAt H vs bs):TpAt H' vs bs:=h.same λa xs q=>s _ _ q
theorem back_nats {b:List Nat} {ns:List Int} (hp:ns.Perm (b.map λp=>((p:Nat):Int))) (hs:ns.Pairwise (·<=·)):∃ b':List Nat,ns.map V.int=nats b'/\b'.Perm b/\b'.Pairwise (·<=·):=by
 have hnn:∀ x∈ns,0<=x:=λx hx=>by
  obtain ⟨p,_,rfl⟩:=RB.mp (hp.mem_iff.mp hx)
  omega
 have e:ns=(ns.map Zg).map λp=>((p:Nat):Int):=by
  rw[Uh]
  conv=>lhs; rw[<- Y3 ns]
  exact RG λx hx=>by
   have:=hnn x hx
   show x=((x.toNat:Nat):Int)
   omega
 refine ⟨ns.map Zg,?_,?_,?_⟩
 ·rw[Dp,<- e]
 ·have:=hp.map Zg
  rw[Uh]at this
  have e2:(b.map (Zg ∘ λp=>((p:Nat):Int)))=b:=by
   conv=>rhs; rw[<- Y3 b]
   exact RG λx _=>by simp
  rwa [e2]at this
 ·rw[UA]
  exact hs.imp λh=>by omega
theorem AW {b:List Nat} {j:Nat} {x:V} (h:(nats b)[j]?=some x):∃ p:Nat,b[j]?=some p/\x=V.int ((p:Nat):Int):=by
 unfold nats at h
 rw[Rm]at h
 cases e:b[j]? with
 | none=>rw[e]at h; cases h
 | some p=>rw[e]at h; cases h; exact ⟨p,rfl,rfl⟩
theorem TpAt.app {H:Hp}:∀ {vs ws:List V} {bs cs:List (List Nat)},TpAt H vs bs->TpAt H ws cs->TpAt H (vs++ws) (bs++cs)
 | [],_,[],_,_,h=>h
 | _::_,_,_::_,_,h,h'=>⟨h.1,h.2.app h'⟩
theorem EG {K:J4} {H:Hp}:∀ L:List Nat,IsDs K H (L.map λp=>PyData.int ((p:Nat):Int)) (nats L)
 | []=>by simp[nats,IsDs]
 | p::L=>by
  simp only[nats,Rt,IsDs]
  exact ⟨_,_,rfl,by simp[IsD],EG L⟩
theorem EH:∀ L:List Nat,PyData.canLayAll0 (L.map λp=>PyData.int ((p:Nat):Int))=true
 | []=>by simp[PyData.canLayAll0]
 | x::L=>by simp[PyData.canLayAll0,PyData.canLay0,EH L]
theorem Dg:∀ L:List Nat,PyData.depthAll (L.map λp=>PyData.int ((p:Nat):Int))<=1
 | []=>by simp[PyData.depthAll]
 | x::L=>by
  have:=Dg L
  simp[PyData.depthAll,PyData.depth]
  omega
theorem FK {xs:List V} {k:Nat} (hk:k<=xs.length):cutV xs (some (k:Int)) none=xs.drop k:=by
 unfold cutV
 have h1:HT.sIx xs.length 0 (some (k:Int))=k:=by rw[HT.sIx_nat]; omega
 have h2:HT.sIx xs.length xs.length none=xs.length:=by simp[HT.sIx]
 rw[h1,h2,WG (by rw[Uj]; exact J8 _)]
theorem Lf {xs:List V} {k:Nat} (hk:k<=xs.length):cutV xs none (some (k:Int))=xs.take k:=by
 unfold cutV
 have h1:HT.sIx xs.length 0 none=0:=by simp[HT.sIx]
 have h2:HT.sIx xs.length xs.length (some (k:Int))=k:=by rw[HT.sIx_nat]; omega
 rw[h1,h2,Wp,WM]
theorem GK:∀ L:List Nat,PyData.eqvAll (L.map λp=>PyData.int ((p:Nat):Int)) (L.map λp=>PyData.int ((p:Nat):Int))=true
 | []=>by simp[PyData.eqvAll]
 | x::L=>by simp[PyData.eqvAll,PyData.eqv,GK L]
def dTup (L:List Nat):Q0:=.tuple (L.map λp=>PyData.int ((p:Nat):Int))
theorem JI {K:J4} {H:Hp}:∀ {vs:List V} {bs:List (List Nat)},TpAt H vs bs->IsDs K H (bs.map dTup) vs
 | [],[],_=>by simp[IsDs]
 | v::vs,b::bs,⟨⟨a,e,q⟩,r⟩=>by
  simp only[Rt,IsDs]
  refine ⟨v,vs,rfl,?_,JI r⟩
  simp only[dTup,IsD]
  exact ⟨a,_,e,SqT.of q,EG b⟩
theorem JJ:∀ bs:List (List Nat),PyData.canLayAll0 (bs.map dTup)=true
 | []=>by simp[PyData.canLayAll0]
 | b::bs=>by
  have h1:=EH b
  simp only[Rt,PyData.canLayAll0,dTup,PyData.canLay0,h1,JJ bs,Jd4,Bool.true_and]
theorem GL:∀ bs:List (List Nat),PyData.depthAll (bs.map dTup)<=2
 | []=>by simp[PyData.depthAll]
 | b::bs=>by
  have h1:=Dg b
  have h2:=GL bs
  simp only[Rt,PyData.depthAll,dTup,PyData.depth]
  omega
theorem eqv_tup (L:List Nat):PyData.eqv (dTup L) (dTup L)=true:=by
 simp only[dTup,PyData.eqv]
 exact GK L
theorem Iv:∀ bs:List (List Nat),PyData.eqvAll (bs.map dTup) (bs.map dTup)=true
 | []=>by simp[PyData.eqvAll]
 | b::bs=>by simp only[Rt,PyData.eqvAll,eqv_tup b,Iv bs,Jd4]
theorem TpAt.take {H:Hp}:∀ {vs:List V} {bs:List (List Nat)} (n:Nat),TpAt H vs bs->TpAt H (vs.take n) (bs.take n)
 | [],[],_,_=>by simp[TpAt]
 | _::_,_::_,0,_=>trivial
 | _::_,_::_,n + 1,h=>⟨h.1,h.2.take n⟩
theorem cut_le {xs:List V} {k:Nat}:cutV xs none (some (k:Int))=xs.take k:=by
 by_cases hk:k<=xs.length
 ·exact Lf hk
 ·unfold cutV
  have h1:HT.sIx xs.length 0 none=0:=by simp[HT.sIx]
  have h2:HT.sIx xs.length xs.length (some (k:Int))=xs.length:=by rw[HT.sIx_nat]; omega
  rw[h1,h2,Wp,WM,RE,WG (by omega)]
def rGetN (K:J4):V->V->Hp->VK->Prop:=λx y H Q=>∃ (p:Addr) (xs:List V) (i:Int) (z:V),x=.ref p/\y=.int i/\SqL K H p xs/\0<=i/\atI xs i=some z/\Q z H
theorem get_listN {X:Cx}:PGet X (rGetN X.K):=by
 intro pins s σ H x y v u Q I rx ry h
 obtain ⟨p,xs,i,z,rfl,rfl,hq,h0,he,q⟩:=h
 cases rx
 obtain ⟨t,rfl⟩:=ry
 obtain ⟨its,r,pl,hz⟩:=I.list hq
 obtain ⟨j,h1,h2,h3,h4,h5⟩:=Ho he
 obtain ⟨w,ew,rw'⟩:=r.get h2
 have hl:=r.length
 have hn:=Er
 have fin:EP X pins σ Q w s:=⟨z,H,I,rw',q⟩
 have hj:i.toNat=j:=by
  rw[seqIndex_of h0 h5]at h1
  exact Uc h1
 exact wpAny_getItem_list pl.isList h0 (by omega) (by rw[hj]; simpa using ew) fin
end L2
namespace L2
open PySem PySem.Spec PyProof.Rows PySem.W
def KAll {α:Type} (n:Nat) (R:α->Prop):KasT α->Prop
 | .ret a=>R a
 | .ask i j k=>i < n/\j < n/\∀ b,KAll n R (k b)
theorem KAll.bind {α β:Type} {n:Nat} {R:α->Prop} {S:β->Prop} {f:α->KasT β}:∀ {t:KasT α},KAll n R t->(∀ a,R a->KAll n S (f a))->KAll n S (t.bind f)
 | .ret a,h,hf=>hf a h
 | .ask i j k,h,hf=>⟨h.1,h.2.1,λb=>KAll.bind (h.2.2 b) hf⟩
theorem KAll.wp {α:Type} {n:Nat} {R:α->Prop} {cmp:Nat->Nat->(Bool->Qc->Prop)->Qc->Prop} {Q:α->Qc->Prop} {s:Qc} (hc:∀ i j C,i < n->j < n->(∀ b,C b s)->cmp i j C s) (hq:∀ a,R a->Q a s):∀ {t:KasT α},KAll n R t->t.kasWp cmp Q s
 | .ret a,h=>hq a h
 | .ask i j k,h=>hc i j _ h.1 h.2.1 λb=>KAll.wp hc hq (h.2.2 b)
def Ord (n:Nat) (p:Array Nat):Prop:=p.toList.Perm (J1 n)
theorem Ord.lt {n:Nat} {p:Array Nat} (h:Ord n p) (hn:0 < n) (k:Nat):p.getD k 0 < n:=by
 by_cases hk:k < p.size
 ·have:p.getD k 0∈p.toList:=by
   have e:p.getD k 0=p[k]:=by simp[hk]
   rw[e]
   exact WQ.mpr (Array.getElem_mem hk)
  exact Ra.mp (h.mem_iff.mp this)
 ·have:p.getD k 0=0:=by simp[hk]
  omega
theorem Ord.rev {n:Nat} {p:Array Nat} (h:Ord n p) (i j:Nat):Ord n (kas_rev p i j):=((mirror_perm p i j _).toList).trans h
theorem Ord.bub {n:Nat} {p:Array Nat} (h:Ord n p) (k d:Nat):Ord n (bubble p k d):=((bubble_perm p k d).toList).trans h
section
variable {n:Nat} (hn:0 < n)
include hn
theorem Ht {p:Array Nat} (h:Ord n p):∀ f k,KAll n (λ_=>True) (kas_asc p f k)
 | 0,_=>trivial
 | f + 1,k=>⟨h.lt hn _,h.lt hn _,λb=>by
  cases b
  ·exact Ht h f (k + 1)
  ·exact trivial⟩
theorem Ef:∀ f {p:Array Nat} (k q:Nat),Ord n p->KAll n (λr=>Ord n r.1) (kas_desc f p k q)
 | 0,_,_,_,h=>h
 | f + 1,p,k,q,h=>⟨h.lt hn _,h.lt hn _,λb=>by
  cases b
  ·exact ⟨h.lt hn _,h.lt hn _,λc=>by
    cases c
    ·exact Ef f _ _ h
    ·exact h⟩
  ·show KAll n _ (if q > 0 then kas_desc f (kas_rev p (k - (q + 1)) k) (k + 1) 0 else kas_desc f p (k + 1) 0)
   split
   ·exact Ef f _ _ (h.rev _ _)
   ·exact Ef f _ _ h⟩
theorem GM {p:Array Nat} (h:Ord n p) (k m:Nat):KAll n (λr=>Ord n r.2) (kas_tail3 k m p):=(Ht hn (h.rev 0 k) _ _).bind λ_ _=>h.rev 0 k
theorem DZ {p:Array Nat} (h:Ord n p) (k m:Nat):KAll n (λr=>Ord n r.2) (kas_descPart k m p):=(Ef hn _ _ _ h).bind λr hr=>by
 split
 ·exact GM hn (hr.rev _ _) _ _
 ·exact GM hn hr _ _
theorem all_count {p:Array Nat} (h:Ord n p) (m:Nat):KAll n (λr=>Ord n r.2) (kas_count m p):=(Ht hn h _ _).bind λk _=>by
 split
 ·exact h
 ·split
  ·exact ⟨h.lt hn _,h.lt hn _,λb=>by
    cases b
    ·exact DZ hn (h.rev _ _) _ _
    ·exact h⟩
  ·exact DZ hn h _ _
theorem EI {p:Array Nat} (h:Ord n p) (k:Nat):∀ f l r,KAll n (λ_=>True) (kas_place p k f l r)
 | 0,_,_=>trivial
 | f + 1,l,r=>by
  unfold kas_place
  split
  ·trivial
  ·exact ⟨h.lt hn _,h.lt hn _,λb=>by
    cases b
    ·exact EI h k f _ _
    ·exact EI h k f _ _⟩
theorem JK:∀ f {p:Array Nat} (k:Nat),Ord n p->KAll n (Ord n) (kas_bin f p k)
 | 0,_,_,h=>h
 | f + 1,p,k,h=>(EI hn h k _ _ _).bind λl _=>JK f (k + 1) (h.bub _ _)
theorem all_sort:KAll n (Ord n) (kas_sort n):=(all_count hn (p:=List.toArray (J1 n)) (by unfold Ord; simp) n).bind λr hr=>by
 split
 ·exact JK hn _ _ hr
 ·exact hr
end
def PrAt (h:Heap) (v:Qb):Prop:=∃ (x:Addr) (o:Obj) (k:Nat) (a b:Int) (t u:Tok),v=.ref x/\h.get? x=some o/\o.cls=.type "tuple"/\o.data=.seq #[.int a t,.int b u] k
theorem Iw {h:Heap}:∀ {vs:List Qb},(∀ v∈vs,PrAt h v)->∃ fs:List Qb,KatTups h vs fs/\fs.length=vs.length/\∀ f∈fs,∃ (a:Int) (t:Tok),f=.int a t
 | [],_=>⟨[],trivial,rfl,by simp⟩
 | v::vs,hv=>by
  obtain ⟨fs,h1,h2,h3⟩:=Iw (vs:=vs) λw hw=>hv w (Re _ hw)
  obtain ⟨x,o,k,a,b,t,u,e,ho,hc,hd⟩:=hv v (Rj ..)
  refine ⟨.int a t::fs,⟨⟨x,o,_,k,e,ho,hc,hd,rfl⟩,h1⟩,by simp[h2],λf hf=>?_⟩
  rcases Rg.mp hf with e | e
  ·exact ⟨a,t,e⟩
  ·exact h3 f e
section
variable {prog:Qj} {w:Qk} {A:Qm} {E:Qb->Qc->Prop} {s:Qc}
theorem pr_lt {v v':Qb} {C:Bool->Qc->Prop} (hv:PrAt s.heap v) (hv':PrAt s.heap v') (hC:∀ b,C b s):Qf (model prog w) A (keyLt' (tuples' true) v v') C (λ_ _=>False) s:=by
 obtain ⟨x,o,k,a,b,t,u,rfl,ho,hc,hd⟩:=hv
 obtain ⟨x',o',k',a',b',t',u',rfl,ho',hc',hd'⟩:=hv'
 refine kat_lt ho hd ho' hd' (kat_cons (Xa ?_))
 refine kat_go (λ_=>kat_yes ?_) (λ_=>kat_no ?_)
 ·refine kat_cons (Xa (kat_go (λ_=>kat_yes (kat_nil (hC _))) (λ_=>kat_no ?_)))
  exact kat_one _ _ (lt_int (hC _))
 ·exact kat_lt_int (hC _)
theorem FL (vs:List Qb):((J1 vs.length).map λi=>vs.getD i Value.none)=vs:=by
 apply Ua
 ·simp
 ·intro i h1 h2
  simp[Wr,U7,h2]
theorem list_sortP {a:Addr} {vs:List Qb} {n:Nat} {Z:PySem.Fin->Qc->Prop} (ho:s.heap.get? a=some (seqObj "list" vs.toArray n)) (h64:vs.length < 64) (hv:∀ v∈vs,PrAt s.heap v)
  (h:∀ out:List Qb,out.Perm vs->Z (.done (.ret .none)) { s with heap:=sortedHeap s.heap a vs out.toArray }):Qf (model prog w) A (Builtin.«list.sort» ⟨[.ref a],[]⟩) Z E s:=by
 have hlt:a < s.heap.objs.size:=Heap.lt_size ho
 obtain ⟨c1,g1⟩:∃ c1,(s.heap.update a (Obj.mapSeq λ_=>#[])).get? a=some (seqObj "list" #[] c1):=⟨_,get?_update_seq ho (λ_=>#[])⟩
 have up:∀ b o,b≠a->s.heap.get? b=some o->(((s.heap.update a (Obj.mapSeq λ_=>#[])).push (seqObj "tuple" vs.toArray 0)).push (seqObj "list" #[] 0)).get? b=some o:=λb o nb q=>by
  refine Heap.get?_push_of_some _ (Heap.get?_push_of_some _ ?_)
  rw[Heap.get?_update_ne _ _ _ _ nb]
  exact q
 have g6:(((s.heap.update a (Obj.mapSeq λ_=>#[])).push (seqObj "tuple" vs.toArray 0)).push (seqObj "list" #[] 0)).get? a=some (seqObj "list" #[] c1):=Heap.get?_push_of_some _ (Heap.get?_push_of_some _ g1)
 rw[list_sort_plain]
 refine Qa (listItems_at ho rfl (Qa (listUpdate_at ho rfl ?_ (by rw[Ri,QN]; omega) (RP _))))
 refine Qa (seqEpoch_at g1 rfl (Qa (Xh ?_ (show vs.length<=Qe by rw[QN]; omega))))
 refine Qa (wpAny_newList (Qo ?_) (RP _))
 show Qf (model prog w) A _ Z E { s with heap:=((s.heap.update a (Obj.mapSeq λ_=>#[])).push (seqObj "tuple" vs.toArray 0)).push (seqObj "list" #[] 0) }
 dsimp only
 by_cases h2:vs.toArray.size < 2
 ·rw[if_pos h2,if_pos h2]
  refine Qa (Qd ?_)
  rw[StateT.run_pure]
  refine Qa (Qd ?_)
  dsimp only
  refine Qa (seqEpoch_at g6 rfl (Qa (listUpdate_at g6 rfl ?_ (RP _) (by rw[Zh]; show (pairsOf vs).size<=_; rw[pairsOf_size,QN]; omega))))
  simp only[bne_self_eq_false,Uu,if_false]
  have e:(arrOf (SortSt.mk' general' (vs.toArray.zip vs.toArray) #[] 7 none)).map (·.2)=vs.toArray:=by
   show (vs.toArray.zip vs.toArray).map (·.2)=vs.toArray
   apply Array.toList_inj.mp
   simp[List.map_snd_zip]
  have:=h vs (Yj _)
  refine Qd ?_
  rw[e]
  exact this
 ·rw[if_neg h2,if_neg h2]
  rw[Ri]at h2
  obtain ⟨fs,hT,hfl,hfi⟩:=Iw (h:=((s.heap.update a (Obj.mapSeq λ_=>#[])).push (seqObj "tuple" vs.toArray 0)).push (seqObj "list" #[] 0)) (vs:=vs) λv hv'=>by
   obtain ⟨x,o,k,p,q,t,u,e,hx,hc,hd⟩:=hv v hv'
   exact ⟨x,o,k,p,q,t,u,e,up _ _ (λz=>by rw[z,ho]at hx; cases hx; injection (show Value.type "list"=Value.type "tuple" from hc) with e'; exact absurd e' (by decide)) hx,hc,hd⟩
  refine Qa (kat_kind (T:=.type "int") hT (by omega) (λf hf=>?_) rfl ?_)
  ·obtain ⟨p,t,rfl⟩:=hfi f hf
   exact Looks.now
  show Qf (model prog w) A _ Z E _
  have run:(kas_sort vs.length).kasWp (kas_ask prog w A (tuples' true) vs) (λp s'=>Ord vs.length p/\s'={ s with heap:=((s.heap.update a (Obj.mapSeq λ_=>#[])).push (seqObj "tuple" vs.toArray 0)).push (seqObj "list" #[] 0) }) { s with heap:=((s.heap.update a (Obj.mapSeq λ_=>#[])).push (seqObj "tuple" vs.toArray 0)).push (seqObj "list" #[] 0) }:=
   KAll.wp (n:=vs.length) (λi j C hi hj hC=>by
    have pr:∀ k,k < vs.length->PrAt (((s.heap.update a (Obj.mapSeq λ_=>#[])).push (seqObj "tuple" vs.toArray 0)).push (seqObj "list" #[] 0)) (vs.getD k Value.none):=λk hk=>by
     have em:vs.getD k Value.none=vs[k]:=by simp[hk]
     rw[em]
     obtain ⟨x,o,k',p,q,t,u,e,hx,hc,hd⟩:=hv _ (Uk hk)
     exact ⟨x,o,k',p,q,t,u,e,up _ _ (λz=>by rw[z,ho]at hx; cases hx; injection (show Value.type "list"=Value.type "tuple" from hc) with e'; exact absurd e' (by decide)) hx,hc,hd⟩
    exact pr_lt (pr i hi) (pr j hj) hC) (λp hp=>⟨hp,rfl⟩) (all_sort (by omega))
  refine Qa (Qw (kat_run (Q:=λst' s'=>∃ p:Array Nat,arrOf st'=p.map (kas_item (vs.toArray.zip vs.toArray))/\failedOf st'=none/\Ord vs.length p/\s'={ s with heap:=((s.heap.update a (Obj.mapSeq λ_=>#[])).push (seqObj "tuple" vs.toArray 0)).push (seqObj "list" #[] 0) })
   rfl (by omega) h64 (λp st' s' _ q2 q3 q4=>⟨p,q2,q3,q4.1,q4.2⟩) run) ?_ λ_ _ e=>e)
  rintro ⟨⟨⟩,st'⟩ s' ⟨p,har,hf,hp,rfl⟩
  dsimp only
  have eo:=kat_snds rfl har
  have hpm:(p.toList.map λi=>vs.getD i Value.none).Perm vs:=by
   have:=hp.map λi=>vs.getD i Value.none
   rwa [FL]at this
  have fin:=h _ hpm
  rw[eo]
  refine Qa (seqEpoch_at g6 rfl (Qa (listUpdate_at g6 rfl ?_ (RP _) (by rw[Ri,hpm.length_eq,QN]; omega))))
  rw[hf]
  simp only[bne_self_eq_false,Uu,if_false]
  exact Qd fin
theorem sorted_prs {l:Addr} {vs:List Qb} {Q:Qb->Qc->Prop} (hl:s.heap.IsList l vs.toArray) (h64:vs.length < 64) (hv:∀ v∈vs,PrAt s.heap v)
  (h:∀ out:List Qb,out.Perm vs->Q (.ref (s.heap.objs.size + 1)) { s with heap:=sortedAll s.heap vs out.toArray }):Qf (model prog w) A (call (.builtin "sorted") [.ref l]) Q E s:=by
 refine Calls.call_function_entry kind_sorted plain_sorted entry_sorted (args_sorted1 _) ?_
 unfold Builtin.«sorted»
 refine Qa (m:=checkCount "sorted" 1 1 _) (Qd (Qa (collect_list hl (Qa (wpAny_newList ?_ (by rw[QN]; omega))) (by rw[QN]; omega))))
 have n1:((s.heap.push (seqObj "list" #[] 0)).update s.heap.objs.size (Obj.mapSeq (·++vs.toArray))).objs.size=s.heap.objs.size + 1:=by rw[Heap.size_update,size_push']
 have up:∀ b o,s.heap.get? b=some o->(((s.heap.push (seqObj "list" #[] 0)).update s.heap.objs.size (Obj.mapSeq (·++vs.toArray))).push (seqObj "list" vs.toArray 0)).get? b=some o:=λb o q=>by
  refine Heap.get?_push_of_some _ ?_
  rw[Heap.get?_update_ne _ _ _ _ (RC (Heap.lt_size q))]
  exact Heap.get?_push_of_some _ q
 have g2:(((s.heap.push (seqObj "list" #[] 0)).update s.heap.objs.size (Obj.mapSeq (·++vs.toArray))).push (seqObj "list" vs.toArray 0)).get? (s.heap.objs.size + 1)=some (seqObj "list" vs.toArray 0):=by
  rw[<- n1]; exact Heap.get?_push_size _ rfl
 show Qf _ _ _ _ _ { s with heap:=((s.heap.push (seqObj "list" #[] 0)).update s.heap.objs.size (Obj.mapSeq (·++vs.toArray))).push (seqObj "list" vs.toArray 0) }
 rw[n1]
 refine Qa (Qo (Qq slot_list_sort ⟨_,g2,rfl⟩ entry_list_sort (list_sortP g2 h64 (λv hv'=>?_) λout hp=>⟨_,rfl,Qd ⟨_,rfl,h out hp⟩⟩) (args_list_sort _)))
 obtain ⟨x,o,k,p,q,t,u,e,hx,hc,hd⟩:=hv v hv'
 exact ⟨x,o,k,p,q,t,u,e,up _ _ hx,hc,hd⟩
end
def PrsAt (H:Hp):List V->List (Int×Int)->Prop
 | [],[]=>True
 | v::vs,x::xs=>(∃ a,v=.ref a/\H a=some (.tup [.int x.1,.int x.2]))/\PrsAt H vs xs
 | _,_=>False
theorem PrsAt.val {X:Cx} {pins:List (Addr×Obj)} {σ:St} {H:Hp} {s:Qc} (I:Inv X pins σ H s):∀ {vs:List V} {xs:List (Int×Int)} {us:List Qb},PrsAt H vs xs->Vals vs us->(∀ u∈us,PrAt s.heap u)/\vs=us.map λu=>V.ref (match u with | .ref a=>a | _=>0)
 | [],[],_,_,r=>by cases r; exact ⟨by simp,rfl⟩
 | v::vs,x::xs,_,⟨⟨a,e,q⟩,hr⟩,r=>by
  cases r with
  | cons h t=>
   subst e
   cases h
   obtain ⟨h1,h2⟩:=PrsAt.val I hr t
   obtain ⟨its,rv,⟨o,ho,hc,n,hd⟩,_⟩:=I.tuple (SqT.of q)
   refine ⟨λu hu=>?_,by rw[Rt,<- h2]⟩
   rcases Rg.mp hu with e | e
   ·cases rv with
    | cons r1 rr=>
     cases rr with
     | cons r2 rr=>
      cases rr
      obtain ⟨t1,rfl⟩:=r1
      obtain ⟨t2,rfl⟩:=r2
      exact ⟨a,o,n,_,_,_,_,e,ho,hc,hd⟩
   ·exact h1 u e
def rSortP (K:J4):List V->Hp->VK->Prop:=λxs H Q=>∃ (a:Addr) (vs:List V) (ps:List (Int×Int)),xs=[.ref a]/\SqL K H a vs/\PrsAt H vs ps/\vs.length < 64/\∀ (l:Addr) (vs':List V),H l=none->vs'.Perm vs->Q (.ref l) (upd H l (.lst vs'))
theorem call_sortP {X:Cx}:Bx X (.builtin "sorted") (rSortP X.K):=by
 intro pins s σ H xs us Q I r h
 obtain ⟨a,vs,ps,rfl,hq,hP,h64,q⟩:=h
 obtain ⟨u,rfl,rx⟩:=CB r
 cases rx
 obtain ⟨its,r',pl,hz⟩:=I.list hq
 have hlen:=r'.length
 obtain ⟨hpr,hvs⟩:=PrsAt.val I hP r'
 refine sorted_prs pl.isList (by omega) hpr λout hp=>?_
 obtain ⟨e,he⟩:=sortedAll_at s.heap its out.toArray
 have hl2:=hp.length_eq
 have hpm:(out.map λu=>V.ref (match u with | .ref a=>a | _=>0)).Perm vs:=by
  rw[hvs]
  exact hp.map _
 refine ⟨.ref (s.heap.objs.size + 1),_,I.laid (t':=s.toks) (o:=.lst (out.map λu=>V.ref (match u with | .ref a=>a | _=>0))) (λb o=>sortedAll_old) (Uv _) ?_,rfl,q _ _ (I.hok.fresh (Uv _)) hpm⟩
 refine ⟨by rw[J0]; exact J6 (show out.length<=64 by omega) (by decide),out,e,?_,he⟩
 have hall:∀ u∈out,∃ x,u=.ref x:=λu hu=>by
  obtain ⟨x,_,_,_,_,_,_,e,_⟩:=hpr u (hp.mem_iff.mp hu)
  exact ⟨x,e⟩
 clear he hpm hp hl2
 induction out with
 | nil=>exact .nil
 | cons u out ih=>
  obtain ⟨x,rfl⟩:=hall u (Rj ..)
  exact .cons rfl (ih λu hu=>hall u (Re _ hu))
theorem PrsAt.same {H H':Hp} (s:Same H H'):∀ {vs:List V} {ps:List (Int×Int)},PrsAt H vs ps->PrsAt H' vs ps
 | [],[],_=>trivial
 | _::_,_::_,⟨⟨a,e,q⟩,r⟩=>⟨⟨a,e,s _ _ q⟩,r.same s⟩
theorem PrsAt.snoc {H:Hp} {a:Addr} {p:Int×Int} (e:H a=some (.tup [.int p.1,.int p.2])):∀ {vs:List V} {ps:List (Int×Int)},PrsAt H vs ps->PrsAt H (vs++[.ref a]) (ps++[p])
 | [],[],_=>⟨⟨a,rfl,e⟩,trivial⟩
 | _::_,_::_,h=>⟨h.1,h.2.snoc e⟩
theorem PrsAt.len {H:Hp}:∀ {vs:List V} {ps:List (Int×Int)},PrsAt H vs ps->vs.length=ps.length
 | [],[],_=>rfl
 | _::_,_::_,h=>by rw[Rq,Rq,PrsAt.len h.2]
theorem PrsAt.get {H:Hp}:∀ {vs:List V} {ps:List (Int×Int)} {i:Nat} {v:V},PrsAt H vs ps->vs[i]?=some v->∃ a p,v=.ref a/\ps[i]?=some p/\H a=some (.tup [.int p.1,.int p.2])
 | v::vs,p::ps,0,_,h,e=>by
  cases e
  obtain ⟨a,e,q⟩:=h.1
  exact ⟨a,p,e,rfl,q⟩
 | _::vs,_::ps,i + 1,v,h,e=>PrsAt.get (i:=i) h.2 e
theorem PrsAt.perm {H:Hp} {vs vs':List V} (hp:vs'.Perm vs):∀ {ps:List (Int×Int)},PrsAt H vs ps->∃ ps',PrsAt H vs' ps'/\ps'.Perm ps:=by
 induction hp with
 | nil=>intro ps h; exact ⟨ps,h,.refl _⟩
 | cons x _ ih=>
  intro ps h
  cases ps with
  | nil=>exact h.elim
  | cons p ps=>
   obtain ⟨ps',h1,h2⟩:=ih h.2
   exact ⟨p::ps',⟨h.1,h1⟩,h2.cons p⟩
 | swap x y l=>
  intro ps h
  match ps,h with
  | [],h=>exact h.elim
  | [_],h=>exact h.2.elim
  | p::q::ps,h=>exact ⟨q::p::ps,⟨h.2.1,h.1,h.2.2⟩,.swap ..⟩
 | trans _ _ ih1 ih2=>
  intro ps h
  obtain ⟨ps1,a1,a2⟩:=ih2 h
  obtain ⟨ps2,b1,b2⟩:=ih1 a1
  exact ⟨ps2,b1,b2.trans a2⟩
end L2
namespace PySem
open Sem (wp)
open Builtin
end PySem
namespace L2
open PySem PySem.Spec PyProof.Rows
end L2
namespace HT2
open PySem PySem.Spec PyProof.Rows HT
variable {prog:Qj} {w:Qk} {A:Qm} {E:Qb->Qc->Prop} {s:Qc}
theorem getItem_tuple_whole {t sl:Addr} {items:Array Qb} {vl vu:Qb} {lo hi:Option Int} {Q:Qb->Qc->Prop} (ht:IsTup s.heap t items) (hs:s.heap.IsSliceOf sl vl vu .none) (pl:IsPart vl lo) (pu:IsPart vu hi)
  (hw:sIx items.size 0 lo=0/\sIx items.size items.size hi=items.size)
  (h:Q (.ref t) s):Qf (model prog w) A (getItem (.ref t) (.ref sl)) Q E s:=by
 obtain ⟨os,hos,hcs,hds⟩:=id hs
 have hTs:s.TypeIs (.ref sl) "slice":=⟨os,hos,hcs⟩
 unfold getItem
 try with_reducible refine Qo ?_
 first | refine Qa (Qd ?_) | skip
 refine Qa (wpAny_sequenceKey ht.typeIs (by decide) ?_)
 refine Qa (wpAny_callSpecial?_slot (name:=Str.ofString "__getitem__") ht.typeIs RY
  (Qq RY ht.typeIs entry_tuple_getitem ?_ (args_tuple_getitem _ _)))
 show Qf _ _ (Builtin.Tuple.tupleItemsOf (.ref t) >>= _) _ _ s
 refine Qa (tupleItemsOf_ ht ?_)
 refine Qa (Q5 hTs ?_)
 rw[if_pos (by decide)]
 refine Qa (Cy hs pl pu ?_)
 have hyes:((((sIx items.size 0 lo:Nat):Int) == 0 && (1:Int) == 1 && (sIx items.size items.size hi - sIx items.size 0 lo) == items.size)=true):=by
  rw[hw.1,hw.2]
  simp
 show Qf _ _ (if (((sIx items.size 0 lo:Nat):Int) == 0 && (1:Int) == 1 && (sIx items.size items.size hi - sIx items.size 0 lo) == items.size)=true then _ else _) _ _ s
 rw[if_pos hyes]
 refine Qa ?_
 unfold Builtin.Tuple.tupleIsExact
 refine Qa (Q5 ht.typeIs (Qd ?_))
 rw[if_pos (by decide)]
 first
  | exact Qa (QL (Qd ⟨_,rfl,Qd h⟩))
  | exact QL (Qd ⟨_,rfl,Qd h⟩)
  | exact Qa (QL (Qa (Qd (Qd ⟨_,rfl,Qd h⟩))))
end HT2
namespace L2
open PySem PySem.Spec PyProof.Rows
def rSlW (K:J4):V->Option Int->Option Int->Hp->VK->Prop:=λx lo hi H Q=>∃ a xs,x=.ref a/\SqT K H a xs/\
 ((HT.sIx xs.length 0 lo=0/\HT.sIx xs.length xs.length hi=xs.length)->Q (.ref a) H)/\
 (¬ (HT.sIx xs.length 0 lo=0/\HT.sIx xs.length xs.length hi=xs.length)->∀ p,H p=none->Q (.ref p) (upd H p (.tup (cutV xs lo hi))))
theorem sl_tupW {X:Cx}:SlR X (rSlW X.K):=by
 intro pins s σ H x v vl vu lo hi sl Q I rx hs pl pu h
 obtain ⟨a,xs,e,hx,qw,q⟩:=h
 by_cases hw:HT.sIx xs.length 0 lo=0/\HT.sIx xs.length xs.length hi=xs.length
 ·subst e
  cases rx
  obtain ⟨its,r,ht,hz⟩:=I.tuple hx
  have hlen:its.toArray.size=xs.length:=by rw[Ri]; exact r.length.symm
  refine ⟨"tuple",_,RY.lookup,ht.typeIs,?_⟩
  exact HT2.getItem_tuple_whole ht hs pl pu (by rw[hlen]; exact hw) ⟨.ref a,H,I,rfl,qw hw⟩
 ·exact Ij pins s σ H x v vl vu lo hi sl Q I rx hs pl pu ⟨a,xs,e,hx,hw,q hw⟩
end L2
namespace L2
open PySem PySem.Spec PyProof.Rows
section
variable {prog:Qj} {w:Qk} {A:Qm} {E:Qb->Qc->Prop} {s:Qc}
theorem DK {it t:Addr} {i:Nat} {its:Array Qb} {x:Qb} {Q:Qb->Qc->Prop} (hi:s.heap.IsTupleIter it t i) (ht:s.heap.IsTuple t its) (hx:its[i]?=some x)
  (hQ:∀ h',h'.IsTupleIter it t (i + 1)->Heap.SameBut it s.heap h'->Q x { s with heap:=h' }):Qf (model prog w) A (Builtin.SmallTypes.nextOf (.ref it)) Q E s:=by
 obtain ⟨oi,gi,ci,di⟩:=id hi
 obtain ⟨ot,gt,_,nt,dt⟩:=ht
 unfold Builtin.SmallTypes.nextOf
 refine Qa (wpAny_callSpecial?_slot (name:=Str.ofString "__next__") hi.typeIs US (Qq US hi.typeIs Yv ?_ (Yr _)))
 show Qf _ _ (field (.ref it) 0 >>= _) _ _ s; refine Qa (Qn gi di (x:=.ref t) rfl ?_)
 show Qf _ _ (if (Value.ref t == Value.none)=true then _ else _) _ _ s; rw[if_neg (show ¬ ((Value.ref t == Value.none)=true) from Rx)]
 show Qf _ _ (field (.ref it) 1 >>= _) _ _ s; refine Qa (Qn gi di (x:=.int i 0) rfl ?_)
 show Qf _ _ (seqItems? (.ref t) >>= _) _ _ s; refine Qa (Qu gt dt ?_)
 simp only[Rc,hx]
 have hn:∀ f,(s.heap.update it (Obj.mapFields f)).get? it=some (Obj.mapFields f oi):=λf=>Heap.get?_update_self _ gi (Obj.isFreed_of_fields (Obj.data_mapFields di _))
 refine Qa (QY gi di (by simp) (Qd ⟨x,rfl,Qd (hQ _ ⟨_,hn _,(Obj.cls_mapFields ..).trans ci,?_⟩ (Heap.SameBut.update ..))⟩))
 rw[Obj.data_mapFields di]; simp[rawInt]
theorem GN {it t:Addr} {i:Nat} {its:Array Qb} {Q:Qb->Qc->Prop} (hh:A.handled=none) (hi:s.heap.IsTupleIter it t i) (ht:s.heap.IsTuple t its) (hx:its[i]?=none)
  (hE:∀ h' e,Heap.ExtBut it s.heap h'->(∃ o,h'.get? e=some o/\o.cls=.type "StopIteration")->E (.ref e) { s with heap:=h' }):Qf (model prog w) A (Builtin.SmallTypes.nextOf (.ref it)) Q E s:=by
 obtain ⟨oi,gi,ci,di⟩:=id hi
 obtain ⟨ot,gt,_,nt,dt⟩:=ht
 unfold Builtin.SmallTypes.nextOf
 refine Qa (wpAny_callSpecial?_slot (name:=Str.ofString "__next__") hi.typeIs US (Qq US hi.typeIs Yv ?_ (Yr _)))
 show Qf _ _ (field (.ref it) 0 >>= _) _ _ s; refine Qa (Qn gi di (x:=.ref t) rfl ?_)
 show Qf _ _ (if (Value.ref t == Value.none)=true then _ else _) _ _ s; rw[if_neg (show ¬ ((Value.ref t == Value.none)=true) from Rx)]
 show Qf _ _ (field (.ref it) 1 >>= _) _ _ s; refine Qa (Qn gi di (x:=.int i 0) rfl ?_)
 show Qf _ _ (seqItems? (.ref t) >>= _) _ _ s; refine Qa (Qu gt dt ?_)
 simp only[Rc,hx]
 refine Qa (QL (Qa (QY gi di (by simp) ?_)))
 show Qf _ _ (newExc (.type "StopIteration") [] >>= _) _ _ _; refine Qa ?_
 simp only[newExc,newTuple]; refine Qa (Qt ?_ (by size_fits))
 refine Qa (m:=firstArgMember _ _) (Qv (a:=Value.none) (by first | rfl | (simp only[firstArgMember]; rfl)) (Qt ?_ (by size_fits)))
 simp only[raiseNew]; refine Qa (wpAny_handled ?_)
 first | rw[show A.in1.handled=none from hh] | rw[hh]
 exact Qa (Qd (wpAny_throw (hE _ _ (((Heap.SameBut.update ..).extBut.push _).push _) ⟨_,Heap.get?_push_size _ rfl,rfl⟩)))
def Kp4 (z TO i1 i2:Addr) (h h':Heap):Prop:=∀ c o,c≠z->c≠TO->c≠i1->c≠i2->h.get? c=some o->h'.get? c=some o
theorem zipT_end {z TI TO i1 i2 l1 l2:Addr} {k1:Nat} {xs:Array Qb} {a b:Qb} {Q:Option Qb->Qc->Prop} (hh:A.handled=none) (D:ZipApart z TI TO i1 i2 l1 l2) (kz:IsZip s.heap z TI TO .none) (kI:IsPair s.heap TI (.ref i1) (.ref i2)) (kO:IsPair s.heap TO a b)
  (j1:s.heap.IsTupleIter i1 l1 k1) (t1:s.heap.IsTuple l1 xs) (hx:xs[k1]?=none) (hQ:∀ h',Kp4 z TO i1 i2 s.heap h'->Q none { s with heap:=h' }):Qf (model prog w) A (pyNext (.ref z)) Q E s:=by
 have tz:s.TypeIs (.ref z) "zip":=⟨_,kz,rfl⟩
 unfold pyNext
 refine Qa (QK (wpAny_callSpecial?_slot (name:=Str.ofString "__next__") tz WF (Qq WF tz Zk ?_ (Y8 _))))
 show Qf _ _ (field (.ref z) 2 >>= _) _ _ _; refine Qa (Qn kz rfl (x:=.bool false) rfl ?_)
 show Qf _ _ (field (.ref z) 3 >>= _) _ _ _; refine Qa (Qn kz rfl (x:=.ref TI) rfl (Qa (Qu kI rfl ?_)))
 show Qf _ _ (Builtin.SmallTypes.ownedTupleIsFree (.ref z) >>= _) _ _ _; refine Qa ?_; unfold Builtin.SmallTypes.ownedTupleIsFree
 refine Qa (Qn kz rfl (x:=.none) rfl (Qd ?_)); simp only[if_true]
 refine Qa (QL (Qa (Qn kz rfl (x:=.ref TO) rfl (Qa (QD kz (by simp) λha kza ba=>Qa ?_)))))
 replace kza:IsZip ha z TI TO .ellipsis:=kza
 simp only[Jb3,Jc0,WC,W7]
 refine Qa (Qa (Xn ?_)); show Qf _ _ (Builtin.SmallTypes.nextOf (.ref i1) >>= _) _ _ _
 refine Qa (GN hh (j1.extBut ba.extBut D.i1z) (t1.extBut ba.extBut D.l1z) hx λhb e bb ⟨oe,ge,ce⟩=>?_)
 have kzb:IsZip hb z TI TO .ellipsis:=bb _ _ D.i1z.symm kza
 have ne:e≠z:=λq=>by subst q; rw[kzb]at ge; cases ge; simp at ce
 refine QD kzb (by simp) λhc _ bc=>?_
 refine Qa (QQ (T:="StopIteration") (b:=true) ⟨oe,bc.extBut _ _ ne ge,ce⟩ isSubtype_stop ?_)
 exact Qd (hQ _ λc o n1 _ n3 _ q=>bc.extBut _ _ n1 (bb _ _ n3 (ba.extBut _ _ n1 q)))
end
abbrev zt1 (h:Heap) (l1:Addr):Heap:=h.push { cls:=.type "tuple_iterator",data:=.fields #[.ref l1,.int 0 0] }
section
variable {prog:Qj} {w:Qk} {A:Qm} {E:Qb->Qc->Prop} {s:Qc}
end
section
variable {X:Cx} {elts:List Expr} {k:Nat} {tp:Pos}
end
end L2
namespace L2
open PySem PySem.Spec PyProof.Rows
def Itzl (K:J4) (a b:Addr):It:=
 ⟨λi H=>∃ xs x ys y,SqL K H a xs/\xs[i]?=some x/\SqL K H b ys/\ys[i]?=some y,λi H v H'=>∃ T x y,(∀ xs,SqL K H a xs->xs[i]?=some x)/\(∀ ys,SqL K H b ys->ys[i]?=some y)/\H T=none/\v=.ref T/\H'=upd H T (.tup [x,y]),λi H=>∃ xs ys,SqL K H a xs/\SqL K H b ys/\xs.length<=i⟩
theorem turn_zipL {P:Qj} {w:Qk} {K:J4} {elts:List Expr} {k:Nat} {tp:Pos} (l1 l2 z TI TO i1 i2:Addr) (D:ZipApart z TI TO i1 i2 l1 l2):Turn P w K (.Tuple elts k tp) (Itzl K l1 l2) [z,TO,i1,i2,TI] z
  (λi h=>IsZip h z TI TO .none/\IsPair h TI (.ref i1) (.ref i2)/\(∃ a b,IsPair h TO a b)/\h.IsListIter i1 l1 i/\h.IsListIter i2 l2 i) where
 mem:=by simp
 obj:=λi h st b hb=>by
  obtain ⟨kz,kI,⟨a,b',kO⟩,⟨o1,g1,_,d1⟩,⟨o2,g2,_,d2⟩⟩:=st
  simp only[Rg,Rv,or_false]at hb
  rcases hb with rfl | rfl | rfl | rfl | rfl
  ·exact ⟨_,kz,λv q=>by cases q⟩
  ·exact ⟨_,kO,λv q=>by cases q⟩
  ·exact ⟨o1,g1,λv q=>by rw[d1]at q; cases q⟩
  ·exact ⟨o2,g2,λv q=>by rw[d2]at q; cases q⟩
  ·exact ⟨_,kI,λv q=>by cases q⟩
 keep:=λi h h' ⟨kz,kI,⟨a,b',kO⟩,⟨o1,g1,r1⟩,⟨o2,g2,r2⟩⟩ kp=>⟨kp z (by simp) _ kz,kp TI (by simp) _ kI,⟨a,b',kp TO (by simp) _ kO⟩,⟨o1,kp i1 (by simp) _ g1,r1⟩,⟨o2,kp i2 (by simp) _ g2,r2⟩⟩
 item:=by
  intro X hP hw hK hc i pins s σ H E I hf st hg
  subst hP hw hK
  obtain ⟨xs,x,ys,y,hq,hx,hq',hy⟩:=hg
  obtain ⟨us,rv,p,hz⟩:=I.list hq
  obtain ⟨us',rv',p',hz'⟩:=I.list hq'
  obtain ⟨u,hu,ru⟩:=rv.get hx
  obtain ⟨u',hu',ru'⟩:=rv'.get hy
  obtain ⟨kz,kI,⟨a,b',kO⟩,j1,j2⟩:=st
  have fr:H s.heap.objs.size=none:=I.hok.fresh (J8 _)
  have hlt:∀ b∈[z,TO,i1,i2,TI],b≠s.heap.objs.size:=λb hb e=>by
   simp only[Rg,Rv,or_false]at hb
   have lt:∀ {c o},s.heap.get? c=some o->c≠s.heap.objs.size:=λq=>RC (Heap.lt_size q)
   rcases hb with rfl | rfl | rfl | rfl | rfl
   ·exact lt kz e
   ·exact lt kO e
   ·obtain ⟨_,g,_⟩:=j1; exact lt g e
   ·obtain ⟨_,g,_⟩:=j2; exact lt g e
   ·exact lt kI e
  refine Xi D kz kI kO j1 j2 p.isList p'.isList (x:=u) (y:=u') (by simpa using hu) (by simpa using hu') λh' kz' kO' j1' j2' kT hsz kp=>?_
  have I1:Inv X pins σ H { s with heap:=h',toks:=s.toks }:=I.turnedL (wr:=[z,TO,i1,i2]) (λb o hb q=>kp b o (λe=>hb (by simp[e])) (λe=>hb (by simp[e])) (λe=>hb (by simp[e])) (λe=>hb (by simp[e])) q) (λb hb=>hf b (by
   simp only[Rg,Rv,or_false]at hb ⊢
   rcases hb with e | e | e | e <;> simp[e]))
  have I2:Inv X pins σ (upd H s.heap.objs.size (.tup [x,y])) { s with heap:=h',toks:=s.toks }:=I.tracked I1 (J8 _) ⟨by show 2<=Qe; decide,[u,u'],.cons ru (.cons ru' .nil),⟨_,kT,rfl,_,rfl⟩⟩
  have hf2:∀ b∈[z,TO,i1,i2,TI],FpOk X pins (upd H s.heap.objs.size (.tup [x,y])) b:=λb hb=>by
   obtain ⟨f0,f1,f2,f3,f4,f5⟩:=hf b hb
   exact ⟨by rw[As (hlt b hb)]; exact f0,f1,f2,f3,f4,f5⟩
  refine ⟨_,rfl,Q9 kz' λh'' kz'' bs=>?_⟩
  have bk:∀ b o,b≠z->h'.get? b=some o->h''.get? b=some o:=λb o n q=>(bs.2 b n).trans q
  obtain ⟨o1,g1,r1⟩:=j1'
  obtain ⟨o2,g2,r2⟩:=j2'
  refine ⟨.ref s.heap.objs.size,_,I2.turnedL (wr:=[z]) (t':=s.toks) (λb o hb q=>bk b o (λe=>hb (by simp[e])) q) (λb hb=>hf2 b (by rw[Rh.mp hb]; simp)),rfl,
   ⟨_,x,y,λzs hs=>by rw[I.list_inj hs hq]; exact hx,λzs hs=>by rw[I.list_inj hs hq']; exact hy,fr,rfl,rfl⟩,
   ⟨kz'',bk _ _ D.TIz (kp _ _ D.TIz D.TITO D.TIi1 D.TIi2 kI),⟨_,_,bk _ _ D.TOz kO'⟩,⟨o1,bk _ _ D.i1z g1,r1⟩,⟨o2,bk _ _ D.i2z g2,r2⟩⟩,λb hb=>(hf2 b hb).1⟩
 done:=by
  intro X hP hw hK hc i pins s σ H E I hf st hg
  subst hP hw hK
  obtain ⟨xs,ys,hq,hq',hx⟩:=hg
  obtain ⟨us,rv,p,hz⟩:=I.list hq
  obtain ⟨us',rv',p',hz'⟩:=I.list hq'
  have hl:=rv.length
  obtain ⟨kz,kI,⟨a,b',kO⟩,j1,j2⟩:=st
  exact Xl (I.ok.hd hc) D kz kI kO j1 j2 p.isList p'.isList (.inl (by simp; omega)) λh' kp=>⟨rfl,I.turnedL (wr:=[z,TO,i1,i2]) (t':=s.toks) (λb o hb q=>kp b o (λe=>hb (by simp[e])) (λe=>hb (by simp[e])) (λe=>hb (by simp[e])) (λe=>hb (by simp[e])) q) (λb hb=>hf b (by
   simp only[Rg,Rv,or_false]at hb ⊢
   rcases hb with e | e | e | e <;> simp[e]))⟩
 self:=λ_ _ _ _ _ st h=>QR st.1 h
section
variable {X:Cx} {elts:List Expr} {k:Nat} {tp:Pos}
def Mt (K:J4) (ta:TA):TI:=λσ H R=>ta σ H λvs H1=>∃ a b,vs=[.ref a,.ref b]/\(∃ xs,SqL K H1 a xs)/\(∃ ys,SqL K H1 b ys)/\R (Itzl K a b) H1
theorem pi_zipL {a b:Expr} {ta:TA} {p pos:Pos} (hg:Gl X "zip") (hm:X.mg "zip"=none) (ha:PA X [a,b] ta) (hs:Qg [a,b] X.env=[(false,eval a X.env),(false,eval b X.env)]:=by rfl) (hs2:Qg [b] X.env=[(false,eval b X.env)]:=by rfl):PI X (.Tuple elts k tp) (.Call (.Name "zip" p) [a,b] [] pos) (Mt X.K ta):=by
 intro pins s σ H R I h
 refine Call_ (BU I hg hm (show Qr "zip"=some (.type "zip") by decide +kernel) (RK (thn (ha pos pins s σ H _ I h) λus s1 ⟨vs,H1,I1,r1,q1⟩=>?_) (by rw[hs,hs2]) (by rw[hs2]; rfl)))
 obtain ⟨a,b,e,⟨xs,hq⟩,⟨ys,hq'⟩,q⟩:=q1
 subst e
 cases r1 with
 | cons ra rr=>
  cases rr with
  | cons rb rr=>
   cases rr
   cases ra
   cases rb
   obtain ⟨its,rv,pl,hz⟩:=I1.list hq
   obtain ⟨its',rv',pl',hz'⟩:=I1.list hq'
   have la:a < s1.heap.objs.size:=by obtain ⟨_,g,_⟩:=pl.isList; exact Heap.lt_size g
   have lb:b < s1.heap.objs.size:=by obtain ⟨_,g,_⟩:=pl'.isList; exact Heap.lt_size g
   refine call_zip_2 pl.isList pl'.isList λh' kz kI kO j1 j2 hsz kp=>?_
   have I2:Inv X pins σ H1 { s1 with heap:=h' }:=I1.kept (t':=s1.toks) kp
   refine QR kz ?_
   have D:ZipApart (s1.heap.objs.size + 4) (s1.heap.objs.size + 2) (s1.heap.objs.size + 3) s1.heap.objs.size (s1.heap.objs.size + 1) a b:=YA _ _ _ la lb
   refine ⟨s1.heap.objs.size + 4,[s1.heap.objs.size + 4,s1.heap.objs.size + 3,s1.heap.objs.size,s1.heap.objs.size + 1,s1.heap.objs.size + 2],_,_,H1,rfl,I2,turn_zipL a b _ _ _ _ _ D,⟨kz,kI,⟨_,_,kO⟩,j1,j2⟩,λc hc=>?_,q⟩
   have:s1.heap.objs.size<=c:=by
    simp only[Rg,Rv,or_false]at hc
    rcases hc with rfl | rfl | rfl | rfl | rfl
    ·exact Um _ _
    ·exact Um _ _
    ·exact J8 _
    ·exact Um _ _
    ·exact Um _ _
   exact I1.fpOk this (I1.hok.fresh this)
theorem qi_zipL {a b:Expr} {ta:TA} {p pos:Pos} (hg:Gl X "zip") (hm:X.mg "zip"=none) (ha:QA X [a,b] ta) (hs:Qg [a,b] X.env=[(false,eval a X.env),(false,eval b X.env)]:=by rfl) (hs2:Qg [b] X.env=[(false,eval b X.env)]:=by rfl):QI X (.Tuple elts k tp) (.Call (.Name "zip" p) [a,b] [] pos) (Mt X.K ta):=⟨pi_zipL hg hm ha.h hs hs2⟩
end
theorem for_zipL {K:J4} {a b:Addr} {xs ys:List V} {g:TG} {tb:TS} {D:Ends} {σ:St} {H:Hp} (hlen:xs.length=ys.length) (Pv:Nat->St->Hp->Prop) (h0:Pv 0 σ H) (hl:∀ i σ H,i<=xs.length->Pv i σ H->SqL K H a xs/\SqL K H b ys)
  (hs:∀ i x y T σ H,xs[i]?=some x->ys[i]?=some y->Pv i σ H->H T=none->g (.ref T) σ (upd H T (.tup [x,y])) λσ2 H2=>tb { D with nx:=Pv (i + 1),ct:=Pv (i + 1),bk:=D.nx } σ2 H2) (hd:∀ σ H,Pv xs.length σ H->D.nx σ H) :
  ∃ W:Nat->Nat->St->Hp->Prop,(∃ m,W 0 m σ H)/\∀ i m σ H,W i m σ H->
   ((Itzl K a b).stop i H/\D.nx σ H)\/((Itzl K a b).go i H/\∃ N:St->Hp->Prop,(∀ σ' H',N σ' H'->∃ m',m' < m/\W (i + 1) m' σ' H')/\∀ x H',(Itzl K a b).yld i H x H'->g x σ H' λσ2 H2=>tb { D with nx:=N,ct:=N,bk:=D.nx } σ2 H2):=by
 refine ⟨λi m σ H=>m=xs.length - i/\i<=xs.length/\Pv i σ H,⟨xs.length,by simp,RP _,h0⟩,?_⟩
 rintro i m σ H ⟨rfl,hi,p⟩
 obtain ⟨q,q'⟩:=hl i σ H hi p
 by_cases hlt:i < xs.length
 ·have hlt':i < ys.length:=hlen▸hlt
  refine .inr ⟨⟨xs,xs[i],ys,ys[i],q,by simp[hlt],q',by simp[hlt']⟩,Pv (i + 1),λσ' H' p'=>⟨xs.length - (i + 1),by omega,rfl,hlt,p'⟩,λv H' hy=>?_⟩
  obtain ⟨T,x,y,hx,hy,hT,rfl,rfl⟩:=hy
  exact hs i x y T σ _ (hx xs q) (hy ys q') p hT
 ·have e:i=xs.length:=by omega
  subst e
  exact .inl ⟨⟨xs,ys,q,q',J8 _⟩,hd σ H p⟩
end L2
namespace L2
open PySem PySem.Spec PyProof.Rows
section
variable {prog:Qj} {w:Qk} {A:Qm} {E:Qb->Qc->Prop} {s:Qc}
theorem Dq {h:Heap} {t it:Addr} {its:Array Qb} {i:Nat} (p:h.IsTuple t its) (q:h.IsTupleIter it t i):t≠it:=λz=>by
 obtain ⟨o,ho,hc,_⟩:=q
 obtain ⟨o',ho',hc',_⟩:=p
 rw[z,ho]at ho'
 cases ho'
 rw[hc]at hc'
 exact absurd hc' (by decide)
theorem EJ {h:Heap} {e it t:Addr} {its:Array Qb} {i:Int} {old:Qb} (q:IsEnum h e it i old) (p:h.IsTuple t its):e≠t:=λz=>by
 obtain ⟨o',ho',hc',_⟩:=p
 rw[<- z,q]at ho'
 cases ho'
 exact absurd (show Value.type "enumerate"=Value.type "tuple" from hc') (by decide)
theorem Ix (hh:A.handled=none) {it t:Addr} (hne:t≠it) (its:Array Qb):Draws prog w A it [it,t] its.size (λi v=>its[i]?=some v) (λi h=>h.IsTupleIter it t i/\h.IsTuple t its) where
 live:=λ_ _ st=>by
  obtain ⟨⟨o,ho,_⟩,_⟩:=st
  exact ⟨o,ho⟩
 frame:=λ_ _ _ st hk=>⟨st.1.at λo e=>hk it (by simp) o e,st.2.at λo e=>hk t (by simp) o e⟩
 item:=λi s Q E hi st hQ=>DK st.1 st.2 (x:=its[i]) (by simp[hi]) λh' j sb=>hQ _ h' s.toks (by simp[hi]) ⟨j,st.2.extBut sb.extBut hne⟩ sb
 done:=λs Q E st hE=>GN hh st.1 st.2 (by simp) hE
abbrev et1 (h:Heap) (t:Addr):Heap:=h.push { cls:=.type "tuple_iterator",data:=.fields #[.ref t,.int 0 0] }
abbrev et2 (h:Heap) (t:Addr):Heap:=(et1 h t).push { cls:=.type "enumerate",data:=.fields #[.none,.bool false,.ref h.objs.size,rawInt 0,.none,.none] }
theorem enumT_new (t:Addr) (its:Array Qb) :
  Meets (Builtin.«enumerate.__new__» ⟨[.type "enumerate",.ref t],[]⟩) (λ_ R s=>s.heap.IsTuple t its/\R (.ok (.ret (.ref (et1 s.heap t).objs.size))) { s with heap:=et2 s.heap t }):=
 .of_wp λprog w A R s h=>by
  obtain ⟨hp,g,d,tk,os⟩:=s; obtain ⟨g1,h⟩:=h
  have hsub:=sub_enumerate
  have a1:Heap.IsTuple (Shared.heap ⟨hp,g,d,tk,os⟩) t its:=g1
  obtain ⟨⟨oc,od,odt,osl⟩,hl,hc,n,hd⟩:=id g1
  replace hc:oc=.type "tuple":=hc
  replace hd:odt=.seq its n:=hd
  subst hc hd
  wp_walk using AutoSeq1.wpAny_loadPart' hl
  refine wpAny_stack_any λst=>Qd ?_
  split
  ·rename_i c _ _ _ _ _
   cases (c == Value.type "enumerate")
   ·wp_walk using AutoSeq1.wpAny_loadPart' hl,Qs a1
    exact ⟨_,rfl,h⟩
   ·wp_walk using AutoSeq1.wpAny_loadPart' hl,Qs a1
    exact ⟨_,rfl,h⟩
  ·wp_walk using AutoSeq1.wpAny_loadPart' hl,Qs a1
   exact ⟨_,rfl,h⟩
theorem call_enumT {t:Addr} {its:Array Qb} {Q:Qb->Qc->Prop} (g1:s.heap.IsTuple t its)
  (h:∀ h',IsEnum h' (s.heap.objs.size + 1) s.heap.objs.size 0 .none->h'.IsTupleIter s.heap.objs.size t 0->(∀ c o,s.heap.get? c=some o->h'.get? c=some o)->Q (.ref (s.heap.objs.size + 1)) { s with heap:=h' }) :
  Qf (model prog w) A (call (.type "enumerate") [.ref t]) Q E s:=by
 refine callType_new YZ (by decide) (PySem.F.typeCall_enumerate_1 _) (PySem.F.newCall_enumerate_1 _) (λobj=>YO obj _) YM (enumT_new t its) ⟨g1,?_⟩
 have n1:(et1 s.heap t).objs.size=s.heap.objs.size + 1:=Heap.size_push ..
 have q2:(et2 s.heap t).get? (et1 s.heap t).objs.size=some _:=Heap.get?_push_size _ rfl
 have q1:(et2 s.heap t).get? s.heap.objs.size=some _:=Heap.get?_push_of_some _ (Heap.get?_push_size _ rfl)
 show _/\_
 rw[n1]at q2
 rw[n1]
 exact ⟨⟨_,q2,rfl⟩,h _ q2 ⟨_,q1,rfl,rfl⟩ λc o q=>Heap.get?_push_of_some _ (Heap.get?_push_of_some _ q)⟩
end
def Itet (K:J4) (a:Addr):It:=
 ⟨λi H=>∃ xs x,SqT K H a xs/\xs[i]?=some x,λi H v H'=>∃ T x,(∀ xs,SqT K H a xs->xs[i]?=some x)/\H T=none/\v=.ref T/\H'=upd H T (.tup [.int (i:Nat),x]),λi H=>∃ xs,SqT K H a xs/\xs.length=i⟩
theorem turn_enumT {P:Qj} {w:Qk} {K:J4} {elts:List Expr} {k:Nat} {tp:Pos} (l e it:Addr) (hei:e≠it):Turn P w K (.Tuple elts k tp) (Itet K l) [e,it] e (λi h=>(∃ old,IsEnum h e it ((i:Nat):Int) old)/\h.IsTupleIter it l i) where
 mem:=by simp
 obj:=λi h st b hb=>by
  obtain ⟨⟨old,he⟩,o,ho,hc,hd⟩:=st
  simp only[Rg,Rv,or_false]at hb
  rcases hb with rfl | rfl
  ·exact ⟨_,he,λv z=>by cases z⟩
  ·exact ⟨o,ho,λv z=>by rw[hd]at z; cases z⟩
 keep:=λi h h' st kp=>⟨⟨_,kp e (by simp) _ st.1.choose_spec⟩,st.2.at λo q=>kp it (by simp) o q⟩
 item:=by
  intro X hP hw hK hc i pins s σ H E I hf st hg
  subst hP hw hK
  obtain ⟨xs,x,hq,hx⟩:=hg
  obtain ⟨its,rv,p,hz⟩:=I.tuple hq
  obtain ⟨u,hu,ru⟩:=rv.get hx
  obtain ⟨⟨old,he⟩,hit⟩:=st
  have hlt:∀ b∈[e,it],b≠s.heap.objs.size:=λb hb z=>by
   simp only[Rg,Rv,or_false]at hb
   rcases hb with rfl | rfl
   ·exact absurd (z▸Heap.lt_size he) (Ry _)
   ·obtain ⟨_,ho,_⟩:=hit
    exact absurd (z▸Heap.lt_size ho) (Ry _)
  have fr:H s.heap.objs.size=none:=I.hok.fresh (J8 _)
  have p':s.heap.IsTuple l its.toArray:=p
  have hlen:=rv.length
  have hil:=(J3.mp hx).1
  refine Xb (Ix (show X.A.in1.handled=none from I.ok.hd hc) (Dq p' hit) its.toArray) he ⟨hit,p'⟩ (by rw[Ri]; omega) hei (by
   simp only[Rg,Rv,or_false,not_or]
   exact ⟨hei,EJ he p'⟩) λy h' tk hy ho hit2 hT hsz hk=>?_
  have hit':=hit2.1
  have ey:y=u:=by
   rw[ZI,hu]at hy
   exact (Uc hy).symm
  subst ey
  have I1:Inv X pins σ H { s with heap:=h',toks:=tk + 1 }:=I.turnedL (wr:=[e,it]) (λb o hb q=>hk b o (λz=>hb (by simp[z])) (λz=>hb (by simp[z])) q) hf
  have I2:Inv X pins σ (upd H s.heap.objs.size (.tup [.int (i:Nat),x])) { s with heap:=h',toks:=tk + 1 }:=I.tracked I1 (J8 _) ⟨by show 2<=Qe; decide,[.int i tk,y],.cons ⟨_,rfl⟩ (.cons ru .nil),⟨_,hT,rfl,_,rfl⟩⟩
  have hf2:∀ b∈[e,it],FpOk X pins (upd H s.heap.objs.size (.tup [.int (i:Nat),x])) b:=λb hb=>by
   obtain ⟨f0,f1,f2,f3,f4,f5⟩:=hf b hb
   exact ⟨by rw[As (hlt b hb)]; exact f0,f1,f2,f3,f4,f5⟩
  refine ⟨_,rfl,QV ho λh'' he' hs'=>?_⟩
  refine ⟨.ref s.heap.objs.size,_,I2.turnedL (wr:=[e]) (t':=tk + 1) (λb o hb q=>(hs'.2 b (λz=>hb (by simp[z]))).trans q) (λb hb=>hf2 b (by rw[Rh.mp hb]; simp)),rfl,⟨_,x,λys hy=>by rw[I.tuple_inj hy hq]; exact hx,fr,rfl,rfl⟩,⟨⟨_,by simpa using he'⟩,hit'.at λo q=>(hs'.2 it hei.symm).trans q⟩,λb hb=>(hf2 b hb).1⟩
 done:=by
  intro X hP hw hK hc i pins s σ H E I hf st hg
  subst hP hw hK
  obtain ⟨xs,hq,hx⟩:=hg
  obtain ⟨its,rv,p,hz⟩:=I.tuple hq
  have hl:=rv.length
  obtain ⟨⟨old,he⟩,hit⟩:=st
  have p':s.heap.IsTuple l its.toArray:=p
  have hsz:its.toArray.size=i:=by rw[Ri]; omega
  have D:=Ix (prog:=X.prog) (w:=X.w) (show X.A.in1.handled=none from I.ok.hd hc) (Dq p' hit) its.toArray
  rw[hsz]at D
  exact Xe D he ⟨hit,p'⟩ λh' eb=>⟨rfl,I.turnedL (wr:=[it]) (t':=s.toks) (λb o hb q=>eb b o (λz=>hb (by simp[z])) q) (λb hb=>hf b (by rw[Rh.mp hb]; simp))⟩
 self:=λ_ _ _ _ _ st h=>QH st.1.choose_spec h
section
variable {X:Cx} {elts:List Expr} {k:Nat} {tp:Pos}
def Lg (K:J4) (ta:TA):TI:=λσ H R=>ta σ H λvs H1=>∃ a,vs=[.ref a]/\(∃ xs,SqT K H1 a xs)/\R (Itet K a) H1
theorem pi_enumT {a:Expr} {ta:TA} {p pos:Pos} (hg:Gl X "enumerate") (hm:X.mg "enumerate"=none) (ha:PA X [a] ta) (hs:Qg [a] X.env=[(false,eval a X.env)]:=by rfl):PI X (.Tuple elts k tp) (.Call (.Name "enumerate" p) [a] [] pos) (Lg X.K ta):=by
 intro pins s σ H R I h
 refine Call_ (BU I hg hm (show Qr "enumerate"=some (.type "enumerate") by decide +kernel) (RK (thn (ha pos pins s σ H _ I h) λus s1 ⟨vs,H1,I1,r1,q1⟩=>?_) (by rw[hs]; rfl) (by rfl)))
 obtain ⟨a,e,⟨xs,hq⟩,q⟩:=q1
 subst e
 obtain ⟨u,rfl,rx⟩:=CB r1
 cases rx
 obtain ⟨its,rv,pl,hz⟩:=I1.tuple hq
 refine call_enumT pl λh' he hit kp=>?_
 have I2:Inv X pins σ H1 { s1 with heap:=h' }:=I1.kept (t':=s1.toks) kp
 refine QH he ?_
 refine ⟨s1.heap.objs.size + 1,[s1.heap.objs.size + 1,s1.heap.objs.size],_,_,H1,rfl,I2,turn_enumT a _ _ (YV _),⟨⟨_,he⟩,hit⟩,λb hb=>?_,q⟩
 simp only[Rg,Rv,or_false]at hb
 rcases hb with rfl | rfl
 ·exact I1.fpOk (Uv _) (I1.hok.fresh (Uv _))
 ·exact I1.fpOk (J8 _) (I1.hok.fresh (J8 _))
theorem CW {a:Expr} {ta:TA} {p pos:Pos} (hg:Gl X "enumerate") (hm:X.mg "enumerate"=none) (ha:QA X [a] ta) (hs:Qg [a] X.env=[(false,eval a X.env)]:=by rfl):QI X (.Tuple elts k tp) (.Call (.Name "enumerate" p) [a] [] pos) (Lg X.K ta):=⟨pi_enumT hg hm ha.h hs⟩
end
theorem CI {K:J4} {a:Addr} {xs:List V} {g:TG} {tb:TS} {D:Ends} {σ:St} {H:Hp} (Pv:Nat->St->Hp->Prop) (h0:Pv 0 σ H) (hl:∀ i σ H,i<=xs.length->Pv i σ H->SqT K H a xs)
  (hs:∀ i x T σ H,xs[i]?=some x->Pv i σ H->H T=none->g (.ref T) σ (upd H T (.tup [.int (i:Nat),x])) λσ2 H2=>tb { D with nx:=Pv (i + 1),ct:=Pv (i + 1),bk:=D.nx } σ2 H2) (hd:∀ σ H,Pv xs.length σ H->D.nx σ H) :
  ∃ W:Nat->Nat->St->Hp->Prop,(∃ m,W 0 m σ H)/\∀ i m σ H,W i m σ H->
   ((Itet K a).stop i H/\D.nx σ H)\/((Itet K a).go i H/\∃ N:St->Hp->Prop,(∀ σ' H',N σ' H'->∃ m',m' < m/\W (i + 1) m' σ' H')/\∀ x H',(Itet K a).yld i H x H'->g x σ H' λσ2 H2=>tb { D with nx:=N,ct:=N,bk:=D.nx } σ2 H2):=by
 refine ⟨λi m σ H=>m=xs.length - i/\i<=xs.length/\Pv i σ H,⟨xs.length,by simp,RP _,h0⟩,?_⟩
 rintro i m σ H ⟨rfl,hi,p⟩
 have q:=hl i σ H hi p
 by_cases hlt:i < xs.length
 ·refine .inr ⟨⟨xs,xs[i],q,by simp[hlt]⟩,Pv (i + 1),λσ' H' p'=>⟨xs.length - (i + 1),by omega,rfl,hlt,p'⟩,λv H' y=>?_⟩
  obtain ⟨T,x,hx,hT,rfl,rfl⟩:=y
  exact hs i x T σ _ (hx xs q) p hT
 ·have e:i=xs.length:=by omega
  subst e
  exact .inl ⟨⟨xs,q,rfl⟩,hd σ H p⟩
end L2
namespace L2
open PySem PySem.Spec PyProof.Rows
section
variable {prog:Qj} {w:Qk} {A:Qm} {E:Qb->Qc->Prop} {s:Qc}
end
theorem FnOk.or {P:Qj} {w:Qk} {K:J4} {mg:Str->Option Qb} {base:Heap} {CX:CXT} {k:Nat} {f:Addr} {fd:Qh} {ps:List Str} {sp sp':Sp} (F:FnOk P w K mg base CX k f fd ps sp) (F':FnOk P w K mg base CX k f fd ps sp'):FnOk P w K mg base CX k f fd ps (λvs H Q E=>sp vs H Q E\/sp' vs H Q E):=
 ⟨λvs H Q E h=>h.elim (F.len vs H Q E) (F'.len vs H Q E),λA outer s H args us vs Q E r e b v h=>h.elim (F.run A outer s H args us vs Q E r e b v) (F'.run A outer s H args us vs Q E r e b v)⟩
end L2
namespace L2
open PySem PySem.Spec PyProof.Rows
abbrev et2K (h:Heap) (t:Addr) (k:Nat):Heap:=(et1 h t).push { cls:=.type "enumerate",data:=.fields #[.none,.bool false,.ref h.objs.size,rawInt ((k:Nat):Int),.none,.none] }
theorem initKw {T newId:String} {self a:Qb} {kw:List (Str×Qb)} (hl:typeLookup (.type T) "__init__"=pure (some (.builtin "object.__init__"))) (hm:Bind.madeBy (.type T)=pure (some newId)) (hne:(some newId != some "object.__new__")=true) :
  Meets (Builtin.«object.__init__» ⟨[self,a],kw⟩) (λ_ R s=>s.TypeIs self T/\R (.ok (.ret .none)) s):=.of_wp λprog w A R s hs=>by
 obtain ⟨hT,hq⟩:=hs
 repeat (any_goals (first | assumption | wp_step))
 exact ⟨_,rfl,hq⟩
theorem fits_small {k:Nat} (hk:k < 1000):(!Builtin.SmallTypes.fitsIndex ((k:Nat):Int))=false:=by
 simp[Builtin.SmallTypes.fitsIndex]
 omega
theorem enumK_new (t:Addr) (its:Array Qb) (k:Nat) (kt:Tok) (hk:k < 1000) :
  Meets (Builtin.«enumerate.__new__» ⟨[.type "enumerate",.ref t],[("start",.int ((k:Nat):Int) kt)]⟩) (λ_ R s=>s.heap.IsTuple t its/\R (.ok (.ret (.ref (et1 s.heap t).objs.size))) { s with heap:=et2K s.heap t k }):=
 .of_wp λprog w A R s h=>by
  obtain ⟨hp,g,d,tk,os⟩:=s; obtain ⟨g1,h⟩:=h
  have hsub:=sub_enumerate
  have a1:Heap.IsTuple (Shared.heap ⟨hp,g,d,tk,os⟩) t its:=g1
  obtain ⟨⟨oc,od,odt,osl⟩,hl,hc,n,hd⟩:=id g1
  replace hc:oc=.type "tuple":=hc
  replace hd:odt=.seq its n:=hd
  subst hc hd
  have hfit:=fits_small hk
  wp_walk using AutoSeq1.wpAny_loadPart' hl
  refine wpAny_stack_any λst=>Qd ?_
  split
  ·rename_i c _ _ _ _ _
   cases (c == Value.type "enumerate")
   ·simp only[Uu,if_false]
    refine Qa ?_; refine Qv (a:=(Value.ref t,some (Value.int ((k:Nat):Int) kt))) ?_ ?_
    ·kernel_rfl
    revert hfit
    generalize Builtin.SmallTypes.fitsIndex=fi
    intro hfi
    wp_walk using Qs a1
    exact ⟨_,rfl,h⟩
   ·simp only[if_true]
    refine Qa ?_; refine Qv (a:=(Value.ref t,some (Value.int ((k:Nat):Int) kt))) ?_ ?_
    ·kernel_rfl
    revert hfit
    generalize Builtin.SmallTypes.fitsIndex=fi
    intro hfi
    wp_walk using Qs a1
    exact ⟨_,rfl,h⟩
  ·simp only[Uu,if_false]
   refine Qa ?_; refine Qv (a:=(Value.ref t,some (Value.int ((k:Nat):Int) kt))) ?_ ?_
   ·kernel_rfl
   revert hfit
   generalize Builtin.SmallTypes.fitsIndex=fi
   intro hfi
   wp_walk using Qs a1
   exact ⟨_,rfl,h⟩
section
variable {prog:Qj} {w:Qk} {A:Qm} {E:Qb->Qc->Prop} {s:Qc}
theorem callKw {T newId:String} {Bn:Builtin} {a:Qb} {kw:List (Str×Qb)} {S:PySem.Spec} {Q:Qb->Qc->Prop} (ft:TypeCalled T newId "object.__init__") (hne:(some newId != some "object.__new__")=true)
  (hct:checkTypeCall T ⟨[a],kw⟩=pure ()) (hcn:checkBuiltinCall newId ⟨[.type T,a],kw⟩=pure ()) (hok:∀ obj,argsOk "object.__init__" ⟨[obj,a],kw⟩) (entryN:entryFor table newId=some Bn) (g:Meets (Bn ⟨[.type T,a],kw⟩) S)
  (h:S A.in1 (wants (λobj s1=>s1.TypeIs obj T/\Q obj s1) E) s):Qf (model prog w) A (call (.type T) [a] kw) Q E s:=by
 obtain ⟨c,tl,hmro⟩:=ft.mro
 have hmade:=ft.made; have hsub:=ft.sub; have h1:=ft.notType; have h2:=ft.canCreate
 refine Q8 (QX ?_); show Qf _ _ (callAny (.type T) _) _ _ _
 refine Qd ⟨Code.quiet_builtin _ (by decide +kernel),Qy W8 ?_⟩
 rw[Around.under_plain (weight_type_call_type T [a] kw) (units_type_call_type T [a] kw)]
 repeat (any_goals (first | assumption | wp_step))
 refine QB (QU ft.plain entryN (Qv hcn (g prog w A.in1 _ s h))) λr s1 hr=>?_
 cases r with
 | error e=>exact hr
 | ok fl=>
  cases fl with
  | ret obj=>
   obtain ⟨hT,hq0⟩:=hr
   have hli:=ft.init.lookup; have hbi:=ft.init.bind obj
   repeat (any_goals (first | assumption | wp_step))
   refine QB (QU ft.init.plain YU (ft.init.check _ _ _ _ _ _ _ _ hT (hok obj) (initKw ft.init.lookup ft.made hne prog w A.in1 (wants (λr s2=>r=.none/\Q obj s2) E) s1 ⟨hT,rfl,hq0⟩))) λr2 s2 hr2=>?_
   cases r2 with
   | error e=>exact hr2
   | ok fl2=>
    cases fl2 with
    | ret r=>
     obtain ⟨rfl,hq⟩:=hr2
     repeat (any_goals (first | assumption | wp_step))
    | _=>exact hr2.elim
  | _=>exact hr.elim
end
theorem drawsK {prog:Qj} {w:Qk} {A:Qm} {it:Addr} {fp:List Addr} {n:Nat} {Pd:Nat->Qb->Prop} {St:Nat->Heap->Prop} (k0:Nat) (D:Draws prog w A it fp n Pd St):Draws prog w A it fp (k0 + n) (λi v=>Pd (i - k0) v) (λi h=>k0<=i/\St (i - k0) h) where
 live:=λi h st=>D.live _ _ st.2
 frame:=λi h h' st hk=>⟨st.1,D.frame _ _ _ st.2 hk⟩
 item:=λi s Q E hi st hQ=>D.item (i - k0) s Q E (by have:=st.1; omega) st.2 λx h' tk hp hst hs=>hQ x h' tk hp ⟨J6 st.1 (Uv _),by rw[show i + 1 - k0=i - k0 + 1 by have:=st.1; omega]; exact hst⟩ hs
 done:=λs Q E st hE=>D.done s Q E (by have h2:=st.2; rw[U4]at h2; exact h2) hE
section
variable {prog:Qj} {w:Qk} {A:Qm} {E:Qb->Qc->Prop} {s:Qc}
theorem call_enumK {t:Addr} {its:Array Qb} {k:Nat} {kt:Tok} {Q:Qb->Qc->Prop} (hk:k < 1000) (g1:s.heap.IsTuple t its)
  (h:∀ h',IsEnum h' (s.heap.objs.size + 1) s.heap.objs.size ((k:Nat):Int) .none->h'.IsTupleIter s.heap.objs.size t 0->(∀ c o,s.heap.get? c=some o->h'.get? c=some o)->Q (.ref (s.heap.objs.size + 1)) { s with heap:=h' }) :
  Qf (model prog w) A (call (.type "enumerate") [.ref t] [("start",.int ((k:Nat):Int) kt)]) Q E s:=by
 refine callKw YZ (by decide) (by kernel_rfl) (by kernel_rfl) (λobj=>by unfold argsOk; rw[signature?_of (id:="object.__init__") (n:=['_', '_', 't', 'i', 'n', 'i', '_', '_']) (o:=['t', 'c', 'e', 'j', 'b', 'o']) (by kernel_rfl) PySem.F.owner_object]; kernel_rfl) YM (enumK_new t its k kt hk) ⟨g1,?_⟩
 have n1:(et1 s.heap t).objs.size=s.heap.objs.size + 1:=Heap.size_push ..
 have q2:(et2K s.heap t k).get? (et1 s.heap t).objs.size=some _:=Heap.get?_push_size _ rfl
 have q1:(et2K s.heap t k).get? s.heap.objs.size=some _:=Heap.get?_push_of_some _ (Heap.get?_push_size _ rfl)
 show _/\_
 rw[n1]at q2
 rw[n1]
 exact ⟨⟨_,q2,rfl⟩,h _ q2 ⟨_,q1,rfl,rfl⟩ λc o q=>Heap.get?_push_of_some _ (Heap.get?_push_of_some _ q)⟩
end
section
variable {M:Model} {A:Qm} {E:Qb->Qc->Prop} {s:Qc} {env:Env}
theorem callWithTK {pos:Pos} {T:String} {e:Expr} {rest:List Expr} {kws:List Keyword} {Q:Qb->Qc->Prop}
  (h:Qf M A (spliced (backTo pos (Qg (e::rest) env))) (λvs s1=>Qf M A (evalAll ((backToKw pos (keywordEach kws env)).map (·.2))) (λkvs s2=>Qf M A (call (.type T) vs (((backToKw pos (keywordEach kws env)).filterMap (·.1)).zip kvs)) Q E s2) E s1) E s)
  (he:backTo pos (Qg (e::rest) env)=(false,eval e env)::backTo pos (Qg rest env)) (hplain:(backTo pos (Qg (e::rest) env)).any (·.1)=false) (hall:(backToKw pos (keywordEach kws env)).all (·.1.isSome)=true) (hkw:(backToKw pos (keywordEach kws env)).any (·.1.isNone)=false) :
  Qf M A (callWith pos (.type T) [] (backTo pos (Qg (e::rest) env)) (backToKw pos (keywordEach kws env))) Q E s:=by
 have h0:Qf M A (evalArgs (.type T) true (backTo pos (Qg (e::rest) env)) (backToKw pos (keywordEach kws env))) (λa s1=>Qf M A (call (.type T) ([]++a.pos) a.kw) Q E s1) E s:=by
  rw[he]at h ⊢
  exact evalArgs_kwB hall h
 unfold callWith
 refine Qa (Qo (Qw h0 (λa s1 h1=>Qa (Q1 ?_)) λ_ _ x=>x)); simp only[hplain,hkw,Jd2]
 exact Qa (Qd (Qa (Qw h1 (λr s2 hr=>Qa (Qo (wpAny_point (Qd hr)))) λ_ _ x=>x)))
end
def Itek (K:J4) (a:Addr) (k0:Nat):It:=
 ⟨λi H=>∃ xs x,SqT K H a xs/\xs[i]?=some x,λi H v H'=>∃ T x,(∀ xs,SqT K H a xs->xs[i]?=some x)/\H T=none/\v=.ref T/\H'=upd H T (.tup [.int ((k0 + i:Nat):Int),x]),λi H=>∃ xs,SqT K H a xs/\xs.length=i⟩
theorem turn_enumK {k0:Nat} {P:Qj} {w:Qk} {K:J4} {elts:List Expr} {k:Nat} {tp:Pos} (l e it:Addr) (hei:e≠it):Turn P w K (.Tuple elts k tp) (Itek K l k0) [e,it] e (λi h=>(∃ old,IsEnum h e it ((k0 + i:Nat):Int) old)/\h.IsTupleIter it l i) where
 mem:=by simp
 obj:=λi h st b hb=>by
  obtain ⟨⟨old,he⟩,o,ho,hc,hd⟩:=st
  simp only[Rg,Rv,or_false]at hb
  rcases hb with rfl | rfl
  ·exact ⟨_,he,λv z=>by cases z⟩
  ·exact ⟨o,ho,λv z=>by rw[hd]at z; cases z⟩
 keep:=λi h h' st kp=>⟨⟨_,kp e (by simp) _ st.1.choose_spec⟩,st.2.at λo q=>kp it (by simp) o q⟩
 item:=by
  intro X hP hw hK hc i pins s σ H E I hf st hg
  subst hP hw hK
  obtain ⟨xs,x,hq,hx⟩:=hg
  obtain ⟨its,rv,p,hz⟩:=I.tuple hq
  obtain ⟨u,hu,ru⟩:=rv.get hx
  obtain ⟨⟨old,he⟩,hit⟩:=st
  have hlt:∀ b∈[e,it],b≠s.heap.objs.size:=λb hb z=>by
   simp only[Rg,Rv,or_false]at hb
   rcases hb with rfl | rfl
   ·exact absurd (z▸Heap.lt_size he) (Ry _)
   ·obtain ⟨_,ho,_⟩:=hit
    exact absurd (z▸Heap.lt_size ho) (Ry _)
  have fr:H s.heap.objs.size=none:=I.hok.fresh (J8 _)
  have p':s.heap.IsTuple l its.toArray:=p
  have hlen:=rv.length
  have hil:=(J3.mp hx).1
  refine Xb (drawsK k0 (Ix (show X.A.in1.handled=none from I.ok.hd hc) (Dq p' hit) its.toArray)) he ⟨Um _ _,by rw[U4]; exact ⟨hit,p'⟩⟩ (by rw[Ri]; omega) hei (by
   simp only[Rg,Rv,or_false,not_or]
   exact ⟨hei,EJ he p'⟩) λy h' tk hy ho hit2 hT hsz hk=>?_
  have hit3:=hit2.2
  rw[show k0 + i + 1 - k0=i + 1 by omega]at hit3
  have hit':=hit3.1
  rw[U4]at hy
  have ey:y=u:=by
   rw[ZI,hu]at hy
   exact (Uc hy).symm
  subst ey
  have I1:Inv X pins σ H { s with heap:=h',toks:=tk + 1 }:=I.turnedL (wr:=[e,it]) (λb o hb q=>hk b o (λz=>hb (by simp[z])) (λz=>hb (by simp[z])) q) hf
  have I2:Inv X pins σ (upd H s.heap.objs.size (.tup [.int ((k0 + i:Nat):Int),x])) { s with heap:=h',toks:=tk + 1 }:=I.tracked I1 (J8 _) ⟨by show 2<=Qe; decide,[.int ((k0 + i:Nat):Int) tk,y],.cons ⟨_,rfl⟩ (.cons ru .nil),⟨_,hT,rfl,_,rfl⟩⟩
  have hf2:∀ b∈[e,it],FpOk X pins (upd H s.heap.objs.size (.tup [.int ((k0 + i:Nat):Int),x])) b:=λb hb=>by
   obtain ⟨f0,f1,f2,f3,f4,f5⟩:=hf b hb
   exact ⟨by rw[As (hlt b hb)]; exact f0,f1,f2,f3,f4,f5⟩
  refine ⟨_,rfl,QV ho λh'' he' hs'=>?_⟩
  refine ⟨.ref s.heap.objs.size,_,I2.turnedL (wr:=[e]) (t':=tk + 1) (λb o hb q=>(hs'.2 b (λz=>hb (by simp[z]))).trans q) (λb hb=>hf2 b (by rw[Rh.mp hb]; simp)),rfl,⟨_,x,λys hy=>by rw[I.tuple_inj hy hq]; exact hx,fr,rfl,rfl⟩,⟨⟨_,by rw[show ((k0 + (i + 1):Nat):Int)=((k0 + i:Nat):Int) + 1 by omega]; exact he'⟩,hit'.at λo q=>(hs'.2 it hei.symm).trans q⟩,λb hb=>(hf2 b hb).1⟩
 done:=by
  intro X hP hw hK hc i pins s σ H E I hf st hg
  subst hP hw hK
  obtain ⟨xs,hq,hx⟩:=hg
  obtain ⟨its,rv,p,hz⟩:=I.tuple hq
  have hl:=rv.length
  obtain ⟨⟨old,he⟩,hit⟩:=st
  have p':s.heap.IsTuple l its.toArray:=p
  have hsz:its.toArray.size=i:=by rw[Ri]; omega
  have D:=Ix (prog:=X.prog) (w:=X.w) (show X.A.in1.handled=none from I.ok.hd hc) (Dq p' hit) its.toArray
  rw[hsz]at D
  exact Xe D he ⟨hit,p'⟩ λh' eb=>⟨rfl,I.turnedL (wr:=[it]) (t':=s.toks) (λb o hb q=>eb b o (λz=>hb (by simp[z])) q) (λb hb=>hf b (by rw[Rh.mp hb]; simp))⟩
 self:=λ_ _ _ _ _ st h=>QH st.1.choose_spec h
section
variable {X:Cx} {elts:List Expr} {k:Nat} {tp:Pos}
def Lh (K:J4) (ta tk:TA):TI:=λσ H R=>ta σ H λvs H1=>tk σ H1 λzs H2=>∃ (a:Addr) (k0:Nat),vs=[.ref a]/\zs=[.int ((k0:Nat):Int)]/\k0 < 1000/\(∃ xs,SqT K H2 a xs)/\R (Itek K a k0) H2
theorem pi_enumK {a e:Expr} {ta tk:TA} {p pos kpos:Pos} (hg:Gl X "enumerate") (hm:X.mg "enumerate"=none) (ha:PA X [a] ta) (hkw:PK X [⟨some "start",e,kpos⟩] tk) (hs:Qg [a] X.env=[(false,eval a X.env)]:=by rfl):PI X (.Tuple elts k tp) (.Call (.Name "enumerate" p) [a] [⟨some "start",e,kpos⟩] pos) (Lh X.K ta tk):=by
 intro pins s σ H R I h
 refine Qz (BU I hg hm (show Qr "enumerate"=some (.type "enumerate") by decide +kernel) (callWithTK (thn (ha pos pins s σ H _ I h) λus s1 ⟨vs,H1,I1,r1,q1⟩=>thn (hkw pos pins s1 σ H1 _ I1 q1) λks s2 ⟨zs,H2,I2,r2,q2⟩=>?_) (by rw[hs]; rfl) (by rw[hs]; rfl) (by rfl) (by rfl)))
 obtain ⟨b,k0,e1,e2,hk0,⟨xs,hq⟩,q⟩:=q2
 subst e1 e2
 obtain ⟨u,rfl,rx⟩:=CB r1
 cases rx
 obtain ⟨u2,rfl,rx2⟩:=CB r2
 obtain ⟨tk,rfl⟩:=rx2
 obtain ⟨its,rv,pl,hz⟩:=I2.tuple hq
 show Qf _ _ (call (.type "enumerate") [.ref b] [("start",.int ((k0:Nat):Int) tk)]) _ _ _
 refine call_enumK hk0 pl λh' he hit kp=>?_
 have I3:Inv X pins σ H2 { s2 with heap:=h' }:=I2.kept (t':=s2.toks) kp
 refine QH he ⟨s2.heap.objs.size + 1,[s2.heap.objs.size + 1,s2.heap.objs.size],_,_,H2,rfl,I3,turn_enumK (k0:=k0) b _ _ (YV _),⟨⟨_,he⟩,hit⟩,λc hc=>?_,q⟩
 simp only[Rg,Rv,or_false]at hc
 rcases hc with rfl | rfl
 ·exact I2.fpOk (Uv _) (I2.hok.fresh (Uv _))
 ·exact I2.fpOk (J8 _) (I2.hok.fresh (J8 _))
theorem qi_enumK {a e:Expr} {ta te:TE} {p pos kpos:Pos} (hg:Gl X "enumerate") (hm:X.mg "enumerate"=none) (ha:QE X a ta) (hk:QE X e te) (hs:Hs a=true:=by rfl):QI X (.Tuple elts k tp) (.Call (.Name "enumerate" p) [a] [⟨some "start",e,kpos⟩] pos) (Lh X.K (Jv ta tNil) (Jv te tNil)):=⟨pi_enumK hg hm (qac ha Ab hs).h (pk_cons hk.h pk_nil) (Do hs)⟩
end
theorem for_enumK {k0:Nat} {K:J4} {a:Addr} {xs:List V} {g:TG} {tb:TS} {D:Ends} {σ:St} {H:Hp} (Pv:Nat->St->Hp->Prop) (h0:Pv 0 σ H) (hl:∀ i σ H,i<=xs.length->Pv i σ H->SqT K H a xs)
  (hs:∀ i x T σ H,xs[i]?=some x->Pv i σ H->H T=none->g (.ref T) σ (upd H T (.tup [.int ((k0 + i:Nat):Int),x])) λσ2 H2=>tb { D with nx:=Pv (i + 1),ct:=Pv (i + 1),bk:=D.nx } σ2 H2) (hd:∀ σ H,Pv xs.length σ H->D.nx σ H) :
  ∃ W:Nat->Nat->St->Hp->Prop,(∃ m,W 0 m σ H)/\∀ i m σ H,W i m σ H->
   ((Itek K a k0).stop i H/\D.nx σ H)\/((Itek K a k0).go i H/\∃ N:St->Hp->Prop,(∀ σ' H',N σ' H'->∃ m',m' < m/\W (i + 1) m' σ' H')/\∀ x H',(Itek K a k0).yld i H x H'->g x σ H' λσ2 H2=>tb { D with nx:=N,ct:=N,bk:=D.nx } σ2 H2):=by
 refine ⟨λi m σ H=>m=xs.length - i/\i<=xs.length/\Pv i σ H,⟨xs.length,by simp,RP _,h0⟩,?_⟩
 rintro i m σ H ⟨rfl,hi,p⟩
 have q:=hl i σ H hi p
 by_cases hlt:i < xs.length
 ·refine .inr ⟨⟨xs,xs[i],q,by simp[hlt]⟩,Pv (i + 1),λσ' H' p'=>⟨xs.length - (i + 1),by omega,rfl,hlt,p'⟩,λv H' y=>?_⟩
  obtain ⟨T,x,hx,hT,rfl,rfl⟩:=y
  exact hs i x T σ _ (hx xs q) p hT
 ·have e:i=xs.length:=by omega
  subst e
  exact .inl ⟨⟨xs,q,rfl⟩,hd σ H p⟩
end L2
namespace L2
open PySem PySem.Spec PyProof.Rows PySem.W
section
variable (key:Nat->Int)
variable {key}
end
section
variable {prog:Qj} {w:Qk} {A:Qm} {E:Qb->Qc->Prop} {s:Qc}
end
end L2
namespace L2
open PySem PySem.Spec PyProof.Rows
section
variable {κ:Type} [DecidableEq κ]
def valV (kvs:List (κ×V)) (k:κ):Option V:=(kvs.find? λkv=>decide (kv.1=k)).map (·.2)
def putK (kvs:List (κ×V)) (k:κ) (v:V):List (κ×V):=
 if (kvs.any λkv=>decide (kv.1=k))=true then kvs.map (λkv=>if kv.1=k then (kv.1,v) else kv) else kvs++[(k,v)]
theorem FM {p:κ×V} {r:List (κ×V)} {k:κ} (e:p.1=k):valV (p::r) k=some p.2:=by simp[valV,WD,e]
theorem FN {p:κ×V} {r:List (κ×V)} {k:κ} (e:¬ p.1=k):valV (p::r) k=valV r k:=by simp[valV,WD,e]
theorem FO (k:κ):∀ kvs:List (κ×V),(kvs.any λkv=>decide (kv.1=k))=(valV kvs k).isSome
 | []=>rfl
 | p::r=>by
  rw[WU]
  by_cases e:p.1=k
  ·simp only[FM e,decide_eq_true e,Bool.true_or,ZO]
  ·rw[FN e,decide_eq_false e,Jd3]; exact FO k r
theorem EK (kvs:List (κ×V)) (k:κ) (v:V):(putK kvs k v).length<=kvs.length + 1:=by
 unfold putK
 split
 ·rw[J0]; omega
 ·rw[Rk,Rq,List.length_nil]; omega
theorem putK_new {kvs:List (κ×V)} {k:κ} (v:V) (h:valV kvs k=none):putK kvs k v=kvs++[(k,v)]:=by
 unfold putK
 rw[FO,h]
 exact if_neg (by decide)
theorem RelO.isSome_eq {o:Option V} {u:Option Qb} (r:RelO o u):o.isSome=u.isSome:=by
 cases o with
 | none=>cases u with
  | none=>rfl
  | some _=>exact (show False from r).elim
 | some _=>cases u with
  | none=>exact (show False from r).elim
  | some _=>rfl
theorem KV.val {kvs:List (κ×V)} {vs:List (κ×Qb)} (r:KV kvs vs) (k:κ):RelO (valV kvs k) (valueAt vs k):=by
 unfold KV at r
 induction r with
 | nil=>exact We
 | @cons p q ps qs h t ih=>
  obtain ⟨h1,h2⟩:=h
  by_cases e:p.1=k
  ·have e':q.1=k:=h1.symm.trans e
   have b:valueAt (q::qs) k=some q.2:=by simp[valueAt,WD,e']
   rw[FM e,b]; exact h2
  ·have e':¬ q.1=k:=λz=>e (h1.trans z)
   have b:valueAt (q::qs) k=valueAt qs k:=by simp[valueAt,WD,e']
   rw[FN e,b]; exact ih
theorem KV.any {kvs:List (κ×V)} {vs:List (κ×Qb)} (r:KV kvs vs) (k:κ):(kvs.any λkv=>decide (kv.1=k))=vs.any λkv=>decide (kv.1=k):=by
 unfold KV at r
 induction r with
 | nil=>rfl
 | cons h t ih=>rw[WU,WU,ih,h.1]
theorem KV.repl {kvs:List (κ×V)} {vs:List (κ×Qb)} (r:KV kvs vs) (k:κ) {y:V} {u:Qb} (ry:RelV y u) :
  KV (kvs.map λkv=>if kv.1=k then (kv.1,y) else kv) (vs.map λkv=>if kv.1=k then (kv.1,u) else kv):=by
 unfold KV at r ⊢
 induction r with
 | nil=>exact .nil
 | @cons p q ps qs h t ih=>
  rw[Rt,Rt]
  refine .cons ?_ ih
  obtain ⟨h1,h2⟩:=h
  by_cases e:p.1=k
  ·rw[if_pos e,if_pos (h1.symm.trans e)]; exact ⟨h1,ry⟩
  ·rw[if_neg e,if_neg (λz=>e (h1.trans z))]; exact ⟨h1,h2⟩
theorem KV.put {kvs:List (κ×V)} {vs:List (κ×Qb)} (r:KV kvs vs) (k:κ) {y:V} {u:Qb} (ry:RelV y u):KV (putK kvs k y) (stored vs k u):=by
 unfold putK stored
 rw[r.any k]
 by_cases e:(vs.any λkv=>decide (kv.1=k))=true
 ·rw[if_pos e,if_pos e]; exact r.repl k ry
 ·rw[if_neg e,if_neg e]; exact Paired.snoc r ⟨rfl,ry⟩
theorem KV.length {kvs:List (κ×V)} {vs:List (κ×Qb)} (r:KV kvs vs):kvs.length=vs.length:=Paired.length r
end
theorem LH {P:Qj} {w:Qk} {k:Key} {u:Qb} (r:RelV (kV k) u):(Ao P w).is k u=true:=by
 cases k with
 | inl i=>obtain ⟨t,e⟩:=(show ∃ t,u=Value.int i t from r); subst e; exact mixKind_int P w i t
 | inr x=>obtain ⟨t,e⟩:=(show ∃ t,u=Value.str x t from r); subst e; exact mixKind_str P w x t
theorem EL {P:Qj} {w:Qk}:∀ {ks:List Key} {us:List Qb},Vals (ks.map kV) us->ItemsAre (Ao P w) ks us
 | [],_,r=>by rw[Uf]at r; cases r; exact .nil
 | k::ks,_,r=>by
  rw[Rt]at r
  cases r with
  | cons h t=>exact .cons (LH h) (EL t)
abbrev KT (H:Hp):List (List Key×V)->List (List Key×Addr×Qb)->Prop:=Paired λp q=>p.1=q.1/\H q.2.1=some (.tup (p.1.map kV))/\RelV p.2 q.2.2
theorem KT.val {H:Hp} {kvs:List (List Key×V)} {xs:List (List Key×Addr×Qb)} (r:KT H kvs xs) (k:List Key):RelO (valV kvs k) ((atKey xs k).map (·.2)):=by
 induction r with
 | nil=>exact We
 | @cons p q ps qs h t ih=>
  obtain ⟨h1,_,h2⟩:=h
  by_cases e:p.1=k
  ·have e':q.1=k:=h1.symm.trans e
   have b:atKey (q::qs) k=some q.2:=by simp[atKey,WD,e']
   rw[FM e,b]; exact h2
  ·have e':¬ q.1=k:=λz=>e (h1.trans z)
   have b:atKey (q::qs) k=atKey qs k:=by simp[atKey,WD,e']
   rw[FN e,b]; exact ih
theorem KT.repl {H:Hp} {kvs:List (List Key×V)} {xs:List (List Key×Addr×Qb)} (r:KT H kvs xs) (k:List Key) {y:V} {u:Qb} (ry:RelV y u) :
  KT H (kvs.map λkv=>if kv.1=k then (kv.1,y) else kv) (xs.map (putAt k u)):=by
 induction r with
 | nil=>exact .nil
 | @cons p q ps qs h t ih=>
  rw[Rt,Rt]
  refine .cons ?_ ih
  obtain ⟨h1,h2,h3⟩:=h
  unfold putAt
  by_cases e:p.1=k
  ·rw[if_pos e,if_pos (h1.symm.trans e)]; exact ⟨h1,h2,ry⟩
  ·rw[if_neg e,if_neg (λz=>e (h1.trans z))]; exact ⟨h1,h2,h3⟩
theorem KT.put {H:Hp} {kvs:List (List Key×V)} {xs:List (List Key×Addr×Qb)} (r:KT H kvs xs) (k:List Key) {b:Addr} {y:V} {u:Qb} (hb:H b=some (.tup (k.map kV))) (ry:RelV y u) :
  KT H (putK kvs k y) (storedH xs k b u):=by
 have e:(kvs.any λkv=>decide (kv.1=k))=(atKey xs k).isSome:=by
  rw[FO,(r.val k).isSome_eq,ZU]
 unfold putK storedH
 rw[e]
 by_cases q:(atKey xs k).isSome=true
 ·rw[if_pos q,if_pos q]; exact r.repl k ry
 ·rw[if_neg q,if_neg q]; exact Paired.snoc r ⟨rfl,hb,ry⟩
theorem KT.keeps {H H':Hp} {kvs:List (List Key×V)} {xs:List (List Key×Addr×Qb)} (r:KT H kvs xs) (ht:∀ b ys,H b=some (.tup ys)->H' b=some (.tup ys)):KT H' kvs xs:=
 Paired.mapP r λ_ _ z=>⟨z.1,ht _ _ z.2.1,z.2.2⟩
section
variable {P:Qj} {w:Qk} {H:Hp} {h:Heap} {a:Addr}
theorem Mu {u:HO} (ok:HOk P w H h) (e:Rd H a u):ObjOk P w H h a u:=e.ok ok
theorem Mv {kvs:List (Key×V)} (ok:HOk P w H h) (e:Rd H a (.dK kvs)):kvs.length<=Qe/\(a == sysModules)=false/\∃ vs,KV kvs vs/\h.DictOf (Ao P w) a vs:=
 show ObjOk P w H h a (.dK kvs) from Mu ok e
theorem dk_of {kvs:List (Key×V)} (ok:HOk P w H h) (e:H a=some (.dK kvs)):kvs.length<=Qe/\(a == sysModules)=false/\∃ vs,KV kvs vs/\h.DictOf (Ao P w) a vs:=Mv ok (.inl e)
theorem JL {ks:List Key} (ok:HOk P w H h) (e:H a=some (.tup (ks.map kV))):(tupleKind (Ao P w)).is h ks a:=by
 obtain ⟨_,its,r,o,h1,h2,n,h3⟩:=(show ObjOk P w H h a (.tup (ks.map kV)) from ok a _ e)
 exact ⟨o,its.toArray,n,h1,h2,h3,by simpa using EL r⟩
theorem Mw {kvs:List (List Key×V)} (ok:HOk P w H h) (e:Rd H a (.dT kvs)):kvs.length<=Qe/\(a == sysModules)=false/\
  ∃ xs,KT H kvs xs/\h.DictOfH (tupleKind (Ao P w)) a xs:=by
 obtain ⟨z,y,xs,r,o,es,ep,h1,h2,h3,h4,h5⟩:=(show ObjOk P w H h a (.dT kvs) from Mu ok e)
 refine ⟨z,y,xs,r,o,es,ep,h1,h2,h3,h4,λx hx=>?_,h5⟩
 have all:∀ {l:List (List Key×V)} {m:List (List Key×Addr×Qb)},KT H l m->∀ x∈m,(tupleKind (Ao P w)).is h x.1 x.2.1:=by
  intro l m q
  induction q with
  | nil=>intro x hx; exact nomatch hx
  | @cons p q ps qs hq t ih=>
   intro x hx
   rcases Rg.mp hx with e | hx
   ·subst e
    exact JL ok (by rw[<- hq.1]; exact hq.2.1)
   ·exact ih x hx
 exact all r x hx
theorem dt_of {kvs:List (List Key×V)} (ok:HOk P w H h) (e:H a=some (.dT kvs)):kvs.length<=Qe/\(a == sysModules)=false/\
  ∃ xs,KT H kvs xs/\h.DictOfH (tupleKind (Ao P w)) a xs:=Mw ok (.inl e)
end
def DGet (H:Hp) (a:Addr) (y:V) (r:Option V):Prop:=
 (∃ kvs k,Rd H a (.dK kvs)/\y=kV k/\r=valV kvs k)\/∃ kvs k b,Rd H a (.dT kvs)/\y=.ref b/\H b=some (.tup (k.map kV))/\r=valV kvs k
def DPut (H:Hp) (a:Addr) (y v:V) (H':Hp):Prop:=
 (∃ kvs k,H a=some (.dK kvs)/\y=kV k/\kvs.length < Qe/\H'=upd H a (.dK (putK kvs k v)))\/
 ∃ kvs k b,H a=some (.dT kvs)/\y=.ref b/\H b=some (.tup (k.map kV))/\kvs.length < Qe/\H'=upd H a (.dT (putK kvs k v))
theorem DGet.t {H:Hp} {a b:Addr} {kvs:List (List Key×V)} {k:List Key} (e:H a=some (.dT kvs)) (eb:H b=some (.tup (k.map kV))):DGet H a (.ref b) (valV kvs k):=.inr ⟨kvs,k,b,.inl e,rfl,eb,rfl⟩
theorem DPut.t {H:Hp} {a b:Addr} {kvs:List (List Key×V)} {k:List Key} {v:V} (e:H a=some (.dT kvs)) (eb:H b=some (.tup (k.map kV))) (hl:kvs.length < Qe) :
  DPut H a (.ref b) v (upd H a (.dT (putK kvs k v))):=.inr ⟨kvs,k,b,e,rfl,eb,hl,rfl⟩
section
variable {X:Cx} {pins:List (Addr×Obj)} {σ:St} {H:Hp} {s:Qc} {a:Addr} {y v:V} {u r:Qb} {o:Option V} {A:Qm} {E:Qb->Qc->Prop}
theorem d_in {Q:Qb->Qc->Prop} (hu:A.units + 1 < cLine) (I:Inv X pins σ H s) (g:DGet H a y o) (ry:RelV y u) (h:∀ s',Inv X pins σ H s'->Q (.bool o.isSome) s') :
  Qf (model X.prog X.w) A (compareOp .In u (.ref a)) Q E s:=by
 rcases g with ⟨kvs,k,e,ey,l⟩ | ⟨kvs,k,b,e,ey,eb,l⟩
 ·subst ey
  obtain ⟨z,hd,vs,rel,dd⟩:=Mv I.hok e
  refine wpAny_in_of (LH ry) hd dd.mapOf ?_
  rw[<- (rel.val k).isSome_eq,<- l]
  exact h _ (I.tok _)
 ·subst ey
  cases (show u=Value.ref b from ry)
  obtain ⟨z,hd,xs,rel,dd⟩:=Mw I.hok e
  refine wpAny_in_heap (tupleKind_room_in1 hu) (JL I.hok eb) hd dd ?_
  have q:=(rel.val k).isSome_eq
  rw[ZU]at q
  rw[<- q,<- l]
  exact h _ (I.tok _)
theorem JM {h':Heap} {t':Nat} {ob:HO} (I:Inv X pins σ H s) (mu:Mut (H a)) (hs:Heap.SameBut a s.heap h') (he:∃ q,h'.get? a=some q) (new:ObjOk X.prog X.w (upd H a ob) h' a ob) :
  Inv X pins σ (upd H a ob) { s with heap:=h',toks:=t' }:=
 I.write (x:=a) (e:=a) mu (.inl rfl) (λb q hb z=>(hs.2 b hb).trans z) he new
theorem dk_new {P:Qj} {w:Qk} {H':Hp} {h':Heap} {kvs:List (Key×V)} {vs:List (Key×Qb)} (z:kvs.length<=Qe) (hd:(a == sysModules)=false) (rel:KV kvs vs) (dd:h'.DictOf (Ao P w) a vs) :
  ObjOk P w H' h' a (.dK kvs):=⟨z,hd,vs,rel,dd⟩
theorem d_setItem {H':Hp} {Q:Unit->Qc->Prop} (hu:A.units + 1 < cLine) (I:Inv X pins σ H s) (g:DPut H a y v H') (ry:RelV y u) (rv:RelV v r) (h:∀ s',Inv X pins σ H' s'->Q () s') :
  Qf (model X.prog X.w) A (setItem (.ref a) u r) Q E s:=by
 rcases g with ⟨kvs,k,e,ey,l,eH⟩ | ⟨kvs,k,b,e,ey,eb,l,eH⟩
 ·subst ey eH
  obtain ⟨z,hd,vs,rel,dd⟩:=dk_of I.hok e
  have hz:vs.length<=Qe:=by rw[<- rel.length]; exact z
  have hl:(putK kvs k v).length<=Qe:=by have:=EK kvs k v; omega
  refine wpAny_setItem_pairs (hsz:=hz) (LH ry) dd λh' dd' hs=>h _ ?_
  have he:∃ q,h'.get? a=some q:=let ⟨q,_,_,hq,_⟩:=dd'; ⟨q,hq⟩
  exact JM I (by rw[e]; exact We) hs he (dk_new hl hd (rel.put k rv) dd')
 ·subst ey eH
  cases (show u=Value.ref b from ry)
  obtain ⟨z,hd,xs,rel,dd⟩:=dt_of I.hok e
  have hz:xs.length<=Qe:=by rw[<- Paired.length rel]; exact z
  have hl:(putK kvs k v).length<=Qe:=by have:=EK kvs k v; omega
  refine wpAny_setItem_heap (hsz:=hz) (tupleKind_room_in1 hu) (JL I.hok eb) dd λh' dd' hs=>h _ ?_
  obtain ⟨q,es,ep,hq,h2,h3,h4,_,h5⟩:=dd'
  refine JM I (by rw[e]; exact We) hs ⟨q,hq⟩ ⟨hl,hd,_,(rel.put k eb rv).keeps λc ys ec=>?_,q,es,ep,hq,h2,h3,h4,h5⟩
  rw[As (Mb ec e (λz=>nomatch z))]
  exact ec
end
section
variable {X:Cx} {pins:List (Addr×Obj)} {σ:St} {H:Hp} {s:Qc} {a:Addr} {kvs:List (Key×V)} {k:Key} {u:Qb} {A:Qm} {E:Qb->Qc->Prop}
end
def tDIn (ty td:TE):TE:=λσ H Q=>ty σ H λy H1=>td σ H1 λx H2=>∃ a o,x=.ref a/\DGet H2 a y o/\Q (.bl o.isSome) H2
def Mx (td ty tv:TE):TS:=λD σ H=>tv σ H λv H1=>td σ H1 λx H2=>ty σ H2 λy H3=>∃ a H4,x=.ref a/\DPut H3 a y v H4/\D.nx σ H4
section
variable {X:Cx} {o i e value:Expr} {pos pos' tpos:Pos} {td ty tv:TE}
theorem pc_din (hu:X.A.units + 1 < cLine) (hi:PE X i ty) (ho:PE X o td):PC X .In i o (tDIn ty td):=by
 intro pins s σ H Q I h
 refine thn (hi pins s σ H _ I h) λiv s1 ⟨y,H1,I1,ry,q1⟩=>thn (ho pins s1 σ H1 _ I1 q1) λu s2 ⟨x,H2,I2,rx,a,ov,ex,g,q2⟩=>?_
 subst ex
 obtain rfl:u=Value.ref a:=rx
 exact d_in hu I2 g ry λs3 I3=>⟨.bl ov.isSome,H2,I3,rfl,q2⟩
theorem ps_dput (hu:X.A.units + 1 < cLine) (ho:PE X o td) (hi:PE X i ty) (hv:PE X value tv) (hs:swapsWith value (some (.Subscript o i pos')) pos.line X.env=pure false) :
  PS X (.Assign [.Subscript o i pos'] value pos) (Mx td ty tv):=by
 intro pins s σ H D I h
 refine wpAny_Assign_Subscript (thn (hv pins s σ H _ I h) λr s1 ⟨v,H1,I1,rv,q1⟩=>thn (ho pins s1 σ H1 _ I1 q1) λu s2 ⟨x,H2,I2,rx,q2⟩=>thn (hi pins s2 σ H2 _ I2 q2) λiv s3 ⟨y,H3,I3,ry,a,H4,ex,g,q3⟩=>?_) hs
 subst ex
 obtain rfl:u=Value.ref a:=rx
 exact d_setItem hu I3 g ry rv λs4 I4=>⟨σ,H4,I4,q3⟩
end
theorem dt_empty {P:Qj} {w:Qk} {H:Hp} (h:Heap) (hb:sysModules < h.objs.size):ObjOk P w H (h.push { cls:=.type "dict",data:=.dict #[] }) h.objs.size (.dT []):=
 ⟨RP _,beq_eq_false_iff_ne.mpr (UQ (RC hb)),[],.nil,_,#[],0,Heap.get?_push_size _ rfl,⟨rfl,rfl,rfl⟩,rfl,rfl,Zn⟩
def Li:TE:=λ_ H Q=>∀ p,H p=none->Q (.ref p) (upd H p (.dT []))
section
variable {X:Cx} {pos:Pos}
theorem pe_dnewT:PE X (.Dict [] [] pos) Li:=λpins s σ H Q I h=>
 wpAny_Dict_empty ⟨.ref s.heap.objs.size,_,I.laid (a:=s.heap.objs.size) (o:=.dT []) (t':=s.toks) (λ_ _ q=>Heap.get?_push_of_some _ q) (J8 _) (dt_empty s.heap I.big),rfl,h _ (I.hok.fresh (J8 _))⟩
end
end L2
namespace L2
open PySem PySem.Spec PyProof.Rows
section
variable {X:Cx} {o i value:Expr} {pos pos':Pos} {td ty tv:TE}
theorem qe_dnewT:QE X (.Dict [] [] pos) Li:=⟨pe_dnewT⟩
theorem qt_din (hu:X.A.units + 1 < cLine) (hi:QE X i ty) (ho:QE X o td) (h1:behindInMarks .In o=false:=by rfl):QT X (.Compare i [.In] [o] pos) (tB (tDIn ty td)):=⟨pt_cmp (pc_din hu hi.h ho.h) h1⟩
theorem qs_dput (hu:X.A.units + 1 < cLine) (ho:QE X o td) (hi:QE X i ty) (hv:QE X value tv) (hs:swapsWith value (some (.Subscript o i pos')) pos.line X.env=pure false:=by rfl):QS X (.Assign [.Subscript o i pos'] value pos) (Mx td ty tv):=⟨ps_dput hu ho.h hi.h hv.h hs⟩
end
end L2
namespace L2
open PySem PySem.Spec PyProof.Rows
section
variable {X:Cx} {o e:Expr} {es:List Expr} {to:TE} {t:TA} {apos cpos:Pos}
end
end L2
namespace L2
open PySem PySem.Spec PyProof.Rows
end L2
namespace L2
open PySem PySem.Spec PyProof.Rows
section
variable {prog:Qj} {w:Qk} {A:Qm} {E:Qb->Qc->Prop} {s:Qc}
end
theorem rv_slot_next:Slot "reversed" "__next__" "reversed.__next__":=.of (owner:="reversed") (n:="__next__") (by rw[typeLookup_type,builtinLookup_eq_fast]; kernel_rfl) (by decide +kernel) (by decide +kernel) (by decide +kernel) (by first | exact .inl (by decide +kernel) | exact .inr (by decide +kernel)) (by rw[isSubtype_type]; kernel_rfl)
theorem Ea:Slot "reversed" "__iter__" "reversed.__iter__":=.of (owner:="reversed") (n:="__iter__") (by rw[typeLookup_type,builtinLookup_eq_fast]; kernel_rfl) (by decide +kernel) (by decide +kernel) (by decide +kernel) (by first | exact .inl (by decide +kernel) | exact .inr (by decide +kernel)) (by rw[isSubtype_type]; kernel_rfl)
theorem Dr:entryFor table "reversed.__next__"=some Builtin.«reversed.__next__»:=entryFor_of_tree (by kernel_rfl)
theorem rv_entry_iter:entryFor table "reversed.__iter__"=some Builtin.«dict_keyiterator.__iter__»:=entryFor_alias (id':="dict_keyiterator.__iter__") (by kernel_rfl) (by first | rfl | decide +kernel | (unfold String.splitOn; simp +decide [String.splitOnAux])) (by decide +kernel) (by kernel_rfl)
theorem Eb (a:Qb):argsOk "reversed.__next__" ⟨[a],[]⟩:=by unfold argsOk; kernel_rfl
theorem rv_args_iter (a:Qb):argsOk "reversed.__iter__" ⟨[a],[]⟩:=by unfold argsOk; kernel_rfl
theorem rv_no_tuple:typeLookup (.type "tuple") "__reversed__"=pure none:=by rw[typeLookup_type,builtinLookup_eq_fast]; kernel_rfl
theorem rv_sub_tuple:isSubtype (.type "tuple") (.type "dict")=pure false:=by rw[isSubtype_type]; kernel_rfl
theorem rv_slot_init:Slot "reversed" "__init__" "object.__init__":=.of (owner:="object") (n:="__init__") (by rw[typeLookup_type,builtinLookup_eq_fast]; kernel_rfl) (by decide +kernel) (by decide +kernel) (by decide +kernel) (by first | exact .inl (by decide +kernel) | exact .inr (by decide +kernel)) (by rw[isSubtype_type]; kernel_rfl)
theorem rv_called:TypeCalled "reversed" "reversed.__new__" "object.__init__":=⟨by decide +kernel,by decide +kernel,⟨_,_,PySem.F.mro_reversed⟩,PySem.F.made_reversed,by decide +kernel,by rw[isSubtype_type]; kernel_rfl,rv_slot_init⟩
def IsRvT (h:Heap) (it l:Addr) (i:Int):Prop:=∃ o,h.get? it=some o/\o.cls=.type "reversed"/\o.data=.fields #[.ref l,rawInt i]
def Hu (l:Addr) (i:Int):Obj:={ cls:=.type "reversed",data:=.fields #[.ref l,rawInt i] }
section
variable {prog:Qj} {w:Qk} {A:Qm} {E:Qb->Qc->Prop} {s:Qc}
theorem IsRvT.ty {it l:Addr} {i:Int} (x:IsRvT s.heap it l i):s.TypeIs (.ref it) "reversed":=let ⟨o,e,c,_⟩:=x; ⟨o,e,c⟩
theorem rv_new {l:Addr} {items:Array Qb} {Q₁:Qb->Qc->Prop} (hl:IsTup s.heap l items) (hz:items.size<=Qe)
  (h:∀ tk,Q₁ (.ref s.heap.objs.size) { s with heap:=s.heap.push (Hu l ((items.size:Int) - 1)),toks:=tk }) :
  QJ (model prog w) A (.call (.builtin "reversed.__new__") ⟨[.type "reversed",.ref l],[]⟩) (wants Q₁ E) s:=by
 have hn:=Er
 refine QX ?_
 show Qf _ A.in1 (do checkBuiltinCall "reversed.__new__" ⟨[.type "reversed",.ref l],[]⟩; again (.builtin "reversed.__new__" ⟨[.type "reversed",.ref l],[]⟩)) _ _ s
 refine Qa (Qv (PySem.F.newCall_reversed_1 _) (Qd ⟨plainId_quiet YN _,Qy PySem.F.entry_reversed_new ?_⟩))
 rw[Around.under_plainId YN _]
 unfold Builtin.«reversed.__new__»
 refine Qa (Qv (PySem.newClass_reversed _) ?_)
 try dsimp only
 refine Qa (Qv (a:=()) (by first | rfl | kernel_rfl) (Qa (Qv (a:=()) (by first | rfl | kernel_rfl) ?_)))
 try dsimp only
 refine Qa (QM hl.typeIs rv_no_tuple ?_)
 try dsimp only
 refine Qa ?_
 show Qf _ _ (isInstance (.ref l) (.type "dict") >>= _) _ _ s
 refine Qa (QQ hl.typeIs rv_sub_tuple ?_)
 try dsimp only
 rw[if_neg (by decide)]
 refine Qa (QM hl.typeIs RY.lookup ?_)
 try dsimp only
 rw[if_pos (by decide +kernel)]
 refine Qd ?_
 try dsimp only
 rw[if_neg (by decide)]
 refine Qa (len_tuple hl (by omega) ?_)
 show Qf _ _ (pure (some (items.size:Int)) >>= _) _ _ _
 refine Qa (Qd ?_)
 try dsimp only
 show Qf _ _ (newObj (.type "reversed") (.fields #[.ref l,rawInt ((items.size:Int) - 1)]) >>= _) _ _ _
 refine Qa (Qt ?_ (by size_fits))
 first
 | exact Qd (h _)
 | exact Qa (Qd (Qd (h _)))
theorem rv_call {l:Addr} {items:Array Qb} {Q:Qb->Qc->Prop} (hl:IsTup s.heap l items) (hz:items.size<=Qe)
  (h:∀ tk,Q (.ref s.heap.objs.size) { s with heap:=s.heap.push (Hu l ((items.size:Int) - 1)),toks:=tk }):Qf (model prog w) A (call (.type "reversed") [.ref l]) Q E s:=by
 refine callType_codes (T:="reversed") (Bi:=Builtin.«object.__init__») (Q₁:=λr s₁=>r=.ref s.heap.objs.size/\∃ tk,s₁={ s with heap:=s.heap.push (Hu l ((items.size:Int) - 1)),toks:=tk }) rv_called (PySem.F.typeCall_reversed_1 _) YU
  (rv_new hl hz λtk=>⟨rfl,tk,rfl⟩) ?_
 rintro obj s₁ ⟨rfl,tk,rfl⟩
 have hT:({ s with heap:=s.heap.push (Hu l ((items.size:Int) - 1)),toks:=tk }:Qc).TypeIs (.ref s.heap.objs.size) "reversed":=⟨_,Heap.get?_push_size _ rfl,rfl⟩
 exact ⟨hT,YO _ _,object_init_meets rv_called.init.lookup rv_called.made (by decide) prog w A.in1 _ _ ⟨hT,rfl,h tk⟩⟩
theorem rv_next {it l:Addr} {i:Nat} {items:Array Qb} {x:Qb} {Q:Option Qb->Qc->Prop} (hit:IsRvT s.heap it l (i:Int)) (hl:IsTup s.heap l items) (hx:items[i]?=some x) (hz:items.size<=Qe)
  (hQ:∀ h' tk,IsRvT h' it l ((i:Int) - 1)->Heap.SameBut it s.heap h'->Q (some x) { s with heap:=h',toks:=tk }):Qf (model prog w) A (pyNext (.ref it)) Q E s:=by
 have hn:=Er
 obtain ⟨o,ho,hc,hd⟩:=id hit
 have hi:i < items.size:=(Array.getElem?_eq_some_iff.mp hx).1
 unfold pyNext
 refine Qa (QK (wpAny_callSpecial?_slot (name:=Str.ofString "__next__") hit.ty rv_slot_next (Qq rv_slot_next hit.ty Dr ?_ (Eb _))))
 unfold Builtin.«reversed.__next__»
 refine Qa (Qv (a:=(Value.ref it,[])) rfl ?_)
 try dsimp only
 refine Qa (Qn ho hd (x:=.ref l) rfl (Qa (Qn ho hd (x:=rawInt (i:Int)) rfl ?_)))
 show Qf _ _ (if (i:Int) < 0 then _ else _) _ _ s
 rw[if_neg (by omega)]
 refine Qa (QM hl.typeIs RY.lookup ?_)
 try dsimp only
 rw[if_neg (by decide)]
 refine Qa (wpAny_mkInt ?_)
 have hsq:seqIndex? (i:Int) items.size=some i:=by
  unfold seqIndex?
  simp
  omega
 refine Qa (QK (Jg1 (s:={ s with toks:=s.toks + 1 }) (k:=(i:Int)) (j:=i) hl (by omega) (by omega) hsq hx ?_))
 try dsimp only
 refine Qa (Qn (s:={ s with toks:=s.toks + 1 }) ho hd (x:=rawInt (i:Int)) rfl ?_)
 show Qf _ _ (setField (.ref it) 1 (rawInt ((i:Int) - 1)) >>= _) _ _ _
 refine Qa (QY (s:={ s with toks:=s.toks + 1 }) ho hd (by simp) ?_)
 have hend:Q (some x) { s with heap:=s.heap.update it (Obj.mapFields λvs=>vs.setIfInBounds 1 (rawInt ((i:Int) - 1))),toks:=s.toks + 1 }:=hQ _ _ ⟨_,Heap.get?_update_self _ ho (Obj.isFreed_of_fields (Obj.data_mapFields hd _)),(Obj.cls_mapFields ..).trans hc,by rw[Obj.data_mapFields hd]; simp⟩ (Heap.SameBut.update ..)
 first
 | exact Qd ⟨x,rfl,Qd hend⟩
 | exact Qa (Qd (Qd ⟨x,rfl,Qd hend⟩))
theorem rv_end {it l:Addr} {Q:Option Qb->Qc->Prop} (hh:A.handled=none) (hit:IsRvT s.heap it l (-1)) (hQ:∀ h',Heap.ExtBut it s.heap h'->Q none { s with heap:=h' }):Qf (model prog w) A (pyNext (.ref it)) Q E s:=by
 obtain ⟨o,ho,hc,hd⟩:=id hit
 unfold pyNext
 refine Qa (QK (wpAny_callSpecial?_slot (name:=Str.ofString "__next__") hit.ty rv_slot_next (Qq rv_slot_next hit.ty Dr ?_ (Eb _))))
 unfold Builtin.«reversed.__next__»
 refine Qa (Qv (a:=(Value.ref it,[])) rfl ?_)
 try dsimp only
 refine Qa (Qn ho hd (x:=.ref l) rfl (Qa (Qn ho hd (x:=rawInt (-1)) rfl ?_)))
 show Qf _ _ (if (-1:Int) < 0 then _ else _) _ _ s
 rw[if_pos (by decide)]
 refine Qa (QL ?_)
 refine Qa ?_
 show Qf _ _ (setField (.ref it) 1 (rawInt (-1)) >>= λ_=>setField (.ref it) 0 .none) _ _ s
 refine Qa (QY ho hd (by simp) ?_)
 have ho2:(s.heap.update it (Obj.mapFields λvs=>vs.setIfInBounds 1 (rawInt (-1)))).get? it=some (Obj.mapFields (λvs=>vs.setIfInBounds 1 (rawInt (-1))) o):=Heap.get?_update_self _ ho (Obj.isFreed_of_fields (Obj.data_mapFields hd _))
 refine QY (s:={ s with heap:=s.heap.update it (Obj.mapFields λvs=>vs.setIfInBounds 1 (rawInt (-1))) }) ho2 (Obj.data_mapFields hd _) (by simp) ?_
 have hb:Heap.ExtBut it s.heap ((s.heap.update it (Obj.mapFields λvs=>vs.setIfInBounds 1 (rawInt (-1)))).update it (Obj.mapFields λvs=>vs.setIfInBounds 0 .none)):=λb u hne e=>by
  rw[(Heap.SameBut.update ..).2 b hne,(Heap.SameBut.update ..).2 b hne]
  exact e
 generalize (s.heap.update it (Obj.mapFields λvs=>vs.setIfInBounds 1 (rawInt (-1)))).update it (Obj.mapFields λvs=>vs.setIfInBounds 0 .none)=h2 at hb ⊢
 refine Qa ?_
 show Qf _ _ (newExc (.type "StopIteration") [] >>= λx=>raiseNew x) _ _ _
 refine Qa ?_
 simp only[newExc,newTuple]
 refine Qa (Qt (Qa (m:=firstArgMember _ _) (Qv (a:=Value.none) (by first | rfl | (simp only[firstArgMember]; rfl)) (Qt ?_ (by size_fits)))) (by size_fits))
 simp only[raiseNew]
 refine Qa (wpAny_handled ?_)
 first | rw[show A.in1.handled=none from hh] | rw[hh]
 refine Qa (Qd (wpAny_throw ?out))
 case out=>exact Qa (QQ (T:="StopIteration") (b:=true) ⟨_,Heap.get?_push_size _ rfl,rfl⟩ isSubtype_stop (Qd (hQ _ ((hb.push _).push _))))
theorem JN {it l:Addr} {i:Int} {Q:Qb->Qc->Prop} (hit:IsRvT s.heap it l i) (h:Q (.ref it) s):Qf (model prog w) A (pyIter (.ref it)) Q E s:=by
 refine wpAny_pyIter_slot hit.ty Ea (Qq Ea hit.ty rv_entry_iter ?_ (rv_args_iter _))
 show Qf _ _ (ret (.ref it)) _ _ s
 exact Qd ⟨_,rfl, "reversed",_,hit.ty,rv_slot_next.lookup,h⟩
end
def ItRv (K:J4) (a:Addr) (n:Nat):It:=
 ⟨λi H=>(∃ xs x,SqT K H a xs/\xs.length=n/\xs.reverse[i]?=some x),λi H v H'=>H'=H/\∀ xs,SqT K H a xs->xs.reverse[i]?=some v,λi H=>∃ xs,SqT K H a xs/\xs.length=n/\i=n⟩
theorem turn_rev {P:Qj} {w:Qk} {K:J4} {tg:Expr} (a it:Addr) (n:Nat):Turn P w K tg (ItRv K a n) [it] it (λi h=>IsRvT h it a ((n:Int) - 1 - (i:Int))) where
 mem:=by simp
 obj:=λi h st b hb=>by
  have e:b=it:=by simpa using hb
  subst e
  obtain ⟨o,e,c,d⟩:=st
  exact ⟨o,e,λv z=>by rw[d]at z; cases z⟩
 keep:=λi h h' st k=>let ⟨o,e,r⟩:=st; ⟨o,k it (by simp) o e,r⟩
 item:=by
  intro X hP hw hK hc i pins s σ H E I hf st hg
  subst hP hw hK
  obtain ⟨xs,x,hq,hn,hx⟩:=hg
  obtain ⟨its,rv,p,hz⟩:=I.tuple hq
  have hlt:i < xs.length:=by
   have:=(J3.mp hx).1
   rwa [Wv]at this
  have hx':xs[xs.length - 1 - i]?=some x:=by rw[<- hx,ZJ hlt]
  obtain ⟨u,hu,ru⟩:=rv.get hx'
  have hl:=rv.length
  obtain ⟨f0,f1,f2,f3,f4,f5⟩:=hf it (by simp)
  have st2:IsRvT s.heap it a ((xs.length - 1 - i:Nat):Int):=by
   have e:((xs.length - 1 - i:Nat):Int)=(n:Int) - 1 - (i:Int):=by omega
   rw[e]
   exact st
  refine rv_next st2 p (x:=u) (by simpa using hu) (by rw[Ri]; omega) λh' tk st' sb=>?_
  have I1:Inv X pins σ H { s with heap:=h',toks:=tk }:=I.turned (t':=tk) (λb o hb e=>(sb.2 b hb).trans e) f0 f1 f3 f4 f5
  obtain ⟨o,e,c,d⟩:=id st'
  refine ⟨u,rfl,Jq (s:={ s with heap:=h',toks:=tk }) e c d (by decide) ⟨x,H,I1,ru,⟨rfl,λys hy=>by rw[I.tuple_inj hy hq]; exact hx⟩,?_,λb hb=>(hf b hb).1⟩⟩
  have e2:((xs.length - 1 - i:Nat):Int) - 1=(n:Int) - 1 - ((i + 1:Nat):Int):=by omega
  rw[e2]at st'
  exact st'
 done:=by
  intro X hP hw hK hc i pins s σ H E I hf st hg
  subst hP hw hK
  obtain ⟨xs,hq,hn,hi⟩:=hg
  obtain ⟨f0,f1,f2,f3,f4,f5⟩:=hf it (by simp)
  have st2:IsRvT s.heap it a (-1):=by
   have e:(-1:Int)=(n:Int) - 1 - (i:Int):=by omega
   rw[e]
   exact st
  exact rv_end (I.ok.hd hc) st2 λh' eb=>⟨rfl,I.turned (t':=s.toks) (λb o hb e=>eb b o hb e) f0 f1 f3 f4 f5⟩
 self:=λ_ _ _ _ _ st h=>JN st h
def My (K:J4) (ta:TA):TI:=λσ H R=>ta σ H λvs H1=>∃ a xs,vs=[.ref a]/\SqT K H1 a xs/\R (ItRv K a xs.length) H1
theorem pi_revT {X:Cx} {tg a:Expr} {ta:TA} {p pos:Pos} (hg:Gl X "reversed") (hm:X.mg "reversed"=none) (ha:PA X [a] ta) (hs:Qg [a] X.env=[(false,eval a X.env)]:=by rfl):PI X tg (.Call (.Name "reversed" p) [a] [] pos) (My X.K ta):=by
 intro pins s σ H R I h
 refine Call_ (BU I hg hm (show Qr "reversed"=some (.type "reversed") by decide +kernel) (RK (thn (ha pos pins s σ H _ I h) λus s1 ⟨vs,H1,I1,r1,q1⟩=>?_) (by rw[hs]; rfl) (by rfl)))
 obtain ⟨a,xs,e,hq,q⟩:=q1
 subst e
 obtain ⟨u,rfl,rx⟩:=CB r1
 cases rx
 obtain ⟨its,rv,pl,hz⟩:=I1.tuple hq
 have hlen:=rv.length
 refine rv_call pl (by rw[Ri]; omega) λtk=>?_
 have I2:Inv X pins σ H1 { s1 with heap:=s1.heap.push (Hu a ((its.toArray.size:Int) - 1)),toks:=tk }:=I1.kept (t':=tk) λb o q=>Heap.get?_push_of_some _ q
 have hrv:IsRvT (s1.heap.push (Hu a ((its.toArray.size:Int) - 1))) s1.heap.objs.size a ((xs.length:Int) - 1 - ((0:Nat):Int)):=⟨_,Heap.get?_push_size _ rfl,rfl,by show Data.fields #[.ref a,rawInt ((its.toArray.size:Int) - 1)]=_; rw[Ri,<- hlen]; simp⟩
 refine JN (s:={ s1 with heap:=s1.heap.push (Hu a ((its.toArray.size:Int) - 1)),toks:=tk }) hrv ?_
 refine ⟨s1.heap.objs.size,[s1.heap.objs.size],_,_,H1,rfl,I2,turn_rev a _ xs.length,hrv,λb hb=>?_,q⟩
 rw[Rh.mp hb]
 exact I1.fpOk (J8 _) (I1.hok.fresh (J8 _))
theorem qi_revT {X:Cx} {tg a:Expr} {ta:TA} {p pos:Pos} (hg:Gl X "reversed") (hm:X.mg "reversed"=none) (ha:QA X [a] ta) (hs:Qg [a] X.env=[(false,eval a X.env)]:=by rfl):QI X tg (.Call (.Name "reversed" p) [a] [] pos) (My X.K ta):=⟨pi_revT hg hm ha.h hs⟩
theorem for_rev {K:J4} {a:Addr} {xs:List V} {g:TG} {tb:TS} {D:Ends} {σ:St} {H:Hp} (Pv:Nat->St->Hp->Prop) (h0:Pv 0 σ H) (hl:∀ i σ H,i<=xs.length->Pv i σ H->SqT K H a xs)
  (hs:∀ i x σ H,xs.reverse[i]?=some x->Pv i σ H->g x σ H λσ2 H2=>tb { D with nx:=Pv (i + 1),ct:=Pv (i + 1),bk:=D.nx } σ2 H2) (hd:∀ σ H,Pv xs.length σ H->D.nx σ H) :
  ∃ W:Nat->Nat->St->Hp->Prop,(∃ m,W 0 m σ H)/\∀ i m σ H,W i m σ H->
   ((ItRv K a xs.length).stop i H/\D.nx σ H)\/((ItRv K a xs.length).go i H/\∃ N:St->Hp->Prop,(∀ σ' H',N σ' H'->∃ m',m' < m/\W (i + 1) m' σ' H')/\∀ x H',(ItRv K a xs.length).yld i H x H'->g x σ H' λσ2 H2=>tb { D with nx:=N,ct:=N,bk:=D.nx } σ2 H2):=by
 refine ⟨λi m σ H=>m=xs.length - i/\i<=xs.length/\Pv i σ H,⟨xs.length,by simp,RP _,h0⟩,?_⟩
 rintro i m σ H ⟨rfl,hi,p⟩
 have q:=hl i σ H hi p
 by_cases hlt:i < xs.length
 ·refine .inr ⟨⟨xs,xs.reverse[i]'(by rw[Wv]; exact hlt),q,rfl,J7 _⟩,Pv (i + 1),λσ' H' p'=>⟨xs.length - (i + 1),by omega,rfl,hlt,p'⟩,λv H' y=>?_⟩
  obtain ⟨rfl,hx⟩:=y
  exact hs i v σ _ (hx xs q) p
 ·have e:i=xs.length:=by omega
  subst e
  exact .inl ⟨⟨xs,q,rfl,rfl⟩,hd σ H p⟩
end L2
namespace L2
open PySem PySem.Spec PyProof.Rows
def Mp (P:Qj) (w:Qk) (K:J4) (mg:Str->Option Qb) (base:Heap) (CX:CXT) (k:Nat) (C:Addr) (m:Str) (ps:List Str) (sp:Sp):Prop:=
 ∃ (f:Addr) (fd:Qh),Meth K C m f/\Binds K fd ps []/\FnOk P w K mg base CX k f fd ps sp
section
variable {X:Cx} {CX:CXT} {k:Nat} {C:Addr} {m:Str} {ps:List Str} {sp:Sp} {E:XK} {pos apos:Pos} {e o:Expr} {es:List Expr} {ta:TE} {t:TA}
theorem BX {pl:Sem Bool} (h:Mp X.prog X.w X.K X.mg X.base CX k C m ps sp) (c:Cls X.K C) (hr:Room k X.A) (he:QE X o ta) (hx:Cd CX X E) (ha:QA X (e::es) t)
  (hst:Qg (e::es) X.env=(false,eval e X.env)::Qg es X.env:=by rfl) (hpl:(backTo pos (Qg es X.env)).any (·.1)=false:=by rfl)
  (ht:eval (.Call (.Attribute o m apos) (e::es) [] pos) X.env=(do
   let ov <- eval o X.env; standAt apos.atName; let (f,first) <- holding [ov] (getMethod ov m pl)
   callWith pos f first (backTo pos (Qg (e::es) X.env)) (backToKw pos (keywordEach [] X.env))):=by rfl) :
  QE X (.Call (.Attribute o m apos) (e::es) [] pos) (KM C m sp [] E ta t):=by
 obtain ⟨f,fd,hm,hb,F⟩:=h
 exact ⟨pe_meth he.h c hm F hr hb .nil hx ha.h hst hpl ht⟩
theorem CJ {pl:Sem Bool} (h:Mp X.prog X.w X.K X.mg X.base CX k C m ps sp) (c:Cls X.K C) (hr:Room k X.A) (he:QE X o ta) (hx:Cd CX X E)
  (ht:eval (.Call (.Attribute o m apos) [] [] pos) X.env=(do
   let ov <- eval o X.env; standAt apos.atName; let (f,first) <- holding [ov] (getMethod ov m pl)
   callWith pos f first (backTo pos (Qg [] X.env)) (backToKw pos (keywordEach [] X.env))):=by rfl) :
  QE X (.Call (.Attribute o m apos) [] [] pos) (KM C m sp [] E ta tNil):=by
 obtain ⟨f,fd,hm,hb,F⟩:=h
 exact ⟨pe_meth0 he.h c hm F hr hb .nil hx ht⟩
def Mkp (P:Qj) (w:Qk) (K:J4) (mg:Str->Option Qb) (base:Heap) (CX:CXT) (k:Nat) (x:Str) (C:Addr) (ps:List Str) (sp:Sp):Prop:=
 ∃ (f:Addr) (fd:Qh),mg x=some (.ref C)/\Mk K C f/\Binds K fd ps []/\FnOk P w K mg base CX k f fd ps sp
theorem qe_makeP {x:Str} {p:Pos} (h:Mkp X.prog X.w X.K X.mg X.base CX k x C ps sp) (hr:Room (k + 1) X.A) (hg:Gl X x) (hx:Cd CX X E) (ha:QA X (e::es) t) (hdb:(x == ("__debug__":Str))=false:=by decide)
  (he:Qg (e::es) X.env=(false,eval e X.env)::Qg es X.env:=by rfl) (hpl:(backTo pos (Qg es X.env)).any (·.1)=false:=by rfl):QE X (.Call (.Name x p) (e::es) [] pos) (Mn C sp [] E t):=by
 obtain ⟨f,fd,hm,M,hb,F⟩:=h
 exact ⟨pe_make M F hr hg hm hb .nil hx ha.h hdb he hpl⟩
end
end L2
namespace L2
open PySem PySem.Spec PyProof.Rows
section
variable {prog:Qj} {w:Qk} {A:Qm} {E:Qb->Qc->Prop} {s:Qc}
end
end L2
namespace L2
open PySem PySem.Spec PyProof.Rows
end L2
namespace L2
open PySem PySem.Spec PyProof.Rows
section
variable {prog:Qj} {w:Qk} {A:Qm} {E:Qb->Qc->Prop} {s:Qc}
theorem zipTT_item {z TI TO i1 i2 l1 l2:Addr} {k1 k2:Nat} {xs ys:Array Qb} {x y a b:Qb} {Q:Option Qb->Qc->Prop} (D:ZipApart z TI TO i1 i2 l1 l2) (kz:IsZip s.heap z TI TO .none) (kI:IsPair s.heap TI (.ref i1) (.ref i2)) (kO:IsPair s.heap TO a b)
  (j1:s.heap.IsTupleIter i1 l1 k1) (j2:s.heap.IsTupleIter i2 l2 k2) (t1:s.heap.IsTuple l1 xs) (t2:s.heap.IsTuple l2 ys) (hx:xs[k1]?=some x) (hy:ys[k2]?=some y)
  (hQ:∀ h',IsZip h' z TI TO (rawInt s.heap.objs.size)->IsPair h' TO x y->h'.IsTupleIter i1 l1 (k1 + 1)->h'.IsTupleIter i2 l2 (k2 + 1)->IsPair h' s.heap.objs.size x y->Kp4 z TO i1 i2 s.heap h'->Q (some (.ref s.heap.objs.size)) { s with heap:=h' }) :
  Qf (model prog w) A (pyNext (.ref z)) Q E s:=by
 have tz:s.TypeIs (.ref z) "zip":=⟨_,kz,rfl⟩
 unfold pyNext
 refine Qa (QK (wpAny_callSpecial?_slot (name:=Str.ofString "__next__") tz WF (Qq WF tz Zk ?_ (Y8 _))))
 show Qf _ _ (field (.ref z) 2 >>= _) _ _ _; refine Qa (Qn kz rfl (x:=.bool false) rfl ?_)
 show Qf _ _ (field (.ref z) 3 >>= _) _ _ _; refine Qa (Qn kz rfl (x:=.ref TI) rfl (Qa (Qu kI rfl ?_)))
 show Qf _ _ (Builtin.SmallTypes.ownedTupleIsFree (.ref z) >>= _) _ _ _; refine Qa ?_; unfold Builtin.SmallTypes.ownedTupleIsFree
 refine Qa (Qn kz rfl (x:=.none) rfl (Qd ?_)); simp only[if_true]
 refine Qa (QL (Qa (Qn kz rfl (x:=.ref TO) rfl (Qa (QD kz (by simp) λha kza ba=>Qa ?_)))))
 replace kza:IsZip ha z TI TO .ellipsis:=kza
 simp only[Jb3,Jc0,WC,W7]
 refine Qa (Qa (Xn ?_)); show Qf _ _ (Builtin.SmallTypes.nextOf (.ref i1) >>= _) _ _ _
 refine Qa (DK (j1.extBut ba.extBut D.i1z) (t1.extBut ba.extBut D.l1z) hx λhb j1b bb=>Qd ?_)
 have kOb:IsPair hb TO a b:=bb.extBut _ _ D.TOi1 (ba.extBut _ _ D.TOz kO)
 refine Qa (Qu kOb rfl (Qa (Xm kOb λhc kOc bc=>Qa (Xr (Qd ?_)))))
 replace kOc:IsPair hc TO x b:=kOc
 refine Qa (Qa (Xn ?_)); show Qf _ _ (Builtin.SmallTypes.nextOf (.ref i2) >>= _) _ _ _
 have j2c:=((j2.extBut ba.extBut D.i2z).extBut bb.extBut D.i12.symm).extBut bc.extBut D.TOi2.symm
 have t2c:=((t2.extBut ba.extBut D.l2z).extBut bb.extBut D.l2i1).extBut bc.extBut D.l2TO
 refine Qa (DK j2c t2c hy λhd j2d bd=>Qd ?_)
 have kOd:IsPair hd TO x b:=bd.extBut _ _ D.TOi2 kOc
 refine Qa (Qu kOd rfl (Qa (Xm kOd λhe kOe be=>Qa (Xr (Qd (Qd ?_))))))
 replace kOe:IsPair he TO x y:=kOe
 refine Qa (Qu kOe rfl (Qa (Xh ?_)))
 have same:he.objs.size=s.heap.objs.size:=by rw[be.1,bd.1,bc.1,bb.1,ba.1]
 have kze:IsZip he z TI TO .ellipsis:=be.extBut _ _ D.TOz.symm (bd.extBut _ _ D.i2z.symm (bc.extBut _ _ D.TOz.symm (bb.extBut _ _ D.i1z.symm kza)))
 have kp:Kp4 z TO i1 i2 s.heap he:=λc o n1 n2 n3 n4 q=>be.extBut _ _ n2 (bd.extBut _ _ n4 (bc.extBut _ _ n2 (bb.extBut _ _ n3 (ba.extBut _ _ n1 q))))
 have j1e:he.IsTupleIter i1 l1 (k1 + 1):=((j1b.extBut bc.extBut D.TOi1.symm).extBut bd.extBut D.i12).extBut be.extBut D.TOi1.symm
 have j2e:he.IsTupleIter i2 l2 (k2 + 1):=j2d.extBut be.extBut D.TOi2.symm
 have zlt:z < he.objs.size:=Heap.lt_size kze
 show Qf _ _ (Builtin.SmallTypes.ownedTupleHandOut (.ref z) (.ref he.objs.size) >>= _) _ _ _; refine Qa ?_; unfold Builtin.SmallTypes.ownedTupleHandOut
 have kzf:IsZip (he.push { cls:=.type "tuple",data:=.seq #[x,y] }) z TI TO .ellipsis:=Heap.get?_push_of_some _ kze
 refine Qa (QD kzf (by simp) λhg kzg bg=>?_)
 replace kzg:IsZip hg z TI TO (rawInt he.objs.size):=kzg
 refine QD kzg (by simp) λhk kzk bk=>?_
 replace kzk:IsZip hk z TI TO (rawInt he.objs.size):=kzk
 have up:∀ c o,c≠z->he.get? c=some o->hk.get? c=some o:=λc o n q=>bk.extBut _ _ n (bg.extBut _ _ n (Heap.get?_push_of_some _ q))
 have kT:IsPair hk he.objs.size x y:=bk.extBut _ _ (Wc zlt) (bg.extBut _ _ (Wc zlt) (Heap.get?_push_size _ rfl))
 rw[same]at kzk kT
 refine Qd ⟨_,rfl,Qd ?_⟩
 show Q (some (.ref he.objs.size)) _; rw[same]
 obtain ⟨o1,g1,c1,d1⟩:=j1e
 obtain ⟨o2,g2,c2,d2⟩:=j2e
 exact hQ hk kzk (up _ _ D.TOz kOe) ⟨o1,up _ _ D.i1z g1,c1,d1⟩ ⟨o2,up _ _ D.i2z g2,c2,d2⟩ kT λc o n1 n2 n3 n4 q=>up c o n1 (kp c o n1 n2 n3 n4 q)
end
abbrev zu2 (h:Heap) (l1 l2:Addr):Heap:=(zt1 h l1).push { cls:=.type "tuple_iterator",data:=.fields #[.ref l2,.int 0 0] }
abbrev zu3 (h:Heap) (l1 l2:Addr):Heap:=(zu2 h l1 l2).push { cls:=.type "tuple",data:=.seq #[.ref h.objs.size,.ref (zt1 h l1).objs.size] }
abbrev zu4 (h:Heap) (l1 l2:Addr):Heap:=(zu3 h l1 l2).push { cls:=.type "tuple",data:=.seq #[.none,.none] }
abbrev zu5 (h:Heap) (l1 l2:Addr):Heap:=(zu4 h l1 l2).push { cls:=.type "zip",data:=.fields #[.none,.bool false,.bool false,.ref (zu2 h l1 l2).objs.size,.ref (zu3 h l1 l2).objs.size] }
theorem zipTT_new (l1 l2:Addr) (xs ys:Array Qb) :
  Meets (Builtin.«zip.__new__» ⟨[.type "zip",.ref l1,.ref l2],[]⟩) (λ_ R s=>s.heap.IsTuple l1 xs/\s.heap.IsTuple l2 ys/\R (.ok (.ret (.ref (zu4 s.heap l1 l2).objs.size))) { s with heap:=zu5 s.heap l1 l2 }):=
 .of_wp λprog w A R s h=>by
  obtain ⟨hp,g,d,tk,os⟩:=s; obtain ⟨g1,g2,h⟩:=h
  have hsub:=sub_zip
  have a1:Heap.IsTuple (Shared.heap ⟨hp,g,d,tk,os⟩) l1 xs:=g1
  have a2:Heap.IsTuple (Shared.heap ⟨hp.push { cls:=.type "tuple_iterator",data:=.fields #[.ref l1,.int 0 0] },g,d,tk,os⟩) l2 ys:=(let ⟨o,g,r⟩:=g2; ⟨o,Heap.get?_push_of_some _ g,r⟩)
  wp_walk using Qs a1,Qs a2
  exact ⟨_,rfl,h⟩
section
variable {prog:Qj} {w:Qk} {A:Qm} {E:Qb->Qc->Prop} {s:Qc}
theorem call_zipTT {l1 l2:Addr} {xs ys:Array Qb} {Q:Qb->Qc->Prop} (g1:s.heap.IsTuple l1 xs) (g2:s.heap.IsTuple l2 ys)
  (h:∀ h',IsZip h' (s.heap.objs.size + 4) (s.heap.objs.size + 2) (s.heap.objs.size + 3) .none->IsPair h' (s.heap.objs.size + 2) (.ref s.heap.objs.size) (.ref (s.heap.objs.size + 1))->IsPair h' (s.heap.objs.size + 3) .none .none->
   h'.IsTupleIter s.heap.objs.size l1 0->h'.IsTupleIter (s.heap.objs.size + 1) l2 0->(∀ c o,s.heap.get? c=some o->h'.get? c=some o)->Q (.ref (s.heap.objs.size + 4)) { s with heap:=h' }) :
  Qf (model prog w) A (call (.type "zip") [.ref l1,.ref l2]) Q E s:=by
 refine callType_new PySem.F.called_zip (by decide) (PySem.F.typeCall_zip_2 _ _) (PySem.F.newCall_zip_2 _ _) (λobj=>PySem.F.args_object_init_3 obj _ _) PySem.F.entry_zip_new (zipTT_new l1 l2 xs ys) ⟨g1,g2,?_⟩
 have n1:(zt1 s.heap l1).objs.size=s.heap.objs.size + 1:=Heap.size_push ..
 have n2:(zu2 s.heap l1 l2).objs.size=s.heap.objs.size + 2:=by rw[Heap.size_push,n1]
 have n3:(zu3 s.heap l1 l2).objs.size=s.heap.objs.size + 3:=by rw[Heap.size_push,n2]
 have n4:(zu4 s.heap l1 l2).objs.size=s.heap.objs.size + 4:=by rw[Heap.size_push,n3]
 have up:∀ {c o},(zu3 s.heap l1 l2).get? c=some o->(zu5 s.heap l1 l2).get? c=some o:=λq=>Heap.get?_push_of_some _ (Heap.get?_push_of_some _ q)
 have up1:∀ {c o},(zt1 s.heap l1).get? c=some o->(zu5 s.heap l1 l2).get? c=some o:=λq=>up (Heap.get?_push_of_some _ (Heap.get?_push_of_some _ q))
 have q5:(zu5 s.heap l1 l2).get? (zu4 s.heap l1 l2).objs.size=some _:=Heap.get?_push_size _ rfl
 have q4:(zu5 s.heap l1 l2).get? (zu3 s.heap l1 l2).objs.size=some _:=Heap.get?_push_of_some _ (Heap.get?_push_size _ rfl)
 have q3:(zu5 s.heap l1 l2).get? (zu2 s.heap l1 l2).objs.size=some _:=up (Heap.get?_push_size _ rfl)
 have q2:(zu5 s.heap l1 l2).get? (zt1 s.heap l1).objs.size=some _:=up (Heap.get?_push_of_some _ (Heap.get?_push_size _ rfl))
 have q1:(zu5 s.heap l1 l2).get? s.heap.objs.size=some _:=up1 (Heap.get?_push_size _ rfl)
 show _/\_
 rw[n2,n3,n4]at q5; rw[n1,n2]at q3; rw[n3]at q4; rw[n1]at q2; rw[n4]
 exact ⟨⟨_,q5,rfl⟩,h _ q5 q3 q4 ⟨_,q1,rfl,rfl⟩ ⟨_,q2,rfl,rfl⟩ λc o q=>up1 (Heap.get?_push_of_some _ q)⟩
end
def Itzz (K:J4) (a b:Addr):It:=
 ⟨λi H=>∃ xs x ys y,SqT K H a xs/\xs[i]?=some x/\SqT K H b ys/\ys[i]?=some y,λi H v H'=>∃ T x y,(∀ xs,SqT K H a xs->xs[i]?=some x)/\(∀ ys,SqT K H b ys->ys[i]?=some y)/\H T=none/\v=.ref T/\H'=upd H T (.tup [x,y]),λi H=>∃ xs,SqT K H a xs/\xs.length<=i⟩
theorem turn_zipTT {P:Qj} {w:Qk} {K:J4} {elts:List Expr} {k:Nat} {tp:Pos} (l1 l2 z TI TO i1 i2:Addr) (D:ZipApart z TI TO i1 i2 l1 l2):Turn P w K (.Tuple elts k tp) (Itzz K l1 l2) [z,TO,i1,i2,TI] z
  (λi h=>IsZip h z TI TO .none/\IsPair h TI (.ref i1) (.ref i2)/\(∃ a b,IsPair h TO a b)/\h.IsTupleIter i1 l1 i/\h.IsTupleIter i2 l2 i) where
 mem:=by simp
 obj:=λi h st b hb=>by
  obtain ⟨kz,kI,⟨a,b',kO⟩,⟨o1,g1,_,d1⟩,⟨o2,g2,_,d2⟩⟩:=st
  simp only[Rg,Rv,or_false]at hb
  rcases hb with rfl | rfl | rfl | rfl | rfl
  ·exact ⟨_,kz,λv q=>by cases q⟩
  ·exact ⟨_,kO,λv q=>by cases q⟩
  ·exact ⟨o1,g1,λv q=>by rw[d1]at q; cases q⟩
  ·exact ⟨o2,g2,λv q=>by rw[d2]at q; cases q⟩
  ·exact ⟨_,kI,λv q=>by cases q⟩
 keep:=λi h h' ⟨kz,kI,⟨a,b',kO⟩,⟨o1,g1,r1⟩,⟨o2,g2,r2⟩⟩ kp=>⟨kp z (by simp) _ kz,kp TI (by simp) _ kI,⟨a,b',kp TO (by simp) _ kO⟩,⟨o1,kp i1 (by simp) _ g1,r1⟩,⟨o2,kp i2 (by simp) _ g2,r2⟩⟩
 item:=by
  intro X hP hw hK hc i pins s σ H E I hf st hg
  subst hP hw hK
  obtain ⟨xs,x,ys,y,hq,hx,hq',hy⟩:=hg
  obtain ⟨us,rv,p,hz⟩:=I.tuple hq
  obtain ⟨us',rv',p',hz'⟩:=I.tuple hq'
  obtain ⟨u,hu,ru⟩:=rv.get hx
  obtain ⟨u',hu',ru'⟩:=rv'.get hy
  obtain ⟨kz,kI,⟨a,b',kO⟩,j1,j2⟩:=st
  have fr:H s.heap.objs.size=none:=I.hok.fresh (J8 _)
  have hlt:∀ b∈[z,TO,i1,i2,TI],b≠s.heap.objs.size:=λb hb e=>by
   simp only[Rg,Rv,or_false]at hb
   have lt:∀ {c o},s.heap.get? c=some o->c≠s.heap.objs.size:=λq=>RC (Heap.lt_size q)
   rcases hb with rfl | rfl | rfl | rfl | rfl
   ·exact lt kz e
   ·exact lt kO e
   ·obtain ⟨_,g,_⟩:=j1; exact lt g e
   ·obtain ⟨_,g,_⟩:=j2; exact lt g e
   ·exact lt kI e
  refine zipTT_item D kz kI kO j1 j2 p p' (x:=u) (y:=u') (by simpa using hu) (by simpa using hu') λh' kz' kO' j1' j2' kT kp=>?_
  have I1:Inv X pins σ H { s with heap:=h',toks:=s.toks }:=I.turnedL (wr:=[z,TO,i1,i2]) (λb o hb q=>kp b o (λe=>hb (by simp[e])) (λe=>hb (by simp[e])) (λe=>hb (by simp[e])) (λe=>hb (by simp[e])) q) (λb hb=>hf b (by
   simp only[Rg,Rv,or_false]at hb ⊢
   rcases hb with e | e | e | e <;> simp[e]))
  have I2:Inv X pins σ (upd H s.heap.objs.size (.tup [x,y])) { s with heap:=h',toks:=s.toks }:=I.tracked I1 (J8 _) ⟨by show 2<=Qe; decide,[u,u'],.cons ru (.cons ru' .nil),⟨_,kT,rfl,_,rfl⟩⟩
  have hf2:∀ b∈[z,TO,i1,i2,TI],FpOk X pins (upd H s.heap.objs.size (.tup [x,y])) b:=λb hb=>by
   obtain ⟨f0,f1,f2,f3,f4,f5⟩:=hf b hb
   exact ⟨by rw[As (hlt b hb)]; exact f0,f1,f2,f3,f4,f5⟩
  refine ⟨_,rfl,Q9 kz' λh'' kz'' bs=>?_⟩
  have bk:∀ b o,b≠z->h'.get? b=some o->h''.get? b=some o:=λb o n q=>(bs.2 b n).trans q
  obtain ⟨o1,g1,r1⟩:=j1'
  obtain ⟨o2,g2,r2⟩:=j2'
  refine ⟨.ref s.heap.objs.size,_,I2.turnedL (wr:=[z]) (t':=s.toks) (λb o hb q=>bk b o (λe=>hb (by simp[e])) q) (λb hb=>hf2 b (by rw[Rh.mp hb]; simp)),rfl,
   ⟨_,x,y,λzs hs=>by rw[I.tuple_inj hs hq]; exact hx,λzs hs=>by rw[I.tuple_inj hs hq']; exact hy,fr,rfl,rfl⟩,
   ⟨kz'',bk _ _ D.TIz (kp _ _ D.TIz D.TITO D.TIi1 D.TIi2 kI),⟨_,_,bk _ _ D.TOz kO'⟩,⟨o1,bk _ _ D.i1z g1,r1⟩,⟨o2,bk _ _ D.i2z g2,r2⟩⟩,λb hb=>(hf2 b hb).1⟩
 done:=by
  intro X hP hw hK hc i pins s σ H E I hf st hg
  subst hP hw hK
  obtain ⟨xs,hq,hx⟩:=hg
  obtain ⟨us,rv,p,hz⟩:=I.tuple hq
  have hl:=rv.length
  obtain ⟨kz,kI,⟨a,b',kO⟩,j1,j2⟩:=st
  exact zipT_end (I.ok.hd hc) D kz kI kO j1 p (by simp; omega) λh' kp=>⟨rfl,I.turnedL (wr:=[z,TO,i1,i2]) (t':=s.toks) (λb o hb q=>kp b o (λe=>hb (by simp[e])) (λe=>hb (by simp[e])) (λe=>hb (by simp[e])) (λe=>hb (by simp[e])) q) (λb hb=>hf b (by
   simp only[Rg,Rv,or_false]at hb ⊢
   rcases hb with e | e | e | e <;> simp[e]))⟩
 self:=λ_ _ _ _ _ st h=>QR st.1 h
section
variable {X:Cx} {elts:List Expr} {k:Nat} {tp:Pos}
def Lj (K:J4) (ta:TA):TI:=λσ H R=>ta σ H λvs H1=>∃ a b,vs=[.ref a,.ref b]/\(∃ xs,SqT K H1 a xs)/\(∃ ys,SqT K H1 b ys)/\R (Itzz K a b) H1
theorem pi_zipTT {a b:Expr} {ta:TA} {p pos:Pos} (hg:Gl X "zip") (hm:X.mg "zip"=none) (ha:PA X [a,b] ta) (hs:Qg [a,b] X.env=[(false,eval a X.env),(false,eval b X.env)]:=by rfl) (hs2:Qg [b] X.env=[(false,eval b X.env)]:=by rfl):PI X (.Tuple elts k tp) (.Call (.Name "zip" p) [a,b] [] pos) (Lj X.K ta):=by
 intro pins s σ H R I h
 refine Call_ (BU I hg hm (show Qr "zip"=some (.type "zip") by decide +kernel) (RK (thn (ha pos pins s σ H _ I h) λus s1 ⟨vs,H1,I1,r1,q1⟩=>?_) (by rw[hs,hs2]) (by rw[hs2]; rfl)))
 obtain ⟨a,b,e,⟨xs,hq⟩,⟨ys,hq'⟩,q⟩:=q1
 subst e
 cases r1 with
 | cons ra rr=>
  cases rr with
  | cons rb rr=>
   cases rr
   cases ra
   cases rb
   obtain ⟨its,rv,pl,hz⟩:=I1.tuple hq
   obtain ⟨its',rv',pl',hz'⟩:=I1.tuple hq'
   have la:a < s1.heap.objs.size:=by obtain ⟨_,g,_⟩:=pl; exact Heap.lt_size g
   have lb:b < s1.heap.objs.size:=by obtain ⟨_,g,_⟩:=pl'; exact Heap.lt_size g
   refine call_zipTT pl pl' λh' kz kI kO j1 j2 kp=>?_
   have I2:Inv X pins σ H1 { s1 with heap:=h' }:=I1.kept (t':=s1.toks) kp
   refine QR kz ?_
   have D:ZipApart (s1.heap.objs.size + 4) (s1.heap.objs.size + 2) (s1.heap.objs.size + 3) s1.heap.objs.size (s1.heap.objs.size + 1) a b:=YA _ _ _ la lb
   refine ⟨s1.heap.objs.size + 4,[s1.heap.objs.size + 4,s1.heap.objs.size + 3,s1.heap.objs.size,s1.heap.objs.size + 1,s1.heap.objs.size + 2],_,_,H1,rfl,I2,turn_zipTT a b _ _ _ _ _ D,⟨kz,kI,⟨_,_,kO⟩,j1,j2⟩,λc hc=>?_,q⟩
   have:s1.heap.objs.size<=c:=by
    simp only[Rg,Rv,or_false]at hc
    rcases hc with rfl | rfl | rfl | rfl | rfl
    ·exact Um _ _
    ·exact Um _ _
    ·exact J8 _
    ·exact Um _ _
    ·exact Um _ _
   exact I1.fpOk this (I1.hok.fresh this)
theorem qi_zipTT {a b:Expr} {ta:TA} {p pos:Pos} (hg:Gl X "zip") (hm:X.mg "zip"=none) (ha:QA X [a,b] ta) (hs:Qg [a,b] X.env=[(false,eval a X.env),(false,eval b X.env)]:=by rfl) (hs2:Qg [b] X.env=[(false,eval b X.env)]:=by rfl):QI X (.Tuple elts k tp) (.Call (.Name "zip" p) [a,b] [] pos) (Lj X.K ta):=⟨pi_zipTT hg hm ha.h hs hs2⟩
end
theorem for_zipTT {K:J4} {a b:Addr} {xs ys:List V} {g:TG} {tb:TS} {D:Ends} {σ:St} {H:Hp} (hlen:xs.length=ys.length) (Pv:Nat->St->Hp->Prop) (h0:Pv 0 σ H) (hl:∀ i σ H,i<=xs.length->Pv i σ H->SqT K H a xs/\SqT K H b ys)
  (hs:∀ i x y T σ H,xs[i]?=some x->ys[i]?=some y->Pv i σ H->H T=none->g (.ref T) σ (upd H T (.tup [x,y])) λσ2 H2=>tb { D with nx:=Pv (i + 1),ct:=Pv (i + 1),bk:=D.nx } σ2 H2) (hd:∀ σ H,Pv xs.length σ H->D.nx σ H) :
  ∃ W:Nat->Nat->St->Hp->Prop,(∃ m,W 0 m σ H)/\∀ i m σ H,W i m σ H->
   ((Itzz K a b).stop i H/\D.nx σ H)\/((Itzz K a b).go i H/\∃ N:St->Hp->Prop,(∀ σ' H',N σ' H'->∃ m',m' < m/\W (i + 1) m' σ' H')/\∀ x H',(Itzz K a b).yld i H x H'->g x σ H' λσ2 H2=>tb { D with nx:=N,ct:=N,bk:=D.nx } σ2 H2):=by
 refine ⟨λi m σ H=>m=xs.length - i/\i<=xs.length/\Pv i σ H,⟨xs.length,by simp,RP _,h0⟩,?_⟩
 rintro i m σ H ⟨rfl,hi,p⟩
 obtain ⟨q,q'⟩:=hl i σ H hi p
 by_cases hlt:i < xs.length
 ·have hlt':i < ys.length:=hlen▸hlt
  refine .inr ⟨⟨xs,xs[i],ys,ys[i],q,by simp[hlt],q',by simp[hlt']⟩,Pv (i + 1),λσ' H' p'=>⟨xs.length - (i + 1),by omega,rfl,hlt,p'⟩,λv H' hy=>?_⟩
  obtain ⟨T,x,y,hx,hy,hT,rfl,rfl⟩:=hy
  exact hs i x y T σ _ (hx xs q) (hy ys q') p hT
 ·have e:i=xs.length:=by omega
  subst e
  exact .inl ⟨⟨xs,q,J8 _⟩,hd σ H p⟩
theorem GO {K:J4} {a:Addr} {xs:List V} {g:TG} {tc:TT} {te:TE} {σ':St} {H:Hp} {G:Addr->Hp->List V->Prop} (Pv:Nat->List V->Hp->Prop) (h0:Pv 0 [] H) (hl:∀ i ys H,i<=xs.length->Pv i ys H->SqL K H a xs)
  (hs:∀ i x t ys H (N:List V->Hp->Prop),xs[i]?=some x->Pv i ys H->H t=none->(∀ ys' H',Pv (i + 1) ys' H'->N ys' H')->g (.ref t) σ' (upd H t (.tup [.int (i:Nat),x])) λσ2 H4=>Weak σ' σ2/\tc σ2 H4 λb H5=>if b=true then te σ2 H5 λy H6=>ys.length < Qe/\N (ys++[y]) H6 else N ys H5)
  (hd:∀ ys H,Pv xs.length ys H->ys.length<=Qe/\∀ p,H p=none->G p H ys) :
  ∃ W:Nat->Nat->List V->Hp->Prop,(∃ m,W 0 m [] H)/\∀ i m ys H2,W i m ys H2->
   ((Ite K a).stop i H2/\ys.length<=Qe/\∀ p,H2 p=none->G p H2 ys)\/
   ((Ite K a).go i H2/\∀ x H3,(Ite K a).yld i H2 x H3->g x σ' H3 λσ2 H4=>Weak σ' σ2/\tc σ2 H4 λb H5=>
    if b=true then te σ2 H5 λy H6=>ys.length < Qe/\∃ m',m' < m/\W (i + 1) m' (ys++[y]) H6 else ∃ m',m' < m/\W (i + 1) m' ys H5):=by
 refine ⟨λi m ys H=>m=xs.length - i/\i<=xs.length/\Pv i ys H,⟨xs.length,rfl,RP _,h0⟩,?_⟩
 rintro i m ys H2 ⟨rfl,hi,p⟩
 have q:=hl i ys H2 hi p
 by_cases hlt:i < xs.length
 ·refine .inr ⟨⟨xs,xs[i],q,by simp[hlt]⟩,λv H' y=>?_⟩
  obtain ⟨t,x,hx,ht,rfl,rfl⟩:=y
  exact hs i x t ys _ (λys' H''=>∃ m',m' < xs.length - i/\m'=xs.length - (i + 1)/\i + 1<=xs.length/\Pv (i + 1) ys' H'') (hx xs q) p ht (λys' H'' p'=>⟨_,by omega,rfl,hlt,p'⟩)
 ·have e:i=xs.length:=by omega
  subst e
  exact .inl ⟨⟨xs,q,J8 _⟩,hd ys H2 p⟩
end L2
namespace L2
open PySem PySem.Spec PyProof.Rows
section
variable {X:Cx} {pins:List (Addr×Obj)} {σ:St} {H:Hp} {s:Qc}
end
end L2
namespace L2
open PySem PySem.Spec PyProof.Rows
end L2
namespace L2
open PySem PySem.Spec PyProof.Rows
section
variable {prog:Qj} {w:Qk} {A:Qm} {E:Qb->Qc->Prop} {s:Qc}
theorem entry_set_and:entryFor table "set.__and__"=some Builtin.«frozenset.__and__»:=entryFor_alias (id':="frozenset.__and__") (by kernel_rfl) rfl (by decide +kernel) (by kernel_rfl)
theorem Ds {α:Type} (next:Nat->Nat) (xs:Array α):(pickOrder next xs).toList.Perm xs.toList:=by
 have key:∀ (fuel k:Nat) (left:List α) (out:Array α),left.length<=fuel->(pickOrder.go next fuel k left out).toList.Perm (out.toList++left):=by
  intro fuel
  induction fuel with
  | zero=>
   intro k left out h
   have:left=[]:=Zv.mp (Nat.le_zero.mp h)
   subst this
   unfold pickOrder.go
   simp
  | succ fuel ih=>
   intro k left out h
   unfold pickOrder.go
   cases hl:left[next k % left.length]? with
   | none=>
    dsimp only
    cases left with
    | nil=>simp
    | cons y r=>
     have:=UT (next k) (show 0 < (y::r).length by simp)
     rw[J7 this]at hl
     cases hl
   | some x=>
    dsimp only
    obtain ⟨hlt,hx⟩:=J3.mp hl
    refine (ih (k + 1) _ _ (by rw[List.length_eraseIdx_of_lt hlt]; omega)).trans ?_
    rw[Ja3,UC]
    refine List.Perm.append_left _ ?_
    rw[List.eraseIdx_eq_take_drop_succ]
    have e:left=left.take (next k % left.length)++x::left.drop (next k % left.length + 1):=by
     conv=>lhs; rw[<- UU (next k % left.length) left,Zp hlt,hx]
    have p:=(Jb4 (a:=x) (l₁:=left.take (next k % left.length)) (l₂:=left.drop (next k % left.length + 1))).symm
    rw[<- e]at p
    exact p
 exact (key xs.size 0 xs.toList #[] (by simp)).trans (by simp)
theorem quiet_ints {sets:List Addr} {Q:Bool->Qc->Prop} (hs:∀ a∈sets,∃ (S:Int->Bool) (n:Nat),s.heap.SetOf (intKind prog w) a S n) (h:Q true s):Qf (model prog w) A (setsQuiet sets) Q E s:=by
 unfold setsQuiet
 refine Qa (Q2 _ (λrest b s'=>b.1=none/\s'=s/\∀ a∈rest,a∈sets) _ ?_ ?_ _ _ ⟨rfl,rfl,λa ha=>ha⟩)
 ·rintro a rest b s1 ⟨hb,e1,hr⟩
  rw[e1]
  obtain ⟨S,n,o,es,ep,t,ho,hex,hd,hel,hm,hsz,hf,hn⟩:=hs a (hr a (Rj ..))
  refine Qa (Xp ho hd hf ?_)
  refine Qa (W9 _ (λrest b s'=>b.1=none/\s'=s/\∀ e∈rest,e∈es.toList) _ ?_ ?_ _ _ ⟨rfl,rfl,λe he=>he⟩)
  ·rintro e rest' b' s2 ⟨hb',e2,he⟩
   rw[e2]
   obtain ⟨⟨k,hk,_⟩,_⟩:=hel e (he e (Rj ..))
   obtain ⟨t',ht'⟩:=Value.isInt_shape hk
   obtain ⟨e1',e2'⟩:=e
   simp only at ht'
   subst ht'
   exact Qd ⟨rfl,rfl,λe h=>he e (Re _ h)⟩
  ·rintro b' s2 ⟨hb',e2,_⟩
   rw[e2]
   obtain ⟨b1,b2⟩:=b'
   simp only at hb'
   subst hb'
   exact Qd ⟨rfl,rfl,λa h=>hr a (Re _ h)⟩
 ·rintro b s1 ⟨hb,e1,_⟩
  rw[e1]
  obtain ⟨b1,b2⟩:=b
  simp only at hb
  subst hb
  exact Qd h
theorem fits_flags {t:Qp} {n:Nat} (x y:Bool) (h:t.fits n=true):({ t with led:=x,plain:=y }:Qp).fits n=true:=by
 cases t
 exact h
theorem walk_unseen {a p r:Addr} {S S' T:Int->Bool} {n n' m:Nat} {Q:Array (Int×Qb)->Qc->Prop} (hA:s.heap.SetOf (intKind prog w) a S n) (hP:s.heap.SetOf (intKind prog w) p S' n') (hR:s.heap.SetOf (intKind prog w) r T m)
  (h:∀ (es:Array (Int×Qb)) (h':Heap),ElemsOf (intKind prog w) es.toList->(∀ k,S k=true↔∃ e∈es.toList,(intKind prog w).is k e.2=true)->es.size < scanBound->Heap.SameBut r s.heap h'->h'.SetOf (intKind prog w) r T m->Q es { s with heap:=h' }) :
  Qf (model prog w) A (setWalkUnseen a [p,r] (some r)) Q E s:=by
 obtain ⟨o,es,ep,t,ho,hex,hd,hel,hm,hsz,hf,hn⟩:=id hA
 have same:Heap.SameBut r s.heap s.heap:=⟨rfl,λ_ _=>rfl⟩
 have stay:∀ es':Array (Int×Qb),es'.toList.Perm es.toList->Q es' s:=λes' hp=>by
  refine h es' s.heap (λe he=>hel e (hp.mem_iff.mp he)) (λk=>?_) ?_ same hR
  ·rw[hm k]
   exact ⟨λ⟨e,h1,h2⟩=>⟨e,hp.mem_iff.mpr h1,h2⟩,λ⟨e,h1,h2⟩=>⟨e,hp.mem_iff.mp h1,h2⟩⟩
  ·have:=hp.length_eq
   simp only[Rw]at this
   rw[this]
   exact hsz
 have walk:(w.params.followText "set-order"=true\/(t.led=true/\t.plain=true)\/es.size<=1)->Qf (model prog w) A (setWalk a) Q E s:=λhc=>by
  unfold setWalk
  refine Qa (Qx ho hd hf ?_)
  unfold setsByText
  refine Qa (Qa (Q3 (Qd ?_)))
  show Qf _ _ (if w.params.followText "set-order"=true then _ else _) Q E s
  by_cases hbt:w.params.followText "set-order"=true
  ·rw[if_pos hbt]
   exact Qa (Q3 (Qd (stay _ (Ds _ _))))
  ·rw[if_neg hbt]
   show Qf _ _ (if (!t.plain && decide (es.size > 1))=true then _ else _) Q E s
   rw[if_neg (by rcases hc with z | z | z; exact absurd z hbt; simp[z.2]; simp; omega)]
   have nl:(!t.led && decide (es.size > 1))=false:=by
    rcases hc with z | z | z
    ·exact absurd z hbt
    ·simp[z.1]
    ·simp; omega
   refine Qa ?_
   show Qf _ _ (if (!t.led && decide (es.size > 1))=true then _ else _) _ E s
   rw[nl]
   exact Qd (Qd (stay es (Yj _)))
 unfold setWalkUnseen
 refine Qa (Qx ho hd hf ?_)
 unfold setsByText
 dsimp only
 refine Qa (Qa (Q3 (Qd ?_)))
 show Qf _ _ (if (w.params.followText "set-order" || t.led && t.plain || decide (es.size<=1))=true then _ else _) Q E s
 by_cases hc:(w.params.followText "set-order" || t.led && t.plain || decide (es.size<=1))=true
 ·rw[if_pos hc]
  refine walk ?_
  simp only[Y5,RL,decide_eq_true_eq]at hc
  rcases hc with (z | z) | z
  ·exact .inl z
  ·exact .inr (.inl z)
  ·exact .inr (.inr z)
 ·rw[if_neg hc]
  refine Qa (quiet_ints (λb hb=>?_) ?_)
  ·simp only[Rg,Rv,or_false]at hb
   rcases hb with rfl | rfl | rfl
   ·exact ⟨_,_,hA⟩
   ·exact ⟨_,_,hP⟩
   ·exact ⟨_,_,hR⟩
  ·show Qf _ _ (if (!true)=true then _ else _) Q E s
   rw[if_neg (by decide)]
   refine Qa (QL ?_)
   obtain ⟨o2,es2,ep2,t2,ho2,hex2,hd2,hel2,hm2,hsz2,hf2,hn2⟩:=id hR
   refine Qa (Qx ho2 hd2 hf2 ?_)
   dsimp only
   by_cases hc2:(t2.led && !t.led || t2.plain && !t.plain)=true
   ·rw[if_pos hc2]
    refine Qa (Q7 ho2 hd2 ?_ (fits_of_scanBound hsz2))
    refine Qd ?_
    have g:=SetOf_store (h:=s.heap) ho2 hex2 hd2 (es':=es2) (t':={ mask:=t2.mask,place:=t2.place,dummies:=t2.dummies,finger:=t2.finger,led:=t2.led && t.led,moves:=t2.moves,plain:=t2.plain && t.plain }) hel2 hm2 hsz2 (fits_flags _ _ hf2)
    refine h es _ hel hm hsz ?_ (hn2▸g.2)
    exact Heap.SameBut.update ..
   ·rw[if_neg hc2]
    exact Qd (stay es (Yj _))
theorem setOf_same {h h':Heap} {a r:Addr} {S:Int->Bool} {n:Nat} (hS:h.SetOf (intKind prog w) a S n) (hb:Heap.SameBut r h h') (ne:a≠r):h'.SetOf (intKind prog w) a S n:=by
 obtain ⟨o,es,ep,t,ho,rest⟩:=hS
 exact ⟨o,es,ep,t,(hb.2 a ne).trans ho,rest⟩
theorem Ft {idn:String} {a p r:Addr} {S S':Int->Bool} {n n':Nat} {Q:Unit->Qc->Prop} (hA:s.heap.SetOf (intKind prog w) a S n) (hP:s.heap.SetOf (intKind prog w) p S' n') (hR:s.heap.SetOf (intKind prog w) r (λ_=>false) 0) (na:a≠r) (np:p≠r)
  (h:∀ (h':Heap) (L:List Int),L.Nodup->(∀ k,k∈L↔S k=true/\S' k=true)->h'.SetOf (intKind prog w) r (λk=>L.any (· == k)) L.length->Heap.SameBut r s.heap h'->Q () { s with heap:=h' }) :
  Qf (model prog w) A (do
   let was <- setEpoch a
   for (h,x) in <- setWalkUnseen a [p,r] (some r) do
    holding [x] do
     if (<- setFind p x h).isSome then
      let _ <- setAddHashed r x h
    Builtin.Frozenset.unchanged idn a was) Q E s:=by
 obtain ⟨o,es0,ep,t,ho,hex,hd,hel0,hm0,hsz0,hf,hn⟩:=id hA
 refine Qa (wpAny_setEpoch_of ho hd hf ?_)
 refine Qa (walk_unseen hA hP hR λes h1 hel hm hsz hsb hR1=>?_)
 have hb:∀ e∈es.toList,e∈es.toList:=λ_ h=>h
 refine Qa (W9 _ (λrest _ s'=>∃ (h':Heap) (L:List Int) (done:List (Int×Qb)),s'={ s with heap:=h' }/\Heap.SameBut r s.heap h'/\h'.SetOf (intKind prog w) r (λk=>L.any (· == k)) L.length/\L.Nodup/\L.length<=done.length/\done++rest=es.toList/\∀ k,k∈L↔(∃ e∈done,(intKind prog w).is k e.2=true)/\S' k=true) _ ?_ ?_ _ _ ⟨h1,[],[],rfl,hsb,hR1,Zn,J8 _,rfl,λk=>by simp⟩)
 ·rintro ⟨hs,x⟩ rest _ s' ⟨h',L,done,rfl,hsb',hR',hnd,hll,hdn,hmem⟩
  have hee:(hs,x)∈es.toList:=by rw[<- hdn]; simp
  obtain ⟨⟨k,hk,hh⟩,hsc⟩:=hel (hs,x) hee
  simp only at hk hh hsc
  subst hh
  have hP':=setOf_same hP hsb' np
  have ho':h'.get? a=some o:=(hsb'.2 a na).trans ho
  have hdl:done.length < es.size:=by
   have:=congrArg WW hdn
   simp at this
   omega
  have key:∀ k':Int,(∃ e∈done++[((intKind prog w).hash k,x)],(intKind prog w).is k' e.2=true)↔(∃ e∈done,(intKind prog w).is k' e.2=true)\/k'=k:=λk'=>by
   constructor
   ·rintro ⟨e,he,hi⟩
    rcases RU.mp he with z | z
    ·exact .inl ⟨e,z,hi⟩
    ·rw[Rh.mp z]at hi
     exact .inr ((intKind prog w).inj _ _ _ hi hk)
   ·rintro (⟨e,he,hi⟩ | rfl)
    ·exact ⟨e,Wj _ he,hi⟩
    ·exact ⟨_,RH _ (Rh.mpr rfl),hk⟩
  refine Qa (Qo (Qa (wpAny_setFind_of (s:={ s with heap:=h' }) hk hsc hP' λrr hrr=>?_)))
  have after:∀ (h2:Heap) (L2:List Int),Heap.SameBut r h' h2->h2.SetOf (intKind prog w) r (λk=>L2.any (· == k)) L2.length->L2.Nodup->L2.length<=done.length + 1->(∀ k',k'∈L2↔(∃ e∈done++[((intKind prog w).hash k,x)],(intKind prog w).is k' e.2=true)/\S' k'=true)->∃ (h':Heap) (L:List Int) (done:List (Int×Qb)),({ s with heap:=h2 }:Qc)={ s with heap:=h' }/\Heap.SameBut r s.heap h'/\h'.SetOf (intKind prog w) r (λk=>L.any (· == k)) L.length/\L.Nodup/\L.length<=done.length/\done++rest=es.toList/\∀ k,k∈L↔(∃ e∈done,(intKind prog w).is k e.2=true)/\S' k=true:=by
   intro h2 L2 hb2 hS2 hn2 hl2 hm2
   exact ⟨h2,L2,done++[((intKind prog w).hash k,x)],rfl,⟨hb2.1.trans hsb'.1,λb nb=>(hb2.2 b nb).trans (hsb'.2 b nb)⟩,hS2,hn2,by simpa using hl2,by rw[<- hdn]; simp,hm2⟩
  have fin:∀ (R:ForInStep PUnit->Qc->Prop) (h2:Heap),Heap.SameBut r h' h2->R (.yield Jg7) { s with heap:=h2 }->Qf (model prog w) A (do
    Builtin.Frozenset.unchanged idn a ep
    pure (UK Jg7)) R E { s with heap:=h2 }:=by
   intro R h2 hb2 hR2
   unfold Builtin.Frozenset.unchanged
   have ho2:h2.get? a=some o:=(hb2.2 a na).trans ho'
   refine Qa (Qa (wpAny_setEpoch_of (s:={ s with heap:=h2 }) ho2 hd hf ?_))
   rw[if_neg (by simp)]
   exact Qd (Qd hR2)
  by_cases hS:S' k=true
  ·rw[if_pos (hrr.trans hS)]
   refine Qa (wpAny_setAddHashed_of (s:={ s with heap:=h' }) hk hsc hR' (by omega) λh2 hb2 hS2=>Qd ?_)
   refine fin _ h2 hb2 (after h2 (if L.any (· == k)=true then L else L++[k]) hb2 ?_ ?_ ?_ λk'=>?_)
   ·refine Jg6 hS2 (λk'=>?_) ?_
    ·by_cases z:L.any (· == k)=true
     ·rw[if_pos z]
      by_cases e:k'=k
      ·subst e
       rw[z]
       simp
      ·simp[e]
     ·rw[if_neg z,Jc3]
      by_cases e:k'=k
      ·subst e
       simp
      ·have e':¬ k=k':=λw=>e w.symm
       simp[e,e']
    ·by_cases z:L.any (· == k)=true
     ·rw[if_pos z,if_pos z]
     ·rw[if_neg z,if_neg z,Rk,UV]
   ·by_cases z:L.any (· == k)=true
    ·rw[if_pos z]
     exact hnd
    ·rw[if_neg z,UM]
     refine ⟨hnd,by simp,λu hu v hv e=>z ?_⟩
     rw[Rh.mp hv]at e
     subst e
     exact YS.mpr ⟨u,hu,by simp⟩
   ·by_cases z:L.any (· == k)=true
    ·rw[if_pos z]
     omega
    ·rw[if_neg z,Rk]
     exact Yh hll
   ·rw[key k']
    have hz:L.any (· == k)=true↔k∈L:=by simp
    by_cases z:L.any (· == k)=true
    ·rw[if_pos z,hmem k']
     constructor
     ·exact λ⟨u,v⟩=>⟨.inl u,v⟩
     ·rintro ⟨u | rfl,v⟩
      ·exact ⟨u,v⟩
      ·exact (hmem k').mp (hz.mp z)
    ·rw[if_neg z,RU,hmem k',Rh]
     constructor
     ·rintro (⟨u,v⟩ | rfl)
      ·exact ⟨.inl u,v⟩
      ·exact ⟨.inr rfl,hS⟩
     ·rintro ⟨u | u,v⟩
      ·exact .inl ⟨u,v⟩
      ·exact .inr u
  ·rw[if_neg (by rw[hrr]; exact hS)]
   refine Qd (fin _ h' ⟨rfl,λ_ _=>rfl⟩ (after h' L ⟨rfl,λ_ _=>rfl⟩ hR' hnd (by omega) λk'=>?_))
   rw[key k',hmem k']
   constructor
   ·exact λ⟨u,v⟩=>⟨.inl u,v⟩
   ·rintro ⟨u | rfl,v⟩
    ·exact ⟨u,v⟩
    ·exact absurd v hS
 ·rintro _ s' ⟨h',L,done,rfl,hsb',hR',hnd,hll,hdn,hmem⟩
  rw[RJ]at hdn
  refine Qd (h h' L hnd (λk=>?_) hR' hsb')
  rw[hmem k,hdn,<- hm k]
theorem Iy {a:Addr} {S:Int->Bool} {n:Nat} {Q:Bool->Qc->Prop} (hA:s.heap.SetOf (intKind prog w) a S n) (h:Q true s):Qf (model prog w) A (isInstance (.ref a) (.type "set")) Q E s:=QQ hA.typeIs sub_set_self h
theorem Hv {a:Addr} {S:Int->Bool} {n:Nat} {Q:Bool->Qc->Prop} (hA:s.heap.SetOf (intKind prog w) a S n) (h:Q true s):Qf (model prog w) A (Builtin.Frozenset.isAnySet (.ref a)) Q E s:=by
 unfold Builtin.Frozenset.isAnySet
 exact Qa (Iy hA (Qd h))
theorem Iz {a:Addr} {S:Int->Bool} {n:Nat} {Q:Nat->Qc->Prop} (hA:s.heap.SetOf (intKind prog w) a S n) (h:Q n s):Qf (model prog w) A (Builtin.Frozenset.sizeOf a) Q E s:=by
 obtain ⟨o,es,ep,t,ho,hex,hd,hel,hm,hsz,hf,hn⟩:=hA
 subst hn
 exact Qa (Xp ho hd hf (Qd h))
theorem inter_ints {idn:String} {a p:Addr} {S S':Int->Bool} {n n':Nat} {Q:Qb->Qc->Prop} (hA:s.heap.SetOf (intKind prog w) a S n) (hP:s.heap.SetOf (intKind prog w) p S' n') (ne:p≠a)
  (h:∀ (h':Heap) (L:List Int),L.Nodup->(∀ k,k∈L↔S k=true/\S' k=true)->h'.SetOf (intKind prog w) s.heap.objs.size (λk=>L.any (· == k)) L.length->(∀ b o,s.heap.get? b=some o->h'.get? b=some o)->Q (.ref s.heap.objs.size) { s with heap:=h' }) :
  Qf (model prog w) A (Builtin.Frozenset.intersection idn a (.ref p)) Q E s:=by
 unfold Builtin.Frozenset.intersection
 rw[if_neg (by simpa using ne)]
 unfold Builtin.Frozenset.baseOf
 refine Qa (Qa (Iy hA (Qd ?_)))
 refine Qa (wpAny_newSet_of (knd:=intKind prog w) λled hR=>?_)
 refine Qa (Qd ?_)
 have up:∀ (ob:Obj) (b:Addr) (o:Obj),s.heap.get? b=some o->(s.heap.push ob).get? b=some o:=λob b o hb=>Heap.get?_push_of_some _ hb
 have upS:∀ (ob:Obj) {b:Addr} {T:Int->Bool} {m:Nat},s.heap.SetOf (intKind prog w) b T m->(s.heap.push ob).SetOf (intKind prog w) b T m:=λob b T m hb=>by
  obtain ⟨o,es,ep,t,ho,rest⟩:=hb
  exact ⟨o,es,ep,t,up ob b o ho,rest⟩
 have hlt:∀ {b:Addr} {T:Int->Bool} {m:Nat},s.heap.SetOf (intKind prog w) b T m->b≠s.heap.objs.size:=λhb=>by
  obtain ⟨o,es,ep,t,ho,rest⟩:=hb
  exact RC (Heap.lt_size ho)
 have hA1:=upS { cls:=.type "set",dict:=none,data:=.set #[] 0 (.fresh 0 0 led) } hA
 have hP1:=upS { cls:=.type "set",dict:=none,data:=.set #[] 0 (.fresh 0 0 led) } hP
 have na:=hlt hA
 have np:=hlt hP
 have keep:∀ (h':Heap),Heap.SameBut s.heap.objs.size (s.heap.push { cls:=.type "set",dict:=none,data:=.set #[] 0 (.fresh 0 0 led) }) h'->∀ b o,s.heap.get? b=some o->h'.get? b=some o:=λh' hb b o hbo=>(hb.2 b (RC (Heap.lt_size hbo))).trans (up _ b o hbo)
 generalize s.heap.push { cls:=.type "set",dict:=none,data:=.set #[] 0 (.fresh 0 0 led) }=h1 at hR hA1 hP1 keep ⊢
 refine Qa (Qo ?_)
 refine Qa (Hv (s:={ s with heap:=h1 }) hP1 ?_)
 rw[if_pos rfl]
 refine Qa (Qd ?_)
 refine Qa (Iz (s:={ s with heap:=h1 }) hP1 ?_)
 refine Qa (Iz (s:={ s with heap:=h1 }) hA1 ?_)
 by_cases hc:n' > n
 ·rw[if_pos hc]
  exact Ft (s:={ s with heap:=h1 }) hA1 hP1 hR na np λh' L hn hm hS hb=>Qd (h h' L hn hm hS (keep h' hb))
 ·rw[if_neg hc]
  exact Ft (s:={ s with heap:=h1 }) hP1 hA1 hR np na λh' L hn hm hS hb=>Qd (h h' L hn (λk=>(hm k).trans And.comm) hS (keep h' hb))
theorem and_sets {a p:Addr} {S S':Int->Bool} {n n':Nat} {Q:Qb->Qc->Prop} (hA:s.heap.SetOf (intKind prog w) a S n) (hP:s.heap.SetOf (intKind prog w) p S' n') (ne:p≠a)
  (h:∀ (h':Heap) (L:List Int),L.Nodup->(∀ k,k∈L↔S k=true/\S' k=true)->h'.SetOf (intKind prog w) s.heap.objs.size (λk=>L.any (· == k)) L.length->(∀ b o,s.heap.get? b=some o->h'.get? b=some o)->Q (.ref s.heap.objs.size) { s with heap:=h' }) :
  Qf (model prog w) A (binaryOp .BitAnd (.ref a) (.ref p)) Q E s:=by
 refine wpAny_binaryOp_same (op:=.BitAnd) hA.typeIs hP.typeIs PySem.F.fills_set_and Zt ?_
 refine Qq Zt hA.typeIs entry_set_and ?_ (PySem.F.args_set_and_2 _ _)
 show Qf _ _ (Builtin.«frozenset.__and__» ⟨[.ref a,.ref p],[]⟩) _ _ _
 refine Qa (m:=Builtin.Frozenset.slot1 "__and__" ⟨[.ref a,.ref p],[]⟩) ?_
 unfold Builtin.Frozenset.slot1 slotArgs
 refine Qa (Qd ?_)
 refine Qd ?_
 refine Qa (Qa (Hv hA (Hv hP ?_)))
 rw[if_neg (by decide)]
 refine Qa (Qd ?_)
 refine Qa (inter_ints hA hP ne λh' L hn hm hS hk=>?_)
 exact Qd ⟨_,rfl,by simp,h h' L hn hm hS hk⟩
abbrev set0 (led:Bool):Obj:={ cls:=.type "set",dict:=none,data:=.set #[] 0 (.fresh 0 0 led) }
theorem set_call {x:Qb} {Q:Qb->Qc->Prop} (h:∀ led:Bool,Qf (model prog w) A.in1.in1 (Builtin.«set.__init__» ⟨[.ref s.heap.objs.size,x],[]⟩) (λfin s'=>fin=.done (.ret .none)/\Q (.ref s.heap.objs.size) s') E { s with heap:=s.heap.push (set0 led) }) :
  Qf (model prog w) A (call (.type "set") [x]) Q E s:=by
 obtain ⟨c,tl,m1⟩:=RS.mro
 have m2:=RS.made; have m3:=RS.sub; have m4:=RS.notType; have m5:=RS.canCreate
 have m6:=Zi x
 refine Q8 (QX (show Qf _ _ (callAny (.type "set") _) _ _ _ from Qd ⟨Code.quiet_builtin _ (by decide +kernel),Qy W8 ?_⟩))
 rw[Around.under_plain (weight_type_call_type "set" [x] []) rfl]
 repeat (any_goals (first | assumption | wp_step))
 refine QB (code_set_new_1 x (E:=E) (Q₁:=λob s1=>∃ led,ob=.ref s.heap.objs.size/\s1={ s with heap:=s.heap.push (set0 led) }) λled=>⟨led,rfl,rfl⟩) λr s1 hr=>?_
 match r,hr with
 | .error e,hr=>exact hr
 | .ok (.ret ob),hr=>
  obtain ⟨led,rfl,rfl⟩:=hr
  have hT:Shared.TypeIs { s with heap:=s.heap.push (set0 led) } (.ref s.heap.objs.size) "set":=⟨set0 led,Heap.get?_push_size _ rfl,rfl⟩
  have m7:=RS.init.lookup; have m8:=RS.init.bind (.ref s.heap.objs.size)
  repeat (any_goals (first | assumption | wp_step))
  refine QB (QU (R:=wants (λr s2=>r=.none/\Q (.ref s.heap.objs.size) s2) E) RS.init.plain Zl (check_set_init_1 hT ?_)) λr2 s2 hr2=>?_
  ·refine Qw (h led) (λfin s' hf=>?_) λ_ _ h'=>h'
   obtain ⟨rfl,hq⟩:=hf
   exact ⟨rfl,hq⟩
  ·match r2,hr2 with
   | .error e,hr2=>exact hr2
   | .ok (.ret v),hr2=>
    obtain ⟨rfl,hq⟩:=hr2
    repeat (any_goals (first | assumption | wp_step))
   | .ok .next,hr2=>exact hr2.elim
   | .ok .brk,hr2=>exact hr2.elim
   | .ok .cont,hr2=>exact hr2.elim
 | .ok .next,hr=>exact hr.elim
 | .ok .brk,hr=>exact hr.elim
 | .ok .cont,hr=>exact hr.elim
theorem set_tuple {l:Addr} {items:Array Qb} {ns:List Int} {Q:Qb->Qc->Prop} (hh:A.handled=none) (hl:s.heap.IsTuple l items) (hi:IntsAre items.toList ns) (hb:items.size + 1 < scanBound)
  (h:∀ (h':Heap) (tk n:Nat),h'.SetOf (intKind prog w) s.heap.objs.size (λk=>ns.any (· == k)) n->(∀ b o,s.heap.get? b=some o->h'.get? b=some o)->Q (.ref s.heap.objs.size) { s with heap:=h',toks:=tk }) :
  Qf (model prog w) A (call (.type "set") [.ref l]) Q E s:=by
 refine set_call λled=>?_
 have hlt:l < s.heap.objs.size:=by
  obtain ⟨o,ho,_⟩:=hl
  exact Heap.lt_size ho
 have hl1:(s.heap.push (set0 led)).IsTuple l items:=hl.push _
 have hR:(s.heap.push (set0 led)).SetOf (intKind prog w) s.heap.objs.size (λ_=>false) 0:=⟨set0 led,#[],0,_,Heap.get?_push_size _ rfl,⟨rfl,rfl,rfl⟩,rfl,λe he=>by simp at he,λk=>by simp,by decide,rfl,rfl⟩
 have hS:(s.heap.push (set0 led)).get? s.heap.objs.size=some (set0 led):=Heap.get?_push_size _ rfl
 have f1:=PySem.F.sub_tuple_set; have f2:=PySem.F.sub_tuple_frozenset
 have f3:(Value.type "tuple" == Value.type "dict")=false:=by decide
 obtain ⟨o,ho,hc,nl,hd⟩:=id hl1
 obtain ⟨oc,od,odt,osl⟩:=o
 simp only at hc hd
 subst hc hd
 unfold Builtin.«set.__init__» noKeywords Builtin.Frozenset.updateFrom
 generalize hI:pyIter=I0
 wp_walk
 subst hI
 refine Qs hl1 (Qa (wpAny_runValue ?_))
 have e1:(s.heap.push (set0 led)).objs.size=s.heap.objs.size + 1:=Heap.size_push ..
 have nf:s.heap.objs.size∉[(s.heap.push (set0 led)).objs.size,l]:=by
  rw[e1]
  intro z
  rcases Rg.mp z with z | z
  ·exact RC (Ul _) z
  ·exact Wc hlt (Rh.mp z)
 have nI:l≠(s.heap.push (set0 led)).objs.size:=by rw[e1]; exact RC (UD hlt)
 have vals:∀ (i:Nat) (v:Qb),items[i]?=some v->∃ t,v=.int ((λi=>ns.getD i 0) i) t:=λi v hv=>IntsAre.int_at hi i v (by rw[U9]; exact hv)
 have hlen:=IntsAre.length hi
 refine codeAny_set_update_loopS ((Walks.tuple (show A.in1.in1.in1.handled=none by simp[hh]) _ l nI items).toS) s.heap.objs.size nf (λi=>ns.getD i 0) vals hb (items.size - 0) 0 _ (WM _▸rfl) (RP _) ⟨⟨_,Heap.get?_push_size _ rfl,rfl,rfl⟩,hl1.push _⟩ ?_ ?_
 ·obtain ⟨o,es,ep,t,ho',rest⟩:=hR
  exact SetOf_congr ⟨o,es,ep,t,Heap.get?_push_of_some _ ho',rest⟩ (λ_=>rfl) rfl
 ·intro s' hm hS'
  obtain ⟨h',g',d',tk',os'⟩:=s'
  obtain rfl:g'=s.gens:=hm.gens
  obtain rfl:d'=s.drawn:=hm.drawn
  obtain rfl:os'=s.os:=hm.os
  refine Qd (Qd ⟨rfl,h h' tk' _ (SetOf_congr hS' (λk=>?_) rfl) λb o hbo=>?_⟩)
  ·rw[firstMet_any]
   have:(J1 items.size).map (λi=>ns.getD i 0)=ns:=by
    apply Ua
    ·simp at hlen ⊢
     omega
    ·intro i h1 h2
     simp[h2]
   rw[this]
  ·have b1:=Heap.lt_size hbo
   refine hm.heap b o (λz=>?_) (Heap.get?_push_of_some _ (Heap.get?_push_of_some _ hbo))
   rw[e1]at z
   rcases Rg.mp z with z | z
   ·exact RC b1 z
   ·exact RC (UD b1) (Rh.mp z)
def rAndS:R2:=λx y H Q=>∃ (a p:Addr) (S S':Int->Bool) (n n':Nat),x=.ref a/\y=.ref p/\p≠a/\H a=some (.set S n)/\H p=some (.set S' n')/\∀ (l:Addr) (T:Int->Bool) (L:List Int),H l=none->L.Nodup->(∀ k,k∈L↔S k=true/\S' k=true)->Q (.ref l) (upd H l (.set T L.length))
end
theorem op_andS {X:Cx}:OpR X (binaryOp .BitAnd) rAndS:=by
 intro pins s σ H x y v u Q I rx ry h
 obtain ⟨a,p,S,S',n,n',rfl,rfl,ne,ha,hp,q⟩:=h
 cases rx
 cases ry
 refine and_sets (show s.heap.SetOf (intKind X.prog X.w) a S n from I.hok a _ ha) (show s.heap.SetOf (intKind X.prog X.w) p S' n' from I.hok p _ hp) ne λh' L hn hm hS hk=>?_
 exact ⟨.ref s.heap.objs.size,_,I.laid (t':=s.toks) (λb o e=>hk b o e) (J8 _) (show ObjOk X.prog X.w _ h' _ (.set _ _) from hS),rfl,q _ _ L (I.hok.fresh (J8 _)) hn hm⟩
def rSetT (K:J4):List V->Hp->VK->Prop:=λxs H Q=>∃ (a:Addr) (ns:List Int),xs=[.ref a]/\SqT K H a (ns.map V.int)/\ns.length<=1000/\∀ (l:Addr) (n:Nat),H l=none->Q (.ref l) (upd H l (.set (λk=>ns.any (· == k)) n))
theorem GP {X:Cx} (hc:X.calm=true):Bx X (.type "set") (rSetT X.K):=by
 intro pins s σ H xs us Q I r h
 obtain ⟨a,ns,rfl,hq,h64,q⟩:=h
 obtain ⟨u,rfl,rx⟩:=CB r
 cases rx
 obtain ⟨its,r',pl,hz⟩:=I.tuple hq
 have hlen:=r'.length
 rw[J0]at hlen
 refine set_tuple (ns:=ns) (I.ok.hd hc) pl (by simpa using DX r') (by rw[Ri,<- hlen]; exact Rn (Yh h64) (by decide)) λh' tk n hS kp=>?_
 exact ⟨.ref s.heap.objs.size,_,I.laid (t':=tk) (λb o e=>kp b o e) (J8 _) (show ObjOk X.prog X.w _ h' _ (.set _ _) from hS),rfl,q _ n (I.hok.fresh (J8 _))⟩
end L2
namespace L2
open PySem
structure Rz (t:Qp):Prop where
 up:t.place.toList.Pairwise (· < ·)
 le:∀ x∈t.place.toList,x<=t.mask
 no:t.dummies=#[]
theorem fresh_rz (f m:Nat) (l:Bool):Rz (.fresh f m l):=⟨by simp[SetTable.fresh],by simp[SetTable.fresh],rfl⟩
theorem FP {xs:Array Nat} {j:Nat} (hs:xs.toList.Pairwise (· < ·)):∀ fuel lo hi,hi - lo<=fuel->lo<=hi->hi<=xs.size->(∀ i (h:i < xs.size),i < lo->xs[i] < j)->(∀ i (h:i < xs.size),hi<=i->j<=xs[i])->
  SetTable.below.go xs j fuel lo hi<=xs.size/\(∀ i (h:i < xs.size),i < SetTable.below.go xs j fuel lo hi->xs[i] < j)/\∀ i (h:i < xs.size),SetTable.below.go xs j fuel lo hi<=i->j<=xs[i]
 | 0,lo,hi,hf,hlh,hh,h1,h2=>by
  have e:lo=hi:=by omega
  subst e
  unfold SetTable.below.go
  exact ⟨hh,h1,h2⟩
 | fuel + 1,lo,hi,hf,hlh,hh,h1,h2=>by
  unfold SetTable.below.go
  by_cases hlt:lo < hi
  ·rw[if_pos hlt]
   dsimp only
   have hm:(lo + hi) / 2 < xs.size:=by omega
   have mono:∀ a b (ha:a < xs.size) (hb:b < xs.size),a<=b->xs[a]<=xs[b]:=λa b ha hb hab=>by
    by_cases e:a=b
    ·subst e
     exact J8 _
    ·have:=(UW.mp hs) a b (by simpa using ha) (by simpa using hb) (by omega)
     simpa using WO this
   by_cases hc:xs.getD ((lo + hi) / 2) j < j
   ·rw[if_pos hc]
    rw[Ub,UE hm]at hc
    refine FP hs fuel _ hi (by omega) (by omega) hh (λi h hi'=>?_) h2
    exact Rn (mono i _ h hm (by omega)) hc
   ·rw[if_neg hc]
    rw[Ub,UE hm]at hc
    refine FP hs fuel lo _ (by omega) (by omega) (by omega) h1 (λi h hi'=>?_)
    exact J6 (Wu hc) (mono _ i hm h hi')
  ·rw[if_neg hlt]
   have e:lo=hi:=by omega
   subst e
   exact ⟨hh,h1,h2⟩
theorem Dt {xs:Array Nat} (hs:xs.toList.Pairwise (· < ·)) (j:Nat):SetTable.below xs j<=xs.size/\(∀ i (h:i < xs.size),i < SetTable.below xs j->xs[i] < j)/\∀ i (h:i < xs.size),SetTable.below xs j<=i->j<=xs[i]:=
 FP hs xs.size 0 xs.size (by omega) (by omega) (J8 _) (λi _ h=>by omega) λi h h'=>by omega
theorem slot_empty {t:Qp} (R:Rz t) {j:Nat} (h:t.slot j=.empty):j∉t.place.toList:=by
 intro hm
 obtain ⟨k,hk,e⟩:=Uw.mp hm
 have hk':k < t.place.size:=by simpa using hk
 obtain ⟨b1,b2,b3⟩:=Dt R.up j
 have ek:t.place[k]=j:=by simpa using e
 have hb:SetTable.below t.place j=k:=by
  rcases U2 (SetTable.below t.place j) k with z | z | z
  ·have:=b3 (SetTable.below t.place j) (by omega) (J8 _)
   have h2:=(UW.mp R.up) _ k (by simp; omega) hk z
   simp at h2
   omega
  ·exact z
  ·have:=b2 k hk' z
   omega
 unfold SetTable.slot at h
 simp[hb,UE hk',ek]at h
theorem FQ {t:Qp} (R:Rz t) (j:Nat):t.slot j≠.dummy:=by
 have hd:SetTable.has t.dummies j=false:=by
  rw[R.no]
  simp[SetTable.has]
 unfold SetTable.slot
 dsimp only
 rw[hd]
 intro h
 by_cases c:(t.place[SetTable.below t.place j]? == some j)=true
 ·rw[if_pos c]at h
  cases h
 ·rw[if_neg c]at h
  simp at h
theorem Cs {α:Type} (xs:Array α) (p:Nat) (x:α):(SetTable.insertAt xs p x).toList=xs.toList.take p++x::xs.toList.drop p:=by
 unfold SetTable.insertAt
 simp only[Array.toList_append,Ja3,Array.toList_extract,UC,List.extract_eq_take_drop,Wp,WM,Ws,Y2]
 rw[WG (l:=List.drop p xs.toList) (by rw[Uj]; simp)]
theorem put_rz {t:Qp} (R:Rz t) {j:Nat} (hj:j∉t.place.toList) (hm:j<=t.mask):Rz (t.put j).1:=by
 obtain ⟨b1,b2,b3⟩:=Dt R.up j
 have hp:((t.put j).1.place).toList=t.place.toList.take (SetTable.below t.place j)++j::t.place.toList.drop (SetTable.below t.place j):=Cs _ _ _
 have lo:∀ x∈t.place.toList.take (SetTable.below t.place j),x < j:=λx hx=>by
  obtain ⟨i,hi,rfl⟩:=Uw.mp hx
  rw[RA]at hi
  rw[List.getElem_take]
  have:=b2 i (by simp at hi; omega) (by omega)
  simpa using this
 have hi:∀ x∈t.place.toList.drop (SetTable.below t.place j),j < x:=λx hx=>by
  obtain ⟨i,hi,rfl⟩:=Uw.mp hx
  rw[Uj]at hi
  rw[List.getElem_drop]
  have h1:=b3 (SetTable.below t.place j + i) (by simp at hi; omega) (by omega)
  have h2:t.place.toList[SetTable.below t.place j + i]'(by omega)≠j:=λz=>hj (z▸Uk _)
  have h3:t.place.toList[SetTable.below t.place j + i]'(by omega)=t.place[SetTable.below t.place j + i]'(by simp at hi; omega):=by simp
  rw[h3]at h2 ⊢
  omega
 refine ⟨?_,?_,?_⟩
 ·rw[hp,Ys]
  refine ⟨R.up.sublist (Ja5 _ _),?_,?_⟩
  ·rw[Z7]
   exact ⟨hi,R.up.sublist (YI _ _)⟩
  ·intro a ha b hb
   rcases Rg.mp hb with rfl | hb
   ·exact lo a ha
   ·exact UF (lo a ha) (hi b hb)
 ·rw[hp]
  intro x hx
  rcases RU.mp hx with z | z
  ·exact R.le x (WR z)
  ·rcases Rg.mp z with rfl | z
   ·exact hm
   ·exact R.le x (Wi z)
 ·show (if SetTable.has t.dummies j then SetTable.eraseAt t.dummies (SetTable.below t.dummies j) else t.dummies)=#[]
  rw[R.no]
  simp[SetTable.has]
theorem laid_rz {mask finger moves:Nat} {led plain:Bool} {hs:Array Int} {t:Qp} {o:Array Nat} (h:SetTable.laid mask finger moves led plain hs=some (t,o)):Rz t:=by
 unfold SetTable.laid at h
 cases e:SetTable.layClean mask hs with
 | none=>rw[e]at h; cases h
 | some owner=>
  rw[e]at h
  cases h
  have sub:((J1 (mask + 1)).filterMap λj=>(owner.getD j none).map (j,·)).map (·.1)=(J1 (mask + 1)).filter λj=>(owner.getD j none).isSome:=by
   generalize J1 (mask + 1)=l
   induction l with
   | nil=>rfl
   | cons a r ih=>
    rw[UB,Us]
    cases hc:owner.getD a none with
    | none=>exact ih
    | some v=>exact congrArg (a::·) ih
  refine ⟨?_,?_,rfl⟩
  ·show (((J1 (mask + 1)).filterMap λj=>(owner.getD j none).map (j,·)).map (·.1)).toArray.toList.Pairwise (· < ·)
   rw[sub]
   exact ZC.sublist Wy
  ·show ∀ x∈(((J1 (mask + 1)).filterMap λj=>(owner.getD j none).map (j,·)).map (·.1)).toArray.toList,x<=mask
   rw[sub]
   intro x hx
   have:=Ra.mp (RZ.mp hx).1
   omega
end L2
namespace L2
open PySem PySem.Spec PyProof.Rows
section
variable {prog:Qj} {w:Qk} {A:Qm} {E:Qb->Qc->Prop} {s:Qc} {a:Addr}
end
section
variable {prog:Qj} {w:Qk} {A:Qm} {R:Result->Qc->Prop} {I:Addr} {fp wr:List Addr} {G:Array GenState->Array GenState->Prop} {n:Nat} {P:Nat->Qb->Prop} {St:Nat->Qc->Prop}
end
section
variable {prog:Qj} {w:Qk} {A:Qm} {E:Qb->Qc->Prop} {s:Qc}
end
end L2
namespace L2
open PySem PySem.Spec PyProof.Rows
section
variable {prog:Qj} {w:Qk} {A:Qm} {E:Qb->Qc->Prop} {s:Qc} {a I T:Addr}
end
end L2
namespace L2
open PySem
abbrev Pb:=SetTable.Probe
def adv (m:Nat) (p:Pb):Pb:=
 if p.more > 0 then { p with j:=p.j + 1,more:=p.more - 1 } else { p with j:=(SetTable.leap m p.i p.perturb).1,more:=SetTable.runEnd m (SetTable.leap m p.i p.perturb).1 - (SetTable.leap m p.i p.perturb).1,i:=(SetTable.leap m p.i p.perturb).1,perturb:=(SetTable.leap m p.i p.perturb).2 }
theorem Lk (t:Qp) (p:Pb):t.advance p=adv t.mask p:=rfl
def pst (m:Nat) (h:Int):Pb:={ j:=SetTable.bits h % (m + 1),more:=SetTable.runEnd m (SetTable.bits h % (m + 1)) - SetTable.bits h % (m + 1),i:=SetTable.bits h % (m + 1),perturb:=SetTable.bits h,dummy:=none }
theorem pst_eq (t:Qp) (h:Int):t.probeStart h=pst t.mask h:=rfl
def stp (m:Nat):Nat->Pb->Pb
 | 0,p=>p
 | n + 1,p=>stp m n (adv m p)
theorem CK (m:Nat):∀ (a b:Nat) (p:Pb),stp m (a + b) p=stp m b (stp m a p)
 | 0,b,p=>by rw[WL]; rfl
 | a + 1,b,p=>by
  rw[Jg9]
  exact CK m a b (adv m p)
theorem stp_succ (m n:Nat) (p:Pb):stp m (n + 1) p=adv m (stp m n p):=CK m n 1 p
theorem EN (m:Nat):∀ (n:Nat) (p:Pb),(stp m n p).dummy=p.dummy
 | 0,_=>rfl
 | n + 1,p=>by
  rw[stp,EN m n]
  unfold adv
  split <;> rfl
theorem GQ (m i:Nat):SetTable.runEnd m i - i<=9:=by
 unfold SetTable.runEnd
 split <;> omega
theorem Hw (m:Nat):∀ (r:Nat) (p:Pb),r<=p.more->stp m r p={ p with j:=p.j + r,more:=p.more - r }
 | 0,p,_=>rfl
 | r + 1,p,h=>by
  rw[stp]
  have e:adv m p={ p with j:=p.j + 1,more:=p.more - 1 }:=by
   unfold adv
   rw[if_pos (by omega)]
  rw[e,Hw m r _ (by show r<=p.more - 1; omega)]
  simp only[SetTable.Probe.mk.injEq,and_true,true_and]
  omega
def lps (m:Nat):Nat->Nat×Nat->Nat×Nat
 | 0,x=>x
 | n + 1,x=>lps m n (SetTable.leap m x.1 x.2)
theorem CY (m:Nat):∀ (n:Nat) (x:Nat×Nat),lps m (n + 1) x=SetTable.leap m (lps m n x).1 (lps m n x).2
 | 0,_=>rfl
 | n + 1,x=>CY m n _
theorem IA (m:Nat):∀ (n:Nat) (x:Nat×Nat),(lps m n x).2=x.2 / 32 ^ n
 | 0,x=>by simp[lps]
 | n + 1,x=>by
  rw[CY,RV,<- RT,<- IA m n x]
  rfl
def hd (m:Nat) (p:Pb) (x:Nat×Nat):Pb:={ p with j:=x.1,more:=SetTable.runEnd m x.1 - x.1,i:=x.1,perturb:=x.2 }
theorem FR (m:Nat) (p:Pb):stp m (p.more + 1) p=hd m p (SetTable.leap m p.i p.perturb):=by
 rw[stp_succ,Hw m p.more p (J8 _)]
 unfold adv hd
 rw[if_neg (by show ¬ p.more - p.more > 0; omega)]
theorem JO (m:Nat) {p:Pb} (hp:p.more<=9):∀ L:Nat,∃ n,n<=10 * (L + 1)/\stp m n p=hd m p (lps m (L + 1) (p.i,p.perturb))
 | 0=>⟨p.more + 1,by omega,FR m p⟩
 | L + 1=>by
  obtain ⟨n,h1,h2⟩:=JO m hp L
  have hr:=GQ m (lps m (L + 1) (p.i,p.perturb)).1
  refine ⟨n + ((hd m p (lps m (L + 1) (p.i,p.perturb))).more + 1),?_,?_⟩
  ·show n + (SetTable.runEnd m (lps m (L + 1) (p.i,p.perturb)).1 - (lps m (L + 1) (p.i,p.perturb)).1 + 1)<=_
   omega
  ·rw[CK,h2,FR,CY m (L + 1)]
   rfl
def orb (m:Nat):Nat->Nat->Nat
 | 0,i=>i
 | n + 1,i=>orb m n ((i * 5 + 1) % (m + 1))
theorem FS (m:Nat):∀ (a b i:Nat),orb m (a + b) i=orb m b (orb m a i)
 | 0,b,i=>by rw[WL]; rfl
 | a + 1,b,i=>by
  rw[Jg9]
  exact FS m a b _
theorem JP (m:Nat):∀ (n i:Nat),lps m n (i,0)=(orb m n i,0)
 | 0,_=>rfl
 | n + 1,i=>by
  have e:SetTable.leap m i 0=((i * 5 + 1) % (m + 1),0):=by simp[SetTable.leap]
  show lps m n (SetTable.leap m i 0)=_
  rw[e]
  exact JP m n _
def orbL (m:Nat):Nat->Nat->List Nat
 | 0,_=>[]
 | n + 1,i=>i::orbL m n ((i * 5 + 1) % (m + 1))
theorem IB {m e:Nat}:∀ {n i:Nat},e∈orbL m n i->∃ k,k < n/\orb m k i=e
 | 0,_,h=>nomatch h
 | n + 1,i,h=>by
  rcases Rg.mp h with rfl | h
  ·exact ⟨0,WA _,rfl⟩
  ·obtain ⟨k,h1,h2⟩:=IB h
   exact ⟨k + 1,Jb9 h1,h2⟩
def Msk (m:Nat):Prop:=m=7\/m=31\/m=127
theorem orb7:(J1 8).all (λe=>(orbL 7 8 0).contains e)=true/\orb 7 8 0=0:=by decide +kernel
theorem orb31:(J1 32).all (λe=>(orbL 31 32 0).contains e)=true/\orb 31 32 0=0:=by decide +kernel
theorem orb127:(J1 128).all (λe=>(orbL 127 128 0).contains e)=true/\orb 127 128 0=0:=by decide +kernel
theorem orb_all {m:Nat} (hm:Msk m):(J1 (m + 1)).all (λe=>(orbL m (m + 1) 0).contains e)=true/\orb m (m + 1) 0=0:=by
 rcases hm with rfl | rfl | rfl
 ·exact orb7
 ·exact orb31
 ·exact orb127
theorem orb_cov {m:Nat} (hm:Msk m) {i e:Nat} (hi:i<=m) (he:e<=m):∃ n,n<=m/\orb m n i=e:=by
 obtain ⟨h1,h2⟩:=orb_all hm
 have g:∀ e,e<=m->∃ k,k < m + 1/\orb m k 0=e:=λe he=>IB (by
  have:=Ue.mp h1 e (Ra.mpr (by omega))
  simpa using this)
 obtain ⟨a,ha,rfl⟩:=g i hi
 obtain ⟨b,hb,rfl⟩:=g e he
 by_cases h:a<=b
 ·exact ⟨b - a,by omega,by rw[<- FS,show a + (b - a)=b by omega]⟩
 ·refine ⟨b + (m + 1) - a,by omega,?_⟩
  rw[<- FS,show a + (b + (m + 1) - a)=(m + 1) + b by omega,FS,h2]
theorem LI {m:Nat} (hm:Msk m) {p:Pb} (hp:p.more<=9) (hpt:p.perturb < 2 ^ 64) {e:Nat} (he:e<=m):∃ L,L<=m/\∃ n,n<=10 * (13 + L)/\stp m n p=hd m p (lps m (13 + L) (p.i,p.perturb))/\(stp m n p).j=e:=by
 have h13:(lps m 13 (p.i,p.perturb)).2=0:=by
  rw[IA]
  exact Uy (UF hpt (by decide))
 have hi13:(lps m 13 (p.i,p.perturb)).1<=m:=by
  rw[CY]
  exact Wg (UT _ (WA _))
 obtain ⟨L,hL,e1⟩:=orb_cov hm hi13 he
 have e2:∀ L x,lps m (13 + L) x=lps m L (lps m 13 x):=λL x=>by
  induction L with
  | zero=>rfl
  | succ L ih=>rw[show 13 + (L + 1)=(13 + L) + 1 by omega,CY m (13 + L),ih,CY m L]
 obtain ⟨n,h1,h2⟩:=JO m hp (12 + L)
 rw[show 12 + L + 1=13 + L by omega]at h1 h2
 refine ⟨L,hL,n,h1,h2,?_⟩
 rw[h2]
 show (lps m (13 + L) (p.i,p.perturb)).1=e
 rw[e2,show lps m 13 (p.i,p.perturb)=((lps m 13 (p.i,p.perturb)).1,0) from Prod.ext rfl h13,JP]
 exact e1
structure Pz2 (m:Nat) (p:Pb):Prop where
 jl:p.j + p.more<=m
 mo:p.more<=9
 pt:p.perturb < 2 ^ 64
theorem Hz (h:Int):SetTable.bits h < 2 ^ 64:=by
 unfold SetTable.bits
 have h1:=Ug h (show (0:Int) < 2 ^ 64 by decide)
 have h2:=Ux h (show (2 ^ 64:Int)≠0 by decide)
 omega
theorem JQ (m i:Nat) (h:i<=m):i + (SetTable.runEnd m i - i)<=m:=by
 unfold SetTable.runEnd
 split <;> omega
theorem Ll (m:Nat) (h:Int):Pz2 m (pst m h):=⟨JQ m _ (Wg (UT _ (WA _))),GQ m _,Hz h⟩
theorem adv_pz2 {m:Nat} {p:Pb} (P:Pz2 m p):Pz2 m (adv m p):=by
 have:=P.jl
 have:=P.mo
 have:=P.pt
 unfold adv
 split
 ·exact ⟨by dsimp only; omega,by dsimp only; omega,by assumption⟩
 ·refine ⟨JQ m _ (Wg (UT _ (WA _))),GQ m _,?_⟩
  show p.perturb / 32 < 2 ^ 64
  exact Rn (Yp _ _) P.pt
theorem HA {m:Nat}:∀ (n:Nat) {p:Pb},Pz2 m p->Pz2 m (stp m n p)
 | 0,_,P=>P
 | n + 1,_,P=>HA n (adv_pz2 P)
theorem JR {t:Qp} (R:Rz t) {i:Nat} (hi:i < t.place.size):t.slot t.place[i]=.live i:=by
 obtain ⟨b1,b2,b3⟩:=Dt R.up t.place[i]
 have hb:SetTable.below t.place t.place[i]=i:=by
  rcases U2 (SetTable.below t.place t.place[i]) i with z | z | z
  ·have h1:=b3 (SetTable.below t.place t.place[i]) (by omega) (J8 _)
   have h2:=(UW.mp R.up) _ i (by simp; omega) (by simpa using hi) z
   simp at h2
   omega
  ·exact z
  ·have:=b2 i hi z
   omega
 unfold SetTable.slot
 dsimp only
 rw[hb,UE hi]
 simp
theorem FT {t:Qp} (R:Rz t) {j:Nat} (h:j∉t.place.toList):t.slot j=.empty:=by
 have hd:=FQ R j
 unfold SetTable.slot at hd ⊢
 dsimp only at hd ⊢
 by_cases c:(t.place[SetTable.below t.place j]? == some j)=true
 ·have:=eq_of_beq c
  exact absurd (by rw[<- U9]at this; exact Rf this) h
 ·rw[if_neg c]at hd ⊢
  by_cases c2:SetTable.has t.dummies j=true
  ·rw[if_pos c2]at hd
   exact absurd rfl hd
  ·rw[if_neg c2]
theorem HC {t:Qp} (R:Rz t) {i j:Nat} (h:t.slot j=.live i):∃ hi:i < t.place.size,t.place[i]=j:=by
 by_cases hj:j∈t.place.toList
 ·obtain ⟨k,hk,e⟩:=Uw.mp hj
  have hk':k < t.place.size:=by simpa using hk
  have e':t.place[k]=j:=by simpa using e
  have:=JR R hk'
  rw[e',h]at this
  cases this
  exact ⟨hk',e'⟩
 ·rw[FT R hj]at h
  cases h
theorem JS {t:Qp} (R:Rz t) (hf:t.place.size<=t.mask):∃ e,e<=t.mask/\e∉t.place.toList:=by
 refine R5 λhn=>?_
 have hall:∀ e,e<=t.mask->e∈t.place.toList:=λe he=>R5 λh=>hn ⟨e,he,h⟩
 have nd:t.place.toList.Nodup:=R.up.imp λh=>RC h
 have key:∀ (n:Nat) (L:List Nat),L.Nodup->(∀ e,e < n->e∈L)->n<=L.length:=by
  intro n
  induction n with
  | zero=>exact λL _ _=>RP _
  | succ n ih=>
   intro L hL hh
   have h1:=hh n (Ul n)
   have h2:=ih (L.erase n) (hL.erase n) λe he=>(List.mem_erase_of_ne (RC he)).mpr (hh e (UD he))
   rw[List.length_erase_of_mem h1]at h2
   have:=List.length_pos_of_mem h1
   omega
 have:=key (t.mask + 1) t.place.toList nd λe he=>hall e (Wg he)
 rw[Rw]at this
 omega
theorem Mz {t:Qp} (R:Rz t) {g:Nat->Int} {h:Int}:∀ (fuel n:Nat) (p:Pb),n < fuel->t.slot (stp t.mask n p).j=.empty->∃ met,SetTable.probe.go t g h fuel p=some met
 | 0,_,_,hn,_=>absurd hn (UO _)
 | fuel + 1,n,p,hn,he=>by
  unfold SetTable.probe.go
  cases hs:t.slot p.j with
  | empty=>exact ⟨_,rfl⟩
  | dummy=>exact absurd hs (FQ R _)
  | live i=>
   dsimp only
   by_cases c:(g i == h)=true
   ·rw[if_pos c]
    exact ⟨_,rfl⟩
   ·rw[if_neg c]
    cases n with
    | zero=>
     rw[show (stp t.mask 0 p).j=p.j from rfl,hs]at he
     cases he
    | succ n=>exact Mz R fuel n (t.advance p) (by omega) (by rw[Lk]; exact he)
def MetIs (t:Qp) (g:Nat->Int) (h:Int) (p:Pb) (n:Nat):SetTable.Met->Prop
 | .empty j d=>j=(stp t.mask n p).j/\t.slot j=.empty/\d=p.dummy
 | .candidate j i next=>j=(stp t.mask n p).j/\t.slot j=.live i/\g i=h/\next=stp t.mask (n + 1) p
theorem MA {t:Qp} (R:Rz t) {g:Nat->Int} {h:Int}:∀ (fuel:Nat) (p:Pb) (met:SetTable.Met),SetTable.probe.go t g h fuel p=some met->∃ n,n < fuel/\(∀ k,k < n->∃ i,t.slot (stp t.mask k p).j=.live i/\g i≠h)/\MetIs t g h p n met
 | 0,p,met,e=>by
  unfold SetTable.probe.go at e
  cases e
 | fuel + 1,p,met,e=>by
  unfold SetTable.probe.go at e
  cases hs:t.slot p.j with
  | empty=>
   rw[hs]at e
   cases e
   exact ⟨0,WA _,λk hk=>absurd hk (UO _),rfl,hs,rfl⟩
  | dummy=>exact absurd hs (FQ R _)
  | live i=>
   rw[hs]at e
   dsimp only at e
   by_cases c:(g i == h)=true
   ·rw[if_pos c]at e
    cases e
    exact ⟨0,WA _,λk hk=>absurd hk (UO _),rfl,hs,eq_of_beq c,rfl⟩
   ·rw[if_neg c,Lk]at e
    obtain ⟨n,hn,h1,h2⟩:=MA R fuel (adv t.mask p) met e
    refine ⟨n + 1,Jb9 hn,λk hk=>?_,?_⟩
    ·cases k with
     | zero=>exact ⟨i,hs,λz=>c (by rw[z]; exact beq_self_eq_true h)⟩
     | succ k=>exact h1 k (by omega)
    ·cases met with
     | empty j d=>
      obtain ⟨e1,e2,e3⟩:=h2
      refine ⟨e1,e2,e3.trans ?_⟩
      have:=EN t.mask 1 p
      exact this
     | candidate j i next=>exact h2
theorem probe_ex {t:Qp} (R:Rz t) (hm:Msk t.mask) (hf:t.place.size<=t.mask) {g:Nat->Int} {h:Int} {p:Pb} (P:Pz2 t.mask p):∃ met,t.probe g h p=some met:=by
 obtain ⟨e,he,hn⟩:=JS R hf
 obtain ⟨L,hL,n,h1,_,h2⟩:=LI hm P.mo P.pt he
 refine Mz R _ n p ?_ (by rw[h2]; exact FT R hn)
 show n < 10 * (t.mask + 15)
 omega
def Fnd (m:Nat) (pl:List Nat) (h:Int) (j:Nat):Prop:=∃ n,(stp m n (pst m h)).j=j/\∀ k,k < n->(stp m k (pst m h)).j∈pl
theorem Fnd.more {m:Nat} {pl pl':List Nat} {h:Int} {j:Nat} (f:Fnd m pl h j) (hs:∀ x∈pl,x∈pl'):Fnd m pl' h j:=by
 obtain ⟨n,h1,h2⟩:=f
 exact ⟨n,h1,λk hk=>hs _ (h2 k hk)⟩
structure TabR (t:Qp) (hs:List Int):Prop where
 rz:Rz t
 len:t.place.size=hs.length
 msk:Msk t.mask
 room:hs.length<=t.mask
 fnd:∀ x∈hs.zip t.place.toList,Fnd t.mask t.place.toList x.1 x.2
theorem insert_zip {hs:List Int} {pl:List Nat} (hl:hs.length=pl.length) {p:Nat} (hp:p<=hs.length) (h:Int) (j:Nat):(hs.take p++h::hs.drop p).zip (pl.take p++j::pl.drop p)=(hs.zip pl).take p++(h,j)::(hs.zip pl).drop p:=by
 rw[List.zip_append (by rw[RA,RA]; omega),List.zip_cons_cons]
 unfold List.zip
 rw[List.take_zipWith,List.drop_zipWith]
theorem TabR.put {t:Qp} {hs:List Int} (T:TabR t hs) {h:Int} {n:Nat} (he:(stp t.mask n (pst t.mask h)).j∉t.place.toList) (hn:∀ k,k < n->(stp t.mask k (pst t.mask h)).j∈t.place.toList) (hr:hs.length + 1<=t.mask) :
  TabR (t.put (stp t.mask n (pst t.mask h)).j).1 (hs.take (SetTable.below t.place (stp t.mask n (pst t.mask h)).j)++h::hs.drop (SetTable.below t.place (stp t.mask n (pst t.mask h)).j)):=by
 have hjm:(stp t.mask n (pst t.mask h)).j<=t.mask:=by
  have:=(HA n (Ll t.mask h)).jl
  omega
 have hf:Fnd t.mask t.place.toList h (stp t.mask n (pst t.mask h)).j:=⟨n,rfl,hn⟩
 generalize (stp t.mask n (pst t.mask h)).j=j at he hjm hf ⊢
 have hb:=(Dt T.rz.up j).1
 have hl:hs.length=t.place.toList.length:=T.len.symm.trans Rw.symm
 have hbl:SetTable.below t.place j<=hs.length:=by rw[<- T.len]; exact hb
 have hp:((t.put j).1.place).toList=t.place.toList.take (SetTable.below t.place j)++j::t.place.toList.drop (SetTable.below t.place j):=Cs _ _ _
 have hsub:∀ x∈t.place.toList,x∈((t.put j).1.place).toList:=λx hx=>by
  rw[hp]
  rw[<- UU (SetTable.below t.place j) t.place.toList]at hx
  rcases RU.mp hx with z | z
  ·exact Wj _ z
  ·exact RH _ (Re _ z)
 have hlen:(hs.take (SetTable.below t.place j)++h::hs.drop (SetTable.below t.place j)).length=hs.length + 1:=by
  rw[Rk,Rq,RA,Uj]
  omega
 refine ⟨put_rz T.rz he hjm,?_,T.msk,?_,?_⟩
 ·rw[hlen,<- Rw,hp,Rk,Rq,RA,Uj,<- hl]
  omega
 ·rw[hlen]
  exact hr
 ·intro x hx
  have hm:(t.put j).1.mask=t.mask:=rfl
  rw[hm]
  rw[hp,insert_zip hl hbl]at hx
  have old:x∈hs.zip t.place.toList->Fnd t.mask ((t.put j).1.place).toList x.1 x.2:=λz=>(T.fnd x z).more hsub
  rcases RU.mp hx with z | z
  ·exact old (WR z)
  ·rcases Rg.mp z with z | z
   ·rw[z]
    exact hf.more hsub
   ·exact old (Wi z)
def ow (o:Array (Option Nat)) (j:Nat):Option Nat:=o.getD j none
theorem JT {o:Array (Option Nat)} {j:Nat} (hj:j < o.size) (k i:Nat):ow (o.setIfInBounds j (some k)) i=if i=j then some k else ow o i:=by
 unfold ow
 rw[Ub,Ub,Array.getElem?_setIfInBounds]
 by_cases e:j=i
 ·subst e
  rw[if_pos rfl,if_pos rfl,if_pos hj]
  rfl
 ·rw[if_neg e,if_neg (λz=>e z.symm)]
def owL (o:Array (Option Nat)) (L:List Nat):List Nat:=L.filterMap (ow o)
theorem JU {o:Array (Option Nat)} {j k:Nat} (hj:j < o.size) (h0:ow o j=none):∀ {L:List Nat},L.Nodup->(j∉L->owL (o.setIfInBounds j (some k)) L=owL o L)/\(j∈L->(owL (o.setIfInBounds j (some k)) L).Perm (owL o L++[k]))
 | [],_=>⟨λ_=>rfl,λh=>nomatch h⟩
 | x::L,hL=>by
  obtain ⟨h1,h2⟩:=UN.mp hL
  obtain ⟨i1,i2⟩:=JU (k:=k) hj h0 h2
  unfold owL at i1 i2 ⊢
  rw[UB,UB,JT hj]
  refine ⟨λhn=>?_,λhm=>?_⟩
  ·have hx:x≠j:=λz=>hn (by rw[z]; exact Rj ..)
   rw[if_neg hx,i1 λz=>hn (Re _ z)]
  ·by_cases hx:x=j
   ·subst hx
    rw[if_pos rfl,h0,i1 h1]
    exact (Ze _ _).symm
   ·rw[if_neg hx]
    have:=i2 ((Rg.mp hm).resolve_left (UQ hx))
    cases ow o x with
    | none=>exact this
    | some v=>exact this.cons v
def FreeAt (m:Nat) (o:Array (Option Nat)) (p:Pb) (j:Nat):Prop:=j < o.size/\ow o j=none/\∃ n,(stp m n p).j=j/\∀ k,k < n->∃ v,ow o (stp m k p).j=some v
theorem none_at {o:Array (Option Nat)} {j:Nat}:(o.getD j (some 0)).isNone=true↔j < o.size/\ow o j=none:=by
 unfold ow
 rw[Ub,Ub]
 by_cases h:j < o.size
 ·rw[UE h]
  cases o[j] <;> simp[h]
 ·rw[Zy (by omega)]
  simp[h]
theorem JV {m:Nat} {o:Array (Option Nat)} (hsz:o.size=m + 1):∀ (fuel:Nat) {p:Pb} {j:Nat},p.i<=m->SetTable.layClean.free m o fuel p.i p.perturb=some j->FreeAt m o (hd m p (p.i,p.perturb)) j
 | 0,p,j,_,e=>by
  unfold SetTable.layClean.free at e
  cases e
 | fuel + 1,p,j,hi,e=>by
  unfold SetTable.layClean.free at e
  have hrun:∀ r,r<=SetTable.runEnd m p.i - p.i->(stp m r (hd m p (p.i,p.perturb))).j=p.i + r:=λr hr=>by
   rw[Hw m r _ hr]
   rfl
  have hin:=JQ m p.i hi
  have hre:p.i<=SetTable.runEnd m p.i:=by
   unfold SetTable.runEnd
   split <;> omega
  split at e
  ·rename_i k hk
   cases e
   have h1:=Jc2 hk
   have hkm:=Ra.mp (W6 hk)
   obtain ⟨g1,g2⟩:=none_at.mp h1
   refine ⟨g1,g2,k,hrun k (by omega),λr hr=>?_⟩
   rw[hrun r (by omega)]
   have hrn:=List.find?_range_eq_some.mp hk
   have:=hrn.2.2 r hr
   cases hv:ow o (p.i + r) with
   | some v=>exact ⟨v,rfl⟩
   | none=>
    have z:=none_at.mpr ⟨show p.i + r < o.size by omega,hv⟩
    rw[z]at this
    cases this
  ·rename_i hk
   have hall:∀ r,r<=SetTable.runEnd m p.i - p.i->∃ v,ow o (p.i + r)=some v:=λr hr=>by
    have:=W3.mp hk r (Ra.mpr (by omega))
    cases hv:ow o (p.i + r) with
    | some v=>exact ⟨v,rfl⟩
    | none=>exact absurd (none_at.mpr ⟨show p.i + r < o.size by omega,hv⟩) this
   have hl:(SetTable.leap m p.i p.perturb).1<=m:=Wg (UT _ (WA _))
   obtain ⟨f1,f2,n,f3,f4⟩:=JV hsz fuel (p:=hd m p (SetTable.leap m p.i p.perturb)) hl e
   have hst:stp m (SetTable.runEnd m p.i - p.i + 1) (hd m p (p.i,p.perturb))=hd m p (SetTable.leap m p.i p.perturb):=FR m (hd m p (p.i,p.perturb))
   have hhd:hd m (hd m p (SetTable.leap m p.i p.perturb)) ((hd m p (SetTable.leap m p.i p.perturb)).i,(hd m p (SetTable.leap m p.i p.perturb)).perturb)=hd m p (SetTable.leap m p.i p.perturb):=rfl
   rw[hhd]at f3 f4
   refine ⟨f1,f2,SetTable.runEnd m p.i - p.i + 1 + n,by rw[CK,hst]; exact f3,λk hk=>?_⟩
   by_cases hkr:k<=SetTable.runEnd m p.i - p.i
   ·rw[hrun k hkr]
    exact hall k hkr
   ·have:=f4 (k - (SetTable.runEnd m p.i - p.i + 1)) (by omega)
    rw[<- hst,<- CK,show SetTable.runEnd m p.i - p.i + 1 + (k - (SetTable.runEnd m p.i - p.i + 1))=k by omega]at this
    exact this
theorem IC {m:Nat} {o:Array (Option Nat)}:∀ (fuel L:Nat) (x:Nat×Nat),L < fuel->(lps m L x).1 < o.size->ow o (lps m L x).1=none->∃ j,SetTable.layClean.free m o fuel x.1 x.2=some j
 | 0,_,_,h,_,_=>absurd h (UO _)
 | fuel + 1,L,x,h,h1,h2=>by
  unfold SetTable.layClean.free
  split
  ·exact ⟨_,rfl⟩
  ·rename_i hk
   cases L with
   | zero=>
    have:=W3.mp hk 0 (Ra.mpr (by
     have:x.1<=SetTable.runEnd m x.1:=by
      unfold SetTable.runEnd
      split <;> omega
     omega))
    exact absurd (none_at.mpr ⟨h1,h2⟩) this
   | succ L=>exact IC fuel L (SetTable.leap m x.1 x.2) (by omega) h1 h2
theorem Lm {o:Array (Option Nat)}:∀ (L:List Nat),(∀ j∈L,∃ v,ow o j=some v)->(owL o L).length=L.length
 | [],_=>rfl
 | x::L,h=>by
  obtain ⟨v,hv⟩:=h x (Rj ..)
  unfold owL
  rw[UB,hv]
  show _ + 1=_ + 1
  rw[show (List.filterMap (ow o) L).length=L.length from Lm L λj hj=>h j (Re _ hj)]
structure Lay (m:Nat) (hs:List Int) (o:Array (Option Nat)) (k:Nat):Prop where
 sz:o.size=m + 1
 pm:(owL o (J1 (m + 1))).Perm (J1 k)
 fn:∀ j v,ow o j=some v->v < k/\∃ n,(stp m n (pst m (hs.getD v 0))).j=j/\∀ i,i < n->∃ u,ow o (stp m i (pst m (hs.getD v 0))).j=some u
theorem Lay.zero (m:Nat) (hs:List Int):Lay m hs (YY (m + 1) none) 0:=by
 have h0:∀ j,ow (YY (m + 1) (none:Option Nat)) j=none:=λj=>by
  unfold ow
  rw[Ub,Array.getElem?_replicate]
  split <;> rfl
 refine ⟨by simp,?_,λj v e=>by rw[h0]at e; cases e⟩
 have:owL (YY (m + 1) (none:Option Nat)) (J1 (m + 1))=[]:=by
  unfold owL
  rw[List.filterMap_eq_nil_iff]
  exact λj _=>h0 j
 rw[this]
 exact Yj _
theorem Lay.step {m:Nat} (hm:Msk m) {hs:List Int} {o:Array (Option Nat)} {k:Nat} (Y:Lay m hs o k) (hk:k<=m) {h:Int} (hh:hs.getD k 0=h):∃ j,SetTable.layClean.free m o (SetTable.turns m) (SetTable.bits h % (m + 1)) (SetTable.bits h)=some j/\Lay m hs (o.setIfInBounds j (some k)) (k + 1):=by
 obtain ⟨e,he,h0⟩:∃ e,e<=m/\ow o e=none:=by
  refine R5 λhn=>?_
  have h1:=Lm (o:=o) (J1 (m + 1)) λj hj=>by
   have hj:=Ra.mp hj
   cases hv:ow o j with
   | some v=>exact ⟨v,rfl⟩
   | none=>exact absurd ⟨j,by omega,hv⟩ hn
  have h2:=Y.pm.length_eq
  rw[h1,J5,J5]at h2
  omega
 obtain ⟨L,hL,n,_,h2,h3⟩:=LI hm (p:=pst m h) (GQ m _) (Hz h) he
 rw[h2]at h3
 have h3':(lps m (13 + L) (SetTable.bits h % (m + 1),SetTable.bits h)).1=e:=h3
 obtain ⟨j,hj⟩:=IC (m:=m) (o:=o) (SetTable.turns m) (13 + L) (SetTable.bits h % (m + 1),SetTable.bits h) (by show 13 + L < m + 15; omega) (by rw[h3',Y.sz]; omega) (by rw[h3']; exact h0)
 have hF:=JV Y.sz (SetTable.turns m) (p:=pst m h) (Wg (UT _ (WA _))) hj
 obtain ⟨g1,g2,n',g3,g4⟩:=hF
 have hhd:hd m (pst m h) ((pst m h).i,(pst m h).perturb)=pst m h:=rfl
 rw[hhd]at g3 g4
 have mono:∀ i u,ow o i=some u->∃ u',ow (o.setIfInBounds j (some k)) i=some u':=λi u hu=>by
  rw[JT g1]
  split
  ·exact ⟨_,rfl⟩
  ·exact ⟨u,hu⟩
 refine ⟨j,hj,by rw[Array.size_setIfInBounds]; exact Y.sz,?_,λi v hv=>?_⟩
 ·have:=(JU (k:=k) g1 g2 (L:=J1 (m + 1)) Ur).2 (Ra.mpr (by rw[Y.sz]at g1; exact g1))
  rw[Rs (n:=k)]
  exact this.trans (Y.pm.append_right _)
 ·rw[JT g1]at hv
  by_cases hij:i=j
  ·rw[if_pos hij]at hv
   cases hv
   refine ⟨Ul _,n',by rw[hh,hij]; exact g3,λr hr=>?_⟩
   rw[hh]
   obtain ⟨u,hu⟩:=g4 r hr
   exact mono _ u hu
  ·rw[if_neg hij]at hv
   obtain ⟨e1,n2,e2,e3⟩:=Y.fn i v hv
   refine ⟨UD e1,n2,e2,λr hr=>?_⟩
   obtain ⟨u,hu⟩:=e3 r hr
   exact mono _ u hu
theorem ID {m:Nat} (hm:Msk m) {hs:List Int} (hl:hs.length<=m + 1):∀ (done rest:List Int) (o:Array (Option Nat)),hs=done++rest->Lay m hs o done.length->
  ∃ o',(rest.foldl (λ(acc:Option (Array (Option Nat)×Nat)) h=>do
   let (owner,k) <- acc
   let j <- SetTable.layClean.free m owner (SetTable.turns m) (SetTable.bits h % (m + 1)) (SetTable.bits h)
   pure (owner.setIfInBounds j (some k),k + 1)) (some (o,done.length)))=some (o',hs.length)/\Lay m hs o' hs.length
 | done,[],o,e,Y=>by
  rw[RJ]at e
  subst e
  exact ⟨o,rfl,Y⟩
 | done,h::rest,o,e,Y=>by
  have hk:done.length<=m:=by
   have:=congrArg WW e
   rw[Rk,Rq]at this
   omega
  have hh:hs.getD done.length 0=h:=by
   rw[e,J9,Up (J8 _),WN]
   rfl
  obtain ⟨j,hj,Y'⟩:=Y.step hm hk hh
  rw[List.foldl_cons]
  have e2:(do
   let (owner,k) <- (some (o,done.length):Option (Array (Option Nat)×Nat))
   let j <- SetTable.layClean.free m owner (SetTable.turns m) (SetTable.bits h % (m + 1)) (SetTable.bits h)
   pure (owner.setIfInBounds j (some k),k + 1))=some (o.setIfInBounds j (some done.length),done.length + 1):=by
   show (SetTable.layClean.free m o (SetTable.turns m) (SetTable.bits h % (m + 1)) (SetTable.bits h)).bind _=_
   rw[hj]
   rfl
  rw[e2]
  have:=ID hm hl (done++[h]) rest (o.setIfInBounds j (some done.length)) (by rw[e,UC]; rfl) (by rw[Rk]; exact Y')
  rw[Rk]at this
  exact this
theorem layClean_ok {m:Nat} (hm:Msk m) {hs:Array Int} (hl:hs.size<=m + 1):∃ o,SetTable.layClean m hs=some o/\Lay m hs.toList o hs.size:=by
 obtain ⟨o,h1,h2⟩:=ID hm (hs:=hs.toList) (by rw[Rw]; exact hl) [] hs.toList _ rfl (Lay.zero m hs.toList)
 refine ⟨o,?_,by rw[Rw]at h2; exact h2⟩
 unfold SetTable.layClean
 rw[<- Array.foldl_toList]
 have h1':=h1
 rw[show ([]:List Int).length=0 from rfl]at h1'
 rw[h1']
 rfl
theorem IE (o:Array (Option Nat)) (L:List Nat):(L.filterMap λj=>(o.getD j none).map (j,·)).map (·.2)=owL o L:=by
 unfold owL
 rw[List.map_filterMap]
 congr 1
 funext j
 unfold ow
 cases o.getD j none <;> rfl
theorem ow_lt {o:Array (Option Nat)} {j v:Nat} (h:ow o j=some v):j < o.size:=by
 refine R5 λhn=>?_
 unfold ow at h
 rw[Ub,Zy (by omega)]at h
 cases h
theorem laid_ok {m f mv:Nat} {led plain:Bool} (hm:Msk m) {hs:Array Int} (hl:hs.size<=m):∃ t order,SetTable.laid m f mv led plain hs=some (t,order)/\order.toList.Perm (J1 hs.size)/\TabR t (order.toList.map λi=>hs.toList.getD i 0)/\t.led=led/\t.plain=plain/\t.mask=m:=by
 obtain ⟨o,h1,Y⟩:=layClean_ok hm (hs:=hs) (by omega)
 have e:SetTable.laid m f mv led plain hs=some ({ mask:=m,place:=(((J1 (m + 1)).filterMap λj=>(o.getD j none).map (j,·)).map (·.1)).toArray,dummies:=#[],finger:=f,led,moves:=mv,plain },(((J1 (m + 1)).filterMap λj=>(o.getD j none).map (j,·)).map (·.2)).toArray):=by
  unfold SetTable.laid
  rw[h1]
  rfl
 have hR:=laid_rz e
 refine ⟨_,_,e,?_,?_,rfl,rfl,rfl⟩
 ·show (((J1 (m + 1)).filterMap λj=>(o.getD j none).map (j,·)).map (·.2)).Perm _
  rw[IE]
  exact Y.pm
 ·have hlv:∀ x,x∈((J1 (m + 1)).filterMap λj=>(o.getD j none).map (j,·))↔x.1 < m + 1/\ow o x.1=some x.2:=λx=>by
   rw[YB]
   constructor
   ·rintro ⟨j,hj,hx⟩
    obtain ⟨v,hv,rfl⟩:=WE.mp hx
    exact ⟨Ra.mp hj,hv⟩
   ·rintro ⟨hj,hx⟩
    exact ⟨x.1,Ra.mpr hj,WE.mpr ⟨x.2,hx,rfl⟩⟩
  have hlen:((J1 (m + 1)).filterMap λj=>(o.getD j none).map (j,·)).length=hs.size:=by
   have:=Y.pm.length_eq
   rw[<- IE,J0,J5]at this
   exact this
  generalize (J1 (m + 1)).filterMap (λj=>(o.getD j none).map (j,·))=lv at hR hlv hlen ⊢
  refine ⟨hR,?_,hm,?_,?_⟩
  ·simp
  ·show ((lv.map (·.2)).map _).length<=m
   rw[J0,J0,hlen]
   exact hl
  ·show ∀ x∈((lv.map (·.2)).map λi=>hs.toList.getD i 0).zip (lv.map (·.1)),Fnd m (lv.map (·.1)) x.1 x.2
   intro x hx
   rw[Uh,List.zip_map']at hx
   obtain ⟨y,hy,rfl⟩:=RB.mp hx
   obtain ⟨_,hy2⟩:=(hlv y).mp hy
   obtain ⟨_,n,g1,g2⟩:=Y.fn y.1 y.2 hy2
   refine ⟨n,g1,λk hk=>?_⟩
   obtain ⟨u,hu⟩:=g2 k hk
   have:=ow_lt hu
   rw[Y.sz]at this
   exact RB.mpr ⟨(_,u),(hlv _).mpr ⟨this,hu⟩,rfl⟩
end L2
namespace L2
open PySem PySem.Spec PyProof.Rows
section
variable {prog:Qj} {w:Qk} {A:Qm} {E:Qb->Qc->Prop} {s:Qc}
theorem new_lG (x:Qb) {Q:Qb->Qc->Prop} (h:Q (.ref s.heap.objs.size) { s with heap:=s.heap.push (set0 (!(w.params.followText "set-order"))) }) :
  QJ (model prog w) A (.call (.builtin "set.__new__") ⟨[.type "set",x],[]⟩) (wants Q E) s:=by
 refine QX (Qa (m:=checkBuiltinCall "set.__new__" ⟨[.type "set",x],[]⟩) (Qv (F.newCall_set_1 x) (Qd ⟨plainId_quiet F.plain_set_new _,Qy F.entry_set_new ?_⟩)))
 rw[Around.under_plainId F.plain_set_new _]
 have f:=sub_set_self
 obtain ⟨hp,g,d,tk,os⟩:=s
 unfold Builtin.«set.__new__» Builtin.Frozenset.newClass
 dsimp only
 wp_walk
 refine Q3 (Qd (Qa (wpAny_alloc (Qd (Qd h)))))
theorem set_call_lG {x:Qb} {Q:Qb->Qc->Prop} (h:Qf (model prog w) A.in1.in1 (Builtin.«set.__init__» ⟨[.ref s.heap.objs.size,x],[]⟩) (λfin s'=>fin=.done (.ret .none)/\Q (.ref s.heap.objs.size) s') E { s with heap:=s.heap.push (set0 (!(w.params.followText "set-order"))) }) :
  Qf (model prog w) A (call (.type "set") [x]) Q E s:=by
 obtain ⟨c,tl,m1⟩:=RS.mro
 have m2:=RS.made; have m3:=RS.sub; have m4:=RS.notType; have m5:=RS.canCreate
 have m6:=Zi x
 refine Q8 (QX (show Qf _ _ (callAny (.type "set") _) _ _ _ from Qd ⟨Code.quiet_builtin _ (by decide +kernel),Qy W8 ?_⟩))
 rw[Around.under_plain (weight_type_call_type "set" [x] []) rfl]
 repeat (any_goals (first | assumption | wp_step))
 refine QB (new_lG x (E:=E) (Q:=λob s1=>ob=.ref s.heap.objs.size/\s1={ s with heap:=s.heap.push (set0 (!(w.params.followText "set-order"))) }) ⟨rfl,rfl⟩) λr s1 hr=>?_
 match r,hr with
 | .error e,hr=>exact hr
 | .ok (.ret ob),hr=>
  obtain ⟨rfl,rfl⟩:=hr
  have hT:Shared.TypeIs { s with heap:=s.heap.push (set0 (!(w.params.followText "set-order"))) } (.ref s.heap.objs.size) "set":=⟨set0 (!(w.params.followText "set-order")),Heap.get?_push_size _ rfl,rfl⟩
  have m7:=RS.init.lookup; have m8:=RS.init.bind (.ref s.heap.objs.size)
  repeat (any_goals (first | assumption | wp_step))
  refine QB (QU (R:=wants (λr s2=>r=.none/\Q (.ref s.heap.objs.size) s2) E) RS.init.plain Zl (check_set_init_1 hT ?_)) λr2 s2 hr2=>?_
  ·refine Qw h (λfin s' hf=>?_) λ_ _ h'=>h'
   obtain ⟨rfl,hq⟩:=hf
   exact ⟨rfl,hq⟩
  ·match r2,hr2 with
   | .error e,hr2=>exact hr2
   | .ok (.ret v),hr2=>
    obtain ⟨rfl,hq⟩:=hr2
    repeat (any_goals (first | assumption | wp_step))
   | .ok .next,hr2=>exact hr2.elim
   | .ok .brk,hr2=>exact hr2.elim
   | .ok .cont,hr2=>exact hr2.elim
 | .ok .next,hr=>exact hr.elim
 | .ok .brk,hr=>exact hr.elim
 | .ok .cont,hr=>exact hr.elim
end
section
variable {prog:Qj} {w:Qk} {A:Qm} {E:Qb->Qc->Prop} {s:Qc} {a I T:Addr}
end
end L2
namespace L2
open PySem PySem.Spec PyProof.Rows
def entT (P:Qj) (w:Qk) (x:List Key×Addr):Int×Qb:=(Ql (Ao P w) x.1,.ref x.2)
structure TabT (P:Qj) (w:Qk) (xs:List (List Key×Addr)) (es:Array (Int×Qb)) (t:Qp):Prop where
 ents:es.toList=xs.map (entT P w)
 tab:TabR t (es.toList.map (·.1))
 led:t.led=!(w.params.followText "set-order")
 nf:xs.length * 5 < t.mask * 3
def SetT (P:Qj) (w:Qk) (h:Heap) (a:Addr) (xs:List (List Key×Addr)):Prop:=∃ o ep t es,h.get? a=some o/\o.ExactSet/\o.data=.set es ep t/\TabT P w xs es t
def Ln (P:Qj) (w:Qk) (h:Heap) (xs:List (List Key×Addr)):Prop:=∀ x∈xs,IsTupleKey (Ao P w) h x.1 x.2
theorem SetT.stay {P:Qj} {w:Qk} {h h':Heap} {a:Addr} {xs:List (List Key×Addr)} (x:SetT P w h a xs) (k:∀ o,h.get? a=some o->h'.get? a=some o):SetT P w h' a xs:=by
 obtain ⟨o,ep,t,es,ho,r⟩:=x
 exact ⟨o,ep,t,es,k o ho,r⟩
theorem TabR.fits {t:Qp} {hs:List Int} (T:TabR t hs):t.fits hs.length=true:=by
 unfold SetTable.fits SetTable.fill
 rw[T.rz.no,T.len]
 have:=T.room
 simp
 exact this
theorem TabT.size {P:Qj} {w:Qk} {xs:List (List Key×Addr)} {es:Array (Int×Qb)} {t:Qp} (T:TabT P w xs es t):es.size=xs.length:=by
 have:=congrArg WW T.ents
 rw[Rw,J0]at this
 exact this
theorem TabT.fit {P:Qj} {w:Qk} {xs:List (List Key×Addr)} {es:Array (Int×Qb)} {t:Qp} (T:TabT P w xs es t):t.fits es.size=true:=by
 have:=T.tab.fits
 rw[J0,Rw]at this
 exact this
theorem TabT.at {P:Qj} {w:Qk} {xs:List (List Key×Addr)} {es:Array (Int×Qb)} {t:Qp} (T:TabT P w xs es t) {i:Nat} (hi:i < t.place.size):∃ x,xs[i]?=some x/\es[i]?=some (entT P w x):=by
 have h1:=T.tab.len
 rw[J0,Rw,T.size]at h1
 have hi':i < xs.length:=by omega
 refine ⟨xs[i],J7 hi',?_⟩
 rw[<- U9,T.ents,Rm,J7 hi']
 rfl
section
variable {prog:Qj} {w:Qk} {A:Qm} {E:Qb->Qc->Prop} {s:Qc} {a:Addr}
theorem De {k:List Key} {b:Addr} {n:Nat} {Q:Bool->Qc->Prop} (hk:IsTupleKey (Ao prog w) s.heap k b) (h:Q false s):Qf (model prog w) A (ofAClassStatement (n + 1) (.ref b)) Q E s:=by
 have hT:=hk.typeIs
 obtain ⟨o,items,m,ho,_,hd,hi⟩:=hk
 unfold ofAClassStatement
 refine Qa (Q5 hT ?_)
 dsimp only
 rw[if_pos (by decide)]
 refine Qa (Qd ?_)
 rw[if_neg (by decide)]
 refine Qa (Qu ho hd ?_)
 dsimp only
 refine Qa ?_
 rw[<- ZW]
 refine Q2 _ (λrest r s'=>r.1=none/\s'=s/\∀ v∈rest,carriedByValue v=true) _ ?_ ?_ _ _ ⟨rfl,rfl,hi.byValue⟩
 ·rintro v rest r s' ⟨hr,rfl,hall⟩
  have hv:=hall v Rj
  have e:ofAClassStatement n v=pure false:=by
   cases v with
   | ref x=>simp[carriedByValue]at hv
   | _=>first | rfl | (unfold ofAClassStatement; rfl)
  rw[e]
  refine Qa (Qd ?_)
  rw[if_neg (by decide)]
  exact Qd ⟨rfl,rfl,λu hu'=>hall u (Re _ hu')⟩
 ·rintro ⟨r1,r2⟩ s' ⟨hr,rfl,_⟩
  simp only at hr
  subst hr
  exact Qd h
theorem not_seen {k:List Key} {b:Addr} {vs:List Qb} {Q:Bool->Qc->Prop} (hk:IsTupleKey (Ao prog w) s.heap k b) (hv:∀ v∈vs,∃ k' b',v=.ref b'/\IsTupleKey (Ao prog w) s.heap k' b') (h:Q false s):Qf (model prog w) A (searchCouldBeSeen (.ref b) vs) Q E s:=by
 unfold searchCouldBeSeen
 refine Qa ?_
 refine Q2 _ (λrest r s'=>r.1=none/\s'=s/\∀ v∈rest,∃ k' b',v=.ref b'/\IsTupleKey (Ao prog w) s.heap k' b') _ ?_ ?_ _ _ ⟨rfl,rfl,hv⟩
 ·rintro v rest r s' ⟨hr,rfl,hall⟩
  obtain ⟨k',b',rfl,hb⟩:=hall _ Rj
  have hrest:=λu hu'=>hall u (Re _ hu')
  dsimp only
  by_cases c:((b == b') || (carriedByValue (.ref b) && carriedByValue (.ref b')))=true
  ·rw[if_pos c]
   exact Qd ⟨rfl,rfl,hrest⟩
  ·rw[if_neg c]
   refine Qa (Xj hk ?_)
   rw[if_neg (by decide)]
   refine Qa (Xj hb ?_)
   rw[if_neg (by decide)]
   refine Qa (De hk ?_)
   rw[if_neg (by decide)]
   refine Qa (De hb ?_)
   rw[if_neg (by decide)]
   exact Qd ⟨rfl,rfl,hrest⟩
 ·rintro ⟨r1,r2⟩ s' ⟨hr,rfl,_⟩
  simp only at hr
  subst hr
  exact Qd h
theorem gave_no {m:Nat} (hm:Msk m):(m % 2 == 0)=false:=by
 rcases hm with rfl | rfl | rfl <;> rfl
theorem EO {k:List Key} {b:Addr} {xs:List (List Key×Addr)} {o:Obj} {ep:Nat} {t:Qp} {es:Array (Int×Qb)} (ho:s.heap.get? a=some o) (hd:o.data=.set es ep t) (T:TabT prog w xs es t) (hK:Ln prog w s.heap xs) (hb:IsTupleKey (Ao prog w) s.heap k b) (hu:A.units < cLine) {N:Nat} (hN:t.slot (stp t.mask N (pst t.mask (Ql (Ao prog w) k))).j=.empty)
  {Q:SetFound->Qc->Prop} (h1:k∈xs.map (·.1)->Q (.there none) s) (h2:k∉xs.map (·.1)->∀ n,(stp t.mask n (pst t.mask (Ql (Ao prog w) k))).j∉t.place.toList->(∀ i,i < n->(stp t.mask i (pst t.mask (Ql (Ao prog w) k))).j∈t.place.toList)->Q (.free (stp t.mask n (pst t.mask (Ql (Ao prog w) k))).j false) s) :
  ∀ (fuel n0:Nat) (stand:Option Pb),N - n0 < fuel->stand.getD (pst t.mask (Ql (Ao prog w) k))=stp t.mask n0 (pst t.mask (Ql (Ao prog w) k))->(∀ i,i < n0->∃ r x,t.slot (stp t.mask i (pst t.mask (Ql (Ao prog w) k))).j=.live r/\xs[r]?=some x/\x.1≠k)->
   Qf (model prog w) A (setSearchFrom a (.ref b) (Ql (Ao prog w) k) true fuel stand) Q E s
 | 0,_,_,hf,_,_=>absurd hf (UO _)
 | fuel + 1,n0,stand,hf,hst,hpast=>by
  have hn0:n0<=N:=Wu λz=>by
   obtain ⟨r,x,e,_⟩:=hpast N z
   rw[hN]at e
   cases e
  unfold setSearchFrom
  refine Qa (Qx ho hd T.fit ?_)
  dsimp only
  have hgw:t.gaveWay=false:=gave_no T.tab.msk
  rw[hgw,if_neg (by decide)]
  rw[pst_eq,hst]
  have hroom:t.place.size<=t.mask:=by rw[T.tab.len]; exact T.tab.room
  generalize hr:SetTable.probe t _ _ _=r
  obtain ⟨met,hmet⟩:=probe_ex T.tab.rz T.tab.msk hroom (g:=λi=>(es[i]?.map (·.1)).getD 0) (h:=Ql (Ao prog w) k) (HA n0 (Ll t.mask (Ql (Ao prog w) k)))
  have hr':r=some met:=hr.symm.trans hmet
  subst hr'
  obtain ⟨n,_,g1,g2⟩:=MA T.tab.rz _ _ _ hmet
  have hall:∀ i,i < n0 + n->∃ r x,t.slot (stp t.mask i (pst t.mask (Ql (Ao prog w) k))).j=.live r/\xs[r]?=some x/\x.1≠k:=λi hi=>by
   by_cases hin:i < n0
   ·exact hpast i hin
   ·obtain ⟨r,e1,e2⟩:=g1 (i - n0) (by omega)
    rw[<- CK,show n0 + (i - n0)=i by omega]at e1
    obtain ⟨hrl,_⟩:=HC T.tab.rz e1
    obtain ⟨x,e3,e4⟩:=T.at hrl
    refine ⟨r,x,e1,e3,λz=>e2 ?_⟩
    rw[e4,<- z]
    rfl
  have hin:∀ i,i < n0 + n->(stp t.mask i (pst t.mask (Ql (Ao prog w) k))).j∈t.place.toList:=λi hi=>by
   obtain ⟨r,x,e,_⟩:=hall i hi
   obtain ⟨hrl,e2⟩:=HC T.tab.rz e
   rw[<- e2]
   simp
  cases met with
  | empty j d=>
   obtain ⟨e1,e2,e3⟩:=g2
   rw[<- CK]at e1
   rw[EN]at e3
   have e3':d=none:=e3
   subst e3'
   dsimp only
   have hjn:(stp t.mask (n0 + n) (pst t.mask (Ql (Ao prog w) k))).j∉t.place.toList:=by
    rw[<- e1]
    exact slot_empty T.tab.rz e2
   rw[e1]
   refine Qd (h2 (λhk=>?_) (n0 + n) hjn hin)
   obtain ⟨x,hx,rfl⟩:=RB.mp hk
   obtain ⟨i0,hi0,ei0⟩:=Uw.mp hx
   have hsz:=T.size
   have hpl:i0 < t.place.size:=by rw[T.tab.len,J0,Rw]; omega
   have hmem:(Ql (Ao prog w) x.1,t.place[i0])∈(es.toList.map (·.1)).zip t.place.toList:=by
    rw[Uw]
    refine ⟨i0,by rw[List.length_zip,J0,Rw,Rw]; omega,?_⟩
    rw[List.getElem_zip]
    have e4:(es.toList.map (·.1))[i0]'(by rw[J0,Rw]; omega)=Ql (Ao prog w) x.1:=by
     have:(es.toList.map (·.1))[i0]?=some (Ql (Ao prog w) x.1):=by
      rw[T.ents,Uh,Rm,J7 hi0,ei0]
      rfl
     exact (J3.mp this).2
    rw[e4]
    simp
   obtain ⟨n1,f1,f2⟩:=T.tab.fnd _ hmem
   dsimp only at f1 f2
   rcases U2 n1 (n0 + n) with z | z | z
   ·obtain ⟨r,y,e5,e6,e7⟩:=hall n1 z
    rw[f1,JR T.tab.rz hpl]at e5
    cases e5
    rw[J7 hi0,ei0]at e6
    cases e6
    exact e7 rfl
   ·rw[z]at f1
    exact hjn (by rw[f1]; simp)
   ·exact hjn (f2 _ z)
  | candidate j i next=>
   obtain ⟨e1,e2,e3,e4⟩:=g2
   rw[<- CK]at e1 e4
   obtain ⟨hil,hij⟩:=HC T.tab.rz e2
   obtain ⟨x,hx1,hx2⟩:=T.at hil
   have hxk:=hK x (Rf hx1)
   dsimp only
   have body:Qf (model prog w) A (do
     let some (_,y):=es[i]? | unsupported "internal:set-entry"
     let equal <- holding [y] (eqBool y (.ref b))
     let (es',_,t') <- setState a
     if true && equal then return .there none
     let some same:=t'.sameMemory t.moves t.mask | unsupported "set.changed-during-lookup:is-the-new-block-at-the-old-address"
     let still <- match (if same then t'.slot j else .empty) with
      | .live i'=>match es'[i']? with
       | some (_,y')=>do pure (if <- isSame y' y then some i' else none)
       | none=>pure none
      | _=>pure none
     match still with
     | none=>rule "set.search.anew"; setSearchFrom a (.ref b) (Ql (Ao prog w) k) true fuel none
     | some i'=>if equal then return .there (some i') else setSearchFrom a (.ref b) (Ql (Ao prog w) k) true fuel (some next)) Q E s:=by
    rw[hx2]
    dsimp only[entT]
    refine Qa (Qo (wpAny_eqBool_tuple hu hxk hb ?_))
    refine Qa (Qx ho hd T.fit ?_)
    dsimp only
    by_cases hkk:x.1=k
    ·rw[decide_eq_true hkk,if_pos (by decide)]
     exact Qd (h1 (RB.mpr ⟨x,Rf hx1,hkk⟩))
    ·rw[decide_eq_false hkk,if_neg (by decide)]
     have hsm:t.sameMemory t.moves t.mask=some true:=by
      unfold SetTable.sameMemory
      rw[if_pos (by simp)]
     rw[hsm]
     dsimp only
     rw[if_pos rfl,e2]
     dsimp only
     rw[hx2]
     dsimp only[entT]
     refine Qa (wpAny_isSame_ref_self (Qa (Qd ?_)))
     rw[if_pos rfl]
     dsimp only
     rw[if_neg (by decide)]
     refine EO ho hd T hK hb hu hN h1 h2 fuel (n0 + n + 1) (some next) ?_ e4 λr hr=>?_
     ·have:n0 + n < N\/N<=n0 + n:=by omega
      rcases this with z | z
      ·omega
      ·by_cases zz:N=n0 + n
       ·rw[zz,<- e1,e2]at hN
        cases hN
       ·obtain ⟨r,x,e,_⟩:=hall N (by omega)
        rw[hN]at e
        cases e
     ·by_cases hrn:r < n0 + n
      ·exact hall r hrn
      ·have:r=n0 + n:=by omega
       subst this
       exact ⟨i,x,by rw[<- e1]; exact e2,hx1,hkk⟩
   by_cases hl:t.led=true
   ·rw[hl,if_neg (by decide)]
    exact Qa (Qd body)
   ·rw[Jb8]at hl
    rw[hl,if_pos (by decide)]
    refine Qa (m:=searchCouldBeSeen (.ref b) ((es.filter (·.1 == Ql (Ao prog w) k)).toList.map (·.2))) (not_seen hb (λv hv=>?_) ?_)
    ·obtain ⟨e,he,rfl⟩:=RB.mp hv
     have he2:e∈es.toList:=by
      have:=(Array.mem_filter.mp (WQ.mp he)).1
      exact WQ.mpr this
     rw[T.ents]at he2
     obtain ⟨y,hy,rfl⟩:=RB.mp he2
     exact ⟨y.1,y.2,rfl,hK y hy⟩
    ·rw[if_neg (by decide)]
     exact body
theorem hash_by {k:List Key} {b:Addr} {n:Nat} {Q:Bool->Qc->Prop} (hk:IsTupleKey (Ao prog w) s.heap k b) (h:∀ c,Q c s):Qf (model prog w) A (hashByValue (n + 2) (.ref b)) Q E s:=by
 have hT:=hk.typeIs
 obtain ⟨o,items,m,ho,_,hd,hi⟩:=hk
 unfold hashByValue
 refine Qa (QM hT F.slot_tuple_hash.lookup ?_)
 show Qf _ _ (seqItems? (.ref b) >>= _) _ _ s
 refine Qa (Qu ho hd ?_)
 refine Qa ?_
 show Qf _ _ (forIn items _ _) _ _ s
 rw[<- ZW]
 refine Q2 _ (λrest r s'=>s'=s/\∀ v∈rest,carriedByValue v=true) _ ?_ ?_ _ _ ⟨rfl,hi.byValue⟩
 ·rintro v rest r s' ⟨rfl,hall⟩
  have hv:=hall v Rj
  have hrest:=λu hu'=>hall u (Re _ hu')
  obtain ⟨c,e⟩:∃ c,hashByValue (n + 1) v=pure c:=by
   cases v with
   | ref x=>simp[carriedByValue]at hv
   | float bits x=>exact ⟨_,rfl⟩
   | _=>first | exact ⟨true,rfl⟩ | exact ⟨false,rfl⟩
  rw[e]
  refine Qa (Qd ?_)
  cases c with
  | true=>
   rw[if_neg (by decide)]
   exact Qd ⟨rfl,hrest⟩
  | false=>
   rw[if_pos (by decide)]
   exact Qd (Qd (h _))
 ·rintro ⟨r1,r2⟩ s' ⟨rfl,_⟩
  cases r1 with
  | none=>exact Qd (h _)
  | some c=>exact Qd (h _)
theorem grown_ok {n m:Nat} (hm:Msk m) (h1:n * 5 < m * 3) (h2:(n + 1) * 5>=m * 3) (h64:n + 1<=64):∃ m',SetTable.sizeAbove (SetTable.grown (n + 1))=m' + 1/\Msk m'/\(n + 1) * 5 < m' * 3:=by
 rcases hm with rfl | rfl | rfl
 ·have:n=4:=by omega
  subst this
  exact ⟨31,by decide +kernel,.inr (.inl rfl),by decide⟩
 ·have:n=18:=by omega
  subst this
  exact ⟨127,by decide +kernel,.inr (.inr rfl),by decide⟩
 ·omega
theorem put_atG {h:Heap} {o:Obj} {xs:List (List Key×Addr)} {es es':Array (Int×Qb)} {ep:Nat} {t t':Qp} (ho:h.get? a=some o) (hx:o.ExactSet) (hd:o.data=.set es ep t) (T:TabT prog w xs es' t') :
  (h.update a (Obj.putSet es' t')).get? a=some { o with data:=.set es' (ep + 1) t' }/\SetT prog w (h.update a (Obj.putSet es' t')) a xs:=by
 have e:=putSet_of es' t' hd
 have g:(h.update a (Obj.putSet es' t')).get? a=some { o with data:=.set es' (ep + 1) t' }:=by
  rw[Heap.get?_update_self (Obj.putSet es' t') ho (by rw[e]; rfl),e]
 exact ⟨g,_,_,_,_,g,hx,rfl,T⟩
theorem order_map {α:Type} {es:Array α} {order:Array Nat} (hp:order.toList.Perm (J1 es.size)) (d:α):(order.filterMap (es[·]?)).toList=order.toList.map λi=>es.toList.getD i d:=by
 rw[Array.toList_filterMap]
 have hall:∀ i∈order.toList,i < es.size:=λi hi=>Ra.mp (hp.mem_iff.mp hi)
 generalize order.toList=L at hall
 induction L with
 | nil=>rfl
 | cons i L ih=>
  have hi:=hall i (Rj ..)
  rw[UB,UE hi,Rt,ih λj hj=>hall j (Re _ hj)]
  simp[hi]
theorem getD_range {α:Type} (L:List α) (d:α):(J1 L.length).map (λi=>L.getD i d)=L:=by
 apply Ua
 ·simp
 intro i h1 h2
 simp[h2]
theorem relay_t {xs:List (List Key×Addr)} {o:Obj} {ep:Nat} {t:Qp} {es:Array (Int×Qb)} {m' wanted:Nat} (ho:s.heap.get? a=some o) (hx:o.ExactSet) (hd:o.data=.set es ep t) (hE:es.toList=xs.map (entT prog w)) (hT:TabR t (es.toList.map (·.1))) (hled:t.led=!(w.params.followText "set-order")) (hm:SetTable.sizeAbove wanted=m' + 1) (hk:Msk m') (hnf:xs.length * 5 < m' * 3)
  {Q:Unit->Qc->Prop} (h:∀ h' xs',Heap.SameBut a s.heap h'->SetT prog w h' a xs'->xs'.Perm xs->Q () { s with heap:=h' }):Qf (model prog w) A (setRelay a wanted) Q E s:=by
 have hsz:es.size=xs.length:=by
  have:=congrArg WW hE
  rw[Rw,J0]at this
  exact this
 have hfit:t.fits es.size=true:=by
  have:=hT.fits
  rw[J0,Rw]at this
  exact this
 unfold setRelay
 refine Qa (Qx ho hd hfit ?_)
 dsimp only
 rw[hm]
 have hsl:¬ m' + 1 > Qe:=by
  have:m'<=127:=by rcases hk with rfl | rfl | rfl <;> omega
  have h2:(128:Nat)<=Qe:=by decide
  omega
 rw[if_neg hsl]
 have hms:(es.map (·.1)).size<=m':=by
  rw[Zh,hsz]
  omega
 obtain ⟨t',order,e1,hp,hR,hl,hpl,hmk⟩:=laid_ok (f:=t.finger) (mv:=t.movedTo m') (led:=t.led) (plain:=t.plain) hk hms
 have e2:t.relaid (es.map (·.1)) wanted=some (t',order):=by
  unfold SetTable.relaid
  rw[hm,YE]
  exact e1
 rw[e2]
 rw[Zh]at hp
 have hmap:=order_map hp (0,Value.none)
 have hsz2:(order.filterMap (es[·]?)).size=es.size:=by
  rw[<- Rw,hmap,J0,hp.length_eq,J5]
 have hc:((order.filterMap (es[·]?)).size != es.size)=false:=by
  rw[hsz2]
  simp
 refine Qa (Qv (a:=(order.filterMap (es[·]?),t')) ?_ ?_)
 ·show (if ((order.filterMap (es[·]?)).size != es.size)=true then _ else _)=_
  rw[if_neg (by rw[hc]; decide)]
 dsimp only
 have hperm:(order.toList.map λi=>xs.getD i ([],0)).Perm xs:=by
  have:=hp.map λi=>xs.getD i ([],0)
  rw[hsz,getD_range]at this
  exact this
 have hE2:(order.filterMap (es[·]?)).toList=(order.toList.map λi=>xs.getD i ([],0)).map (entT prog w):=by
  rw[hmap,Uh]
  refine RG λi hi=>?_
  have hi':i < xs.length:=by
   have:=Ra.mp (hp.mem_iff.mp hi)
   omega
  rw[hE]
  show (xs.map (entT prog w)).getD i (0,Value.none)=entT prog w (xs.getD i ([],0))
  rw[J9,Rm,J7 hi',J9,J7 hi']
  rfl
 have hR2:TabR t' ((order.filterMap (es[·]?)).toList.map (·.1)):=by
  rw[hmap,Uh]
  have:(order.toList.map λi=>(es.map (·.1)).toList.getD i 0)=order.toList.map ((·.1) ∘ λi=>es.toList.getD i (0,Value.none)):=RG λi hi=>by
   have hi':i < es.toList.length:=by
    have:=Ra.mp (hp.mem_iff.mp hi)
    rw[Rw]
    exact this
   show (es.map (·.1)).toList.getD i 0=(es.toList.getD i (0,Value.none)).1
   rw[Array.toList_map,J9,Rm,J7 hi',J9,J7 hi']
   rfl
  rw[<- this]
  exact hR
 have T':TabT prog w (order.toList.map λi=>xs.getD i ([],0)) (order.filterMap (es[·]?)) t':=⟨hE2,hR2,hl.trans hled,by rw[hperm.length_eq,hmk]; exact hnf⟩
 obtain ⟨_,S'⟩:=put_atG ho hx hd T'
 refine Q7 ho hd (h _ _ (Heap.SameBut.update ..) S' hperm) ?_
 rw[hsz2,hsz]
 have:m'<=127:=by rcases hk with rfl | rfl | rfl <;> omega
 exact J6 (show xs.length<=127 by omega) (by decide)
theorem add_t {xs:List (List Key×Addr)} {k:List Key} {b:Addr} {Q:Bool->Qc->Prop} (hS:SetT prog w s.heap a xs) (hK:Ln prog w s.heap xs) (hb:IsTupleKey (Ao prog w) s.heap k b) (hu:A.units < cLine) (h64:xs.length + 1<=64)
  (h:∀ h' xs',Heap.SameBut a s.heap h'->SetT prog w h' a xs'->(xs'.Perm (xs++[(k,b)])/\k∉xs.map (·.1)\/xs'=xs/\k∈xs.map (·.1))->∀ c,Q c { s with heap:=h' }) :
  Qf (model prog w) A (setAddHashed a (.ref b) (Ql (Ao prog w) k)) Q E s:=by
 obtain ⟨o,ep,t,es,ho,hx,hd,T⟩:=id hS
 unfold setAddHashed setAddHashedIn
 refine Qo (Qa (Qx ho hd T.fit ?_))
 dsimp only
 have hbs:byScan (.ref b) es=false:=rfl
 rw[hbs,if_neg (by decide)]
 have hroom:t.place.size<=t.mask:=by rw[T.tab.len]; exact T.tab.room
 obtain ⟨e,he,hne⟩:=JS T.tab.rz hroom
 obtain ⟨L,hL,N,hN1,_,hN2⟩:=LI T.tab.msk (p:=pst t.mask (Ql (Ao prog w) k)) (GQ t.mask _) (Hz _) he
 have hmk:t.mask<=127:=by
  have:=T.tab.msk
  rcases this with z | z | z <;> omega
 have hmk7:7<=t.mask:=by
  have:=T.tab.msk
  rcases this with z | z | z <;> omega
 refine Qa (m:=setSearch a (.ref b) (Ql (Ao prog w) k) true) (EO ho hd T hK hb hu (N:=N) (by rw[hN2]; exact FT T.tab.rz hne) (λhin=>?_) (λhout n f1 f2=>?_) 100000 0 none (by omega) rfl λi hi=>absurd hi (UO _))
 ·exact Qd (h s.heap xs (Heap.SameBut.refl a s.heap) hS (.inr ⟨rfl,hin⟩) _)
 ·dsimp only
  refine Qa (Qx ho hd T.fit ?_)
  dsimp only
  have hT2:=T.tab.put f1 f2 (by rw[J0,Rw,T.size]; have:=T.nf; omega)
  generalize hj:(stp t.mask n (pst t.mask (Ql (Ao prog w) k))).j=j at f1 hT2 ⊢
  have hsz:=T.size
  have hbl:SetTable.below t.place j<=xs.length:=by
   have:=(Dt T.tab.rz.up j).1
   rw[T.tab.len,J0,Rw]at this
   omega
  have hE2:(SetTable.insertAt es (SetTable.below t.place j) (Ql (Ao prog w) k,Value.ref b)).toList=(xs.take (SetTable.below t.place j)++(k,b)::xs.drop (SetTable.below t.place j)).map (entT prog w):=by
   rw[Cs,T.ents,Rp,Rt,WT,Ya]
   rfl
  have hperm:(xs.take (SetTable.below t.place j)++(k,b)::xs.drop (SetTable.below t.place j)).Perm (xs++[(k,b)]):=by
   refine Jb4.trans ?_
   rw[UU]
   exact (Ze _ _).symm
  have hT3:TabR (t.put j).1 ((SetTable.insertAt es (SetTable.below t.place j) (Ql (Ao prog w) k,Value.ref b)).toList.map (·.1)):=by
   rw[Cs,Rp,Rt,WT,Ya]
   exact hT2
  have hlen:(xs.take (SetTable.below t.place j)++(k,b)::xs.drop (SetTable.below t.place j)).length=xs.length + 1:=by
   rw[hperm.length_eq,Rk]
   rfl
  have hsz2:(SetTable.insertAt es (SetTable.below t.place j) (Ql (Ao prog w) k,Value.ref b)).size=xs.length + 1:=by
   rw[<- Rw,hE2,J0,hlen]
  have tail:∀ t2:Qp,TabR t2 ((SetTable.insertAt es (SetTable.below t.place j) (Ql (Ao prog w) k,Value.ref b)).toList.map (·.1))->t2.led=t.led->t2.mask=t.mask->t2.place.size=xs.length + 1->t2.dummies=#[]->
    Qf (model prog w) A (do
     storeSet a (SetTable.insertAt es (SetTable.below t.place j) (Ql (Ao prog w) k,Value.ref b)) t2
     if !false && t2.tooFull then setRelay a (SetTable.grown (es.size + 1))
     return true) Q E s:=λt2 hR2 hl2 hm2 hp2 hd2=>by
   have g1:(s.heap.update a (Obj.putSet (SetTable.insertAt es (SetTable.below t.place j) (Ql (Ao prog w) k,Value.ref b)) t2)).get? a=some { o with data:=.set (SetTable.insertAt es (SetTable.below t.place j) (Ql (Ao prog w) k,Value.ref b)) (ep + 1) t2 }:=by
    have e:=putSet_of (SetTable.insertAt es (SetTable.below t.place j) (Ql (Ao prog w) k,Value.ref b)) t2 hd
    rw[Heap.get?_update_self (Obj.putSet _ t2) ho (by rw[e]; rfl),e]
   refine Qa (Q7 ho hd ?_ (by rw[hsz2]; exact J6 h64 (by decide)))
   have b1:=Heap.SameBut.update s.heap a (Obj.putSet (SetTable.insertAt es (SetTable.below t.place j) (Ql (Ao prog w) k,Value.ref b)) t2)
   have htf:t2.tooFull=decide ((xs.length + 1) * 5>=t.mask * 3):=by
    unfold SetTable.tooFull SetTable.fill
    rw[hd2,hp2,hm2]
    rfl
   by_cases c:(xs.length + 1) * 5>=t.mask * 3
   ·rw[htf,decide_eq_true c,if_pos (by decide)]
    obtain ⟨m',q1,q2,q3⟩:=grown_ok T.tab.msk T.nf c h64
    refine Qa (relay_t (s:={ s with heap:=s.heap.update a (Obj.putSet (SetTable.insertAt es (SetTable.below t.place j) (Ql (Ao prog w) k,Value.ref b)) t2) }) g1 hx rfl hE2 hR2 (hl2.trans T.led) (by rw[hsz]; exact q1) q2 (by rw[hlen]; exact q3) λh' xs' sb S' p'=>?_)
    exact Qd (h h' xs' (b1.trans sb) S' (.inl ⟨p'.trans hperm,hout⟩) _)
   ·rw[htf,decide_eq_false c,if_neg (by decide)]
    exact Qd (h _ _ b1 ⟨_,_,_,_,g1,hx,rfl,⟨hE2,hR2,hl2.trans T.led,by rw[hlen,hm2]; omega⟩⟩ (.inl ⟨hperm,hout⟩) _)
  have hpp:(t.put j).1.place.size=xs.length + 1:=by
   rw[hT3.len,J0,Rw,hsz2]
  have hdd:(t.put j).1.dummies=#[]:=hT3.rz.no
  by_cases hp:(t.put j).1.plain=true
  ·rw[if_pos hp]
   refine Qa (hash_by hb λc=>?_)
   cases c with
   | true=>
    rw[if_pos rfl]
    exact tail (t.put j).1 hT3 rfl rfl hpp hdd
   | false=>
    rw[if_neg (by decide)]
    exact tail { (t.put j).1 with plain:=false } ⟨⟨hT3.rz.up,hT3.rz.le,hT3.rz.no⟩,hT3.len,hT3.msk,hT3.room,hT3.fnd⟩ rfl rfl hpp hdd
  ·rw[if_neg hp]
   refine Qa (Qd ?_)
   rw[if_pos rfl]
   exact tail (t.put j).1 hT3 rfl rfl hpp hdd
end
section
variable {prog:Qj} {w:Qk} {A:Qm} {R:Result->Qc->Prop} {I:Addr} {fp wr:List Addr} {G:Array GenState->Array GenState->Prop} {n:Nat} {P:Nat->Qb->Prop} {St:Nat->Qc->Prop}
structure PutT (prog:Qj) (w:Qk) (h:Heap) (S:Addr) (val:Nat->List Key×Addr) (i:Nat) (L:List (List Key×Addr)):Prop where
 at_:SetT prog w h S L
 nd:(L.map (·.1)).Nodup
 le:L.length<=i
 of:∀ x∈L,∃ j,j < i/\val j=x
 all:∀ j,j < i->(val j).1∈L.map (·.1)
theorem PutT.stay {h h':Heap} {S:Addr} {val:Nat->List Key×Addr} {i:Nat} {L:List (List Key×Addr)} (x:PutT prog w h S val i L) (k:∀ o,h.get? S=some o->h'.get? S=some o):PutT prog w h' S val i L:=⟨x.at_.stay k,x.nd,x.le,x.of,x.all⟩
theorem PutT.next {h h':Heap} {S:Addr} {val:Nat->List Key×Addr} {i:Nat} {L L':List (List Key×Addr)} (x:PutT prog w h S val i L) (hs:SetT prog w h' S L') (hl:L'.Perm (L++[((val i).1,(val i).2)])/\(val i).1∉L.map (·.1)\/L'=L/\(val i).1∈L.map (·.1)):PutT prog w h' S val (i + 1) L':=by
 rcases hl with ⟨p,hn⟩ | ⟨rfl,hm⟩
 ·have pm:=p.map (·.1)
  rw[Rp]at pm
  refine ⟨hs,?_,?_,λy hy=>?_,λj hj=>?_⟩
  ·rw[pm.nodup_iff,UM]
   refine ⟨x.nd,by simp,λa ha b hb=>?_⟩
   rw[Rh.mp hb]
   exact λz=>hn (by rw[show (val i).1=a from z.symm]; exact ha)
  ·rw[p.length_eq,Rk]
   exact Yh x.le
  ·rcases RU.mp (p.mem_iff.mp hy) with z | z
   ·obtain ⟨j,hj,e⟩:=x.of y z
    exact ⟨j,by omega,e⟩
   ·exact ⟨i,by omega,(Rh.mp z).symm⟩
  ·rw[pm.mem_iff]
   by_cases e:j=i
   ·subst e
    exact RH _ (Rh.mpr rfl)
   ·exact Wj _ (x.all j (by omega))
 ·refine ⟨hs,x.nd,Jb1 x.le,λy hy=>?_,λj hj=>?_⟩
  ·obtain ⟨j,hj,e⟩:=x.of y hy
   exact ⟨j,by omega,e⟩
  ·by_cases e:j=i
   ·subst e
    exact hm
   ·exact x.all j (by omega)
theorem fill_t (W:WalksS prog w A.in1 I fp wr G n P St) {S:Addr} (hS:S∉fp) (hu:A.units + 3 < cLine) {val:Nat->List Key×Addr} (hv:∀ i v,P i v->v=.ref (val i).2) (hb:n<=64) (hnw:∀ i,i < n->(val i).2∉S::wr) :
  ∀ (k i:Nat) (s:Qc) (L:List (List Key×Addr)),n - i=k->i<=n->St i s->PutT prog w s.heap S val i L->(∀ i,i < n->IsTupleKey (Ao prog w) s.heap (val i).1 (val i).2)->
   (∀ s' L',Moved (S::wr) G s s'->PutT prog w s'.heap S val n L'->R (.ok (.ret .none)) s')->
   QJ (model prog w) A (.builtin "set.update.loop" ⟨[.ref S,.ref I],[]⟩) R s:=by
 have hw:S∉wr:=λz=>hS (W.sub _ z)
 have up:∀ b∈wr,b∈S::wr:=λb hb=>Re _ hb
 have keep:∀ {h h':Heap} {k:List Key} {b:Addr},IsTupleKey (Ao prog w) h k b->(∀ o,h.get? b=some o->h'.get? b=some o)->IsTupleKey (Ao prog w) h' k b:=λx k=>by
  obtain ⟨o,items,m,ho,r⟩:=x
  exact ⟨o,items,m,k o ho,r⟩
 intro k
 induction k with
 | zero=>
  intro i s L hk hi st X _ q
  obtain rfl:i=n:=by omega
  refine Qy F.entry_set_update_loop ?_
  rw[Around.under_plainId F.plain_set_update_loop _]
  refine Qa (m:=pyNext (.ref I)) (W.done s _ _ st λs' mv=>?_)
  exact Qd (q s' L (mv.mono up) (X.stay λo e=>mv.heap S o hw e))
 | succ k ih=>
  intro i s L hk hi st X KK q
  refine Qy F.entry_set_update_loop ?_
  rw[Around.under_plainId F.plain_set_update_loop _]
  refine Qa (m:=pyNext (.ref I)) (W.item i s _ _ (by omega) st λv s1 hP st1 mv=>?_)
  obtain rfl:=hv i v hP
  have X1:=X.stay λo e=>mv.heap S o hw e
  have KK1:∀ i,i < n->IsTupleKey (Ao prog w) s1.heap (val i).1 (val i).2:=λi hi=>keep (KK i hi) λo e=>mv.heap _ o (λz=>hnw i hi (Re _ z)) e
  refine Qa (m:=holding [Value.ref (val i).2] (setAdd S (.ref (val i).2))) (Qo ?_)
  unfold setAdd
  refine Qo (Qa (wpAny_pyHash_tuple (show A.units + 1 < cLine by omega) (KK1 i (by omega)) ?_))
  refine add_t (s:={ s1 with toks:=s1.toks + ((val i).1.length + 1) }) X1.at_ (λx hx=>?_) (KK1 i (by omega)) (show A.units + 1 < cLine by omega) (by have:=X1.le; omega) λh' L' sb hs' hl _=>?_
  ·obtain ⟨j,hj,rfl⟩:=X1.of x hx
   exact KK1 j (by omega)
  have X2:=X1.next hs' hl
  refine Qd ⟨plainId_quiet F.plain_set_update_loop _,ih (i + 1) { s1 with heap:=h',toks:=s1.toks + ((val i).1.length + 1) } L' (by omega) (by omega) (W.frame _ s1 _ _ st1 (Um _ _) λb hb' o e=>?_) X2 (λj hj=>keep (KK1 j hj) λo e=>(sb.2 _ λz=>hnw j hj (by rw[z]; exact Rj ..)).trans e) λs'' L'' mv2 X3=>?_⟩
  ·rw[sb.2 b λz=>hS (z▸hb')]
   exact e
  ·refine q s'' L'' (Moved.trans W.gtrans ((mv.mono up).then_heap (Um _ _) λb o hb' e=>?_) mv2) X3
   rw[sb.2 b λz=>hb' (z▸Rj)]
   exact e
end
section
variable {prog:Qj} {w:Qk} {A:Qm} {E:Qb->Qc->Prop} {s:Qc}
theorem set_list_t {l:Addr} {items:Array Qb} {vals:List (List Key×Addr)} {Q:Qb->Qc->Prop} (hh:A.handled=none) (hu:A.units + 8 < cLine) (hl:s.heap.IsList l items) (hi:items.toList=vals.map λx=>Value.ref x.2) (hk:∀ x∈vals,IsTupleKey (Ao prog w) s.heap x.1 x.2) (hb:vals.length<=64)
  (h:∀ (h':Heap) (tk:Nat) (L:List (List Key×Addr)),SetT prog w h' s.heap.objs.size L->(L.map (·.1)).Nodup->(∀ x∈L,x∈vals)->(∀ x∈vals,x.1∈L.map (·.1))->L.length<=vals.length->(∀ b o,s.heap.get? b=some o->h'.get? b=some o)->Q (.ref s.heap.objs.size) { s with heap:=h',toks:=tk }) :
  Qf (model prog w) A (call (.type "set") [.ref l]) Q E s:=by
 refine set_call_lG ?_
 generalize hled:(!(w.params.followText "set-order"))=led
 have hlt:l < s.heap.objs.size:=by
  obtain ⟨o,ho,_⟩:=hl
  exact Heap.lt_size ho
 have hsz:items.size=vals.length:=by
  rw[<- Rw,hi,J0]
 have hl1:(s.heap.push (set0 led)).IsList l items:=hl.push _
 have hS:(s.heap.push (set0 led)).get? s.heap.objs.size=some (set0 led):=Heap.get?_push_size _ rfl
 have hR:SetT prog w (s.heap.push (set0 led)) s.heap.objs.size []:=⟨set0 led,0,_,#[],hS,⟨rfl,rfl,rfl⟩,rfl,⟨rfl,⟨fresh_rz 0 0 led,rfl,.inl rfl,RP _,λx hx=>nomatch hx⟩,hled.symm,by show 0 * 5 < 7 * 3; decide⟩⟩
 have f1:=PySem.F.sub_list_set; have f2:=PySem.F.sub_list_frozenset
 have f3:(Value.type "list" == Value.type "dict")=false:=by decide
 obtain ⟨o,ho,hc,nl,hd⟩:=id hl1
 obtain ⟨oc,od,odt,osl⟩:=o
 simp only at hc hd
 subst hc hd
 unfold Builtin.«set.__init__» noKeywords Builtin.Frozenset.updateFrom
 generalize hI:pyIter=I0
 wp_walk
 subst hI
 refine QZ hl1 (Qa (wpAny_runValue ?_))
 have e1:(s.heap.push (set0 led)).objs.size=s.heap.objs.size + 1:=Heap.size_push ..
 have nf:s.heap.objs.size∉[(s.heap.push (set0 led)).objs.size,l]:=by
  rw[e1]
  intro z
  rcases Rg.mp z with z | z
  ·exact RC (Ul _) z
  ·exact Wc hlt (Rh.mp z)
 have nI:l≠(s.heap.push (set0 led)).objs.size:=by rw[e1]; exact RC (UD hlt)
 have hval:∀ (i:Nat) (v:Qb),items[i]?=some v->v=.ref ((λi=>vals.getD i ([],0)) i).2:=λi v hv=>by
  rw[<- U9,hi,Rm]at hv
  obtain ⟨x,hx,rfl⟩:=WE.mp hv
  show Value.ref x.2=.ref (vals.getD i ([],0)).2
  rw[J9,hx]
  rfl
 have hmem:∀ i,i < items.size->vals.getD i ([],0)∈vals:=λi hi'=>by
  rw[J9,J7 (show i < vals.length by omega)]
  exact Uk _
 have hkl:∀ i,i < items.size->(vals.getD i ([],0)).2 < s.heap.objs.size:=λi hi'=>by
  obtain ⟨o,_,_,ho,_⟩:=hk _ (hmem i hi')
  exact Heap.lt_size ho
 refine fill_t ((Walks.list (show A.in1.in1.in1.handled=none by simp[hh]) _ l nI items).toS) nf (show A.units + 2 + 3 < cLine by omega) hval (by omega) (λi hi' z=>?_) (items.size - 0) 0 _ [] rfl (RP _) ⟨⟨_,Heap.get?_push_size _ rfl,rfl,rfl⟩,hl1.push _⟩ ⟨hR.stay λo e=>Heap.get?_push_of_some _ e,Zn,RP _,λx hx=>(nomatch hx),λj hj=>absurd hj (UO _)⟩ (λi hi'=>?_) ?_
 ·have:=hkl i hi'
  rw[e1]at z
  rcases Rg.mp z with z | z
  ·exact RC this z
  ·exact RC (UD this) (Rh.mp z)
 ·obtain ⟨o,it,m,ho,r⟩:=hk _ (hmem i hi')
  exact ⟨o,it,m,Heap.get?_push_of_some _ (Heap.get?_push_of_some _ ho),r⟩
 intro s' L' hm X
 obtain ⟨h',g',d',tk',os'⟩:=s'
 obtain rfl:g'=s.gens:=hm.gens
 obtain rfl:d'=s.drawn:=hm.drawn
 obtain rfl:os'=s.os:=hm.os
 refine Qd (Qd ⟨rfl,h h' tk' L' X.at_ X.nd (λx hx=>?_) (λx hx=>?_) (by have:=X.le; omega) λb o hbo=>?_⟩)
 ·obtain ⟨j,hj,rfl⟩:=X.of x hx
  exact hmem j hj
 ·obtain ⟨j,hj,rfl⟩:=Uw.mp hx
  have:=X.all j (by omega)
  rw[J9,J7 hj]at this
  exact this
 ·have b1:=Heap.lt_size hbo
  refine hm.heap b o (λz=>?_) (Heap.get?_push_of_some _ (Heap.get?_push_of_some _ hbo))
  rw[e1]at z
  rcases Rg.mp z with z | z
  ·exact RC b1 z
  ·exact RC (UD b1) (Rh.mp z)
end
def kRw (b:List Nat):List Key:=b.map λx=>.inl ((x:Nat):Int)
theorem kRw_v (b:List Nat):(kRw b).map kV=nats b:=by
 unfold kRw
 rw[Uh]
 rfl
def unRw (k:List Key):List Nat:=k.map λx=>match x with | .inl i=>i.toNat | .inr _=>0
theorem GR (b:List Nat):unRw (kRw b)=b:=by
 unfold unRw kRw
 rw[Uh]
 exact (RG λx _=>Rc x).trans (Y3 b)
theorem kRw_inj {a b:List Nat} (h:kRw a=kRw b):a=b:=by rw[<- GR a,h,GR]
def adV:V->Addr
 | .ref a=>a
 | _=>0
def tsL:List V->List (List Nat)->List (List Key×Addr)
 | v::vs,b::bs=>(kRw b,adV v)::tsL vs bs
 | _,_=>[]
def TsO (P:Qj) (w:Qk) (a:Addr) (ws:List V) (cs:List (List Nat)):HO:=.ext λh=>SetT P w h a (tsL ws cs)
theorem HD {H:Hp}:∀ {vs:List V} {bs:List (List Nat)},TpAt H vs bs->(tsL vs bs).length=bs.length
 | [],[],_=>rfl
 | _::_,_::_,⟨_,t⟩=>by rw[tsL,Rq,Rq,HD t]
theorem JW {H:Hp}:∀ {vs:List V} {bs:List (List Nat)},TpAt H vs bs->(tsL vs bs).map (·.1)=bs.map kRw
 | [],[],_=>rfl
 | _::_,_::_,⟨_,t⟩=>by rw[tsL,Rt,Rt,JW t]
theorem EQ {H:Hp}:∀ {vs:List V} {bs:List (List Nat)},TpAt H vs bs->∀ x∈tsL vs bs,∃ b∈bs,x.1=kRw b/\H x.2=some (.tup (nats b))/\V.ref x.2∈vs
 | [],[],_,x,hx=>nomatch hx
 | _::_,b::_,⟨⟨a,e,q⟩,t⟩,x,hx=>by
  rcases Rg.mp hx with rfl | hx
  ·subst e
   exact ⟨b,Rj ..,rfl,q,Rj ..⟩
  ·obtain ⟨b',h1,h2,h3,h4⟩:=EQ t x hx
   exact ⟨b',Re _ h1,h2,h3,Re _ h4⟩
theorem MB {H:Hp}:∀ {L:List (List Key×Addr)},(∀ x∈L,∃ b,x.1=kRw b/\H x.2=some (.tup (nats b)))->TpAt H (L.map λx=>V.ref x.2) (L.map λx=>unRw x.1)/\tsL (L.map λx=>V.ref x.2) (L.map λx=>unRw x.1)=L
 | [],_=>⟨trivial,rfl⟩
 | x::L,h=>by
  obtain ⟨b,e,q⟩:=h x (Rj ..)
  obtain ⟨h1,h2⟩:=MB λy hy=>h y (Re _ hy)
  have eb:unRw x.1=b:=by rw[e,GR]
  refine ⟨⟨⟨x.2,rfl,by show H x.2=some (.tup (nats (unRw x.1))); rw[eb]; exact q⟩,h1⟩,?_⟩
  rw[Rt,Rt,tsL,h2,eb,<- e]
  rfl
section
variable {X:Cx} {pins:List (Addr×Obj)} {σ:St} {H:Hp} {s:Qc}
theorem key_ofT (I:Inv X pins σ H s) {b:List Nat} {a:Addr} (q:H a=some (.tup (nats b))):IsTupleKey (Ao X.prog X.w) s.heap (kRw b) a:=by
 obtain ⟨its,rv,⟨o,ho,hc,n,hd⟩,_⟩:=I.tuple (SqT.of q)
 rw[<- kRw_v]at rv
 exact ⟨o,its.toArray,n,ho,hc,hd,EL rv⟩
end
def Lo (P:Qj) (w:Qk) (K:J4):List V->Hp->VK->Prop:=λxs H Q=>∃ (a:Addr) (vs:List V) (bs:List (List Nat)),xs=[.ref a]/\SqL K H a vs/\TpAt H vs bs/\bs.length<=64/\
 ∀ (l:Addr) (ws:List V) (cs:List (List Nat)),H l=none->TpAt H ws cs->cs.Nodup->(∀ c∈cs,c∈bs)->(∀ b∈bs,b∈cs)->cs.length<=bs.length->Q (.ref l) (upd H l (TsO P w l ws cs))
theorem call_setTs {X:Cx} (hc:X.calm=true) (hu:X.A.units + 64 < cLine):Bx X (.type "set") (Lo X.prog X.w X.K):=by
 intro pins s σ H xs us Q I r h
 obtain ⟨a,vs,bs,rfl,hq,hP,h64,q⟩:=h
 obtain ⟨u,rfl,rx⟩:=CB r
 cases rx
 obtain ⟨its,r',pl,hz⟩:=I.list hq
 have hits:its=(tsL vs bs).map λx=>Value.ref x.2:=by
  clear q hq pl hz
  induction r' generalizing bs with
  | nil=>
   cases bs with
   | nil=>rfl
   | cons _ _=>exact hP.elim
  | @cons v u vs us h t ih=>
   cases bs with
   | nil=>exact hP.elim
   | cons b bs=>
    obtain ⟨⟨x,e,_⟩,hr⟩:=hP
    subst e
    cases h
    rw[tsL,Rt,<- ih bs hr (by simp at h64; omega)]
    rfl
 have hlen:=HD hP
 refine set_list_t (vals:=tsL vs bs) (I.ok.hd hc) (by omega) pl.isList (by rw[<- hits]) (λx hx=>?_) (by omega) λh' tk L hS nd hof hall hle kp=>?_
 ·obtain ⟨b,_,e,hb,_⟩:=EQ hP x hx
  rw[e]
  exact key_ofT I hb
 ·obtain ⟨t1,t2⟩:=MB (H:=H) (L:=L) λx hx=>by
   obtain ⟨b,_,e,hb,_⟩:=EQ hP x (hof x hx)
   exact ⟨b,e,hb⟩
  have eC:(L.map λx=>unRw x.1).map kRw=L.map (·.1):=by
   rw[Uh]
   refine RG λx hx=>?_
   obtain ⟨b,_,e,_⟩:=EQ hP x (hof x hx)
   show kRw (unRw x.1)=x.1
   rw[e,GR]
  refine ⟨.ref s.heap.objs.size,_,I.laid (t':=tk) (o:=TsO X.prog X.w s.heap.objs.size (L.map λx=>V.ref x.2) (L.map λx=>unRw x.1)) (λb o e=>kp b o e) (J8 _) ⟨by rw[t2]; exact hS,?_,λ_ _ p k=>p.stay k⟩,rfl,q _ _ _ (I.hok.fresh (J8 _)) t1 ?_ (λc hc'=>?_) (λb hb=>?_) (by rw[J0]; omega)⟩
  ·obtain ⟨o,_,_,_,ho,_⟩:=hS
   exact ⟨o,ho⟩
  ·rw[<- eC,RR,UA]at nd
   exact nd.imp λh e=>h (by rw[e])
  ·obtain ⟨x,hx,rfl⟩:=RB.mp hc'
   obtain ⟨b,hb,e,_⟩:=EQ hP x (hof x hx)
   rw[e,GR]
   exact hb
  ·have h1:kRw b∈(tsL vs bs).map (·.1):=by
    rw[JW hP]
    exact ZV hb
   obtain ⟨x,hx,e⟩:=RB.mp h1
   have h2:=hall x hx
   rw[e,<- eC]at h2
   obtain ⟨c,hc',e2⟩:=RB.mp h2
   rw[<- kRw_inj e2]
   exact hc'
def Lp (P:Qj) (w:Qk):List V->Hp->VK->Prop:=λxs H Q=>∃ (a:Addr) (ws:List V) (cs:List (List Nat)),xs=[.ref a]/\H a=some (TsO P w a ws cs)/\TpAt H ws cs/\Q (.int ((cs.length:Nat):Int)) H
theorem call_lenTs {X:Cx}:Bx X (.builtin "len") (Lp X.prog X.w):=by
 intro pins s σ H xs us Q I r h
 obtain ⟨a,ws,cs,rfl,ha,hP,q⟩:=h
 obtain ⟨u,rfl,rx⟩:=CB r
 cases rx
 have hS:SetT X.prog X.w s.heap a (tsL ws cs):=(I.hok a _ ha).1
 obtain ⟨o,ep,t,es,ho,hex,hd,T⟩:=hS
 have e:es.size=cs.length:=by rw[T.size,HD hP]
 refine call_len_set ho hex hd T.fit ?_ ⟨.int es.size,H,I.tok _,⟨_,rfl⟩,by rw[e]; exact q⟩
 rw[e]
 have:=T.tab.room
 rw[J0,Rw,e]at this
 have h2:=T.tab.msk
 have h3:cs.length<=127:=by rcases h2 with z | z | z <;> omega
 omega
end L2
namespace L2
open PySem PySem.Spec PyProof.Rows
end L2
namespace PySem
def IsZ (h:Heap) (z TI TO N:Addr):Prop:=(IsZip h z TI TO .none/\∃ a b,IsPair h TO a b)\/∃ (T:Addr) (f:Bool) (o:Obj),h.get? z=some { cls:=.type "zip",dict:=none,data:=.fields #[rawInt T,.bool f,.bool false,.ref TI,.ref TO],slots:=#[] }/\h.get? T=some o/\N<=T
structure Zpd (h:Heap) (N:Nat) (xs ys:Array Qb) (ts:List Addr):Prop where
 pr:∀ (j:Nat) (t:Addr),ts[j]?=some t->∃ x y,xs[j]?=some x/\ys[j]?=some y/\IsPair h t x y
 up:ts.Pairwise (· < ·)
 lo:∀ t∈ts,N<=t
section
variable {prog:Qj} {w:Qk} {A:Qm} {E:Qb->Qc->Prop} {s:Qc}
theorem IF {z TI TO T:Addr} {f:Bool} {o:Obj} {Q:Bool->Qc->Prop} (hz:s.heap.get? z=some { cls:=.type "zip",dict:=none,data:=.fields #[rawInt T,.bool f,.bool false,.ref TI,.ref TO],slots:=#[] }) (hT:s.heap.get? T=some o)
  (h:∀ h',h'.get? z=some { cls:=.type "zip",dict:=none,data:=.fields #[rawInt T,.bool true,.bool false,.ref TI,.ref TO],slots:=#[] }->Heap.SameBut z s.heap h'->Q false { s with heap:=h' }):Qf (model prog w) A (Builtin.SmallTypes.ownedTupleIsFree (.ref z)) Q E s:=by
 unfold Builtin.SmallTypes.ownedTupleIsFree
 refine Qa (Qn hz rfl (x:=rawInt T) rfl ?_)
 show Qf _ _ (loadIfAlive ((T:Int).toNat) >>= _) _ _ _
 rw[Rc]
 refine Qa (PySem.W.kdx_alive hT ?_)
 simp only[Option.isNone_some,Uu,if_false]
 refine Qa (Qn hz rfl (x:=.bool f) rfl ?_)
 cases f with
 | true=>
  rw[if_neg (show ¬ ((Value.bool true != Value.bool true)=true) from Rx)]
  exact Qd (h s.heap hz (Heap.SameBut.refl _ _))
 | false=>
  rw[if_pos (show (Value.bool false != Value.bool true)=true from rfl)]
  exact Qa (QD hz (by simp) λh₃ he₃ hs₃=>Qd (h h₃ he₃ hs₃))
theorem zip_item_held {z TI TO i1 i2 l1 l2 T:Addr} {f:Bool} {o:Obj} {k1 k2:Nat} {xs ys:Array Qb} {x y:Qb} {Q:Option Qb->Qc->Prop} (D:ZipApart z TI TO i1 i2 l1 l2)
  (hz:s.heap.get? z=some { cls:=.type "zip",dict:=none,data:=.fields #[rawInt T,.bool f,.bool false,.ref TI,.ref TO],slots:=#[] }) (hT:s.heap.get? T=some o) (hTI:IsPair s.heap TI (.ref i1) (.ref i2))
  (h1:s.heap.IsListIter i1 l1 k1) (h2:s.heap.IsListIter i2 l2 k2) (hl1:s.heap.IsList l1 xs) (hl2:s.heap.IsList l2 ys) (hx:xs[k1]?=some x) (hy:ys[k2]?=some y)
  (hQ:∀ h',h'.get? z=some { cls:=.type "zip",dict:=none,data:=.fields #[rawInt T,.bool true,.bool false,.ref TI,.ref TO],slots:=#[] }->h'.IsListIter i1 l1 (k1 + 1)->h'.IsListIter i2 l2 (k2 + 1)->IsPair h' s.heap.objs.size x y->h'.objs.size=s.heap.objs.size + 1->
   (∀ c o,c≠z->c≠i1->c≠i2->s.heap.get? c=some o->h'.get? c=some o)->Q (some (.ref s.heap.objs.size)) { s with heap:=h' }) :
  Qf (model prog w) A (pyNext (.ref z)) Q E s:=by
 have hTy:s.TypeIs (.ref z) "zip":=⟨_,hz,rfl⟩
 unfold pyNext
 refine Qa (QK (wpAny_callSpecial?_slot (name:=Str.ofString "__next__") hTy F.slot_zip_next (Qq F.slot_zip_next hTy F.entry_zip_next ?_ (F.args_zip_next_1 _))))
 show Qf _ _ (field (.ref z) 2 >>= _) _ _ _
 refine Qa (Qn hz rfl (x:=.bool false) rfl ?_)
 show Qf _ _ (field (.ref z) 3 >>= _) _ _ _
 refine Qa (Qn hz rfl (x:=.ref TI) rfl ?_)
 refine Qa (Qu hTI rfl ?_)
 show Qf _ _ (Builtin.SmallTypes.ownedTupleIsFree (.ref z) >>= _) _ _ _
 refine Qa (IF hz hT λh₁ hz₁ hs₁=>?_)
 simp only[Uu,if_false]
 rw[show (#[Value.ref i1,Value.ref i2]:Array Qb)=[Value.ref i1,Value.ref i2].toArray from rfl,Z8]
 simp only[WC,W7]
 have h1':=h1.extBut hs₁.extBut D.i1z
 have hl1':=hl1.extBut hs₁.extBut D.l1z
 refine Qa (Qa (Qa (Qo ?_)))
 show Qf _ _ (Builtin.SmallTypes.nextOf (.ref i1) >>= _) _ _ _
 refine Qa (Xf h1' hl1' hx λh₂ h1₂ hs₂=>Qd ?_)
 refine Qd (Qa (Qa (Qo ?_)))
 show Qf _ _ (Builtin.SmallTypes.nextOf (.ref i2) >>= _) _ _ _
 have h2':=(h2.extBut hs₁.extBut D.i2z).extBut hs₂.extBut D.i12.symm
 have hl2':=(hl2.extBut hs₁.extBut D.l2z).extBut hs₂.extBut D.l2i1
 refine Qa (Xf h2' hl2' hy λh₃ h2₃ hs₃=>Qd ?_)
 refine Qd (Qd ?_)
 refine Qa (Xh ?_ (by show 2<=Qe; decide))
 refine Qd ⟨_,rfl,Qd ?_⟩
 have hsz:h₃.objs.size=s.heap.objs.size:=by rw[hs₃.1,hs₂.1,hs₁.1]
 show Q (some (.ref h₃.objs.size)) _
 rw[hsz]
 have up:∀ c o,h₃.get? c=some o->(h₃.push { cls:=.type "tuple",data:=.seq (#[x,y]:Array Qb) }).get? c=some o:=λc o e=>Heap.get?_push_of_some _ e
 refine hQ _ (up _ _ (hs₃.extBut _ _ D.i2z.symm (hs₂.extBut _ _ D.i1z.symm hz₁))) ((h1₂.extBut hs₃.extBut D.i12).at λo e=>up _ o e) (h2₃.at λo e=>up _ o e) (by rw[<- hsz]; exact Heap.get?_push_size _ rfl) (by show (h₃.push _).objs.size=_; rw[Heap.size_push,hsz]) λc o c1 c2 c3 e=>up c o (hs₃.extBut _ _ c3 (hs₂.extBut _ _ c2 (hs₁.extBut _ _ c1 e)))
theorem zip_end_held {z TI TO i1 i2 l1 l2 T:Addr} {f:Bool} {o:Obj} {k1:Nat} {xs:Array Qb} {Q:Option Qb->Qc->Prop} (hh:A.handled=none) (D:ZipApart z TI TO i1 i2 l1 l2)
  (hz:s.heap.get? z=some { cls:=.type "zip",dict:=none,data:=.fields #[rawInt T,.bool f,.bool false,.ref TI,.ref TO],slots:=#[] }) (hT:s.heap.get? T=some o) (hTI:IsPair s.heap TI (.ref i1) (.ref i2))
  (h1:s.heap.IsListIter i1 l1 k1) (hl1:s.heap.IsList l1 xs) (hx:xs[k1]?=none)
  (hQ:∀ h',(∀ c o,c≠z->c≠i1->s.heap.get? c=some o->h'.get? c=some o)->Q none { s with heap:=h' }) :
  Qf (model prog w) A (pyNext (.ref z)) Q E s:=by
 have hTy:s.TypeIs (.ref z) "zip":=⟨_,hz,rfl⟩
 unfold pyNext
 refine Qa (QK (wpAny_callSpecial?_slot (name:=Str.ofString "__next__") hTy F.slot_zip_next (Qq F.slot_zip_next hTy F.entry_zip_next ?_ (F.args_zip_next_1 _))))
 show Qf _ _ (field (.ref z) 2 >>= _) _ _ _
 refine Qa (Qn hz rfl (x:=.bool false) rfl ?_)
 show Qf _ _ (field (.ref z) 3 >>= _) _ _ _
 refine Qa (Qn hz rfl (x:=.ref TI) rfl ?_)
 refine Qa (Qu hTI rfl ?_)
 show Qf _ _ (Builtin.SmallTypes.ownedTupleIsFree (.ref z) >>= _) _ _ _
 refine Qa (IF hz hT λh₁ hz₁ hs₁=>?_)
 simp only[Uu,if_false]
 rw[show (#[Value.ref i1,Value.ref i2]:Array Qb)=[Value.ref i1,Value.ref i2].toArray from rfl,Z8]
 simp only[WC,W7]
 have h1':=h1.extBut hs₁.extBut D.i1z
 have hl1':=hl1.extBut hs₁.extBut D.l1z
 refine Qa (Qa (Qa (Qo ?_)))
 show Qf _ _ (Builtin.SmallTypes.nextOf (.ref i1) >>= _) _ _ _
 refine Qa (wpAny_nextOf_list_end hh h1' hl1' hx λh₂ e hs₂ he=>?_)
 obtain ⟨oe,hoe,hce⟩:=he
 refine Qa (QQ (T:="StopIteration") (b:=true) ⟨oe,hoe,hce⟩ (by rw[isSubtype_type]; kernel_rfl) ?_)
 rw[if_pos rfl]
 exact Qd (hQ h₂ λc o c1 c2 x=>hs₂ _ _ c2 (hs₁.extBut _ _ c1 x))
theorem Zpd.keep {h h':Heap} {N:Nat} {xs ys:Array Qb} {ts:List Addr} (Z:Zpd h N xs ys ts) (k:∀ t∈ts,∀ o,h.get? t=some o->h'.get? t=some o):Zpd h' N xs ys ts:=⟨λj t e=>by
 obtain ⟨x,y,h1,h2,h3⟩:=Z.pr j t e
 exact ⟨x,y,h1,h2,k t (Rf e) _ h3⟩,Z.up,Z.lo⟩
theorem Zpd.lt {h:Heap} {N:Nat} {xs ys:Array Qb} {ts:List Addr} (Z:Zpd h N xs ys ts) {t:Addr} (ht:t∈ts):t < h.objs.size:=by
 obtain ⟨j,hj,e⟩:=List.getElem_of_mem ht
 obtain ⟨x,y,_,_,h3⟩:=Z.pr j t (by rw[J7 hj,e])
 exact Heap.lt_size h3
theorem Zpd.snoc {h:Heap} {N:Nat} {xs ys:Array Qb} {ts:List Addr} {T:Addr} {x y:Qb} (Z:Zpd h N xs ys ts) (hx:xs[ts.length]?=some x) (hy:ys[ts.length]?=some y) (hT:IsPair h T x y) (hlt:∀ t∈ts,t < T) (hN:N<=T):Zpd h N xs ys (ts++[T]):=by
 refine ⟨λj t e=>?_,?_,λt ht=>?_⟩
 ·by_cases hj:j < ts.length
  ·rw[Wo hj]at e
   exact Z.pr j t e
  ·have hjl:j=ts.length:=by
    have:=(J3.mp e).1
    rw[Rk,UV]at this
    omega
   subst hjl
   rw[Up (J8 _),WN]at e
   cases e
   exact ⟨x,y,hx,hy,hT⟩
 ·rw[Ys]
  exact ⟨Z.up,Zu ..,λa ha b hb=>by rw[Rh.mp hb]; exact hlt a ha⟩
 ·rcases RU.mp ht with h | h
  ·exact Z.lo t h
  ·rw[Rh.mp h]; exact hN
theorem zl_loop {R:Result->Qc->Prop} {z TI TO i1 i2 l1 l2 S:Addr} {N:Nat} {xs ys:Array Qb} (hh:A.handled=none) (D:ZipApart z TI TO i1 i2 l1 l2) (hlen:xs.size=ys.size) (hsz:xs.size<=1000) (res:Qb) (hS:∀ b∈[z,TI,TO,i1,i2,l1,l2],b≠S) (hN:∀ b∈[S,z,TI,TO,i1,i2,l1,l2],b < N) :
  ∀ (k i:Nat) (s:Qc) (ts:List Addr) (c:Nat),xs.size - i=k->i<=xs.size->IsZ s.heap z TI TO N->IsPair s.heap TI (.ref i1) (.ref i2)->s.heap.IsListIter i1 l1 i->s.heap.IsListIter i2 l2 i->s.heap.IsList l1 xs->s.heap.IsList l2 ys->
   s.heap.get? S=some { cls:=.type "list",dict:=none,data:=.seq (ts.map Value.ref).toArray c,slots:=#[] }->ts.length=i->Zpd s.heap N xs ys ts->N<=s.heap.objs.size->
   (∀ h' ts' c',(∀ b o,b∉[S,z,TO,i1,i2]->s.heap.get? b=some o->h'.get? b=some o)->h'.get? S=some { cls:=.type "list",dict:=none,data:=.seq (ts'.map Value.ref).toArray c',slots:=#[] }->ts'.length=xs.size->Zpd h' N xs ys ts'->R (.ok (.ret res)) { s with heap:=h' })->
   QJ (model prog w) A (.builtin "list.extend.loop" ⟨[.ref S,.ref z,res],[]⟩) R s:=by
 intro k
 induction k with
 | zero=>
  intro i s ts c hk hi hz hTI h1 h2 hl1 hl2 hSl hts Z hNs hR
  have hin:i=xs.size:=by omega
  refine Qy F.entry_extend_loop ?_
  rw[Around.under_plainId F.plain_extend_loop _]
  show Qf _ A.in1 (pyNext (.ref z) >>= _) _ _ s
  have hx:xs[i]?=none:=by simp[hin]
  refine Qa ?_
  have fin:∀ h',(∀ c o,c≠z->c≠TO->c≠i1->c≠i2->s.heap.get? c=some o->h'.get? c=some o)->R (.ok (.ret res)) { s with heap:=h' }:=λh' kp=>by
   have kp':∀ b o,b∉[z,TO,i1,i2]->s.heap.get? b=some o->h'.get? b=some o:=λb o hb e=>kp b o (λq=>hb (by simp[q])) (λq=>hb (by simp[q])) (λq=>hb (by simp[q])) (λq=>hb (by simp[q])) e
   refine hR h' ts c (λb o hb e=>kp' b o (λq=>hb (Re _ q)) e) (kp' S _ (λq=>hS S (by simp only[Rg,Rv,or_false]at q ⊢; rcases q with q | q | q | q <;> simp[q]) rfl) hSl) (by omega) (Z.keep λt ht o e=>kp' t o (λq=>?_) e)
   have:=Z.lo t ht
   have l:t < N:=hN t (by simp only[Rg,Rv,or_false]at q ⊢; rcases q with q | q | q | q <;> simp[q])
   exact Ry _ (Rb l this)
  rcases hz with ⟨hz,a,b,hTO⟩ | ⟨T,f,o,hz,hT,hTS⟩
  ·exact Xl hh D hz hTI hTO h1 h2 hl1 hl2 (.inl hx) λh' kp=>Qd (fin h' kp)
  ·exact zip_end_held hh D hz hT hTI h1 hl1 hx λh' kp=>Qd (fin h' λc o c1 _ c3 _ e=>kp c o c1 c3 e)
 | succ k ih=>
  intro i s ts c hk hi hz hTI h1 h2 hl1 hl2 hSl hts Z hNs hR
  have hlt:i < xs.size:=by omega
  have hlt':i < ys.size:=by omega
  have hx:xs[i]?=some xs[i]:=by simp[hlt]
  have hy:ys[i]?=some ys[i]:=by simp[hlt']
  refine Qy F.entry_extend_loop ?_
  rw[Around.under_plainId F.plain_extend_loop _]
  show Qf _ A.in1 (pyNext (.ref z) >>= _) _ _ s
  refine Qa ?_
  have nn:∀ b∈[z,TO,i1,i2],∀ t∈ts,t≠b:=λb hb t ht e=>by
   have:=Z.lo t ht
   have l:b < N:=hN b (by simp only[Rg,Rv,or_false]at hb ⊢; rcases hb with q | q | q | q <;> simp[q])
   rw[e]at this
   exact Ry _ (Rb l this)
  have step:∀ h',IsZ h' z TI TO N->h'.IsListIter i1 l1 (i + 1)->h'.IsListIter i2 l2 (i + 1)->IsPair h' s.heap.objs.size xs[i] ys[i]->h'.objs.size=s.heap.objs.size + 1->(∀ c o,c≠z->c≠TO->c≠i1->c≠i2->s.heap.get? c=some o->h'.get? c=some o)->
    Qf (model prog w) A.in1 (updateSeq S (·.push (.ref s.heap.objs.size)) >>= λ_=>again (.builtin "list.extend.loop" ⟨[.ref S,.ref z,res],[]⟩)) (λfin s'=>match fin with | .done f=>R (.ok f) s' | .again c'=>c'.quiet=true/\QJ (model prog w) A c' R s') (λe s'=>R (.error e) s') { s with heap:=h' }:=λh' hz' j1 j2 hT hs' kp=>by
   have kp':∀ b o,b∉[z,TO,i1,i2]->s.heap.get? b=some o->h'.get? b=some o:=λb o hb e=>kp b o (λq=>hb (by simp[q])) (λq=>hb (by simp[q])) (λq=>hb (by simp[q])) (λq=>hb (by simp[q])) e
   have hS':h'.get? S=some { cls:=.type "list",dict:=none,data:=.seq (ts.map Value.ref).toArray c,slots:=#[] }:=kp' S _ (λq=>hS S (by simp only[Rg,Rv,or_false]at q ⊢; rcases q with q | q | q | q <;> simp[q]) rfl) hSl
   have hl:(ts.map Value.ref).toArray.size=i:=by simp[hts]
   have oth:∀ b o,b≠S->h'.get? b=some o->(h'.update S (Obj.mapSeq (·.push (Value.ref s.heap.objs.size)))).get? b=some o:=λb o hb e=>(Heap.get?_update_other _ _ (UQ hb)).trans e
   have nTS:s.heap.objs.size≠S:=λe=>Ry _ (e▸Heap.lt_size hSl)
   have Z1:Zpd h' N xs ys ts:=Z.keep λt ht o e=>kp' t o (λq=>nn t q t ht rfl) e
   refine Qa (Q6 (s:={ s with heap:=h' }) hS' rfl (Qd ⟨plainId_quiet F.plain_extend_loop _,ih (i + 1) _ (ts++[s.heap.objs.size]) (c + 1) (by omega) hlt ?_ ?_ ?_ ?_ ?_ ?_ ?_ (by rw[Rk,hts]; rfl) ?_ ?_ λh2 ts' c' k2 g2 l2' Z2=>?_⟩) (by rw[hl]; exact J6 (show i<=1000 by omega) (by decide)) (by show ((ts.map Value.ref).toArray.push _).size<=Qe + 1; rw[Array.size_push,hl]; exact J6 (show i + 1<=1001 by omega) (by decide)))
   ·rcases hz' with ⟨q1,a,b,q2⟩ | ⟨T,f,o,q1,q2,q3⟩
    ·exact .inl ⟨oth _ _ (hS z (by simp)) q1,a,b,oth _ _ (hS TO (by simp)) q2⟩
    ·exact .inr ⟨T,f,o,oth _ _ (hS z (by simp)) q1,oth _ _ (λe=>Ry _ (Rb (hN S (by simp)) (e▸q3))) q2,q3⟩
   ·exact oth _ _ (hS TI (by simp)) (kp' TI _ (λq=>by
     simp only[Rg,Rv,or_false]at q
     rcases q with q | q | q | q
     ·exact D.TIz q
     ·exact D.TITO q
     ·exact D.TIi1 q
     ·exact D.TIi2 q) hTI)
   ·exact j1.at λo e=>oth _ o (hS i1 (by simp)) e
   ·exact j2.at λo e=>oth _ o (hS i2 (by simp)) e
   ·obtain ⟨o,ho,r⟩:=hl1
    exact ⟨o,oth _ _ (hS l1 (by simp)) (kp' l1 _ (λq=>by
     simp only[Rg,Rv,or_false]at q
     rcases q with q | q | q | q
     ·exact D.l1z q
     ·exact D.l1TO q
     ·exact D.l1i1 q
     ·exact D.l1i2 q) ho),r⟩
   ·obtain ⟨o,ho,r⟩:=hl2
    exact ⟨o,oth _ _ (hS l2 (by simp)) (kp' l2 _ (λq=>by
     simp only[Rg,Rv,or_false]at q
     rcases q with q | q | q | q
     ·exact D.l2z q
     ·exact D.l2TO q
     ·exact D.l2i1 q
     ·exact D.l2i2 q) ho),r⟩
   ·have:=Heap.get?_update_self (Obj.mapSeq (·.push (Value.ref s.heap.objs.size))) hS' rfl
    rw[this]
    simp[Obj.mapSeq]
   ·have Z3:=(Z1.snoc (T:=s.heap.objs.size) (x:=xs[i]) (y:=ys[i]) (by rw[hts]; exact hx) (by rw[hts]; exact hy) hT (λt ht=>Z.lt ht) hNs)
    refine Z3.keep λt ht o e=>oth t o (λq=>?_) e
    rcases RU.mp ht with y | y
    ·have:=Z.lo t y
     have l:S < N:=hN S (by simp)
     rw[q]at this
     exact Ry _ (Rb l this)
    ·rw[Rh.mp y]at q
     exact nTS q
   ·show N<=(h'.update S _).objs.size
    rw[Heap.size_update,hs']
    exact Jb1 hNs
   ·refine hR h2 ts' c' (λb o hb e=>k2 b o hb (oth b o (λq=>hb (by simp[q])) (kp' b o (λq=>hb (Re _ q)) e))) g2 l2' Z2
  rcases hz with ⟨hz,a,b,hTO⟩ | ⟨T,f,o,hz,hT,hTS⟩
  ·refine Xi D hz hTI hTO h1 h2 hl1 hl2 hx hy λh' kz kO j1 j2 kT hs' kp=>?_
   exact step h' (.inr ⟨_,false,_,kz,kT,hNs⟩) j1 j2 kT hs' kp
  ·refine zip_item_held D hz hT hTI h1 h2 hl1 hl2 hx hy λh' kz j1 j2 kT hs' kp=>?_
   have nT:∀ b∈[z,i1,i2],T≠b:=λb hb e=>Ry _ (Rb (hN b (by simp only[Rg,Rv,or_false]at hb ⊢; rcases hb with q | q | q <;> simp[q])) (e▸hTS))
   exact step h' (.inr ⟨T,true,o,kz,kp T o (nT z (by simp)) (nT i1 (by simp)) (nT i2 (by simp)) hT,hTS⟩) j1 j2 kT hs' λc o c1 _ c3 c4 e=>kp c o c1 c3 c4 e
theorem zip_no_len:typeLookup (.type "zip") "__len__"=pure none:=by rw[typeLookup_type,builtinLookup_eq_fast]; kernel_rfl
theorem zip_no_hint:typeLookup (.type "zip") "__length_hint__"=pure none:=by rw[typeLookup_type,builtinLookup_eq_fast]; kernel_rfl
theorem call_list_zip {z TI TO i1 i2 l1 l2:Addr} {xs ys:Array Qb} {a b:Qb} {Q:Qb->Qc->Prop} (hh:A.handled=none) (D:ZipApart z TI TO i1 i2 l1 l2) (hlen:xs.size=ys.size) (hsz:xs.size<=1000) (hz:IsZip s.heap z TI TO .none) (hTI:IsPair s.heap TI (.ref i1) (.ref i2)) (hTO:IsPair s.heap TO a b)
  (h1:s.heap.IsListIter i1 l1 0) (h2:s.heap.IsListIter i2 l2 0) (hl1:s.heap.IsList l1 xs) (hl2:s.heap.IsList l2 ys)
  (hQ:∀ h' ts c',(∀ b o,b∉[z,TO,i1,i2]->s.heap.get? b=some o->h'.get? b=some o)->h'.get? s.heap.objs.size=some { cls:=.type "list",dict:=none,data:=.seq (ts.map Value.ref).toArray c',slots:=#[] }->ts.length=xs.size->Zpd h' (s.heap.objs.size + 1) xs ys ts->Q (.ref s.heap.objs.size) { s with heap:=h' }) :
  Qf (model prog w) A (call (.type "list") [.ref z]) Q E s:=by
 refine callType_codes (Q₁:=λobj s₁=>obj=.ref s.heap.objs.size/\s₁={ s with heap:=s.heap.push { cls:=.type "list",data:=.seq #[] } }) F.called_list (F.typeCall_list_1 _) F.entry_list_init (code_list_new _ ⟨rfl,rfl⟩) λobj s₁ h₁=>?_
 obtain ⟨rfl,rfl⟩:=h₁
 have hS:(s.heap.push { cls:=.type "list",data:=.seq #[] }).get? s.heap.objs.size=some { cls:=.type "list",data:=.seq #[] }:=Heap.get?_push_size _ rfl
 refine ⟨⟨_,hS,rfl⟩,F.args_list_init_2 _ _,?_⟩
 have lt:∀ {c o},s.heap.get? c=some o->c < s.heap.objs.size:=λq=>Heap.lt_size q
 have all:∀ c∈[z,TI,TO,i1,i2,l1,l2],c < s.heap.objs.size:=λc hc=>by
  simp only[Rg,Rv,or_false]at hc
  rcases hc with rfl | rfl | rfl | rfl | rfl | rfl | rfl
  ·exact lt hz
  ·exact lt hTI
  ·exact lt hTO
  ·obtain ⟨_,q,_⟩:=h1; exact lt q
  ·obtain ⟨_,q,_⟩:=h2; exact lt q
  ·obtain ⟨_,q,_⟩:=hl1; exact lt q
  ·obtain ⟨_,q,_⟩:=hl2; exact lt q
 generalize hSS:s.heap.objs.size=S at hS all hQ ⊢
 have up:∀ c o,s.heap.get? c=some o->(s.heap.push { cls:=.type "list",data:=.seq #[] }).get? c=some o:=λc o e=>Heap.get?_push_of_some _ e
 have szp:(s.heap.push { cls:=.type "list",data:=.seq #[] }).objs.size=S + 1:=by rw[Heap.size_push,hSS]
 show Qf _ _ (do let old <- Builtin.List.listItems (.ref S); Builtin.List.listUpdate (.ref S) (λ_=>#[]); letGo old.toList.reverse; Builtin.List.listExtendWith (.ref S) (.ref z) .none) _ _ _
 refine Qa ?_
 unfold Builtin.List.listItems
 refine Qa (Qu (s:={ s with heap:=s.heap.push { cls:=.type "list",data:=.seq #[] } }) hS rfl (Qd ?_))
 show Qf _ _ (updateSeq S (λ_=>#[]) >>= λ_=>letGo (#[]:Array Qb).toList.reverse >>= λ_=>Builtin.List.listExtendWith (.ref S) (.ref z) .none) _ _ _
 refine Qa (Q6 (s:={ s with heap:=s.heap.push { cls:=.type "list",data:=.seq #[] } }) hS rfl ?_)
 have hS1:=Heap.get?_update_self (Obj.mapSeq (λ_=>(#[]:Array Qb))) hS rfl
 have ot1:∀ b o,b≠S->(s.heap.push { cls:=.type "list",data:=.seq #[] }).get? b=some o->((s.heap.push { cls:=.type "list",data:=.seq #[] }).update S (Obj.mapSeq (λ_=>(#[]:Array Qb)))).get? b=some o:=λb o hb e=>(Heap.get?_update_other _ _ (UQ hb)).trans e
 refine Qa (Xr ?_)
 have old1:∀ b o,s.heap.get? b=some o->((s.heap.push { cls:=.type "list",data:=.seq #[] }).update S (Obj.mapSeq (λ_=>(#[]:Array Qb)))).get? b=some o:=λb o e=>ot1 b o (λq=>by rw[q,<- hSS]at e; exact Ry _ (lt e)) (up b o e)
 have sz1:((s.heap.push { cls:=.type "list",data:=.seq #[] }).update S (Obj.mapSeq (λ_=>(#[]:Array Qb)))).objs.size=S + 1:=by rw[Heap.size_update,szp]
 dsimp only[Obj.mapSeq]at hS1
 generalize ((s.heap.push { cls:=.type "list",data:=.seq #[] }).update S (Obj.mapSeq (λ_=>(#[]:Array Qb))))=H1 at hS1 old1 sz1 ⊢
 have nS:∀ b∈[z,TI,TO,i1,i2,l1,l2],b≠S:=λb hb q=>Ry _ (q▸all b hb)
 have hTy:Shared.TypeIs { s with heap:=H1 } (.ref z) "zip":=⟨_,old1 _ _ hz,rfl⟩
 unfold Builtin.List.listExtendWith
 refine Qa (Q5 hTy ?_)
 have e1:Builtin.List.listSameRef (.ref S) (.ref z)=false:=by simp[Builtin.List.listSameRef,(nS z (by simp)).symm]
 have e2:(Value.type "zip" == Value.type "list")=false:=by decide
 have e3:(Value.type "zip" == Value.type "tuple")=false:=by decide
 simp only[e1,e2,e3,Jd2,Uu,if_false]
 refine Qa (QR (s:={ s with heap:=H1 }) (old1 _ _ hz) ?_)
 refine Qa (Qo ?_)
 unfold Builtin.List.listLengthHint
 refine Qa (QM hTy zip_no_len ?_)
 show Qf _ _ (specialOf (Value.ref z) (Str.ofString "__length_hint__") >>= _) _ _ _
 refine Qa (QM hTy zip_no_hint ?_)
 refine Qd ?_
 show Qf _ _ (rule "list.extend.makes-room" >>= λ_=>Builtin.List.listTouch (.ref S) >>= λ_=>again (.builtin "list.extend.loop" ⟨[.ref S,.ref z,.none],[]⟩)) _ _ _
 refine Qa (QL (Qa ?_))
 show Qf _ _ (updateSeq S (·.push .none) >>= λ_=>updateSeq S (·.pop)) _ _ _
 refine Qa (Q6 (s:={ s with heap:=H1 }) hS1 rfl ?_)
 have hS2:=Heap.get?_update_self (Obj.mapSeq (·.push Value.none)) hS1 rfl
 refine Q6 (hz:=by seq_fits) hS2 rfl ?_
 have hS3:=Heap.get?_update_self (Obj.mapSeq (·.pop)) hS2 rfl
 have old3:∀ b o,s.heap.get? b=some o->((H1.update S (Obj.mapSeq (·.push Value.none))).update S (Obj.mapSeq (·.pop))).get? b=some o:=λb o e=>by
  have hb:b≠S:=λq=>by rw[q,<- hSS]at e; exact Ry _ (lt e)
  exact (Heap.get?_update_other _ _ (UQ hb)).trans ((Heap.get?_update_other _ _ (UQ hb)).trans (old1 b o e))
 have sz3:((H1.update S (Obj.mapSeq (·.push Value.none))).update S (Obj.mapSeq (·.pop))).objs.size=S + 1:=by rw[Heap.size_update,Heap.size_update,sz1]
 dsimp only[Obj.mapSeq]at hS3
 generalize ((H1.update S (Obj.mapSeq (·.push Value.none))).update S (Obj.mapSeq (·.pop)))=H3 at hS3 old3 sz3 ⊢
 obtain ⟨o1,g1,r1⟩:=h1
 obtain ⟨o2,g2,r2⟩:=h2
 obtain ⟨o3,g3,r3⟩:=hl1
 obtain ⟨o4,g4,r4⟩:=hl2
 refine Qd ⟨plainId_quiet F.plain_extend_loop _,zl_loop (A:=A.in1) (N:=S + 1) hh D hlen hsz .none nS (λb hb=>?_) xs.size 0 _ [] _ rfl (RP _) (.inl ⟨old3 _ _ hz,a,b,old3 _ _ hTO⟩) (old3 _ _ hTI) ⟨o1,old3 _ _ g1,r1⟩ ⟨o2,old3 _ _ g2,r2⟩ ⟨o3,old3 _ _ g3,r3⟩ ⟨o4,old3 _ _ g4,r4⟩ hS3 rfl ⟨λj t e=>by simp at e,.nil,λt ht=>by cases ht⟩ (ZQ sz3.symm) λh' ts' c' kp g l Z=>?_⟩
 ·rcases Rg.mp hb with q | q
  ·rw[q]; exact Ul _
  ·exact UD (all b q)
 ·exact ⟨rfl,hQ h' ts' c' (λb o hb e=>kp b o (λq=>by
   rcases Rg.mp q with y | y
   ·rw[y,<- hSS]at e; exact Ry _ (lt e)
   ·exact hb y) (old3 b o e)) g l Z⟩
end
end PySem
namespace L2
open PySem PySem.Spec PyProof.Rows
def ZpAt (H:Hp) (ts:List Addr) (xs ys:List V):Prop:=ts.length=xs.length/\∀ (j:Nat) (t:Addr),ts[j]?=some t->∃ x y,xs[j]?=some x/\ys[j]?=some y/\H t=some (.tup [x,y])
theorem ER:∀ {xs:List V} {us:List Qb} {i:Nat} {u:Qb},Vals xs us->us[i]?=some u->∃ x,xs[i]?=some x/\RelV x u
 | _,_,_,_,.nil,e=>by simp at e
 | _,_,0,_,.cons r _,e=>by simp at e; subst e; exact ⟨_,rfl,r⟩
 | _,_,i + 1,u,.cons _ t,e=>by
  obtain ⟨x,h1,h2⟩:=ER (i:=i) (u:=u) t (by simpa using e)
  exact ⟨x,by simpa using h1,h2⟩
theorem GS {X:Cx} {pins:List (Addr×Obj)} {σ:St} {H1:Hp} {s1 s':Qc} {us vs:List Qb} {xs ys:List V} (I1:Inv X pins σ H1 s1) (rv:Vals xs us) (rv':Vals ys vs) :
  ∀ (ts:List Addr) (H:Hp) (j0:Nat),Inv X pins σ H s'->(∀ t∈ts,s1.heap.objs.size<=t/\H t=none)->ts.Pairwise (· < ·)->(∀ (j:Nat) (t:Addr),ts[j]?=some t->∃ x y,us[j0 + j]?=some x/\vs[j0 + j]?=some y/\IsPair s'.heap t x y)->
   ∃ H',Inv X pins σ H' s'/\(∀ b o,H b=some o->H' b=some o)/\(∀ b,b∉ts->H' b=H b)/\∀ (j:Nat) (t:Addr),ts[j]?=some t->∃ x y,xs[j0 + j]?=some x/\ys[j0 + j]?=some y/\H' t=some (.tup [x,y])
 | [],H,j0,I,_,_,_=>⟨H,I,λ_ _ e=>e,λ_ _=>rfl,λj t e=>by simp at e⟩
 | t::ts,H,j0,I,hn,hp,hpr=>by
  obtain ⟨lo,fr⟩:=hn t (Rj ..)
  obtain ⟨u,v,hu,hv,hT⟩:=hpr 0 t rfl
  rw[W5]at hu hv
  obtain ⟨x,hx,rx⟩:=ER rv hu
  obtain ⟨y,hy,ry⟩:=ER rv' hv
  obtain ⟨f0,f1,f2,f3,f4,f5⟩:=I1.fpOk (H':=H) lo fr
  have h0:X.s₀.heap.get? t=none:=by
   cases e:X.s₀.heap.get? t with
   | none=>rfl
   | some o=>exact absurd (Rb (Heap.lt_size e) (J6 I1.sz lo)) (Ry _)
  have I2:Inv X pins σ (upd H t (.tup [x,y])) s':=I.track f0 h0 f1 f4 f5 ⟨by show 2<=Qe; decide,[u,v],.cons rx (.cons ry .nil),⟨_,hT,rfl,_,rfl⟩⟩
  rw[Z7]at hp
  obtain ⟨H',J,k1,k2,k3⟩:=GS I1 rv rv' ts (upd H t (.tup [x,y])) (j0 + 1) I2 (λt' ht'=>⟨(hn t' (Re _ ht')).1,by rw[As (Wc (hp.1 t' ht'))]; exact (hn t' (Re _ ht')).2⟩) hp.2 λj t' e=>by
   have:=hpr (j + 1) t' (by rw[Uo]; exact e)
   rwa [show j0 + (j + 1)=j0 + 1 + j by omega]at this
  have ht':t∉ts:=λq=>Ry _ (hp.1 t q)
  refine ⟨H',J,λb o e=>k1 b o (by rw[As (λq=>by rw[q,fr]at e; cases e)]; exact e),λb hb=>?_,λj t' e=>?_⟩
  ·rw[k2 b (λq=>hb (Re _ q)),As (λq=>hb (by rw[q]; exact Rj ..))]
  ·cases j with
   | zero=>
    cases e
    exact ⟨x,y,hx,hy,by rw[k2 t ht',Aa]⟩
   | succ j=>
    rw[Uo]at e
    have:=k3 j t' e
    rwa [show j0 + 1 + j=j0 + (j + 1) by omega]at this
def JX (K:J4) (ta:TA):TE:=λσ H Q=>ta σ H λvs H1=>∃ (a b:Addr) (xs ys:List V),vs=[.ref a,.ref b]/\SqL K H1 a xs/\SqL K H1 b ys/\xs.length=ys.length/\xs.length<=1000/\∀ (l:Addr) (ts:List Addr) (H':Hp),H1 l=none->Same H1 H'->H' l=some (.lst (ts.map V.ref))->ZpAt H' ts xs ys->Q (.ref l) H'
theorem pe_listZ {X:Cx} {a b:Expr} {ta:TA} {p1 p2 pos1 pos2:Pos} (hc:X.calm=true) (hgl:Gl X "list") (hml:X.mg "list"=none) (hgz:Gl X "zip") (hmz:X.mg "zip"=none) (ha:PA X [a,b] ta) (hs:Qg [a,b] X.env=[(false,eval a X.env),(false,eval b X.env)]:=by rfl) (hs2:Qg [b] X.env=[(false,eval b X.env)]:=by rfl)
  (he:Qg [.Call (.Name "zip" p2) [a,b] [] pos2] X.env=[(false,eval (.Call (.Name "zip" p2) [a,b] [] pos2) X.env)]:=by rfl) :
  PE X (.Call (.Name "list" p1) [.Call (.Name "zip" p2) [a,b] [] pos2] [] pos1) (JX X.K ta):=by
 intro pins s σ H Q I h
 refine Qz (BU I hgl hml (show Qr "list"=some (.type "list") by decide +kernel) ?_)
 refine RK ?_ he rfl
 rw[he]
 show Qf _ _ (spliced ((false,eval (.Call (.Name "zip" p2) [a,b] [] pos2) X.env)::backTo pos1 [])) _ _ s
 refine Calls.spliced_cons ?_
 refine Qz (BU I hgz hmz (show Qr "zip"=some (.type "zip") by decide +kernel) ?_)
 refine RK (thn (ha pos2 pins s σ H _ I h) λus s1 ⟨vs,H1,I1,r1,q1⟩=>?_) (by rw[hs,hs2]) (by rw[hs2]; rfl)
 obtain ⟨a,b,xs,ys,e,hq,hq',hlen,h1000,q⟩:=q1
 subst e
 cases r1 with
 | cons ra rr=>
  cases rr with
  | cons rb rr=>
   cases rr
   cases ra
   cases rb
   obtain ⟨its,rv,pl,hz⟩:=I1.list hq
   obtain ⟨its',rv',pl',hz'⟩:=I1.list hq'
   have la:a < s1.heap.objs.size:=by obtain ⟨_,g,_⟩:=pl.isList; exact Heap.lt_size g
   have lb:b < s1.heap.objs.size:=by obtain ⟨_,g,_⟩:=pl'.isList; exact Heap.lt_size g
   have e1:=rv.length
   have e2:=rv'.length
   refine call_zip_2 pl.isList pl'.isList λh' kz kI kO j1 j2 hsz kp=>?_
   have D:ZipApart (s1.heap.objs.size + 4) (s1.heap.objs.size + 2) (s1.heap.objs.size + 3) s1.heap.objs.size (s1.heap.objs.size + 1) a b:=YA _ _ _ la lb
   refine Calls.spliced_nil ?_
   have pl1:h'.IsList a its.toArray:=by obtain ⟨o,g,r⟩:=pl.isList; exact ⟨o,kp _ _ g,r⟩
   have pl2:h'.IsList b its'.toArray:=by obtain ⟨o,g,r⟩:=pl'.isList; exact ⟨o,kp _ _ g,r⟩
   refine call_list_zip (s:={ s1 with heap:=h' }) (I1.ok.hd hc) D (by simp; omega) (by simp; omega) kz kI kO j1 j2 pl1 pl2 λh2 ts c kp2 hl hts Z=>?_
   have szl:h'.objs.size=s1.heap.objs.size + 5:=hsz
   have kp3:∀ b o,s1.heap.get? b=some o->h2.get? b=some o:=λb o e=>kp2 b o (λhb=>by
    have l:=Heap.lt_size e
    simp only[Rg,Rv,or_false]at hb
    have ge:s1.heap.objs.size<=b:=by rcases hb with q | q | q | q <;> rw[q] <;> first | exact Um _ _ | exact J8 _
    exact Ry _ (Rb l ge)) (kp b o e)
   have I2:Inv X pins σ H1 { s1 with heap:=h2 }:=I1.kept (t':=s1.toks) kp3
   obtain ⟨H',J,k1,k2,k3⟩:=GS (s':={ s1 with heap:=h2 }) I1 rv rv' ts H1 0 I2 (λt ht=>⟨by have:=Z.lo t ht; dsimp only at this; omega,I1.hok.fresh (by have:=Z.lo t ht; dsimp only at this; omega)⟩) Z.up λj t e=>by
    rw[WL]
    obtain ⟨x,y,h1,h2',h3⟩:=Z.pr j t e
    exact ⟨x,y,by simpa using h1,by simpa using h2',h3⟩
   have fl:H1 h'.objs.size=none:=I1.hok.fresh (by omega)
   have lnt:h'.objs.size∉ts:=λhb=>by
    have:=Z.lo _ hb
    dsimp only at this
    omega
   have fl':H' h'.objs.size=none:=by rw[k2 _ lnt]; exact fl
   obtain ⟨f0,f1,f2,f3,f4,f5⟩:=I1.fpOk (H':=H') (b:=h'.objs.size) (by omega) fl'
   have h0:X.s₀.heap.get? h'.objs.size=none:=by
    cases e:X.s₀.heap.get? h'.objs.size with
    | none=>rfl
    | some o=>exact absurd (Rb (Heap.lt_size e) (J6 I1.sz (show s1.heap.objs.size<=h'.objs.size by omega))) (Ry _)
   have vts:Vals (ts.map V.ref) (ts.map Value.ref):=by
    clear hts Z k3 k2 lnt hl
    induction ts with
    | nil=>exact .nil
    | cons t ts ih=>exact .cons rfl ih
   have htl:ts.length=xs.length:=by rw[hts]; simp; omega
   have J2:Inv X pins σ (upd H' h'.objs.size (.lst (ts.map V.ref))) { s1 with heap:=h2 }:=J.track f0 h0 f1 f4 f5 ⟨by rw[J0,htl]; exact J6 h1000 (by decide),ts.map Value.ref,c,vts,hl⟩
   refine ⟨.ref h'.objs.size,_,J2,rfl,q h'.objs.size ts _ fl (λb o e=>?_) Aa ⟨htl,λj t e=>?_⟩⟩
   ·rw[As (λz=>by rw[z,fl]at e; cases e)]
    exact k1 b o e
   ·obtain ⟨x,y,g1,g2,g3⟩:=k3 j t e
    rw[WL]at g1 g2
    exact ⟨x,y,g1,g2,by rw[As (λz=>lnt (by rw[<- z]; exact Rf e))]; exact g3⟩
theorem qe_listZ {X:Cx} {a b:Expr} {ta:TA} {p1 p2 pos1 pos2:Pos} (hc:X.calm=true) (hgl:Gl X "list") (hml:X.mg "list"=none) (hgz:Gl X "zip") (hmz:X.mg "zip"=none) (ha:QA X [a,b] ta) (hs:Qg [a,b] X.env=[(false,eval a X.env),(false,eval b X.env)]:=by rfl) (hs2:Qg [b] X.env=[(false,eval b X.env)]:=by rfl)
  (he:Qg [.Call (.Name "zip" p2) [a,b] [] pos2] X.env=[(false,eval (.Call (.Name "zip" p2) [a,b] [] pos2) X.env)]:=by rfl) :
  QE X (.Call (.Name "list" p1) [.Call (.Name "zip" p2) [a,b] [] pos2] [] pos1) (JX X.K ta):=⟨pe_listZ hc hgl hml hgz hmz ha.h hs hs2 he⟩
end L2
namespace L2
open PySem PySem.Spec PyProof.Rows
def rSlA:V->Option Int->Option Int->Hp->VK->Prop:=λx lo hi H Q=>∃ a xs,x=.ref a/\H a=some (.tup xs)/\∀ (p:Addr) (H':Hp),Same H H'->H' p=some (.tup (cutV xs lo hi))->Q (.ref p) H'
theorem sl_tupA {X:Cx}:SlR X rSlA:=by
 intro pins s σ H x v vl vu lo hi sl Q I rx hs pl pu h
 obtain ⟨a,xs,e,hx,q⟩:=h
 refine sl_tupW pins s σ H x v vl vu lo hi sl Q I rx hs pl pu ⟨a,xs,e,SqT.of hx,λhw=>q a H (Same.refl _) ?_,λ_ p hp=>q p _ (λb o hb=>by rw[As (λz=>by rw[z,hp]at hb; cases hb)]; exact hb) Aa⟩
 have:cutV xs lo hi=xs:=by
  unfold cutV
  rw[hw.1,hw.2,Wp,WM,RE]
 rw[this]
 exact hx
end L2
namespace E1
open PySem L2
abbrev pw:Qj:=Jc8
def top (i:Nat):Stmt:=pw.main.body.getD i (.Pass ⟨0,0,0,0⟩)
abbrev IG:Stmt:=top 7
abbrev Eg:Stmt:=top 8
abbrev JY:Stmt:=top 9
abbrev Jm:Stmt:=top 10
abbrev FU:Stmt:=top 11
abbrev Eh:Stmt:=top 12
abbrev KP:Stmt:=top 13
abbrev BR:Stmt:=top 15
abbrev CL:Stmt:=top 16
abbrev BS:Stmt:=top 17
abbrev Du:Stmt:=top 18
abbrev Cf:Stmt:=top 19
abbrev Br:Stmt:=top 20
abbrev Ch:Stmt:=top 21
abbrev ES:Stmt:=top 22
abbrev Bf:Stmt:=top 23
abbrev Ci:Stmt:=top 24
abbrev Bp:Stmt:=top 25
abbrev Bs:Stmt:=top 26
abbrev Cj:Stmt:=top 27
abbrev BT:Stmt:=top 28
abbrev CZ:Stmt:=top 30
abbrev FV:Stmt:=top 31
abbrev Bt:Stmt:=top 32
abbrev Ei:Stmt:=top 33
abbrev CM:Stmt:=top 34
abbrev CN:Stmt:=top 36
abbrev Ej:Stmt:=top 37
abbrev Da:Stmt:=top 38
abbrev Ek:Stmt:=top 39
abbrev CO:Stmt:=top 40
abbrev Dw:Stmt:=top 41
abbrev Ck:Stmt:=top 45
abbrev Ct:Stmt:=top 46
abbrev BY:Stmt:=top 47
abbrev Bl:Stmt:=top 48
abbrev FW:Stmt:=top 49
abbrev AS:Stmt:=top 51
abbrev Dx:Stmt:=top 53
abbrev Db:Stmt:=top 54
abbrev Bu:Stmt:=top 55
abbrev BC:Stmt:=top 56
abbrev BM:Stmt:=top 57
abbrev BZ:Stmt:=top 58
abbrev KQ:Stmt:=top 60
abbrev Dy:Stmt:=top 61
abbrev Jn:Stmt:=top 62
abbrev FX:Stmt:=top 63
abbrev DL:Stmt:=top 64
abbrev HE:Stmt:=top 65
abbrev Bj:Stmt:=top 66
abbrev ET:Stmt:=top 67
abbrev Dz:Stmt:=top 68
abbrev sLaw:Stmt:=top 69
abbrev Fu:Stmt:=Ex (top 44) 0
abbrev Fv:Stmt:=Ex (top 44) 1
abbrev Fw:Stmt:=Ex (top 44) 2
abbrev DM:Stmt:=Ex (top 44) 4
abbrev BN:Stmt:=Ex (top 44) 8
section
variable {P:Qj} {w:Qk} {K:J4} {mg:Str->Option Qb} {base:Heap} {M C:Addr}
theorem scWhole:FnScope ["thing"] ["thing"] (Ae IG):=⟨rfl,rfl,rfl,by decide +kernel,rfl,by decide +kernel,by decide +kernel⟩
theorem ok_whole {f:Addr} {fd:Qh} (F:Fun K "is_whole" "is_whole" IG f fd) (T:TxtB mg):FnOk P w K mg base CX0 1 f fd ["thing"] (DJ K):=by
 refine F.okQ scWhole (λvs H Q E h=>?_) (λcdv A outer s H vs Q E hr h=>?_)
 ·obtain ⟨v,b,rfl,_⟩:=h
  rfl
 ·obtain ⟨v,b,rfl,hw,k⟩:=h
  refine ⟨_,Ah (Ax (Io (Am Cp (by rfl) T.isi U1 (qac (qv 0) (qac (FG (v:=.ty "int") rfl T.int YQ rfl) Ab)))
   (Im (qe_not (Am Cp (by rfl) T.isi U1 (qac (qv 0) (qac (FG (v:=.ty "bool") rfl T.bool Jg4 rfl) Ab))))))),?_⟩
  cases hw with
  | int i=>
   refine ⟨_,rfl,_,_,_,_,rfl,.int i,EB (kit_int_int K),true,rfl,iteT ?_⟩
   exact ⟨_,rfl,_,_,_,_,rfl,.int i,EB (kit_int_bool K),false,rfl,k⟩
  | bl x=>
   refine ⟨_,rfl,_,_,_,_,rfl,.bl x,EB (kit_bool_int K),true,rfl,iteT ?_⟩
   exact ⟨_,rfl,_,_,_,_,rfl,.bl x,EB (kit_bool_bool K),true,rfl,k⟩
  | odd ty kk=>
   exact ⟨_,rfl,_,_,_,_,rfl,ty,EB kk,false,rfl,iteF k⟩
def FY:Sp:=λvs H Q _=>∃ x m:Int,vs=[.int x,.int m]/\0<=x/\x < m/\Q (.bl true) H
theorem scIsBelow:FnScope ["thing", "many"] ["thing", "many"] (Ae Eg):=⟨rfl,rfl,rfl,by decide +kernel,rfl,by decide +kernel,by decide +kernel⟩
theorem ok_below {f:Addr} {fd:Qh} (F:Fun K "is_below" "is_below" Eg f fd) (pWhole:Pm P w K mg base CX0 1 "is_whole" ["thing"] (DJ K)):FnOk P w K mg base CX0 2 f fd ["thing", "many"] FY:=by
 refine F.okQ scIsBelow (λvs H Q E h=>?_) (λcdv A outer s H vs Q E hr1 h=>?_)
 ·obtain ⟨x,m,rfl,_⟩:=h
  rfl
 ·obtain ⟨x,m,rfl,h0,h1,q⟩:=h
  refine ⟨_,(Ah (Ax (Io (Aj pWhole hr1 rfl Av (qac (qv 0) Ab)) (Im (qe_chain Mj DE Af (qv 0) (qv 1)))))),?_⟩
  refine ⟨_,rfl,.int x,true,rfl,.int x,true,rfl,iteT ?_⟩
  refine ⟨_,rfl,_,_,rfl,rfl,_,rfl,ifT h0 ?_⟩
  exact ⟨_,rfl,_,_,rfl,rfl,blT h1 q⟩
def HF (K:J4):Sp:=λvs H Q _=>∃ (a:Addr) (ns:List Int) (k:Nat),vs=[.ref a,.int (k:Int)]/\SqL K H a (ns.map V.int)/\k<=1000/\∀ (z:Int) (H':Hp),Same H H'->Q (.int z) H'
theorem scCell:FnScope ["_law_script", "_law_k", "_law_state", "_law_cell_here"] ["_law_script", "_law_k"] (Ae KQ):=⟨rfl,rfl,rfl,by decide +kernel,rfl,by decide +kernel,by decide +kernel⟩
theorem ok_cell2 {f:Addr} {fd:Qh} (F:Fun K "_law_cell" "_law_cell" KQ f fd) (T:TxtB mg):FnOk P w K mg base CX0 1 f fd ["_law_script", "_law_k"] (HF K):=by
 refine F.okQ scCell (λvs H Q E h=>?_) (λcdv A outer s H vs Q E hr h=>?_)
 ·obtain ⟨a,ns,k,rfl,_⟩:=h
  rfl
 ·obtain ⟨a,ns,k,rfl,hS,hk,q⟩:=h
  refine ⟨_,(Ad (Bb (Ap DE (qv 1) (Am Ak (by rfl) T.len Rr (qac (qv 0) Ab)) (Az _)) (Ah (Ax (Au AF (qv 0) (qv 1) (λ_ _=>rfl)))) AA)
   (Ad (An (i:=2) scCell.nd rfl (Ro rfl) (Aq Bv (Aq Bd Af (Aq AZ (Aq AZ (Aq Bd (qv 1) (qv 1)) (Aq Bd Af (qv 1))) Af)) Af))
   (Ad (AJ PassesOwn.never rfl (Bz (BB DG (qv 0) CG (BI Af))) (Ai (i:=3) scCell.nd rfl (Ro rfl))
    (Ah (An (i:=2) scCell.nd rfl (Ro rfl) (Aq Bv (Aq AZ (Aq Bd (qv 2) Af) (qv 3)) Af))))
   (Ah (Ax (qv 2)))))),?_⟩
  refine ⟨_,rfl,_,rfl,a,_,rfl,.inl hS,_,_,rfl,rfl,_,rfl,?_⟩
  refine ite2 (λhc=>?_) (λhc=>?_)
  ·have hlt:k < ns.length:=by
    have:=of_decide_eq_true hc
    rw[J0]at this
    omega
   refine ⟨_,rfl,_,rfl,a,_,_,V.int ns[k],rfl,rfl,hS,AB (by rw[Rm,J7 hlt]; rfl),q _ _ (Same.refl _)⟩
  ·refine ⟨_,rfl,_,rfl,_,_,rfl,rfl,.inr ⟨by omega,by omega⟩,_,rfl,_,_,rfl,rfl,.inl ⟨by decide,by decide⟩,_,_,rfl,rfl,_,_,rfl,rfl,_,_,rfl,rfl,.inl ⟨by decide,by decide⟩,_,_,rfl,rfl,by show (0:Int) < 2147483647; decide,?_⟩
   refine ⟨_,rfl,_,rfl,a,_,rfl,hS,λl hl=>?_⟩
   refine ⟨l,rfl,⟨_,SqL.of Aa⟩,CV (K:=K) (a:=l) (xs:=cutV (ns.map V.int) none (some 3)) (λi σ H2=>H2=upd H l (.lst (cutV (ns.map V.int) none (some 3)))/\∃ (z:Int) (x3:Option V),σ=[some (.ref a),some (.int k),some (.int z),x3]) ⟨rfl,_,_,rfl⟩ (λi σ H2 _ ⟨e,_⟩=>SqL.of (e▸Aa)) ?_ ?_⟩
   ·rintro i v σ H2 hi ⟨rfl,z,x3,rfl⟩
    obtain ⟨c,rfl⟩:=cut_ints v (Rf hi)
    exact ⟨_,rfl,_,_,rfl,rfl,.inr ⟨by decide,by decide⟩,_,rfl,_,_,rfl,rfl,_,_,rfl,rfl,by show (0:Int) < 2147483647; decide,rfl,_,_,rfl⟩
   ·rintro σ H2 ⟨rfl,z,x3,rfl⟩
    exact ⟨_,rfl,q _ _ (Ac hl)⟩
theorem pickB {x y:Int} (b:Bool):atI [V.int x,V.int y] (if b then 1 else 0)=some (V.int (if b then y else x)):=by cases b <;> rfl
def JZ:Sp:=λvs H Q _=>∃ (c:Int) (m:Nat),vs=[.int c,.int (m:Nat)]/\m<=1000/\∀ (l:Addr) (ns:List Int) (H':Hp),H l=none->Same H H'->H' l=some (.lst (ns.map V.int))->ns.length=m->(∀ x∈ns,0<=x/\x < 2000000000)->Q (.ref l) H'
theorem scLNumbers:FnScope ["_law_cell_here", "_law_many", "_law_found", "_law_state", "_law_digits", "_law_k"] ["_law_cell_here", "_law_many"] (Ae Dy):=⟨rfl,rfl,rfl,by decide +kernel,rfl,by decide +kernel,by decide +kernel⟩
theorem ok_numbers {f:Addr} {fd:Qh} (F:Fun K "_law_numbers" "_law_numbers" Dy f fd) (T:TxtB mg):FnOk P w K mg base CX0 1 f fd ["_law_cell_here", "_law_many"] JZ:=by
 refine F.okQ scLNumbers (λvs H Q E h=>?_) (λcdv A outer s H vs Q E hr h=>?_)
 ·obtain ⟨c,m,rfl,_⟩:=h
  rfl
 ·obtain ⟨c,m,rfl,hm,q⟩:=h
  refine ⟨_,(Ad (An (i:=2) scLNumbers.nd rfl (Ro rfl) (Bw Ab))
   (Ad (An (i:=3) scLNumbers.nd rfl (Ro rfl) (Aq Bv (Aq Bd (Aq AZ (Aq Bv (qv 0) Af) Af) Af) Af))
   (Ad (An (i:=4) scLNumbers.nd rfl (Ro rfl) Af)
   (Ad (Bb (QW.pt (Fn (Ap DE (qv 0) Af (Az _)) (Ez (Ap Ml (qv 0) (Aq op_pow Af Af) (Az _))))) (Ah (An (i:=4) scLNumbers.nd rfl (Ro rfl) (Am call_abs (by rfl) T.abs Jg5 (qac (qv 0) Ab)))) AA)
   (Ad (AJ PassesOwn.never rfl (Ar rfl T.range (qac (qv 1) Ab)) (Ai (i:=5) scLNumbers.nd rfl (Ro rfl))
    (Ad (An (i:=3) scLNumbers.nd rfl (Ro rfl) (Aq Bv (Aq AZ (Aq AZ (Aq Bd (qv 3) (Aq AZ (Aq Bv (qv 3) Af) Af)) (Aq Bd Af (qv 5))) Af) Af))
    (Ad (AK (Df RD RX RW Be (qv 2) (qac (Au AF (Bw (qac (qv 3) (qac (Aq Bv (qv 4) Af) Ab))) (AD call_int1 (by rfl) T.int YQ (qac (DI Ec (qv 4) Af (Az _)) Ab)) (λ_ _=>rfl)) Ab)))
    (Ah (An (i:=4) scLNumbers.nd rfl (Ro rfl) (Aq By (qv 4) Af))))))
   (Ah (Ax (qv 2)))))))),?_⟩
  refine ⟨by show 0<=Qe; decide,λl hl=>?_⟩
  have big:(0:Int) < 1999999973:=by decide
  have c1:=Ux c (show (1999999973:Int)≠0 by decide)
  have c2:=Ug c big
  refine ⟨_,rfl,_,_,rfl,rfl,(by show (0:Int) < 1999999973; decide),_,_,rfl,rfl,_,_,rfl,rfl,.inr ⟨by decide,by decide⟩,_,_,rfl,rfl,(by show (0:Int) < 1999999973; decide),?_⟩
  generalize hst:(c % 1999999973 + 31) * 765432101 % 1999999973=st0
  have st1:0<=st0/\st0 < 1999999973:=by
   rw[<- hst]
   exact ⟨Ux _ (by decide),Ug _ (by decide)⟩
  refine ⟨_,rfl,_,_,rfl,rfl,_,rfl,?_⟩
  obtain ⟨dg,hdg,hw⟩:∃ dg:Int,0<=dg/\((c < 0/\dg=(if c < 0 then -c else c))\/(¬ c < 0/\c>=10 ^ (18:Int).toNat/\dg=(if c < 0 then -c else c))\/(¬ c < 0/\¬ c>=10 ^ (18:Int).toNat/\dg=0)):=by
   by_cases h1:c < 0
   ·exact ⟨_,Ld c,.inl ⟨h1,rfl⟩⟩
   ·by_cases h2:c>=10 ^ (18:Int).toNat
    ·exact ⟨_,Ld c,.inr (.inl ⟨h1,h2,rfl⟩)⟩
    ·exact ⟨0,Int.le_refl 0,.inr (.inr ⟨h1,h2,rfl⟩)⟩
  rcases hw with ⟨h1,e⟩ | ⟨h1,h2,e⟩ | ⟨h1,h2,e⟩
  all_goals first | refine ifF h1 ⟨_,rfl,_,_,rfl,rfl,⟨by decide,by decide,by decide⟩,_,_,rfl,rfl,_,rfl,ifT h2 ⟨_,rfl,c,rfl,?_⟩⟩ | refine ifF h1 ⟨_,rfl,_,_,rfl,rfl,⟨by decide,by decide,by decide⟩,_,_,rfl,rfl,_,rfl,ifF h2 ?_⟩ | refine ifT h1 ⟨_,rfl,c,rfl,?_⟩
  all_goals
   refine ⟨_,rfl,((m:Nat):Int),rfl,by omega,by omega,AM (n:=m) (λi σ H2=>Same H H2/\∃ (ns:List Int) (sd dg:Int) (x:Option V),σ=[some (.int c),some (.int (m:Nat)),some (.ref l),some (.int sd),some (.int dg),x]/\H2 l=some (.lst (ns.map V.int))/\ns.length=i/\(∀ x∈ns,0<=x/\x < 2000000000)/\0<=sd/\sd < 1999999973/\0<=dg)
    ⟨Ac hl,[],st0,dg,none,by rw[e,<- hst]; rfl,Aa,rfl,by simp,st1.1,st1.2,hdg⟩ ?_ ?_⟩
   ·rintro i σ H2 hi ⟨s2,ns,sd,dg,x,rfl,hl2,hlen,hns,h1,h2,h3⟩
    have a1:=Ux sd (show (65521:Int)≠0 by decide)
    have a2:=Ug sd (show (0:Int) < 65521 by decide)
    refine ⟨_,rfl,_,rfl,_,_,rfl,rfl,(by show (0:Int) < 65521; decide),_,_,rfl,rfl,_,_,rfl,rfl,.inl ⟨by omega,by omega⟩,_,rfl,_,_,rfl,rfl,.inl ⟨by decide,by decide⟩,_,_,rfl,rfl,_,_,rfl,rfl,_,_,rfl,rfl,(by show (0:Int) < 1999999973; decide),?_⟩
    refine ⟨_,rfl,.inl ⟨rfl,_,SqL.of hl2⟩,_,rfl,_,rfl,_,_,rfl,rfl,(by show (0:Int) < 1000000; decide),by show 2<=Qe; decide,λt ht=>?_⟩
    refine ⟨_,rfl,_,_,rfl,rfl,.inr ⟨_,rfl,t,_,_,_,rfl,rfl,SqL.of Aa,pickB _,l,_,_,rfl,rfl,(Ac ht) _ _ hl2,?_,?_⟩⟩
    ·rw[J0,hlen]
     exact Rb hi (J6 hm (by decide))
    refine ⟨_,rfl,_,_,rfl,rfl,⟨by decide,by decide⟩,AG (s2.trans (Ac ht)) hl,ns++[if decide (0 < dg)=true then dg % 1000000 else (sd * (sd % 65521 + 40487) + 7 * (0 + (i:Int)) + 5) % 1999999973],_,_,_,rfl,?_,?_,?_,?_,?_,?_⟩
    ·rw[Rp]
     exact Aa
    ·rw[Rk,hlen]
     rfl
    ·intro y hy
     rcases RU.mp hy with z | z
     ·exact hns y z
     ·rw[Rh.mp z]
      split
      ·exact ⟨Ux _ (by decide),Jh2 (Ug _ (by decide)) (by decide)⟩
      ·exact ⟨Ux _ (by decide),Jh2 (Ug _ (by decide)) (by decide)⟩
    ·exact Ux _ (by decide)
    ·exact Ug _ (by decide)
    ·exact Int.ediv_nonneg h3 (by decide)
   ·rintro σ H2 ⟨s2,ns,sd,dg,x,rfl,hl2,hlen,hns,_⟩
    exact ⟨_,rfl,q l ns H2 hl s2 hl2 hlen hns⟩
theorem BE {K:J4} {a:Addr} {xs:List V} {g:TG} {tc:TT} {te:TE} {σ':St} {H:Hp} {G:Addr->Hp->List V->Prop} (Pv:Nat->List V->Hp->Prop) (h0:Pv 0 [] H) (hl:∀ i ys H,i<=xs.length->Pv i ys H->SqL K H a xs)
  (hs:∀ i x ys H (N:List V->Hp->Prop),xs[i]?=some x->Pv i ys H->(∀ ys' H',Pv (i + 1) ys' H'->N ys' H')->g x σ' H λσ2 H4=>Weak σ' σ2/\tc σ2 H4 λb H5=>if b=true then te σ2 H5 λy H6=>ys.length < Qe/\N (ys++[y]) H6 else N ys H5)
  (hd:∀ ys H,Pv xs.length ys H->ys.length<=Qe/\∀ p,H p=none->G p H ys) :
  ∃ W:Nat->Nat->List V->Hp->Prop,(∃ m,W 0 m [] H)/\∀ i m ys H2,W i m ys H2->
   ((Itl K a).stop i H2/\ys.length<=Qe/\∀ p,H2 p=none->G p H2 ys)\/
   ((Itl K a).go i H2/\∀ x H3,(Itl K a).yld i H2 x H3->g x σ' H3 λσ2 H4=>Weak σ' σ2/\tc σ2 H4 λb H5=>
    if b=true then te σ2 H5 λy H6=>ys.length < Qe/\∃ m',m' < m/\W (i + 1) m' (ys++[y]) H6 else ∃ m',m' < m/\W (i + 1) m' ys H5):=by
 refine ⟨λi m ys H=>m=xs.length - i/\i<=xs.length/\Pv i ys H,⟨xs.length,rfl,RP _,h0⟩,?_⟩
 rintro i m ys H2 ⟨rfl,hi,p⟩
 have q:=hl i ys H2 hi p
 by_cases hlt:i < xs.length
 ·refine .inr ⟨⟨xs,xs[i],q,by simp[hlt]⟩,λx H' y=>?_⟩
  obtain ⟨e,y⟩:=y
  subst e
  exact hs i x ys _ (λys' H''=>∃ m',m' < xs.length - i/\m'=xs.length - (i + 1)/\i + 1<=xs.length/\Pv (i + 1) ys' H'') (y xs q) p (λys' H'' p'=>⟨_,by omega,rfl,hlt,p'⟩)
 ·have e:i=xs.length:=by omega
  subst e
  exact .inl ⟨⟨xs,q,J8 _⟩,hd ys H2 p⟩
theorem Dc {K:J4} {a:Addr} {xs:List V} {g:TG} {tc:TT} {te:TE} {σ':St} {H:Hp} {G:Addr->Hp->List V->Prop} (Pv:Nat->List V->Hp->Prop) (h0:Pv 0 [] H) (hl:∀ i ys H,i<=xs.length->Pv i ys H->SqT K H a xs)
  (hs:∀ i x ys H (N:List V->Hp->Prop),xs[i]?=some x->Pv i ys H->(∀ ys' H',Pv (i + 1) ys' H'->N ys' H')->g x σ' H λσ2 H4=>Weak σ' σ2/\tc σ2 H4 λb H5=>if b=true then te σ2 H5 λy H6=>ys.length < Qe/\N (ys++[y]) H6 else N ys H5)
  (hd:∀ ys H,Pv xs.length ys H->ys.length<=Qe/\∀ p,H p=none->G p H ys) :
  ∃ W:Nat->Nat->List V->Hp->Prop,(∃ m,W 0 m [] H)/\∀ i m ys H2,W i m ys H2->
   ((Itt K a).stop i H2/\ys.length<=Qe/\∀ p,H2 p=none->G p H2 ys)\/
   ((Itt K a).go i H2/\∀ x H3,(Itt K a).yld i H2 x H3->g x σ' H3 λσ2 H4=>Weak σ' σ2/\tc σ2 H4 λb H5=>
    if b=true then te σ2 H5 λy H6=>ys.length < Qe/\∃ m',m' < m/\W (i + 1) m' (ys++[y]) H6 else ∃ m',m' < m/\W (i + 1) m' ys H5):=by
 refine ⟨λi m ys H=>m=xs.length - i/\i<=xs.length/\Pv i ys H,⟨xs.length,rfl,RP _,h0⟩,?_⟩
 rintro i m ys H2 ⟨rfl,hi,p⟩
 have q:=hl i ys H2 hi p
 by_cases hlt:i < xs.length
 ·refine .inr ⟨⟨xs,xs[i],q,by simp[hlt]⟩,λx H' y=>?_⟩
  obtain ⟨e,y⟩:=y
  subst e
  exact hs i x ys _ (λys' H''=>∃ m',m' < xs.length - i/\m'=xs.length - (i + 1)/\i + 1<=xs.length/\Pv (i + 1) ys' H'') (y xs q) p (λys' H'' p'=>⟨_,by omega,rfl,hlt,p'⟩)
 ·have e:i=xs.length:=by omega
  subst e
  exact .inl ⟨⟨xs,q,J8 _⟩,hd ys H2 p⟩
theorem LJ {ns:List Int} {i:Nat} (h:i < ns.length):∃ x:Int,atI (ns.map V.int) (i:Int)=some (.int x)/\x∈ns:=⟨ns[i],AB (by rw[Rm,J7 h]; rfl),Uk h⟩
def LK (K:J4):Sp:=λvs H Q _=>∃ (a:Addr) (ns:List Int) (m:Nat),vs=[.ref a,.int (m:Nat)]/\SqL K H a (ns.map V.int)/\m<=ns.length/\m<=60/\∀ (l:Addr) (r:List Nat) (H':Hp),H l=none->Same H H'->H' l=some (.lst (nats r))->r.Perm (J1 m)->Q (.ref l) H'
theorem scLRow:FnScope ["_law_xs", "_law_many"] ["_law_xs", "_law_many"] (Ae Jn):=⟨rfl,rfl,rfl,by decide +kernel,rfl,by decide +kernel,by decide +kernel⟩
theorem ok_row {f:Addr} {fd:Qh} (F:Fun K "_law_row" "_law_row" Jn f fd) (T:TxtB mg):FnOk P w K mg base CX0 1 f fd ["_law_xs", "_law_many"] (LK K):=by
 refine F.okQ scLRow (λvs H Q E h=>?_) (λcdv A outer s H vs Q E hr h=>?_)
 ·obtain ⟨a,ns,m,rfl,_⟩:=h
  rfl
 ·obtain ⟨a,ns,m,rfl,hS,hm,hm60,q⟩:=h
  refine ⟨_,(Ah (Ax (AH (g:=AR 0) (N:=["_law_pair"]) (src:=[none]) rfl (Al (Ae Jn) ["_law_xs", "_law_many"] rfl rfl (by decide +kernel) rfl) (Bz (Am call_sortP (by rfl) T.sor (by decide +kernel) (qac (AH (g:=AR 0) (N:=["_law_k", "_law_xs"]) (src:=[none,some 0]) rfl (Al (Ae Jn) ["_law_xs", "_law_many"] rfl rfl (by decide +kernel) rfl) (Ar rfl T.range (qac (qv 1) Ab)) (λ_ _ _ _ _=>(Ai (i:=0) (show (["_law_k", "_law_xs"]:List Str).Nodup by decide +kernel) rfl (Ro rfl) (R8 rfl))) (λ_ _ _ _ _=>AQ) (λ_ _ _ _ _=>(AI (qac (Au (show IxR _ (rIxL K) from AF) (qv 1) (qv 0) (λ_ _=>rfl)) (qac (qv 0) Ab))))) Ab))) (λ_ _ _ _ _=>(Ai (i:=0) (show (["_law_pair"]:List Str).Nodup by decide +kernel) rfl (Ro rfl) (R8 rfl))) (λ_ _ _ _ _=>AQ) (λ_ _ _ _ _=>(Au (show IxR _ (rIxT K) from Aw) (qv 0) Af (λ_ _=>rfl)))))),?_⟩
  refine ⟨_,rfl,((m:Nat):Int),rfl,by omega,by omega,AX (lo:=0) (n:=m) (λi ys H2=>Same H H2/\∃ ps:List (Int×Int),PrsAt H2 ys ps/\ps.map (·.2)=(J1 i).map λk=>((k:Nat):Int)) ⟨Same.refl _,[],trivial,rfl⟩ ?_ ?_⟩
  ·rintro i ys H2 N hi ⟨s2,ps,hP,hps⟩ nx
   obtain ⟨x,e,_⟩:=LJ (ns:=ns) (i:=i) (by omega)
   refine ⟨Weak.set (by intro v z; cases z),⟨_,rfl,_,rfl,a,_,_,.int x,rfl,rfl,s2.seq hS,by rw[RI]; exact e,_,rfl,by show 2<=Qe; decide,λt ht=>⟨?_,nx _ _ ⟨s2.trans (Ac ht),ps++[(x,((i:Nat):Int))],?_,?_⟩⟩⟩⟩
   ·have h1:=hP.len
    have h2:=congrArg WW hps
    rw[J0,J0,J5]at h2
    exact Rn (show ys.length<=60 by omega) (by decide)
   ·refine (hP.same (Ac ht)).snoc ?_
    rw[RI]
    exact Aa
   ·rw[Rp,hps,Rs,Rp]
    rfl
  rintro ys H2 ⟨s2,ps,hP,hps⟩
  have hyl:ys.length=m:=by
   have h1:=hP.len
   have h2:=congrArg WW hps
   rw[J0,J0,J5]at h2
   omega
  refine ⟨by rw[hyl]; exact J6 hm60 (by decide),λr hr=>?_⟩
  have w1:=Ac (o:=.lst ys) hr
  refine ⟨r,ys,ps,rfl,SqL.of Aa,hP.same w1,by omega,λl vs' hl hpm=>?_⟩
  have w2:=Ac (o:=.lst vs') hl
  obtain ⟨ps',hP',hpp⟩:=((hP.same w1).same w2).perm hpm
  have hmem:∀ p∈ps',∃ k:Nat,p.2=((k:Nat):Int):=λp hp=>by
   have:p.2∈ps.map (·.2):=ZV (hpp.mem_iff.mp hp)
   rw[hps]at this
   obtain ⟨k,_,e⟩:=RB.mp this
   exact ⟨k,e.symm⟩
  refine ⟨l,rfl,⟨_,SqL.of Aa⟩,BE (K:=K) (xs:=vs') (λi zs H3=>H3=upd (upd H2 r (.lst ys)) l (.lst vs')/\zs=nats ((ps'.take i).map λp=>p.2.toNat)) ⟨rfl,rfl⟩ (λi zs H3 _ ⟨e,_⟩=>SqL.of (e▸Aa)) ?_ ?_⟩
  ·rintro i v zs H3 N hi ⟨rfl,rfl⟩ nx
   obtain ⟨b,p,rfl,hp,hb⟩:=hP'.get hi
   obtain ⟨k,hk⟩:=hmem p (Rf hp)
   have hil:i < vs'.length:=(J3.mp hi).1
   have hvl:=hpm.length_eq
   refine ⟨Weak.set (by intro v z; cases z),⟨_,rfl,b,_,1,.int p.2,rfl,rfl,SqT.of hb,rfl,?_,nx _ _ ⟨rfl,?_⟩⟩⟩
   ·rw[Ag,J0,RA]
    exact Rn (show _<=60 by omega) (by decide)
   ·rw[RO,hp,RM,Rp,Rt,Uf,AE,hk,Rc]
  rintro zs H3 ⟨rfl,rfl⟩
  have hlen':vs'.length=ps'.length:=hP'.len
  have hvl:=hpm.length_eq
  rw[hlen',RE]
  refine ⟨by rw[Ag,J0]; exact J6 (show ps'.length<=60 by omega) (by decide),λl2 hl2=>?_⟩
  have w3:=Ac (o:=.lst (nats (ps'.map λp=>p.2.toNat))) hl2
  have sA:=s2.trans (w1.trans w2)
  refine q l2 _ _ (sA.free hl2) (sA.trans w3) Aa ?_
  have h1:=hpp.map λp:Int×Int=>p.2.toNat
  have h2:(ps.map λp:Int×Int=>p.2.toNat)=J1 m:=by
   have:(ps.map λp:Int×Int=>p.2.toNat)=(ps.map (·.2)).map Zg:=by rw[Uh]; rfl
   rw[this,hps,Uh]
   conv=>rhs; rw[<- Y3 (J1 m)]
   exact RG λk _=>by simp
  rwa [h2]at h1
def cnt (bs:List (List Nat)) (ps:List Nat):Nat:=(bs.filter λb=>ps.all λp=>decide (p∈b)).length
theorem BK (p:Nat):∀ b:List Nat,inV (V.int ((p:Nat):Int)) (nats b)=decide (p∈b)
 | []=>rfl
 | x::b=>by
  have ih:=BK p b
  unfold inV at ih ⊢
  unfold nats at ih ⊢
  rw[Rt,WU,ih]
  by_cases h:x=p
  ·subst h
   simp[eqV]
  ·have:(eqV (V.int ((x:Nat):Int)) (V.int ((p:Nat):Int)))=false:=by simp[eqV]; omega
   rw[this,Jd3]
   simp[Rg,UQ h]
theorem BF (b:List Nat):(nats b).all Eu=true:=by simp[nats,Eu]
def LayA (H:Hp) (t:Addr) (m:Nat) (bs:List (List Nat)):Prop:=∃ (l:Addr) (ws:List V),H t=some (.tup [.int (m:Nat),.ref l])/\H l=some (.tup ws)/\TpAt H ws bs/\bs.length<=200
theorem LayA.sm {H H':Hp} (s:Same H H') {t:Addr} {m:Nat} {bs:List (List Nat)} (h:LayA H t m bs):LayA H' t m bs:=by
 obtain ⟨l,ws,h1,h2,h3,h4⟩:=h
 exact ⟨l,ws,s _ _ h1,s _ _ h2,h3.sm s,h4⟩
theorem BG {α:Type} {bs:List α} {i:Nat} {b:α} (h:bs[i]?=some b):bs.take (i + 1)=bs.take i++[b]:=by
 rw[RO,h,RM]
def mks (m:Nat) (b:List Nat):List V:=(J1 m).map λp=>V.bl (decide (p∈b))
theorem mks_len (m:Nat) (b:List Nat):(mks m b).length=m:=by unfold mks; rw[J0,J5]
theorem mks_get {m p:Nat} (b:List Nat) (h:p < m):(mks m b)[p]?=some (.bl (decide (p∈b))):=by
 unfold mks
 rw[Rm,RN h]
 rfl
theorem mks_set {m x:Nat} (c:List Nat):(mks m c).set x (V.bl true)=mks m (c++[x]):=by
 unfold mks
 apply Ua
 ·simp
 intro i h1 h2
 rw[WP]
 simp only[Wr,U7]
 by_cases h:x=i
 ·subst h
  simp
 ·simp[h,UQ h]
theorem Ka:∀ m:Nat,(RQ m [V.bl false]).flatten=mks m []
 | 0=>rfl
 | m + 1=>by
  rw[Wh,Ww,Ka m]
  unfold mks
  rw[Rs,Rp]
  rfl
def HG:Sp:=λvs H Q _=>∃ (a:Addr) (m:Nat) (b:List Nat),vs=[.int (m:Nat),.ref a]/\(H a=some (.lst (nats b))\/H a=some (.tup (nats b)))/\m<=60/\(∀ x∈b,x < m)/\∀ (l:Addr) (H':Hp),H l=none->Same H H'->H' l=some (.lst (mks m b))->Q (.ref l) H'
theorem scMarksOf:FnScope ["points", "block", "marks", "point"] ["points", "block"] (Ae Ei):=⟨rfl,rfl,rfl,by decide +kernel,rfl,by decide +kernel,by decide +kernel⟩
theorem ok_marks {f:Addr} {fd:Qh} (F:Fun K "marks_of" "marks_of" Ei f fd) (T:TxtB mg):FnOk P w K mg base CX0 1 f fd ["points", "block"] HG:=by
 refine F.okQ scMarksOf (λvs H Q E h=>?_) (λcdv A outer s H vs Q E hr h=>?_)
 ·obtain ⟨a,m,b,rfl,_⟩:=h
  rfl
 ·obtain ⟨a,m,b,rfl,ha,hm,hb,q⟩:=h
  refine ⟨_,(Ad (An (i:=2) scMarksOf.nd rfl (Ro rfl) (Aq FI (Bw (qac LF Ab)) (qv 0)))
   (Ad (AJ PassesOwn.never rfl (qi_seq (qv 1)) (Ai (i:=3) scMarksOf.nd rfl (Ro rfl))
    (Ah (Iq LF (Ip (qv 2) (qv 3) Dj))))
   (Ah (Ax (qv 2))))),?_⟩
  refine ⟨by show 1<=Qe; decide,λd hd=>⟨_,rfl,d,[V.bl false],(m:Int),rfl,rfl,SqL.of Aa,by omega,by omega,by show 1 * (m:Int).toNat<=65536; omega,λl hl=>?_⟩⟩
  have w1:=Ac (o:=.lst [V.bl false]) hd
  have w2:=Ac (o:=.lst (RQ (m:Int).toNat [V.bl false]).flatten) hl
  have hl0:H l=none:=w1.free hl
  have key:∀ i x σ (H3:Hp),(nats b)[i]?=some x->(Same H H3/\∃ x3,σ=[some (V.int (m:Nat)),some (V.ref a),some (V.ref l),x3]/\H3 l=some (.lst (mks m (b.take i))))->∃ p:Nat,x=.int (p:Nat)/\ixN (mks m (b.take i)).length (p:Nat)=some p/\H3 l=some (.lst (mks m (b.take i)))/\Same H (upd H3 l (.lst ((mks m (b.take i)).set p (V.bl true))))/\upd H3 l (.lst ((mks m (b.take i)).set p (V.bl true))) l=some (.lst (mks m (b.take (i + 1)))):=by
   rintro i x σ H3 hi ⟨s3,x3,_,hl3⟩
   obtain ⟨p,hp,rfl⟩:=L2.AW hi
   have hpm:=hb p (Rf hp)
   refine ⟨p,rfl,?_,hl3,AG s3 hl0,?_⟩
   ·unfold ixN
    rw[if_pos (by omega),if_pos (by rw[mks_len]; omega),Rc]
   ·rw[Aa,mks_set,BG hp]
  have st:Same H (upd (upd H d (.lst [V.bl false])) l (.lst (RQ (m:Int).toNat [V.bl false]).flatten))/\∃ x3,[some (V.int (m:Nat)),some (V.ref a),some (V.ref l),none]=[some (V.int (m:Nat)),some (V.ref a),some (V.ref l),x3]/\upd (upd H d (.lst [V.bl false])) l (.lst (RQ (m:Int).toNat [V.bl false]).flatten) l=some (.lst (mks m (b.take 0))):=by
   refine ⟨w1.trans w2,none,rfl,?_⟩
   rw[Aa,Rc,Ka]
   rfl
  rcases ha with ha | ha
  ·refine ⟨_,rfl,a,rfl,.inl ⟨⟨_,SqL.of ((w1.trans w2) _ _ ha)⟩,CV (K:=K) (xs:=nats b) (λi σ H3=>Same H H3/\∃ x3,σ=[some (V.int (m:Nat)),some (V.ref a),some (V.ref l),x3]/\H3 l=some (.lst (mks m (b.take i)))) st (λi σ H3 _ ⟨s3,_⟩=>SqL.of (s3 _ _ ha)) ?_ ?_⟩⟩
   ·rintro i x σ H3 hi hP
    obtain ⟨p,rfl,h1,h2,h3,h4⟩:=key i x σ H3 hi hP
    obtain ⟨s3,x3,rfl,hl3⟩:=hP
    exact ⟨_,rfl,_,rfl,l,_,_,p,rfl,rfl,h2,h1,h3,_,rfl,h4⟩
   ·rintro σ H3 ⟨s3,x3,rfl,hl3⟩
    rw[Ag,RE]at hl3
    exact ⟨_,rfl,q l _ hl0 s3 hl3⟩
  ·refine ⟨_,rfl,a,rfl,.inr ⟨⟨_,SqT.of ((w1.trans w2) _ _ ha)⟩,Hn (K:=K) (xs:=nats b) (λi σ H3=>Same H H3/\∃ x3,σ=[some (V.int (m:Nat)),some (V.ref a),some (V.ref l),x3]/\H3 l=some (.lst (mks m (b.take i)))) st (λi σ H3 _ ⟨s3,_⟩=>SqT.of (s3 _ _ ha)) ?_ ?_⟩⟩
   ·rintro i x σ H3 hi hP
    obtain ⟨p,rfl,h1,h2,h3,h4⟩:=key i x σ H3 hi hP
    obtain ⟨s3,x3,rfl,hl3⟩:=hP
    exact ⟨_,rfl,_,rfl,l,_,_,p,rfl,rfl,h2,h1,h3,_,rfl,h4⟩
   ·rintro σ H3 ⟨s3,x3,rfl,hl3⟩
    rw[Ag,RE]at hl3
    exact ⟨_,rfl,q l _ hl0 s3 hl3⟩
def MkAt (H:Hp) (m:Nat):List V->List (List Nat)->Prop
 | [],[]=>True
 | v::vs,b::bs=>(∃ a,v=.ref a/\H a=some (.lst (mks m b)))/\MkAt H m vs bs
 | _,_=>False
theorem MkAt.sm {H H':Hp} {m:Nat} (s:Same H H'):∀ {vs:List V} {bs:List (List Nat)},MkAt H m vs bs->MkAt H' m vs bs
 | [],[],_=>trivial
 | _::_,_::_,⟨⟨a,e,q⟩,r⟩=>⟨⟨a,e,s _ _ q⟩,r.sm s⟩
theorem MkAt.len {H:Hp} {m:Nat}:∀ {vs:List V} {bs:List (List Nat)},MkAt H m vs bs->vs.length=bs.length
 | [],[],_=>rfl
 | _::_,_::_,h=>by rw[Rq,Rq,MkAt.len h.2]
theorem MkAt.snoc {H:Hp} {m:Nat} {a:Addr} {b:List Nat} (e:H a=some (.lst (mks m b))):∀ {vs:List V} {bs:List (List Nat)},MkAt H m vs bs->MkAt H m (vs++[.ref a]) (bs++[b])
 | [],[],_=>⟨⟨a,rfl,e⟩,trivial⟩
 | _::_,_::_,h=>⟨h.1,h.2.snoc e⟩
theorem MkAt.get {H:Hp} {m:Nat}:∀ {vs:List V} {bs:List (List Nat)} {i:Nat} {v:V},MkAt H m vs bs->vs[i]?=some v->∃ a b,v=.ref a/\bs[i]?=some b/\H a=some (.lst (mks m b))
 | v::vs,b::bs,0,_,h,e=>by
  cases e
  obtain ⟨a,e,q⟩:=h.1
  exact ⟨a,b,e,rfl,q⟩
 | _::vs,_::bs,i + 1,v,h,e=>MkAt.get (i:=i) h.2 e
def FZ:Sp:=λvs H Q _=>∃ (t:Addr) (m:Nat) (bs:List (List Nat)),vs=[.ref t]/\LayA H t m bs/\m<=60/\(∀ b∈bs,Blk m b)/\∀ (l:Addr) (ws:List V) (H':Hp),H l=none->Same H H'->H' l=some (.lst ws)->MkAt H' m ws bs->Q (.ref l) H'
theorem scMarkedBlocks:FnScope ["M"] ["M"] (Ae Bt):=⟨rfl,rfl,rfl,by decide +kernel,rfl,by decide +kernel,by decide +kernel⟩
theorem ok_marked {f:Addr} {fd:Qh} (F:Fun K "marked_blocks" "marked_blocks" Bt f fd) (T:TxtB mg) (pMarksOf:Pm P w K mg base CX0 1 "marks_of" ["points", "block"] HG):FnOk P w K mg base CX0 2 f fd ["M"] FZ:=by
 refine F.okQ scMarkedBlocks (λvs H Q E h=>?_) (λcdv A outer s H vs Q E hr1 h=>?_)
 ·obtain ⟨t,m,bs,rfl,_⟩:=h
  rfl
 ·obtain ⟨t,m,bs,rfl,⟨lb,ws,ht,hlb,hT,hlen⟩,hm,hb,q⟩:=h
  refine ⟨_,(Ah (Ax (AH (g:=AR 0) (N:=["block", "M"]) (src:=[none,some 0]) rfl (Al (Ae Bt) ["M"] rfl rfl (by decide +kernel) rfl) (DV (Au Aw (qv 0) Af (λ_ _=>rfl))) (λ_ _ _ _ _=>(Ai (i:=0) (show (["block", "M"]:List Str).Nodup by decide +kernel) rfl (Ro rfl) (R8 rfl))) (λ_ _ _ _ _=>AQ) (λ_ _ _ _ _=>(Aj pMarksOf hr1 rfl Av (qac (Au (show IxR _ (rIxT K) from Aw) (qv 1) Af (λ_ _=>rfl)) (qac (qv 0) Ab))))))),?_⟩
  refine ⟨_,rfl,t,_,1,.ref lb,rfl,rfl,SqT.of ht,rfl,lb,rfl,⟨_,SqT.of hlb⟩,Dc (K:=K) (xs:=ws) (λi zs H2=>Same H H2/\MkAt H2 m zs (bs.take i)) ⟨Same.refl _,trivial⟩ (λi zs H2 _ ⟨e,_⟩=>SqT.of (e _ _ hlb)) ?_ ?_⟩
  ·rintro i v zs H2 N hi ⟨s2,hz⟩ nx
   obtain ⟨a,b,rfl,hbs,hab⟩:=(hT.sm s2).get hi
   have hil:=(J3.mp hbs).1
   refine ⟨Weak.set (by intro v z; cases z),⟨_,rfl,t,_,0,.int (m:Nat),rfl,rfl,SqT.of (s2 _ _ ht),rfl,_,rfl,a,m,b,rfl,.inr hab,hm,(hb b (Rf hbs)).lt,λl H3 hl s3 hl3=>⟨?_,nx _ _ ⟨s2.trans s3,?_⟩⟩⟩⟩
   ·rw[hz.len,RA]
    exact Rn (show _<=200 by omega) (by decide)
   ·rw[BG hbs]
    exact (hz.sm s3).snoc hl3
  ·rintro zs H2 ⟨s2,hz⟩
   rw[hT.len,RE]at hz
   refine ⟨by rw[hz.len]; exact J6 hlen (by decide),λr hr=>?_⟩
   exact q r zs _ (s2.free hr) (s2.trans (Ac hr)) Aa (hz.sm (Ac hr))
def keep (p:Nat):List V->List (List Nat)->List V
 | w::ws,b::bs=>if p∈b then w::keep p ws bs else keep p ws bs
 | _,_=>[]
theorem IH {p:Nat} {ws':List V} {bs':List (List Nat)}:∀ {ws:List V} {bs:List (List Nat)},ws.length=bs.length->keep p (ws++ws') (bs++bs')=keep p ws bs++keep p ws' bs'
 | [],[],_=>rfl
 | w::ws,b::bs,h=>by
  have ih:=IH (p:=p) (ws':=ws') (bs':=bs') (ws:=ws) (bs:=bs) (Nat.succ.inj h)
  simp only[Ws,keep]
  by_cases hp:p∈b
  ·simp only[hp,if_true,Ws,ih]
  ·simp only[hp,if_false,ih]
theorem keep_snoc {p:Nat} {ws:List V} {bs:List (List Nat)} {i:Nat} {w:V} {b:List Nat} (hl:ws.length=bs.length) (h:ws[i]?=some w) (h':bs[i]?=some b):keep p (ws.take (i + 1)) (bs.take (i + 1))=keep p (ws.take i) (bs.take i)++if p∈b then [w] else []:=by
 rw[BG h,BG h',IH (by rw[RA,RA,hl])]
 by_cases hp:p∈b
 ·simp[keep,hp]
 ·simp[keep,hp]
theorem HH {p:Nat}:∀ (ws:List V) (bs:List (List Nat)),(keep p ws bs).length<=bs.length
 | [],_=>by simp[keep]
 | _::_,[]=>by simp[keep]
 | w::ws,b::bs=>by
  have ih:=HH (p:=p) ws bs
  simp only[keep]
  by_cases hp:p∈b
  ·simp only[hp,if_true,Rq]; omega
  ·simp only[hp,if_false,Rq]; omega
theorem MkAt.keep {H:Hp} {m p:Nat}:∀ {ws:List V} {bs:List (List Nat)},MkAt H m ws bs->MkAt H m (keep p ws bs) (bs.filter λb=>decide (p∈b))
 | [],[],_=>trivial
 | w::ws,b::bs,h=>by
  have ih:=MkAt.keep (p:=p) h.2
  simp only[E1.keep,Us]
  by_cases hp:p∈b
  ·simp only[hp,if_true,decide_true]
   exact ⟨h.1,ih⟩
  ·simp only[hp,if_false,decide_false]
   exact ih
def DN:Sp:=λvs H Q _=>∃ (l:Addr) (m p:Nat) (ws:List V) (bs:List (List Nat)),vs=[.ref l,.int (p:Nat)]/\H l=some (.lst ws)/\MkAt H m ws bs/\bs.length<=200/\p < m/\∀ (r:Addr) (H':Hp),H r=none->Same H H'->H' r=some (.lst (keep p ws bs))->Q (.ref r) H'
theorem scRowsWith:FnScope ["rows", "point"] ["rows", "point"] (Ae CM):=⟨rfl,rfl,rfl,by decide +kernel,rfl,by decide +kernel,by decide +kernel⟩
theorem ok_rowswith {f:Addr} {fd:Qh} (F:Fun K "rows_with" "rows_with" CM f fd) (T:TxtB mg):FnOk P w K mg base CX0 1 f fd ["rows", "point"] DN:=by
 refine F.okQ scRowsWith (λvs H Q E h=>?_) (λcdv A outer s H vs Q E hr h=>?_)
 ·obtain ⟨l,m,p,ws,bs,rfl,_⟩:=h
  rfl
 ·obtain ⟨l,m,p,ws,bs,rfl,hl,hW,hn,hp,q⟩:=h
  refine ⟨_,(Ah (Ax (AH (g:=AR 0) (N:=["row", "point"]) (src:=[none,some 1]) rfl (Al (Ae CM) ["rows", "point"] rfl rfl (by decide +kernel) rfl) (Bz (qv 0)) (λ_ _ _ _ _=>(Ai (i:=0) (show (["row", "point"]:List Str).Nodup by decide +kernel) rfl (Ro rfl) (R8 rfl))) (λ_ _ _ _ _=>(BQ (CA (Au (show IxR _ (rIxL K) from AF) (qv 0) (qv 1) (λ_ _=>rfl))))) (λ_ _ _ _ _=>(qv 0))))),?_⟩
  refine ⟨_,rfl,l,rfl,⟨_,SqL.of hl⟩,BE (K:=K) (xs:=ws) (λi zs H2=>H2=H/\zs=keep p (ws.take i) (bs.take i)) ⟨rfl,rfl⟩ (λi zs H2 _ ⟨e,_⟩=>SqL.of (e▸hl)) ?_ ?_⟩
  ·rintro i v zs H2 N hi ⟨rfl,rfl⟩ nx
   obtain ⟨a,b,rfl,hbs,hab⟩:=hW.get hi
   have hil:=(J3.mp hbs).1
   refine ⟨Weak.set (by intro v z; cases z),⟨_,rfl,_,rfl,a,_,_,_,rfl,rfl,SqL.of hab,AB (mks_get b hp),_,rfl,?_⟩⟩
   have e:=keep_snoc (p:=p) hW.len hi hbs
   by_cases hh:p∈b
   ·rw[if_pos hh]at e
    refine ifT hh ⟨_,rfl,?_,nx _ _ ⟨rfl,e.symm⟩⟩
    have:=HH (p:=p) (ws.take i) (bs.take i)
    rw[RA]at this
    exact Rn (show _<=200 by omega) (by decide)
   ·rw[if_neg hh,RJ]at e
    exact ifF hh (nx _ _ ⟨rfl,e.symm⟩)
  ·rintro zs H2 ⟨rfl,rfl⟩
   rw[RE,hW.len,RE]
   have:=HH (p:=p) ws bs
   exact ⟨J6 (show _<=200 by omega) (by decide),λr hr'=>q r _ hr' (Ac hr') Aa⟩
inductive Ans where
 | none
 | same (c:Nat)
 | unlike (p:List Nat) (c:Nat) (q:List Nat) (d:Nat)
def MC (H:Hp) (v:V):Ans->Prop
 | .none=>∃ t,v=.ref t/\H t=some (.tup [.str "none"])
 | .same c=>∃ t,v=.ref t/\H t=some (.tup [.str "same",.int ((c:Nat):Int)])
 | .unlike p c q d=>∃ t a b,v=.ref t/\H t=some (.tup [.str "unlike",.ref a,.int ((c:Nat):Int),.ref b,.int ((d:Nat):Int)])/\H a=some (.tup (nats p))/\H b=some (.tup (nats q))/\p.length<=60/\q.length<=60
def told (Z:List (List Nat×Nat)):Ans:=
 match Z with
 | []=>.none
 | x::_=>match Z.find? λy=>decide (y.2≠x.2) with
  | none=>.same x.2
  | some y=>.unlike x.1 x.2 y.1 y.2
theorem told_same {Z:List (List Nat×Nat)} {x:List Nat×Nat} (h0:Z[0]?=some x) (h:Z.find? (λy=>decide (y.2≠x.2))=none):told Z=.same x.2:=by
 cases Z with
 | nil=>cases h0
 | cons y Z=>
  cases h0
  unfold told
  dsimp only
  rw[h]
theorem told_unlike {Z:List (List Nat×Nat)} {x y:List Nat×Nat} {i:Nat} (h0:Z[0]?=some x) (h:(Z.take i).find? (λy=>decide (y.2≠x.2))=none) (hy:Z[i]?=some y) (hne:y.2≠x.2):told Z=.unlike x.1 x.2 y.1 y.2:=by
 have e:Z.find? (λy=>decide (y.2≠x.2))=some y:=by
  have hl:=(J3.mp hy)
  obtain ⟨hi,ey⟩:=hl
  rw[<- UU i Z,Ja6,h,WZ,Zp hi,ey]
  exact List.find?_cons_of_pos (decide_eq_true hne)
 cases Z with
 | nil=>cases h0
 | cons z Z=>
  cases h0
  unfold told
  dsimp only
  rw[e]
theorem find_snoc {Z:List (List Nat×Nat)} {x y:List Nat×Nat} {i:Nat} (h:(Z.take i).find? (λy=>decide (y.2≠x.2))=none) (hy:Z[i]?=some y) (he:¬ y.2≠x.2):(Z.take (i + 1)).find? (λy=>decide (y.2≠x.2))=none:=by
 rw[BG hy,Ja6,h,WZ]
 exact List.find?_cons_of_neg (λz=>he (of_decide_eq_true z))
def Kb:Sp:=λvs H Q _=>∃ (l k:Addr) (ws:List V) (Z:List (List Nat×Nat)),vs=[.ref l,.ref k]/\H l=some (.lst ws)/\TpAt H ws (Z.map (·.1))/\H k=some (.lst (nats (Z.map (·.2))))/\(∀ z∈Z,z.1.length<=60)/\∀ v H',Same H H'->MC H' v (told Z)->Q v H'
theorem scToldOf:FnScope ["cases", "counts", "case", "count"] ["cases", "counts"] (Ae FV):=⟨rfl,rfl,rfl,by decide +kernel,rfl,by decide +kernel,by decide +kernel⟩
theorem niT {i j:Int} {A B:Prop} (h:i≠j) (k:A):if (!decide (V.int i=V.int j))=true then A else B:=by
 rw[if_pos (by simp[h])]
 exact k
theorem niF {i j:Int} {A B:Prop} (h:i=j) (k:B):if (!decide (V.int i=V.int j))=true then A else B:=by
 rw[if_neg (by simp[h])]
 exact k
theorem ok_told {f:Addr} {fd:Qh} (F:Fun K "told_of" "told_of" FV f fd) (T:TxtB mg):FnOk P w K mg base CX0 1 f fd ["cases", "counts"] Kb:=by
 refine F.okQ scToldOf (λvs H Q E h=>?_) (λcdv A outer s H vs Q E hr h=>?_)
 ·obtain ⟨l,k,ws,Z,rfl,_⟩:=h
  rfl
 ·obtain ⟨l,k,ws,Z,rfl,hl,hT,hk,hZ,q⟩:=h
  refine ⟨_,(Ad (Bb (Ap Ju (Am Ak (by rfl) T.len Rr (qac (qv 0) Ab)) Af (Az _)) (Ah (Ax (AI (qac Dd Ab)))) AA)
   (Ad (AJ PassesOwn.never rfl (qi_zipL rfl T.zip (qac (qv 0) (qac (qv 1) Ab))) (BV rfl (AC (Ai (i:=2) scToldOf.nd rfl (Ro rfl)) (AC (Ai (i:=3) scToldOf.nd rfl (Ro rfl)) Bq)))
    (Ah (Bb (Ap Gw (qv 3) (Au AF (qv 1) Af (λ_ _=>rfl)) (Az _)) (Ah (Ax (AI (qac Dd (qac (Au AF (qv 0) Af (λ_ _=>rfl)) (qac (Au AF (qv 1) Af (λ_ _=>rfl)) (qac (qv 2) (qac (qv 3) Ab)))))))) AA)))
   (Ah (Ax (AI (qac Dd (qac (Au AF (qv 1) Af (λ_ _=>rfl)) Ab))))))),?_⟩
  have hwl:ws.length=Z.length:=by rw[hT.len,J0]
  refine ⟨_,rfl,l,ws,rfl,.inl (SqL.of hl),rfl,_,rfl,?_⟩
  by_cases hZ0:Z=[]
  ·subst hZ0
   have hw:ws=[]:=List.eq_nil_of_length_eq_zero hwl
   subst hw
   exact iteT ⟨by show 1<=Qe; decide,λt ht=>q _ _ (Ac ht) ⟨t,rfl,Aa⟩⟩
  ·have hpos:0 < Z.length:=List.length_pos_iff.mpr hZ0
   obtain ⟨x,h0⟩:∃ x,Z[0]?=some x:=⟨Z[0],J7 hpos⟩
   have hne:¬ decide (V.int ((ws.length:Nat):Int)=V.int 0)=true:=by
    rw[hwl]
    simp
    omega
   refine ite2 (λz=>absurd z hne) (λ_=>?_)
   have hk0:atI (nats (Z.map (·.2))) 0=some (.int ((x.2:Nat):Int)):=by
    refine AB (j:=0) ?_
    unfold nats
    rw[Rm,Rm,h0]
    rfl
   refine ⟨_,rfl,_,rfl,l,k,rfl,⟨_,SqL.of hl⟩,⟨_,SqL.of hk⟩,for_zipL (K:=K) (xs:=ws) (ys:=nats (Z.map (·.2))) (by rw[hwl,Ag,J0]) (λi σ H2=>Same H H2/\(∃ x2 x3,σ=[some (.ref l),some (.ref k),x2,x3])/\(Z.take i).find? (λy=>decide (y.2≠x.2))=none) ⟨Same.refl _,⟨none,none,rfl⟩,rfl⟩ (λi σ H2 _ ⟨e,_⟩=>⟨SqL.of (e _ _ hl),SqL.of (e _ _ hk)⟩) ?_ ?_⟩
   ·rintro i v u t σ H2 hi hi' ⟨s2,⟨x2,x3,rfl⟩,hf⟩ ht
    obtain ⟨a,b,rfl,hbs,hab⟩:=(hT.sm s2).get hi
    obtain ⟨c,hc,rfl⟩:=L2.AW hi'
    rw[Rm]at hbs hc
    obtain ⟨y,hy,rfl⟩:=WE.mp hbs
    rw[hy]at hc
    cases hc
    have w1:=Ac (o:=.tup [V.ref a,V.int ((y.2:Nat):Int)]) ht
    have s3:=s2.trans w1
    refine ⟨t,_,rfl,SqT.of Aa,rfl,_,_,rfl,_,_,rfl,rfl,?_⟩
    refine ⟨_,rfl,_,rfl,k,_,0,_,rfl,rfl,SqL.of (s3 _ _ hk),hk0,rfl,_,rfl,?_⟩
    by_cases hne2:y.2≠x.2
    ·refine niT (show ((y.2:Nat):Int)≠((x.2:Nat):Int) by omega) ?_
     obtain ⟨a0,b0,e0,hb0,ha0⟩:=TpAt.get (i:=0) (v:=ws[0]'(by omega)) (hT.sm s3) (by rw[J7])
     rw[Rm,h0]at hb0
     cases hb0
     refine ⟨_,rfl,l,ws,0,.ref a0,rfl,rfl,SqL.of (s3 _ _ hl),AB (j:=0) (by rw[J7 (by omega),e0]),_,rfl,k,_,0,_,rfl,rfl,SqL.of (s3 _ _ hk),hk0,_,rfl,_,rfl,by show 5<=Qe; decide,λr hr'=>?_⟩
     refine q _ _ (s3.trans (Ac hr')) ?_
     rw[told_unlike h0 hf hy hne2]
     exact ⟨r,a0,a,rfl,Aa,Ac hr' _ _ ha0,Ac hr' _ _ (w1 _ _ hab),hZ x (Rf h0),hZ y (Rf hy)⟩
    ·refine niF (show ((y.2:Nat):Int)=((x.2:Nat):Int) by omega) ?_
     exact ⟨s3,⟨_,_,rfl⟩,find_snoc hf hy hne2⟩
   ·rintro σ H2 ⟨s2,⟨x2,x3,rfl⟩,hf⟩
    rw[hwl,RE]at hf
    refine ⟨_,rfl,k,_,0,_,rfl,rfl,SqL.of (s2 _ _ hk),hk0,by show 2<=Qe; decide,λr hr'=>?_⟩
    refine q _ _ (s2.trans (Ac hr')) ?_
    rw[told_same h0 hf]
    exact ⟨r,rfl,Aa⟩
structure Acc (g:List Nat->Nat) (H1:Hp) (c k:Addr) (L:List (List Nat)) (H:Hp):Prop where
 sm:Same H1 H
 cs:∃ cs,H c=some (.lst cs)/\TpAt H cs L
 ks:H k=some (.lst (nats (L.map g)))
theorem Acc.up {g:List Nat->Nat} {H1 H H':Hp} {c k:Addr} {L:List (List Nat)} (A:Acc g H1 c k L H) (s:Same H H'):Acc g H1 c k L H':=by
 obtain ⟨cs,h1,h2⟩:=A.cs
 exact ⟨A.sm.trans s,⟨cs,s _ _ h1,h2.sm s⟩,s _ _ A.ks⟩
structure Half (g:List Nat->Nat) (H1:Hp) (c k:Addr) (L:List (List Nat)) (p:List Nat) (H:Hp):Prop where
 sm:Same H1 H
 cs:∃ cs,H c=some (.lst cs)/\TpAt H cs (L++[p])
 ks:H k=some (.lst (nats (L.map g)))
theorem Half.up {g:List Nat->Nat} {H1 H H':Hp} {c k:Addr} {L:List (List Nat)} {p:List Nat} (A:Half g H1 c k L p H) (s:Same H H'):Half g H1 c k L p H':=by
 obtain ⟨cs,h1,h2⟩:=A.cs
 exact ⟨A.sm.trans s,⟨cs,s _ _ h1,h2.sm s⟩,s _ _ A.ks⟩
theorem EU {H:Hp} {c:Addr} {xs ys ws:List V} {bs:List (List Nat)} (hc:H c=some (.lst xs)) (h:TpAt H ws bs):TpAt (upd H c (.lst ys)) ws bs:=h.same λu zs hu=>by
 rw[As (λz=>by rw[z,hc]at hu; cases hu)]
 exact hu
theorem Acc.half {g:List Nat->Nat} {H1 H:Hp} {c k t:Addr} {L:List (List Nat)} {p:List Nat} {cs:List V} (hc1:H1 c=none) (hck:k≠c) (hc:H c=some (.lst cs)) (hT:TpAt H cs L) (hs:Same H1 H) (hk:H k=some (.lst (nats (L.map g)))) (ht:H t=some (.tup (nats p))):Half g H1 c k L p (upd H c (.lst (cs++[.ref t]))):=by
 refine ⟨AG hs hc1,⟨_,Aa,EU hc (hT.snoc ht)⟩,?_⟩
 rw[As hck]
 exact hk
theorem Half.full {g:List Nat->Nat} {H1 H:Hp} {c k:Addr} {L:List (List Nat)} {p:List Nat} (A:Half g H1 c k L p H) (hk1:H1 k=none) (hck:k≠c):Acc g H1 c k (L++[p]) (upd H k (.lst (nats (L.map g)++[.int ((g p:Nat):Int)]))):=by
 obtain ⟨cs,h1,h2⟩:=A.cs
 refine ⟨AG A.sm hk1,⟨cs,?_,EU A.ks h2⟩,?_⟩
 ·rw[As (UQ hck)]
  exact h1
 ·rw[Aa,Rp,Rt,Uf,AE]
def prs (m:Nat):Nat->List (List Nat)
 | 0=>[]
 | a + 1=>prs m a++(J1 (m - (a + 1))).map λj=>[a,a + 1 + j]
def prsJ (m a j:Nat):List (List Nat):=prs m a++(J1 j).map λj=>[a,a + 1 + j]
theorem prsJ_zero (m a:Nat):prsJ m a 0=prs m a:=by simp[prsJ]
theorem prsJ_snoc (m a j:Nat):prsJ m a (j + 1)=prsJ m a j++[[a,a + 1 + j]]:=by
 unfold prsJ
 rw[Rs,Rp,<- UC]
 rfl
theorem prsJ_full (m a:Nat):prsJ m a (m - (a + 1))=prs m (a + 1):=rfl
theorem Kc {m:Nat} (hm:m<=60):∀ a,(prs m a).length<=60 * a
 | 0=>by simp[prs]
 | a + 1=>by
  have ih:=Kc hm a
  rw[prs,Rk,J0,J5]
  omega
theorem prsJ_len {m a j:Nat} (hm:m<=60) (ha:a < m) (hj:j<=m - (a + 1)):(prsJ m a j).length<=3600:=by
 have:=Kc hm a
 unfold prsJ
 rw[Rk,J0,J5]
 omega
def zof (g:List Nat->Nat) (L:List (List Nat)):List (List Nat×Nat):=L.map λp=>(p,g p)
theorem zof_fst (g:List Nat->Nat) (L:List (List Nat)):(zof g L).map (·.1)=L:=by
 unfold zof
 rw[Uh]
 exact List.map_id'' (λ_=>rfl) _
theorem zof_snd (g:List Nat->Nat) (L:List (List Nat)):(zof g L).map (·.2)=L.map g:=by
 unfold zof
 rw[Uh]
 rfl
theorem keep_len {H:Hp} {m a b:Nat} {ws:List V} {bs:List (List Nat)} (h:MkAt H m ws bs):(keep b (keep a ws bs) (bs.filter λx=>decide (a∈x))).length=cnt bs [a,b]:=by
 rw[(h.keep (p:=a)).keep.len,Z9]
 unfold cnt
 congr 1
 apply WH
 intro x _
 simp[Bool.and_comm]
def AN (l:List Nat):List Nat:=(l.reverse.dropWhile (λx=>decide (x=0))).reverse
theorem GT (l:List Nat):AN (l++[0])=AN l:=by
 unfold AN
 simp
theorem GU (l:List Nat) {x:Nat} (h:x≠0):AN (l++[x])=l++[x]:=by
 unfold AN
 simp[h]
theorem Ga {l:List Nat} {x:Nat} (h:x∈AN l):x∈l:=by
 unfold AN at h
 rw[Jb5]at h
 exact Jb5.mp ((ZF _).subset h)
theorem Gb (l:List Nat):(AN l).length<=l.length:=by
 unfold AN
 rw[Wv]
 exact J6 (ZF _).length_le (by rw[Wv]; exact J8 _)
theorem GV:∀ L M:List Nat,PyData.eqvAll (L.map λp=>PyData.int ((p:Nat):Int)) (M.map λp=>PyData.int ((p:Nat):Int))=decide (L=M)
 | [],[]=>by simp[PyData.eqvAll]
 | [],_::_=>by simp[PyData.eqvAll]
 | _::_,[]=>by simp[PyData.eqvAll]
 | x::L,y::M=>by
  have ih:=GV L M
  simp only[Rt,PyData.eqvAll,PyData.eqv,ih]
  by_cases h:x=y
  ·subst h
   simp
  ·have:¬ ((x:Int)=(y:Int)):=by omega
   simp[h,this]
theorem eqv_tupQ (L M:List Nat):PyData.eqv (dTup L) (dTup M)=decide (L=M):=by
 simp only[dTup,PyData.eqv]
 exact GV L M
theorem EV (L:List Nat):R7 (dTup L)=true:=by
 unfold R7 dTup
 rw[RL]
 refine ⟨by simp only[PyData.canLay0]; exact EH L,decide_eq_true ?_⟩
 have:=Dg L
 simp only[PyData.depth]
 omega
theorem II {K:J4} {H:Hp} {a:Addr} {L:List Nat} (h:H a=some (.tup (nats L))):IsD K H (dTup L) (.ref a):=by
 simp only[dTup,IsD]
 exact ⟨a,_,rfl,SqT.of h,EG L⟩
theorem ejT {i j:Int} {A B:Prop} (h:i=j) (k:A):if decide (V.int i=V.int j)=true then A else B:=by
 rw[if_pos (by simp[h])]
 exact k
theorem ejF {i j:Int} {A B:Prop} (h:i≠j) (k:B):if decide (V.int i=V.int j)=true then A else B:=by
 rw[if_neg (by simp[h])]
 exact k
theorem HI {r:List Nat} {k:Nat} (hk:k < r.length):atI (nats r) ((k:Nat):Int)=some (.int ((r.getD k 0:Nat):Int)):=by
 refine AB ?_
 unfold nats
 rw[Rm,J7 hk]
 simp[hk]
theorem GW {l:List Nat} {m:Nat} (h0:0 < m) (hm:m<=l.length):l.take m=l.take (m - 1)++[l.getD (m - 1) 0]:=by
 obtain ⟨j,rfl⟩:∃ j,m=j + 1:=⟨m - 1,by omega⟩
 have hj:j < l.length:=by omega
 rw[show j + 1 - 1=j by omega,RO,J7 hj]
 simp[hj]
def IJ:Sp:=λvs H Q _=>∃ (a:Addr) (l:List Nat),vs=[.ref a]/\H a=some (.lst (nats l))/\l.length<=100/\∀ (t:Addr) (H':Hp),H t=none->Same H H'->H' t=some (.tup (nats (AN l)))->Q (.ref t) H'
theorem scTrimmed:FnScope ["digits", "many"] ["digits"] (Ae Ek):=⟨rfl,rfl,rfl,by decide +kernel,rfl,by decide +kernel,by decide +kernel⟩
theorem ok_trimmed {f:Addr} {fd:Qh} (F:Fun K "trimmed" "trimmed" Ek f fd) (T:TxtB mg):FnOk P w K mg base CX0 1 f fd ["digits"] IJ:=by
 refine F.okQ scTrimmed (λvs H Q E h=>?_) (λcdv A outer s H vs Q E hr h=>?_)
 ·obtain ⟨a,l,rfl,_⟩:=h
  rfl
 ·obtain ⟨a,l,rfl,ha,hl,q⟩:=h
  refine ⟨_,(Ad (An (i:=1) scTrimmed.nd rfl (Ro rfl) (Am Ak (by rfl) T.len Rr (qac (qv 0) Ab)))
   (Ad (BW PassesOwn.never (QW.pt (JE (Ap Ec (qv 1) Af (Az _)) (Hr (Ap Ju (Au AF (qv 0) (Aq Fp (qv 1) Af) (λ_ _=>rfl)) Af (Az _)))))
    (Ah (Ir (i:=1) scTrimmed.nd rfl (Ro rfl) Af ip_sub)))
   (Ah (Ax (AD Ay (by rfl) T.tup (by decide +kernel) (qac (BB DG (qv 0) CG (BI (qv 1))) Ab)))))),?_⟩
  refine ⟨_,rfl,a,_,rfl,.inl (SqL.of ha),?_⟩
  rw[Ag]
  refine CC (λσ H2=>H2=H/\∃ m:Nat,σ=[some (.ref a),some (.int ((m:Nat):Int))]/\m<=l.length/\AN (l.take m)=AN l)
   (λσ _=>match σ with | [_,some (.int m)]=>m.toNat | _=>0) ⟨rfl,l.length,rfl,J8 _,by rw[RE]⟩ ?_
  rintro mm σ H2 ⟨rfl,m,rfl,hm,htr⟩ hmm
  refine ⟨_,rfl,_,_,rfl,rfl,_,rfl,?_⟩
  have ecut:cutV (nats l) none (some ((m:Nat):Int))=nats (l.take m):=by
   rw[cut_le]
   unfold nats
   rw[WT]
  refine ite2 (λh1=>?_) (λh1=>?_)
  ·have h1':0 < m:=by
    have:(0:Int) < ((m:Nat):Int):=of_decide_eq_true h1
    omega
   have e1:atI (nats l) (((m:Nat):Int) - 1)=some (.int ((l.getD (m - 1) 0:Nat):Int)):=by
    rw[show ((m:Nat):Int) - 1=((m - 1:Nat):Int) by omega]
    exact HI (by omega)
   refine ⟨_,rfl,_,rfl,_,_,rfl,rfl,a,_,_,_,rfl,rfl,SqL.of ha,e1,rfl,_,rfl,?_⟩
   by_cases hz:l.getD (m - 1) 0=0
   ·refine ejT (show ((l.getD (m - 1) 0:Nat):Int)=0 by omega) (WTurn.of ?_)
    refine ⟨_,rfl,_,_,rfl,rfl,⟨rfl,m - 1,by rw[show ((m - 1:Nat):Int)=((m:Nat):Int) - 1 by omega]; rfl,by omega,?_⟩,?_⟩
    ·rw[<- htr,GW h1' hm,hz,GT]
    ·rw[hmm]
     show (((m:Nat):Int) - 1).toNat < (((m:Nat):Int)).toNat
     omega
   ·refine ejF (show ((l.getD (m - 1) 0:Nat):Int)≠0 by omega) ?_
    refine ⟨_,rfl,_,rfl,_,rfl,a,_,rfl,SqL.of ha,λb hb=>⟨b,_,rfl,.inl ⟨SqL.of Aa,λt ht=>?_⟩⟩⟩
    rw[ecut]at ht ⊢
    refine q t _ ((Ac hb).free ht) ((Ac hb).trans (Ac ht)) ?_
    rw[Aa,<- htr,GW h1' hm,GU _ hz]
  ·have h1':m=0:=by
    have:¬ (0:Int) < ((m:Nat):Int):=λz=>h1 (decide_eq_true z)
    omega
   subst h1'
   refine iteF ?_
   refine ⟨_,rfl,_,rfl,_,rfl,a,_,rfl,SqL.of ha,λb hb=>⟨b,_,rfl,.inl ⟨SqL.of Aa,λt ht=>?_⟩⟩⟩
   rw[ecut]at ht ⊢
   refine q t _ ((Ac hb).free ht) ((Ac hb).trans (Ac ht)) ?_
   rw[Aa,<- htr]
   rfl
def red (p v t d:Nat):Nat:=(((v:Nat):Int) - ((t:Nat):Int) * ((d:Nat):Int)) % ((p:Nat):Int) |>.toNat
theorem HJ {p v t d:Nat} (hp:0 < p):(((v:Nat):Int) - ((t:Nat):Int) * ((d:Nat):Int)) % ((p:Nat):Int)=((red p v t d:Nat):Int)/\red p v t d < p:=by
 have h1:=Ux (((v:Nat):Int) - ((t:Nat):Int) * ((d:Nat):Int)) (show ((p:Nat):Int)≠0 by omega)
 have h2:=Ug (((v:Nat):Int) - ((t:Nat):Int) * ((d:Nat):Int)) (show (0:Int) < ((p:Nat):Int) by omega)
 unfold red
 exact ⟨by omega,by omega⟩
def CP (p:Nat) (b:List Nat) (s t:Nat) (l:List Nat) (j:Nat):List Nat:=l.mapIdx λi v=>if s<=i/\i < s + j then red p v t (b.getD (i - s) 0) else v
theorem Bk (p:Nat) (b:List Nat) (s t:Nat) (l:List Nat) (j:Nat):(CP p b s t l j).length=l.length:=by
 unfold CP
 rw[List.length_mapIdx]
theorem Cl {p:Nat} {b:List Nat} {s t:Nat} {l:List Nat} {j i:Nat} (h:i < (CP p b s t l j).length) (h':i < l.length):(CP p b s t l j)[i]=if s<=i/\i < s + j then red p l[i] t (b.getD (i - s) 0) else l[i]:=List.getElem_mapIdx ..
theorem stepJ_zero (p:Nat) (b:List Nat) (s t:Nat) (l:List Nat):CP p b s t l 0=l:=by
 apply Ua
 ·rw[Bk]
 ·intro i h1 h2
  rw[Cl h1 h2,if_neg (by omega)]
theorem stepJ_at {p:Nat} {b:List Nat} {s t:Nat} {l:List Nat} {j:Nat} (h:s + j < l.length):(CP p b s t l j).getD (s + j) 0=l.getD (s + j) 0:=by
 have h2:s + j < (CP p b s t l j).length:=by rw[Bk]; exact h
 rw[J9,J9,J7 h2,J7 h]
 show (CP p b s t l j)[s + j]=l[s + j]
 rw[Cl h2 h,if_neg (by omega)]
theorem stepJ_succ {p:Nat} {b:List Nat} {s t:Nat} {l:List Nat} {j:Nat} (h:s + j < l.length):(CP p b s t l j).set (s + j) (red p (l.getD (s + j) 0) t (b.getD j 0))=CP p b s t l (j + 1):=by
 apply Ua
 ·rw[Y4,Bk,Bk]
 ·intro i h1 h2
  have hi:i < l.length:=by
   rw[Bk]at h2
   exact h2
  rw[WP,Cl h2 hi]
  by_cases e:s + j=i
  ·subst e
   rw[if_pos rfl,if_pos (by omega),show s + j - s=j by omega]
   simp[h]
  ·rw[if_neg e,Cl (by rw[Bk]; exact hi) hi]
   by_cases e2:s<=i/\i < s + j
   ·rw[if_pos e2,if_pos (by omega)]
   ·rw[if_neg e2,if_neg (by omega)]
theorem IK {p:Nat} {b:List Nat} {s t:Nat} {l:List Nat} {j B:Nat} (hp:0 < p) (hB:p<=B) (hl:∀ x∈l,x < B):∀ x∈CP p b s t l j,x < B:=by
 intro x hx
 obtain ⟨i,hi,rfl⟩:=Uw.mp hx
 have hi2:i < l.length:=by
  rw[Bk]at hi
  exact hi
 rw[Cl hi hi2]
 by_cases e:s<=i/\i < s + j
 ·rw[if_pos e]
  exact Rb (HJ hp).2 hB
 ·rw[if_neg e]
  exact hl _ (Uk hi2)
def DO (p:Nat) (b l:List Nat):List Nat:=CP p b (l.length - b.length) (l.getD (l.length - 1) 0) l.dropLast (b.length - 1)
theorem CQ (p:Nat) (b l:List Nat):(DO p b l).length=l.length - 1:=by
 unfold DO
 rw[Bk,UJ]
def Jo (p:Nat) (b:List Nat):Nat->List Nat->List Nat
 | 0,l=>l
 | n + 1,l=>Jo p b n (DO p b l)
def Cu (p:Nat) (b l:List Nat):List Nat:=Jo p b (l.length + 1 - b.length) l
theorem restF_step {p:Nat} {b l:List Nat} (h0:0 < l.length) (h:b.length<=l.length):Cu p b (DO p b l)=Cu p b l:=by
 unfold Cu
 rw[CQ,show l.length + 1 - b.length=(l.length - 1 + 1 - b.length) + 1 by omega]
 rfl
theorem GX {p:Nat} {b l:List Nat} (h:l.length < b.length):Cu p b l=l:=by
 unfold Cu
 rw[show l.length + 1 - b.length=0 by omega]
 rfl
def IL:Sp:=λvs H Q _=>∃ (a b:Addr) (p:Nat) (one by':List Nat),vs=[.int ((p:Nat):Int),.ref a,.ref b]/\H a=some (.tup (nats one))/\H b=some (.tup (nats by'))/\1<=p/\p<=31/\one.length<=60/\1<=by'.length/\by'.length<=60/\(∀ x∈one,x < 32)/\∀ (t:Addr) (H':Hp),H t=none->Same H H'->H' t=some (.tup (nats (AN (Cu p by' one))))->Q (.ref t) H'
theorem GY (l:List Nat) (i x:Nat):(nats l).set i (.int ((x:Nat):Int))=nats (l.set i x):=by
 unfold nats
 rw[List.map_set]
theorem nats_drop (l:List Nat):(nats l).dropLast=nats l.dropLast:=by
 unfold nats
 rw[List.map_dropLast]
theorem Kd {n k:Nat} (h:k < n):ixN n ((k:Nat):Int)=some k:=by
 unfold ixN
 rw[if_pos (by omega),if_pos (by omega),Rc]
theorem scRowRest:FnScope ["p", "one", "by", "left", "top", "start", "place", "digit"] ["p", "one", "by"] (Ae Ej):=⟨rfl,rfl,rfl,by decide +kernel,rfl,by decide +kernel,by decide +kernel⟩
theorem cut_but {b:List Nat} (h:1<=b.length):cutV (nats b) none (some (-1))=nats b.dropLast:=by
 unfold cutV
 have e1:HT.sIx (nats b).length 0 none=0:=by simp[HT.sIx]
 have e2:HT.sIx (nats b).length (nats b).length (some (-1))=b.length - 1:=by
  rw[Ag]
  simp[HT.sIx]
  omega
 rw[e1,e2,Wp,WM,ZL]
 unfold nats
 rw[WT]
theorem not_all {n:Nat} (h:1<=n):¬ (HT.sIx n 0 none=0/\HT.sIx n n (some (-1))=n):=by
 rintro ⟨_,z⟩
 simp[HT.sIx]at z
 omega
theorem ok_rest {f:Addr} {fd:Qh} (F:Fun K "row_rest" "row_rest" Ej f fd) (T:TxtB mg) (pTrimmed:Pm P w K mg base CX0 1 "trimmed" ["digits"] IJ):FnOk P w K mg base CX0 2 f fd ["p", "one", "by"] IL:=by
 refine F.okQ scRowRest (λvs H Q E h=>?_) (λcdv A outer s H vs Q E hr1 h=>?_)
 ·obtain ⟨a,b,p,one,by',rfl,_⟩:=h
  rfl
 ·obtain ⟨a,b,p,one,by',rfl,ha,hb,hp1,hp31,ho60,hb1,hb60,ho,q⟩:=h
  refine ⟨_,(Ad (An (i:=3) scRowRest.nd rfl (Ro rfl) (AD DT (by rfl) T.lst (by decide +kernel) (qac (qv 1) Ab)))
   (Ad (BW PassesOwn.never (Ap Ml (Am Ak (by rfl) T.len Rr (qac (qv 3) Ab)) (Am Ak (by rfl) T.len Rr (qac (qv 2) Ab)) (Az _))
    (Ad (An (i:=4) scRowRest.nd rfl (Ro rfl) (qe_bm0 RD PySem.F.slot_list_pop PySem.F.type_list_pop mt_pop (qv 3)))
    (Ad (An (i:=5) scRowRest.nd rfl (Ro rfl) (Aq Fp (Aq AZ (Am Ak (by rfl) T.len Rr (qac (qv 3) Ab)) Af) (Am Ak (by rfl) T.len Rr (qac (qv 2) Ab))))
    (Ah (AJ PassesOwn.never rfl (qi_enumK rfl T.enu (BB Ij (qv 2) CG (BI (Mq KW Af))) (qv 5)) (BV rfl (AC (Ai (i:=6) scRowRest.nd rfl (Ro rfl)) (AC (Ai (i:=7) scRowRest.nd rfl (Ro rfl)) Bq)))
     (Ah (Iq (Aq Bv (Aq Fp (Au AF (qv 3) (qv 6) (λ_ _=>rfl)) (Aq Bd (qv 4) (qv 7))) (qv 0)) (Ip (qv 3) (qv 6) Dj))))))))
   (Ah (Ax (Aj pTrimmed hr1 rfl Av (qac (qv 3) Ab)))))),?_⟩
  refine ⟨_,rfl,a,_,rfl,.inr (SqT.of ha),λg hg=>?_⟩
  refine CC (λσ H2=>Same H H2/\∃ (l:List Nat) (x4 x5 x6 x7:Option V),σ=[some (.int ((p:Nat):Int)),some (.ref a),some (.ref b),some (.ref g),x4,x5,x6,x7]/\H2 g=some (.lst (nats l))/\Cu p by' l=Cu p by' one/\l.length<=60/\∀ x∈l,x < 32)
   (λ_ H2=>match H2 g with | some (.lst xs)=>xs.length | _=>0) ⟨Ac hg,one,none,none,none,none,rfl,Aa,rfl,ho60,ho⟩ ?_
  rintro mm σ H2 ⟨s2,l,x4,x5,x6,x7,rfl,hg2,hre,hl60,hl32⟩ hmm
  have hb2:=s2 _ _ hb
  refine ⟨_,rfl,g,_,rfl,.inl (SqL.of hg2),_,rfl,b,_,rfl,.inr (SqT.of hb2),_,_,rfl,rfl,_,rfl,?_⟩
  refine ite2 (λh1=>WTurn.of ?_) (λh1=>?_)
  ·have h1':by'.length<=l.length:=by
    have:=of_decide_eq_true h1
    rw[Ag,Ag]at this
    omega
   have hl0:0 < l.length:=by omega
   have e1:(nats l)[(nats l).length - 1]?=some (.int ((l.getD (l.length - 1) 0:Nat):Int)):=by
    rw[Ag]
    unfold nats
    rw[Rm,J7 (by omega)]
    simp[show l.length - 1 < l.length by omega]
   refine ⟨_,rfl,.inl ⟨rfl,_,SqL.of hg2⟩,g,_,_,rfl,rfl,hg2,e1,?_⟩
   rw[nats_drop]
   have s3:Same H (upd H2 g (.lst (nats l.dropLast))):=AG s2 hg
   have hg3:upd H2 g (.lst (nats l.dropLast)) g=some (.lst (nats l.dropLast)):=Aa
   generalize upd H2 g (.lst (nats l.dropLast))=H3 at s3 hg3 ⊢
   refine ⟨_,rfl,g,_,rfl,.inl (SqL.of hg3),_,_,rfl,rfl,_,rfl,b,_,rfl,.inr (SqT.of (s3 _ _ hb)),_,_,rfl,rfl,?_⟩
   dsimp only
   rw[Ag,Ag,UJ,show ((l.length - 1:Nat):Int) + 1 - ((by'.length:Nat):Int)=((l.length - by'.length:Nat):Int) by omega]
   refine ⟨_,rfl,1,rfl,_,rfl,b,_,rfl,SqT.of (s3 _ _ hb),by rw[Ag]; exact not_all hb1,λc hc=>?_⟩
   rw[show cutV (nats by') none (some (-1))=nats by'.dropLast from cut_but hb1]
   have w4:=Ac (o:=.tup (nats by'.dropLast)) hc
   have s4:=s3.trans w4
   have hg4:=w4 _ _ hg3
   have hc4:upd H3 c (.tup (nats by'.dropLast)) c=some (.tup (nats by'.dropLast)):=Aa
   have hcg:g≠c:=AO hg3 hc
   generalize upd H3 c (.tup (nats by'.dropLast))=H4 at s4 hg4 hc4 ⊢
   refine ⟨_,rfl,c,l.length - by'.length,rfl,rfl,by omega,⟨_,SqT.of hc4⟩,for_enumK (k0:=l.length - by'.length) (K:=K) (xs:=nats by'.dropLast) (λj σ H5=>Same H H5/\H5 c=some (.tup (nats by'.dropLast))/\(∃ x6 x7,σ=[some (.int ((p:Nat):Int)),some (.ref a),some (.ref b),some (.ref g),some (.int ((l.getD (l.length - 1) 0:Nat):Int)),some (.int ((l.length - by'.length:Nat):Int)),x6,x7])/\H5 g=some (.lst (nats (CP p by' (l.length - by'.length) (l.getD (l.length - 1) 0) l.dropLast j)))) ⟨s4,hc4,⟨_,_,rfl⟩,by rw[stepJ_zero]; exact hg4⟩ (λj σ H5 _ ⟨_,e,_⟩=>SqT.of e) ?_ ?_⟩
   ·rintro j v T1 σ H5 hj ⟨s5,hc5,⟨x6,x7,rfl⟩,hg5⟩ hT1
    obtain ⟨y,hy,rfl⟩:=L2.AW hj
    have hjl:=(J3.mp hy).1
    rw[UJ]at hjl
    have hyb:by'.getD j 0=y:=by
     rw[J9]
     rw[ZL,UZ (by omega)]at hy
     rw[hy]
     rfl
    have w5:=Ac (o:=.tup [V.int ((l.length - by'.length + j:Nat):Int),V.int ((y:Nat):Int)]) hT1
    refine ⟨T1,_,rfl,SqT.of Aa,rfl,_,_,rfl,_,_,rfl,rfl,?_⟩
    have s6:=s5.trans w5
    have hc6:=w5 _ _ hc5
    have hg6:=w5 _ _ hg5
    generalize upd H5 T1 (.tup [V.int ((l.length - by'.length + j:Nat):Int),V.int ((y:Nat):Int)])=H6 at s6 hc6 hg6 ⊢
    have hix:l.length - by'.length + j < l.dropLast.length:=by rw[UJ]; omega
    have e2:atI (nats (CP p by' (l.length - by'.length) (l.getD (l.length - 1) 0) l.dropLast j)) ((l.length - by'.length + j:Nat):Int)=some (.int ((l.dropLast.getD (l.length - by'.length + j) 0:Nat):Int)):=by
     rw[HI (by rw[Bk]; exact hix),stepJ_at hix]
    have htop:l.getD (l.length - 1) 0 < 32:=by
     rw[J9,J7 (by omega)]
     exact hl32 _ (Uk _)
    obtain ⟨r1,r2⟩:=HJ (p:=p) (v:=l.dropLast.getD (l.length - by'.length + j) 0) (t:=l.getD (l.length - 1) 0) (d:=y) (by omega)
    refine ⟨_,rfl,_,rfl,g,_,_,_,rfl,rfl,SqL.of hg6,e2,_,rfl,_,rfl,_,_,rfl,rfl,.inl ⟨by omega,by omega⟩,_,_,rfl,rfl,_,rfl,_,_,rfl,rfl,by omega,_,rfl,_,rfl,g,_,_,l.length - by'.length + j,rfl,rfl,hg6,by rw[Ag,Bk]; exact Kd hix,?_⟩
    have hcg6:c≠g:=UQ hcg
    have key:(nats (CP p by' (l.length - by'.length) (l.getD (l.length - 1) 0) l.dropLast j)).set (l.length - by'.length + j) (V.int ((((l.dropLast.getD (l.length - by'.length + j) 0:Nat):Int) - ((l.getD (l.length - 1) 0:Nat):Int) * ((y:Nat):Int)) % ((p:Nat):Int)))=nats (CP p by' (l.length - by'.length) (l.getD (l.length - 1) 0) l.dropLast (j + 1)):=by
     rw[r1,GY,<- hyb,stepJ_succ hix]
    refine ⟨AG s6 hg,by rw[As hcg6]; exact hc6,⟨_,_,rfl⟩,?_⟩
    rw[Aa]
    exact congrArg (λz=>some (HO.lst z)) key
   ·rintro σ H5 ⟨s5,hc5,⟨x6,x7,rfl⟩,hg5⟩
    rw[Ag,UJ]at hg5
    have hst:CP p by' (l.length - by'.length) (l.getD (l.length - 1) 0) l.dropLast (by'.length - 1)=DO p by' l:=rfl
    rw[hst]at hg5
    refine ⟨⟨s5,DO p by' l,_,_,_,_,rfl,hg5,by rw[restF_step hl0 h1',hre],by rw[CQ]; omega,?_⟩,?_⟩
    ·exact IK (by omega) (by omega) λx hx=>hl32 x (ZR _ hx)
    ·rw[hmm,hg2]
     show (match H5 g with | some (.lst xs)=>xs.length | _=>0) < _
     rw[hg5]
     show (nats (DO p by' l)).length < (nats l).length
     rw[Ag,Ag,CQ]
     omega
  ·have h1':l.length < by'.length:=by
    have:¬ ((nats by').length:Int)<=((nats l).length:Int):=λz=>h1 (decide_eq_true z)
    rw[Ag,Ag]at this
    omega
   refine ⟨_,rfl,g,l,rfl,hg2,by omega,λt H3 ht s3 ht3=>?_⟩
   refine q t H3 (s2.free ht) (s2.trans s3) ?_
   rw[<- hre,GX h1']
   exact ht3
def csL (one other:List Nat) (k i:Nat):List Nat:=((J1 i).filter λj=>decide (j<=k/\k < j + other.length)).map λj=>one.getD j 0 * other.getD (k - j) 0
theorem IM (one other:List Nat) (k i:Nat):csL one other k (i + 1)=csL one other k i++if i<=k/\k < i + other.length then [one.getD i 0 * other.getD (k - i) 0] else []:=by
 unfold csL
 rw[Rs,R3,Rp]
 by_cases h:i<=k/\k < i + other.length
 ·rw[if_pos h]
  simp[h]
 ·rw[if_neg h]
  simp[h]
def BL (p:Nat) (one other:List Nat):List Nat:=(J1 (one.length + other.length)).map λk=>(csL one other k one.length).sum % p
def Ke:Sp:=λvs H Q _=>∃ (a b:Addr) (p:Nat) (one other:List Nat),vs=[.int ((p:Nat):Int),.ref a,.ref b]/\H a=some (.tup (nats one))/\H b=some (.tup (nats other))/\1<=p/\p<=31/\one.length<=20/\other.length<=20/\(∀ x∈one,x < 32)/\(∀ x∈other,x < 32)/\∀ (t:Addr) (H':Hp),H t=none->Same H H'->H' t=some (.tup (nats (AN (BL p one other))))->Q (.ref t) H'
def AY:Nat->(Nat->Int)->Int
 | 0,_=>0
 | n + 1,f=>AY n f + f n
theorem BA {f g:Nat->Int}:∀ {n:Nat},(∀ i,i < n->f i=g i)->AY n f=AY n g
 | 0,_=>rfl
 | n + 1,h=>by
  rw[AY,AY,BA λi hi=>h i (by omega),h n (by omega)]
theorem GZ (f g:Nat->Int):∀ n,AY n (λi=>f i + g i)=AY n f + AY n g
 | 0=>rfl
 | n + 1=>by
  rw[AY,AY,AY,GZ f g n]
  omega
theorem Ha (c:Int) (f:Nat->Int):∀ n,AY n (λi=>c * f i)=c * AY n f
 | 0=>by simp[AY]
 | n + 1=>by
  rw[AY,AY,Ha c f n,Ja2]
theorem DP {f:Nat->Int}:∀ {n:Nat},(∀ i,i < n->f i=0)->AY n f=0
 | 0,_=>rfl
 | n + 1,h=>by
  rw[AY,DP λi hi=>h i (by omega),h n (by omega)]
  rfl
theorem DQ {n:Nat} {f:Nat->Int} (h:∀ i,n<=i->f i=0):∀ k,AY (n + k) f=AY n f
 | 0=>rfl
 | k + 1=>by
  rw[<- YF,AY,DQ h k,h _ (by omega),Jh3]
theorem EW (s:Nat) (f:Nat->Int):∀ n,AY (s + n) (λi=>if s<=i then f i else 0)=AY n (λm=>f (s + m))
 | 0=>DP λi hi=>if_neg (by omega)
 | n + 1=>by
  rw[<- YF,AY,EW s f n,AY,if_pos (by omega)]
def Cg (p:Nat) (x y:Int):Prop:=∃ c:Int,x=y + (p:Int) * c
theorem Cg.refl {p:Nat} (x:Int):Cg p x x:=⟨0,by simp⟩
theorem Cg.of_eq {p:Nat} {x y:Int} (h:x=y):Cg p x y:=h▸Cg.refl x
theorem Cg.symm {p:Nat} {x y:Int} (h:Cg p x y):Cg p y x:=by
 obtain ⟨c,h⟩:=h
 exact ⟨-c,by rw[h,Ja1]; omega⟩
theorem Cg.trans {p:Nat} {x y z:Int} (h:Cg p x y) (h2:Cg p y z):Cg p x z:=by
 obtain ⟨c,h⟩:=h
 obtain ⟨d,h2⟩:=h2
 exact ⟨c + d,by rw[h,h2,Ja2]; omega⟩
theorem Cg.add {p:Nat} {x y z u:Int} (h:Cg p x y) (h2:Cg p z u):Cg p (x + z) (y + u):=by
 obtain ⟨c,h⟩:=h
 obtain ⟨d,h2⟩:=h2
 exact ⟨c + d,by rw[h,h2,Ja2]; omega⟩
theorem Cg.mul {p:Nat} {x y:Int} (h:Cg p x y) (z:Int):Cg p (x * z) (y * z):=by
 obtain ⟨c,h⟩:=h
 exact ⟨c * z,by rw[h,Int.add_mul,Je5]⟩
theorem Cg.sum {p:Nat} {f g:Nat->Int}:∀ {n:Nat},(∀ i,i < n->Cg p (f i) (g i))->Cg p (AY n f) (AY n g)
 | 0,_=>Cg.refl _
 | n + 1,h=>(Cg.sum λi hi=>h i (by omega)).add (h n (by omega))
theorem Cg.mod {p:Nat} (x:Int):Cg p (x % (p:Int)) x:=⟨-(x / (p:Int)),by
 have:=Int.mul_ediv_add_emod x (p:Int)
 rw[Ja1]
 omega⟩
theorem Cg.eq {p:Nat} {x y:Nat} (h:Cg p (x:Int) (y:Int)) (hx:x < p) (hy:y < p):x=y:=by
 obtain ⟨c,h⟩:=h
 have h1:(x:Int) % (p:Int)=(y:Int) % (p:Int):=by
  rw[h,Int.add_mul_emod_self_left]
 rw[Jb7 (by omega) (by omega),Jb7 (by omega) (by omega)]at h1
 omega
def tabX (b:List Nat) (d k:Nat):Nat->Nat->Int
 | 0,i=>if i=k then 1 else 0
 | n + 1,i=>if i=n + d then -(AY d λm=>((b.getD m 0:Nat):Int) * tabX b d k n (n + m)) else tabX b d k n i
theorem EX {b:List Nat} {d k n i:Nat} (h:i < n + d):∀ j,tabX b d k (n + j) i=tabX b d k n i
 | 0=>rfl
 | j + 1=>by
  rw[<- YF,tabX,if_neg (by omega),EX h j]
def Xv (b:List Nat) (d k i:Nat):Int:=tabX b d k i i
theorem Lq {b:List Nat} {d k n i:Nat} (hd:1<=d) (h:i < n + d):tabX b d k n i=Xv b d k i:=by
 unfold Xv
 rcases Jh0 n i with z | z
 ·have:=EX (b:=b) (k:=k) h (i - n)
  rw[show n + (i - n)=i by omega]at this
  exact this.symm
 ·have:=EX (b:=b) (d:=d) (k:=k) (n:=i) (i:=i) (by omega) (n - i)
  rw[show i + (n - i)=n by omega]at this
  exact this
theorem Xv_rec {b:List Nat} {d k:Nat} (hd:1<=d) (n:Nat):Xv b d k (n + d)=-(AY d λm=>((b.getD m 0:Nat):Int) * Xv b d k (n + m)):=by
 rw[<- Lq (n:=n + 1) hd (by omega),tabX,if_pos rfl]
 congr 1
 exact BA λm hm=>by rw[Lq hd (by omega)]
def bsI (b:List Nat) (s i:Nat):Int:=if s<=i then ((b.getD (i - s) 0:Nat):Int) else 0
theorem Bc {l:List Nat} {i:Nat} (h:l.length<=i):l.getD i 0=0:=by
 rw[J9,ZK h]
 rfl
theorem Cb {l:List Nat} {i:Nat} (h:i < l.length):l.getD i 0=l[i]:=by
 rw[J9,J7 h]
 rfl
theorem bs_sum {b:List Nat} {d k s:Nat} (hd:1<=d) (hb:b.length=d + 1) (h1:b.getD d 0=1) (hs:s + d < 60):AY 60 (λi=>bsI b s i * Xv b d k i)=0:=by
 have e1:AY 60 (λi=>bsI b s i * Xv b d k i)=AY (s + (60 - s)) (λi=>if s<=i then ((b.getD (i - s) 0:Nat):Int) * Xv b d k i else 0):=by
  rw[show s + (60 - s)=60 by omega]
  refine BA λi _=>?_
  unfold bsI
  by_cases z:s<=i
  ·rw[if_pos z,if_pos z]
  ·rw[if_neg z,if_neg z,Int.zero_mul]
 rw[e1,EW]
 have e2:AY (60 - s) (λm=>((b.getD (s + m - s) 0:Nat):Int) * Xv b d k (s + m))=AY (d + 1 + (60 - s - (d + 1))) (λm=>((b.getD m 0:Nat):Int) * Xv b d k (s + m)):=by
  rw[show d + 1 + (60 - s - (d + 1))=60 - s by omega]
  refine BA λm _=>?_
  rw[show s + m - s=m by omega]
 rw[e2,DQ (λi hi=>by rw[Bc (by omega)]; simp),AY,h1,Xv_rec hd]
 omega
def Ev (b:List Nat) (d k:Nat) (l:List Nat):Int:=AY 60 λi=>((l.getD i 0:Nat):Int) * Xv b d k i
theorem step_cg {p:Nat} {b l:List Nat} {d n:Nat} (hp:1<=p) (hb:b.length=d + 1) (h1:b.getD d 0=1) (hl:l.length=n + 1) (hn:d<=n) (i:Nat):Cg p (((DO p b l).getD i 0:Nat):Int) (((l.getD i 0:Nat):Int) + bsI b (n - d) i * -((l.getD n 0:Nat):Int)):=by
 have hsl:(DO p b l).length=n:=by rw[CQ,hl]; rfl
 rcases U2 i n with z | z | z
 ·have hi:i < (DO p b l).length:=by omega
  have hdl:i < l.dropLast.length:=by rw[UJ,hl]; exact z
  rw[Cb hi]
  unfold DO at hi ⊢
  rw[Cl hi hdl,List.getElem_dropLast,show l.length - b.length=n - d by omega,show l.getD (l.length - 1) 0=l.getD n 0 by rw[hl]; rfl,show n - d + (b.length - 1)=n by omega]
  unfold bsI
  by_cases zz:n - d<=i
  ·rw[if_pos ⟨zz,z⟩,if_pos zz,Cb (show i < l.length by omega),<- (HJ hp).1]
   refine (Cg.mod _).trans (Cg.of_eq ?_)
   rw[Ja1,Jh1]
   omega
  ·rw[if_neg (λq=>zz q.1),if_neg zz,Cb (show i < l.length by omega)]
   exact Cg.of_eq (by simp)
 ·subst z
  rw[Bc (by omega)]
  unfold bsI
  rw[if_pos (by omega),show i - (i - d)=d by omega,h1]
  exact Cg.of_eq (by simp; omega)
 ·rw[Bc (by omega),Bc (show l.length<=i by omega)]
  unfold bsI
  rw[if_pos (by omega),Bc (by omega)]
  exact Cg.of_eq (by simp)
theorem step_ev {p:Nat} {b l:List Nat} {d k:Nat} (hp:1<=p) (hd:1<=d) (hb:b.length=d + 1) (h1:b.getD d 0=1) (hl:l.length<=60) (hn:d + 1<=l.length):Cg p (Ev b d k (DO p b l)) (Ev b d k l):=by
 obtain ⟨n,hn'⟩:∃ n,l.length=n + 1:=⟨l.length - 1,by omega⟩
 have e:Ev b d k l=AY 60 (λi=>(((l.getD i 0:Nat):Int) + bsI b (n - d) i * -((l.getD n 0:Nat):Int)) * Xv b d k i):=by
  have e1:AY 60 (λi=>(((l.getD i 0:Nat):Int) + bsI b (n - d) i * -((l.getD n 0:Nat):Int)) * Xv b d k i)=AY 60 (λi=>((l.getD i 0:Nat):Int) * Xv b d k i + -((l.getD n 0:Nat):Int) * (bsI b (n - d) i * Xv b d k i)):=by
   refine BA λi _=>?_
   rw[Int.add_mul,Jh1 (bsI b (n - d) i),Je5]
  rw[e1,GZ,Ha,bs_sum hd hb h1 (by omega),Int.mul_zero,Jh3]
  rfl
 rw[e]
 exact Cg.sum λi _=>(step_cg hp hb h1 hn' (by omega) i).mul _
theorem Fx {p:Nat} {b:List Nat} {d:Nat} (hp:1<=p) (hd:1<=d) (hb:b.length=d + 1) (h1:b.getD d 0=1):∀ n l,l.length + 1=b.length + n->l.length<=60->(∀ x∈l,x < p)->(Jo p b n l).length<=d/\(∀ x∈Jo p b n l,x < p)/\∀ k,Cg p (Ev b d k (Jo p b n l)) (Ev b d k l)
 | 0,l,h,_,hx=>⟨by rw[Jo]; omega,hx,λk=>Cg.refl _⟩
 | n + 1,l,h,hl,hx=>by
  have hsl:=CQ p b l
  obtain ⟨q1,q2,q3⟩:=Fx hp hd hb h1 n (DO p b l) (by omega) (by omega) (IK (by omega) (J8 p) λx hx'=>hx x (ZR _ hx'))
  exact ⟨q1,q2,λk=>(q3 k).trans (step_ev hp hd hb h1 hl (by omega))⟩
theorem restF_facts {p:Nat} {b l:List Nat} {d:Nat} (hp:1<=p) (hd:1<=d) (hb:b.length=d + 1) (h1:b.getD d 0=1) (hl:l.length<=60) (hx:∀ x∈l,x < p):(Cu p b l).length<=d/\(∀ x∈Cu p b l,x < p)/\∀ k,Cg p (Ev b d k (Cu p b l)) (Ev b d k l):=by
 by_cases z:l.length < b.length
 ·rw[GX z]
  exact ⟨by omega,hx,λk=>Cg.refl _⟩
 ·exact Fx hp hd hb h1 (l.length + 1 - b.length) l (by omega) hl hx
def KR (l:List Nat):Prop:=l=[]\/l.getD (l.length - 1) 0≠0
theorem rev_cases (l:List Nat):l=[]\/∃ m x,l=m++[x]:=by
 rcases List.eq_nil_or_concat l with h | ⟨m,x,h⟩
 ·exact .inl h
 ·exact .inr ⟨m,x,by rw[h,List.concat_eq_append]⟩
theorem Cm:∀ (n:Nat) (l:List Nat),l.length=n->KR (AN l)/\∀ i,(AN l).getD i 0=l.getD i 0
 | 0,l,h=>by
  have:l=[]:=Zv.mp h
  subst this
  exact ⟨.inl rfl,λi=>rfl⟩
 | n + 1,l,h=>by
  rcases rev_cases l with rfl | ⟨m,x,rfl⟩
  ·cases h
  ·rw[Rk]at h
   have hm:m.length=n:=by
    have:m.length + 1=n + 1:=h
    omega
   by_cases hx:x=0
   ·subst hx
    rw[GT]
    obtain ⟨q1,q2⟩:=Cm n m hm
    refine ⟨q1,λi=>?_⟩
    rw[q2]
    rcases U2 i m.length with z | z | z
    ·rw[J9,J9,Wo z]
    ·subst z
     rw[Bc (J8 _),J9,Up (J8 _),WN]
     rfl
    ·rw[Bc (by omega),Bc (by rw[Rk]; show m.length + 1<=i; omega)]
   ·rw[GU m hx]
    refine ⟨.inr ?_,λi=>rfl⟩
    rw[Rk,show m.length + [x].length - 1=m.length from rfl,J9,Up (J8 _),WN]
    exact hx
theorem HK (l:List Nat) (i:Nat):(AN l).getD i 0=l.getD i 0:=(Cm _ l rfl).2 i
theorem El {l m:List Nat} (hl:KR l) (h:∀ i,l.getD i 0=m.getD i 0):l.length<=m.length:=by
 rcases hl with rfl | hl
 ·exact RP _
 ·rcases UL m.length l.length with z | z
  ·rw[h,Bc (by omega)]at hl
   exact absurd rfl hl
  ·exact z
theorem trim_ext {l m:List Nat} (h:∀ i,l.getD i 0=m.getD i 0):AN l=AN m:=by
 obtain ⟨a1,a2⟩:=Cm _ l rfl
 obtain ⟨b1,b2⟩:=Cm _ m rfl
 have hh:∀ i,(AN l).getD i 0=(AN m).getD i 0:=λi=>by rw[a2,b2,h]
 have h1:=El a1 hh
 have h2:=El b1 λi=>(hh i).symm
 apply Ua (by omega)
 intro i z1 z2
 have:=hh i
 rw[Cb z1,Cb z2]at this
 exact this
theorem Lr (one other:List Nat) (k:Nat):∀ n,(((csL one other k n).sum:Nat):Int)=AY n λj=>((one.getD j 0:Nat):Int) * bsI other j k
 | 0=>rfl
 | n + 1=>by
  rw[IM,Jc1,AY,<- Lr one other k n]
  unfold bsI
  by_cases h:n<=k/\k < n + other.length
  ·rw[if_pos h,if_pos h.1]
   simp
  ·rw[if_neg h]
   by_cases h2:n<=k
   ·rw[if_pos h2,Bc (l:=other) (by omega)]
    simp
   ·rw[if_neg h2]
    simp
theorem Kf {p:Nat} (one other:List Nat) (i:Nat):Cg p (((BL p one other).getD i 0:Nat):Int) (AY one.length λj=>((one.getD j 0:Nat):Int) * bsI other j i):=by
 have hlen:(BL p one other).length=one.length + other.length:=by
  unfold BL
  rw[J0,J5]
 by_cases h:i < one.length + other.length
 ·rw[Cb (by omega)]
  unfold BL
  rw[Wr,U7,<- Lr]
  exact Jc4 _ _▸Cg.mod _
 ·rw[Bc (by omega),DP λj hj=>?_]
  ·exact Cg.refl _
  ·unfold bsI
   rw[if_pos (by omega),Bc (l:=other) (by omega)]
   simp
theorem Gc {H:Hp} {a:Addr} {o:HO} (h:H a=none):Same H (upd H a o)/\upd H a o a=some o:=⟨Ac h,Aa⟩
def prN (one other:List Nat) (i j k:Nat):Nat:=(csL one other k i).sum + if i<=k/\k < i + j then one.getD i 0 * other.getD (k - i) 0 else 0
def prL (one other:List Nat) (i j:Nat):List Nat:=(J1 (one.length + other.length)).map (prN one other i j)
theorem CS (one other:List Nat) (i j:Nat):(prL one other i j).length=one.length + other.length:=by
 unfold prL
 rw[J0,J5]
theorem Ls {one other:List Nat} {i j k:Nat} (h:k < (prL one other i j).length):(prL one other i j)[k]=prN one other i j k:=by
 simp[prL]
theorem prL_get {one other:List Nat} {i j k:Nat} (h:k < one.length + other.length):(prL one other i j).getD k 0=prN one other i j k:=by
 rw[Cb (by rw[CS]; exact h)]
 unfold prL
 rw[Wr,U7]
theorem prL_row (one other:List Nat) (i:Nat):prL one other i other.length=prL one other (i + 1) 0:=by
 unfold prL
 apply RG
 intro k _
 unfold prN
 rw[IM,Jc1,if_neg (c:=i + 1<=k/\k < i + 1 + 0) (by omega)]
 by_cases h:i<=k/\k < i + other.length
 ·rw[if_pos h,if_pos h]
  simp
 ·rw[if_neg h,if_neg h]
  simp
theorem prL_step {one other:List Nat} {i j:Nat} (hi:i < one.length) (hj:j < other.length):(prL one other i j).set (i + j) (prN one other i j (i + j) + one.getD i 0 * other.getD j 0)=prL one other i (j + 1):=by
 apply Ua
 ·rw[Y4,CS,CS]
 ·intro k h1 h2
  rw[CS]at h2
  rw[WP,Ls,Ls]
  unfold prN
  by_cases e:i + j=k
  ·subst e
   rw[if_pos rfl,if_neg (by omega),if_pos (by omega),show i + j - i=j by omega]
   omega
  ·rw[if_neg e]
   by_cases e2:i<=k/\k < i + j
   ·rw[if_pos e2,if_pos (by omega)]
   ·rw[if_neg e2,if_neg (by omega)]
theorem prL_zero (one other:List Nat):prL one other 0 0=RQ (one.length + other.length) 0:=by
 rw[List.eq_replicate_iff]
 refine ⟨CS ..,λb hb=>?_⟩
 unfold prL at hb
 obtain ⟨k,_,rfl⟩:=RB.mp hb
 unfold prN
 rw[if_neg (by omega)]
 rfl
theorem pr_conv (p:Nat) (one other:List Nat):(prL one other one.length 0).map (λx=>x % p)=BL p one other:=by
 unfold prL BL
 rw[Uh]
 apply RG
 intro k _
 show prN one other one.length 0 k % p=_
 unfold prN
 rw[if_neg (by omega)]
 rfl
theorem Hb:∀ n:Nat,(RQ n [V.int 0]).flatten=nats (RQ n 0)
 | 0=>rfl
 | n + 1=>by
  rw[WV,U0,Hb n,WV]
  rfl
theorem nats_map_take {xs:List Nat} {i x:Nat} (f:Nat->Nat) (h:xs[i]?=some x):nats ((xs.take i).map f)++[V.int ((f x:Nat):Int)]=nats ((xs.take (i + 1)).map f):=by
 rw[BG h,Rp,Rt,Uf,AE]
theorem scRowTimes:FnScope ["p", "one", "other", "product", "place", "digit", "further", "factor"] ["p", "one", "other"] (Ae CN):=⟨rfl,rfl,rfl,by decide +kernel,rfl,by decide +kernel,by decide +kernel⟩
theorem ok_times {f:Addr} {fd:Qh} (F:Fun K "row_times" "row_times" CN f fd) (T:TxtB mg) (pTrimmed:Pm P w K mg base CX0 1 "trimmed" ["digits"] IJ):FnOk P w K mg base CX0 2 f fd ["p", "one", "other"] Ke:=by
 refine F.okQ scRowTimes (λvs H Q E h=>?_) (λcdv A outer s H vs Q E hr1 h=>?_)
 ·obtain ⟨a,b,p,one,other,rfl,_⟩:=h
  rfl
 ·obtain ⟨a,b,p,one,other,rfl,ha,hb,hp1,hp31,ho20,ht20,ho,ht,q⟩:=h
  refine ⟨_,(Ad (An (i:=3) scRowTimes.nd rfl (Ro rfl) (Aq FI (Bw (qac Af Ab)) (Aq AZ (Am Ak (by rfl) T.len Rr (qac (qv 1) Ab)) (Am Ak (by rfl) T.len Rr (qac (qv 2) Ab)))))
   (Ad (AJ PassesOwn.never rfl (CW rfl T.enu (qac (qv 1) Ab)) (BV rfl (AC (Ai (i:=4) scRowTimes.nd rfl (Ro rfl)) (AC (Ai (i:=5) scRowTimes.nd rfl (Ro rfl)) Bq)))
    (Ah (AJ PassesOwn.never rfl (CW rfl T.enu (qac (qv 2) Ab)) (BV rfl (AC (Ai (i:=6) scRowTimes.nd rfl (Ro rfl)) (AC (Ai (i:=7) scRowTimes.nd rfl (Ro rfl)) Bq)))
     (Ah (qs_augS (qv 3) (Aq AZ (qv 4) (qv 6)) get_listN (Aq Bd (qv 5) (qv 7)) Ig Dj)))))
   (Ah (Ax (Aj pTrimmed hr1 rfl Av (qac (AH (g:=AR 0) (N:=["digit", "p"]) (src:=[none,some 0]) rfl (Al (Ae CN) ["p", "one", "other", "product", "place", "digit", "further", "factor"] rfl rfl (by decide +kernel) rfl) (Bz (qv 3)) (λ_ _ _ _ _=>(Ai (i:=0) (show (["digit", "p"]:List Str).Nodup by decide +kernel) rfl (Ro rfl) (R8 rfl))) (λ_ _ _ _ _=>AQ) (λ_ _ _ _ _=>(Aq Bv (qv 0) (qv 1)))) Ab)))))),?_⟩
  refine ⟨by show 1<=Qe; decide,λd hd=>?_⟩
  have w1:=Ac (o:=.lst [V.int 0]) hd
  refine ⟨_,rfl,a,_,rfl,.inr (SqT.of (w1 _ _ ha)),_,rfl,b,_,rfl,.inr (SqT.of (w1 _ _ hb)),_,_,rfl,rfl,d,[V.int 0],((one.length + other.length:Nat):Int),rfl,?_,SqL.of Aa,by omega,by omega,by rw[UV,Rc]; omega,λl hl=>?_⟩
  ·show V.int ((((nats one).length:Nat):Int) + (((nats other).length:Nat):Int))=_
   rw[Ag,Ag,show ((one.length:Nat):Int) + ((other.length:Nat):Int)=((one.length + other.length:Nat):Int) by omega]
  rw[Rc,Hb,<- prL_zero one other]
  obtain ⟨w2,hl2⟩:=Gc (o:=.lst (nats (prL one other 0 0))) hl
  have hl0:H l=none:=w1.free hl
  have s2:=w1.trans w2
  generalize upd _ l _=H2 at hl2 s2 ⊢
  refine ⟨_,rfl,a,rfl,⟨_,SqT.of (s2 _ _ ha)⟩,CI (K:=K) (xs:=nats one) (λi σ H3=>Same H H3/\(∃ x4 x5 x6 x7,σ=[some (.int ((p:Nat):Int)),some (.ref a),some (.ref b),some (.ref l),x4,x5,x6,x7])/\H3 l=some (.lst (nats (prL one other i 0)))) ⟨s2,⟨none,none,none,none,rfl⟩,hl2⟩ (λi σ H3 _ ⟨e,_⟩=>SqT.of (e _ _ ha)) ?_ ?_⟩
  ·rintro i v T1 σ H3 hi ⟨s3,⟨x4,x5,x6,x7,rfl⟩,hl3⟩ hT1
   obtain ⟨x,hx,rfl⟩:=L2.AW hi
   have hil:=(J3.mp hx).1
   obtain ⟨w4,hT4⟩:=Gc (o:=.tup [.int ((i:Nat):Int),.int ((x:Nat):Int)]) hT1
   have s4:=s3.trans w4
   have hl4:=w4 _ _ hl3
   have hxe:one.getD i 0=x:=by rw[J9,hx]; rfl
   refine ⟨T1,_,rfl,SqT.of Aa,rfl,_,_,rfl,_,_,rfl,rfl,?_⟩
   generalize upd _ T1 _=H4 at hT4 s4 hl4 ⊢
   refine ⟨_,rfl,b,rfl,⟨_,SqT.of (s4 _ _ hb)⟩,CI (K:=K) (xs:=nats other) (λj σ H5=>Same H H5/\(∃ x6 x7,σ=[some (.int ((p:Nat):Int)),some (.ref a),some (.ref b),some (.ref l),some (.int ((i:Nat):Int)),some (.int ((x:Nat):Int)),x6,x7])/\H5 l=some (.lst (nats (prL one other i j)))) ⟨s4,⟨_,_,rfl⟩,hl4⟩ (λj σ H5 _ ⟨e,_⟩=>SqT.of (e _ _ hb)) ?_ ?_⟩
   ·rintro j v T2 σ H5 hj ⟨s5,⟨x6,x7,rfl⟩,hl5⟩ hT2
    obtain ⟨y,hy,rfl⟩:=L2.AW hj
    have hjl:=(J3.mp hy).1
    obtain ⟨w6,hT6⟩:=Gc (o:=.tup [.int ((j:Nat):Int),.int ((y:Nat):Int)]) hT2
    have s6:=s5.trans w6
    have hl6:=w6 _ _ hl5
    have hye:other.getD j 0=y:=by rw[J9,hy]; rfl
    have hx32:=ho x (Rf hx)
    have hy32:=ht y (Rf hy)
    refine ⟨T2,_,rfl,SqT.of Aa,rfl,_,_,rfl,_,_,rfl,rfl,?_⟩
    generalize upd _ T2 _=H6 at hT6 s6 hl6 ⊢
    have hij:i + j < one.length + other.length:=by omega
    have hat:atI (nats (prL one other i j)) ((i + j:Nat):Int)=some (.int ((prN one other i j (i + j):Nat):Int)):=by
     rw[HI (by rw[CS]; exact hij),prL_get hij]
    have eij:((i:Nat):Int) + ((j:Nat):Int)=((i + j:Nat):Int):=by omega
    refine ⟨_,rfl,_,rfl,_,rfl,_,_,rfl,rfl,l,_,_,_,rfl,rfl,SqL.of hl6,by omega,by rw[eij]; exact hat,_,rfl,_,rfl,_,_,rfl,rfl,.inl ⟨by omega,by omega⟩,_,_,rfl,rfl,l,_,_,i + j,rfl,rfl,hl6,by rw[eij,Ag,CS]; exact Kd hij,?_⟩
    have key:(nats (prL one other i j)).set (i + j) (V.int (((prN one other i j (i + j):Nat):Int) + ((x:Nat):Int) * ((y:Nat):Int)))=nats (prL one other i (j + 1)):=by
     rw[<- prL_step hil hjl,<- GY,hxe,hye]
     simp
    refine ⟨AG s6 hl0,⟨_,_,rfl⟩,?_⟩
    rw[Aa]
    exact congrArg (λz=>some (HO.lst z)) key
   ·rintro σ H5 ⟨s5,⟨x6,x7,rfl⟩,hl5⟩
    refine ⟨s5,⟨_,_,_,_,rfl⟩,?_⟩
    rw[Ag,prL_row]at hl5
    exact hl5
  ·rintro σ H3 ⟨s3,⟨x4,x5,x6,x7,rfl⟩,hl3⟩
   rw[Ag]at hl3
   refine ⟨_,rfl,l,rfl,⟨_,SqL.of hl3⟩,BE (K:=K) (xs:=nats (prL one other one.length 0)) (λi zs H4=>H4=H3/\zs=nats (((prL one other one.length 0).take i).map λx=>x % p)) ⟨rfl,rfl⟩ (λi zs H4 _ ⟨e,_⟩=>SqL.of (e▸hl3)) ?_ ?_⟩
   ·rintro i v zs H4 N hi ⟨rfl,rfl⟩ nx
    obtain ⟨x,hx,rfl⟩:=L2.AW hi
    have hil:=(J3.mp hx).1
    rw[CS]at hil
    refine ⟨Weak.set (by intro v z; cases z),⟨_,rfl,_,rfl,_,_,rfl,rfl,(show (0:Int) < ((p:Nat):Int) by omega),?_,nx _ _ ⟨rfl,?_⟩⟩⟩
    ·rw[Ag,J0,RA]
     exact Rn (Nat.min_le_left ..) (Rb (show i < 40 by omega) (by decide))
    ·rw[<- nats_map_take (λx=>x % p) hx]
     rfl
   ·rintro zs H4 ⟨rfl,rfl⟩
    rw[show (nats (prL one other one.length 0)).length=(prL one other one.length 0).length from Ag _,RE,pr_conv]
    have hcl:(BL p one other).length=one.length + other.length:=by
     unfold BL
     rw[J0,J5]
    refine ⟨by rw[Ag,hcl]; exact J6 (show _<=40 by omega) (by decide),λr hr'=>?_⟩
    have w5:=Ac (o:=.lst (nats (BL p one other))) hr'
    refine ⟨r,BL p one other,rfl,Aa,by omega,λt H5 ht3 s5 h5=>?_⟩
    exact q t H5 ((s3.trans w5).free ht3) ((s3.trans w5).trans s5) h5
theorem conv_len (p:Nat) (one other:List Nat):(BL p one other).length=one.length + other.length:=by
 unfold BL
 rw[J0,J5]
theorem Kg {p:Nat} (hp:1<=p) (one other:List Nat):∀ x∈AN (BL p one other),x < p:=by
 intro x hx
 have:=Ga hx
 unfold BL at this
 obtain ⟨k,_,rfl⟩:=RB.mp this
 exact UT _ hp
theorem Kh (p:Nat) (one other:List Nat):(AN (BL p one other)).length<=one.length + other.length:=by
 rw[<- conv_len p one other]
 exact Gb _
def digN (p:Nat):Nat->Nat->List Nat
 | 0,_=>[]
 | n + 1,x=>(x % p)::digN p n (x / p)
theorem Bm (p:Nat):∀ n x,(digN p n x).length=n
 | 0,_=>rfl
 | n + 1,x=>by rw[digN,Rq,Bm p n]
theorem HL {p:Nat} (hp:0 < p):∀ n x,∀ y∈digN p n x,y < p
 | 0,_,y,h=>by cases h
 | n + 1,x,y,h=>by
  rcases Rg.mp h with rfl | h
  ·exact UT _ hp
  ·exact HL hp n _ y h
theorem EY (p:Nat):∀ n x,digN p (n + 1) x=digN p n x++[x / p ^ n % p]
 | 0,x=>by simp[digN]
 | n + 1,x=>by
  rw[digN,EY p n (x / p),digN,Ws,RT,RV,R4 p]
theorem IN {p:Nat} (hp:2<=p):∀ s x,x < p ^ s->digN p (s + 1) (p ^ s + x)=digN p s x++[1]
 | 0,x,h=>by
  have:x=0:=by simpa using h
  subst this
  simp[digN]
  exact Wt (by omega)
 | s + 1,x,h=>by
  have hp0:0 < p:=by omega
  have h2:x / p < p ^ s:=by
   rw[Yo hp0,<- RV]
   exact h
  have e1:(p ^ (s + 1) + x) % p=x % p:=by
   rw[RV,Nat.mul_add_mod_self_right]
  have e2:(p ^ (s + 1) + x) / p=p ^ s + x / p:=by
   rw[RV,R4,Ym hp0]
  rw[digN,e1,e2,IN hp s (x / p) h2]
  rfl
def fac (p s x:Nat):List Nat:=digN p s x++[1]
def Dv (p:Nat) (row:List Nat):Option (List Nat)->Prop
 | none=>∀ s x,1<=s->s<=(row.length - 1) / 2->x < p ^ s->AN (Cu p (fac p s x) row)≠[]
 | some b=>∃ s x,1<=s/\s<=(row.length - 1) / 2/\x < p ^ s/\b=fac p s x/\AN (Cu p b row)=[]
def DvAt (H:Hp) (v:V):Option (List Nat)->Prop
 | none=>v=.non
 | some b=>∃ t,v=.ref t/\H t=some (.tup (nats b))
theorem HM {p s:Nat} (hp:p<=31) (hs:s<=6):p ^ s<=887503681:=by
 have h1:p ^ s<=31 ^ s:=Z4 hp s
 have h2:31 ^ s<=31 ^ 6:=Uq (by decide) hs
 exact J6 h1 (J6 h2 (by decide))
theorem Lu {p s:Nat} (hp:p<=31) (hs:s<=4):p ^ s<=923521:=by
 have h1:p ^ s<=31 ^ s:=Z4 hp s
 have h2:31 ^ s<=31 ^ 4:=Uq (by decide) hs
 exact J6 h1 (J6 h2 (by decide))
def spDv:Sp:=λvs H Q _=>∃ (a:Addr) (p:Nat) (row:List Nat),vs=[.int ((p:Nat):Int),.ref a]/\H a=some (.tup (nats row))/\2<=p/\p<=31/\row.length<=9/\(∀ x∈row,x < 32)/\∀ v o H',Same H H'->Dv p row o->DvAt H' v o->Q v H'
def Gd:Sp:=λvs H Q _=>∃ (p n s:Nat),vs=[.int ((p:Nat):Int),.int ((n:Nat):Int)]/\2<=p/\p<=31/\s<=4/\p ^ s<=n/\n < 2 * p ^ s/\∀ (t:Addr) (H':Hp),H t=none->Same H H'->H' t=some (.tup (nats (digN p (s + 1) n)))->Q (.ref t) H'
theorem scDigitsOf:FnScope ["p", "number", "digits", "left"] ["p", "number"] (Ae CO):=⟨rfl,rfl,rfl,by decide +kernel,rfl,by decide +kernel,by decide +kernel⟩
theorem ok_digits {f:Addr} {fd:Qh} (F:Fun K "digits_of" "digits_of" CO f fd) (T:TxtB mg):FnOk P w K mg base CX0 1 f fd ["p", "number"] Gd:=by
 refine F.okQ scDigitsOf (λvs H Q E h=>?_) (λcdv A outer s H vs Q E hr h=>?_)
 ·obtain ⟨p,n,s,rfl,_⟩:=h
  rfl
 ·obtain ⟨p,n,k,rfl,hp2,hp31,hk4,hn1,hn2,q⟩:=h
  refine ⟨_,(Ad (An (i:=2) scDigitsOf.nd rfl (Ro rfl) (Bw Ab))
   (Ad (An (i:=3) scDigitsOf.nd rfl (Ro rfl) (qv 1))
   (Ad (BW PassesOwn.never (Ap Ec (qv 3) Af (Az _))
    (Ad (AK (Df RD RX RW Be (qv 2) (qac (Aq Bv (qv 3) (qv 0)) Ab)))
    (Ah (An (i:=3) scDigitsOf.nd rfl (Ro rfl) (Aq By (qv 3) (qv 0))))))
   (Ah (Ax (AD Ay (by rfl) T.tup (by decide +kernel) (qac (qv 2) Ab))))))),?_⟩
  refine ⟨by show 0<=Qe; decide,λl hl=>⟨_,rfl,?_⟩⟩
  refine CC (λσ H2=>Same H H2/\∃ j:Nat,j<=k + 1/\σ=[some (.int ((p:Nat):Int)),some (.int ((n:Nat):Int)),some (.ref l),some (.int ((n / p ^ j:Nat):Int))]/\H2 l=some (.lst (nats (digN p j n))))
   (λσ _=>match σ with | [_,_,_,some (.int m)]=>m.toNat | _=>0) ⟨Ac hl,0,by omega,by rw[W4,Zb]; rfl,Aa⟩ ?_
  rintro mm σ H2 ⟨s2,j,hj,rfl,hl2⟩ hmm
  refine ⟨_,rfl,_,_,rfl,rfl,_,rfl,?_⟩
  refine ite2 (λh1=>WTurn.of ?_) (λh1=>?_)
  ·have h1':0 < n / p ^ j:=by
    have:(0:Int) < ((n / p ^ j:Nat):Int):=of_decide_eq_true h1
    omega
   have hjk:j<=k:=by
    rcases UL k j with z | z
    ·exfalso
     have e:j=k + 1:=by omega
     subst e
     have:n / p ^ (k + 1)=0:=by
      apply Uy
      rw[RV]
      exact Rb hn2 (by rw[R4]; exact Z6 _ hp2)
     omega
    ·exact z
   have e1:((n / p ^ j:Nat):Int) % ((p:Nat):Int)=((n / p ^ j % p:Nat):Int):=by simp
   have e2:((n / p ^ j:Nat):Int) / ((p:Nat):Int)=((n / p ^ (j + 1):Nat):Int):=by
    rw[RV,<- RT]
    simp
   refine ⟨_,rfl,.inl ⟨rfl,_,SqL.of hl2⟩,_,rfl,_,rfl,_,_,rfl,rfl,by omega,l,_,.int ((n / p ^ j % p:Nat):Int),rfl,?_,hl2,by rw[Ag,Bm]; exact Rn (show j<=5 by omega) (by decide),?_⟩
   ·show [V.int (((n / p ^ j:Nat):Int) % ((p:Nat):Int))]=_
    rw[e1]
   refine ⟨_,rfl,_,rfl,_,_,rfl,rfl,⟨by omega,by omega⟩,?_⟩
   show (Same H _/\∃ j':Nat,j'<=k + 1/\[some (V.int ((p:Nat):Int)),some (V.int ((n:Nat):Int)),some (V.ref l),some (V.int (((n / p ^ j:Nat):Int) / ((p:Nat):Int)))]=_/\_)/\(((n / p ^ j:Nat):Int) / ((p:Nat):Int)).toNat < mm
   rw[e2]
   refine ⟨⟨AG s2 hl,j + 1,by omega,rfl,?_⟩,?_⟩
   ·rw[Aa,EY,AE]
   ·rw[hmm]
    show ((n / p ^ (j + 1):Nat):Int).toNat < ((n / p ^ j:Nat):Int).toNat
    rw[Rc,Rc,RV,<- RT]
    exact Yn h1' (by omega)
  ·have h1':n / p ^ j=0:=by
    have:¬ (0:Int) < ((n / p ^ j:Nat):Int):=λz=>h1 (decide_eq_true z)
    generalize n / p ^ j=z at this ⊢
    omega
   have hjk:j=k + 1:=by
    rcases UL k j with z | z
    ·omega
    ·exfalso
     have:0 < n / p ^ j:=Nat.div_pos (J6 (Uq (by omega) z) hn1) (Yc (by omega))
     rw[h1']at this
     exact Ry 0 this
   subst hjk
   exact ⟨_,rfl,l,_,rfl,.inl ⟨SqL.of hl2,λt ht=>q t _ (s2.free ht) (s2.trans (Ac ht)) Aa⟩⟩
theorem CT (p s x:Nat):(fac p s x).length=s + 1:=by
 unfold fac
 rw[Rk,Bm]
 rfl
theorem half_int (n:Nat):(((n:Nat):Int) - 1) / 2=(((n - 1) / 2:Nat):Int)\/((((n:Nat):Int) - 1) / 2).toNat=(n - 1) / 2:=by
 by_cases h:n=0
 ·subst h
  exact .inr (by decide)
 ·exact .inl (by omega)
theorem scRowFactor:FnScope ["p", "row", "power", "higher", "number", "factor"] ["p", "row"] (Ae Da):=⟨rfl,rfl,rfl,by decide +kernel,rfl,by decide +kernel,by decide +kernel⟩
theorem ok_factor {f:Addr} {fd:Qh} (F:Fun K "row_factor" "row_factor" Da f fd) (T:TxtB mg) (pDigitsOf:Pm P w K mg base CX0 1 "digits_of" ["p", "number"] Gd) (pRowRest:Pm P w K mg base CX0 2 "row_rest" ["p", "one", "by"] IL):FnOk P w K mg base CX0 3 f fd ["p", "row"] spDv:=by
 refine F.okQ scRowFactor (λvs H Q E h=>?_) (λcdv A outer s H vs Q E hr2 h=>?_)
 ·obtain ⟨a,p,row,rfl,_⟩:=h
  rfl
 ·obtain ⟨a,p,row,rfl,ha,hp2,hp31,hr9,hrow,q⟩:=h
  have hr1:=hr2.mono (show 1<=2 by decide)
  refine ⟨_,(Ad (An (i:=2) scRowFactor.nd rfl (Ro rfl) Af)
   (Ad (AJ PassesOwn.never rfl (Ar rfl T.range (qac (Aq By (Aq Fp (Am Ak (by rfl) T.len Rr (qac (qv 1) Ab)) Af) Af) Ab)) (Ai (i:=3) scRowFactor.nd rfl (Ro rfl))
    (Ad (An (i:=2) scRowFactor.nd rfl (Ro rfl) (Aq Bd (qv 2) (qv 0)))
    (Ah (AJ PassesOwn.never rfl (Dm rfl T.range (qac (qv 2) (qac (Aq Bd Af (qv 2)) Ab))) (Ai (i:=4) scRowFactor.nd rfl (Ro rfl))
     (Ad (An (i:=5) scRowFactor.nd rfl (Ro rfl) (Aj pDigitsOf hr1 rfl Av (qac (qv 0) (qac (qv 4) Ab))))
     (Ah (Bb (Ap (GD hr2.units) (Aj pRowRest hr2 rfl Av (qac (qv 0) (qac (qv 1) (qac (qv 5) Ab)))) (AI Ab) (Az _)) (Ah (Ax (qv 5))) AA)))))))
   (Ah (Ax Cz)))),?_⟩
  have hM:((((row.length:Nat):Int) - 1) / 2).toNat=(row.length - 1) / 2:=by
   rcases half_int row.length with z | z
   ·rw[z,Rc]
   ·exact z
  refine ⟨_,rfl,a,_,rfl,.inr (SqT.of ha),_,_,rfl,rfl,_,_,rfl,rfl,⟨by decide,by decide⟩,(((row.length:Nat):Int) - 1) / 2,by rw[Ag],by omega,by omega,?_⟩
  rw[hM]
  refine AM (lo:=0) (n:=(row.length - 1) / 2) (λi σ H2=>Same H H2/\(∃ x3 x4 x5,σ=[some (.int ((p:Nat):Int)),some (.ref a),some (.int ((p ^ i:Nat):Int)),x3,x4,x5])/\∀ s x,1<=s->s<=i->x < p ^ s->AN (Cu p (fac p s x) row)≠[]) ⟨Same.refl _,⟨none,none,none,rfl⟩,λs x z1 z2=>by omega⟩ ?_ ?_
  ·rintro i σ H2 hi ⟨s2,⟨x3,x4,x5,rfl⟩,hno⟩
   have hi4:i + 1<=4:=by omega
   have hpw:=Lu hp31 (show i<=4 by omega)
   have hpw1:=Lu hp31 hi4
   have hps:((p ^ i:Nat):Int) * ((p:Nat):Int)=((p ^ (i + 1):Nat):Int):=by
    rw[RV]
    simp
   refine ⟨_,rfl,_,rfl,_,_,rfl,rfl,.inl ⟨by omega,by omega⟩,?_⟩
   dsimp only
   rw[hps]
   refine ⟨_,rfl,_,rfl,_,_,rfl,rfl,.inl ⟨by decide,by decide⟩,((p ^ (i + 1):Nat):Int),2 * ((p ^ (i + 1):Nat):Int),rfl,⟨by omega,by omega,by omega,by omega⟩,?_⟩
   rw[show (2 * ((p ^ (i + 1):Nat):Int) - ((p ^ (i + 1):Nat):Int)).toNat=p ^ (i + 1) by omega]
   refine AM (lo:=((p ^ (i + 1):Nat):Int)) (n:=p ^ (i + 1)) (λx σ H3=>Same H H3/\(∃ x3 x4 x5,σ=[some (.int ((p:Nat):Int)),some (.ref a),some (.int ((p ^ (i + 1):Nat):Int)),x3,x4,x5])/\∀ y,y < x->AN (Cu p (fac p (i + 1) y) row)≠[]) ⟨s2,⟨_,_,_,rfl⟩,λy z=>by omega⟩ ?_ ?_
   ·rintro x σ H3 hx ⟨s3,⟨x3,x4,x5,rfl⟩,hno2⟩
    rw[show ((p ^ (i + 1):Nat):Int) + ((x:Nat):Int)=((p ^ (i + 1) + x:Nat):Int) by omega]
    refine ⟨_,rfl,_,rfl,p,p ^ (i + 1) + x,i + 1,rfl,hp2,hp31,hi4,by omega,by omega,λt H4 ht s4 ht4=>?_⟩
    rw[show digN p (i + 1 + 1) (p ^ (i + 1) + x)=fac p (i + 1) x from IN hp2 (i + 1) x hx]at ht4
    refine ⟨_,rfl,_,rfl,_,rfl,a,t,p,row,fac p (i + 1) x,rfl,(s3.trans s4) _ _ ha,ht4,by omega,hp31,by omega,by rw[CT]; omega,by rw[CT]; omega,hrow,λu H5 hu s5 hu5=>?_⟩
    refine ⟨by show 0<=Qe; decide,λe he=>?_⟩
    have w6:=Ac (o:=.tup []) he
    refine ⟨dTup (AN (Cu p (fac p (i + 1) x) row)),dTup [],II (w6 _ _ hu5),II Aa,EV _,EV _,_,rfl,?_⟩
    show if PyData.eqv (dTup (AN (Cu p (fac p (i + 1) x) row))) (dTup [])=true then _ else _
    rw[eqv_tupQ]
    have s35:=s3.trans (s4.trans (s5.trans w6))
    refine ite2 (λh1=>?_) (λh1=>?_)
    ·exact ⟨_,rfl,q _ (some (fac p (i + 1) x)) _ s35 ⟨i + 1,x,by omega,by omega,hx,rfl,of_decide_eq_true h1⟩ ⟨t,rfl,(s5.trans w6) _ _ ht4⟩⟩
    ·refine ⟨s35,⟨_,_,_,rfl⟩,λy hy=>?_⟩
     by_cases e2:y=x
     ·subst e2
      exact λz=>h1 (decide_eq_true z)
     ·exact hno2 y (by omega)
   ·rintro σ H3 ⟨s3,⟨x3,x4,x5,rfl⟩,hno2⟩
    refine ⟨s3,⟨_,_,_,rfl⟩,λs x z1 z2 z3=>?_⟩
    by_cases e2:s=i + 1
    ·subst e2
     exact hno2 x z3
    ·exact hno s x z1 (by omega) z3
  ·rintro σ H2 ⟨s2,⟨x3,x4,x5,rfl⟩,hno⟩
   exact q _ none _ s2 hno rfl
theorem Dv.sides {p:Nat} {row:List Nat} {b:List Nat} (h:Dv p row (some b)):¬ Dv p row none:=by
 obtain ⟨s,x,h1,h2,h3,rfl,h4⟩:=h
 exact λz=>z s x h1 h2 h3 h4
def HN:Sp:=λvs H Q _=>∃ i:Int,vs=[.int i]/\Q .non H
def Ki:Sp:=λvs H Q _=>∃ m i:Int,vs=[.int m,.int i]/\m<=i/\Q .non H
def EZ:Sp:=λvs H Q _=>∃ n:Nat,vs=[.int (n:Nat)]/\1<=n/\n < 2 ^ 60/\∀ l ws L H',H l=none->Same H H'->H' l=some (.lst ws)->TupsAt H' ws L->EM.Fac n L->Q (.ref l) H'
theorem Lv:FnScope ["thing"] ["thing"] (Ae JY):=⟨rfl,rfl,rfl,by decide +kernel,rfl,by decide +kernel,by decide +kernel⟩
theorem ok_mustN {f:Addr} {fd:Qh} (F:Fun K "must_be_whole" "must_be_whole" JY f fd) (pWhole:Pm P w K mg base CX0 1 "is_whole" ["thing"] (DJ K)):FnOk P w K mg base CX0 2 f fd ["thing"] HN:=by
 refine F.okQ Lv (λvs H Q E h=>?_) (λcdv A outer s H vs Q E hr h=>?_)
 ·obtain ⟨i,rfl,_⟩:=h
  rfl
 ·obtain ⟨i,rfl,q⟩:=h
  refine ⟨_,(Ah (Bb (CD (CA (Aj pWhole hr rfl Av (qac (qv 0) Ab)))) Bh AA)),?_⟩
  exact ⟨_,rfl,.int i,true,rfl,.int i,true,rfl,iteF q⟩
theorem Lw:FnScope ["least", "thing"] ["least", "thing"] (Ae Jm):=⟨rfl,rfl,rfl,by decide +kernel,rfl,by decide +kernel,by decide +kernel⟩
theorem ok_fromN {f:Addr} {fd:Qh} (F:Fun K "must_be_from" "must_be_from" Jm f fd) (pMust:Pm P w K mg base CX0 2 "must_be_whole" ["thing"] HN):FnOk P w K mg base CX0 3 f fd ["least", "thing"] Ki:=by
 refine F.okQ Lw (λvs H Q E h=>?_) (λcdv A outer s H vs Q E hr h=>?_)
 ·obtain ⟨m,i,rfl,_⟩:=h
  rfl
 ·obtain ⟨m,i,rfl,hi,q⟩:=h
  refine ⟨_,Ad (AK (Aj pMust hr rfl Av (qac (qv 1) Ab))) (Ah (Bb (Ap DE (qv 1) (qv 0) (Az _)) Bh AA)),?_⟩
  refine ⟨_,rfl,i,rfl,_,rfl,_,rfl,_,_,rfl,rfl,_,rfl,?_⟩
  rw[decide_eq_false (by omega)]
  exact iteF q
theorem scPrimes:FnScope ["n", "found", "left", "p", "often"] ["n"] (Ae FU):=⟨rfl,rfl,rfl,by decide +kernel,rfl,by decide +kernel,by decide +kernel⟩
theorem ok_primes {f fF:Addr} {fd fdF:Qh} (F:Fun K "primes_of" "primes_of" FU f fd) (FF:Fun K "must_be_from" "must_be_from" Jm fF fdF) (bF:Binds K fdF ["least", "thing"] []) (mF:mg "must_be_from"=some (.ref fF))
  (GF:FnOk P w K mg base CX0 3 fF fdF ["least", "thing"] Ki):FnOk P w K mg base CX0 4 f fd ["n"] EZ:=by
 refine F.okQ scPrimes (λvs H Q E h=>?_) (λcdv A outer s H vs Q E hr h=>?_)
 ·obtain ⟨n,rfl,_⟩:=h; rfl
 ·refine ⟨_,Ad (AK (qe_call GF hr rfl mF FF.kp bF .nil Av (qac Af (qac (qv 0) Ab))))
   ((Ad (An (i:=1) scPrimes.nd rfl (Ro rfl) (Bw Ab))
   (Ad (An (i:=2) scPrimes.nd rfl (Ro rfl) (qv 0))
   (Ad (An (i:=3) scPrimes.nd rfl (Ro rfl) Af)
   (Ad (BW PassesOwn.never (Ap Mj (Aq Bd (qv 3) (qv 3)) (qv 2) (Az _))
    (Ad (An (i:=4) scPrimes.nd rfl (Ro rfl) Af)
    (Ad (BW PassesOwn.never (Ap Ju (Aq Bv (qv 2) (qv 3)) Af (Az _))
     (Ad (An (i:=2) scPrimes.nd rfl (Ro rfl) (Aq By (qv 2) (qv 3)))
     (Ah (Ir (i:=4) scPrimes.nd rfl (Ro rfl) Af Ig))))
    (Ad (Bb (Ap Ec (qv 4) Af (Az _)) (Ah (AK (Df RD RX RW Be (qv 1) (qac (AI (qac (qv 3) (qac (qv 4) Ab))) Ab)))) AA)
    (Ah (Ir (i:=3) scPrimes.nd rfl (Ro rfl) Af Ig))))))
   (Ad (Bb (Ap Ec (qv 2) Af (Az _)) (Ah (AK (Df RD RX RW Be (qv 1) (qac (AI (qac (qv 2) (qac Af Ab))) Ab)))) AA)
   (Ah (Ax (qv 1))))))))),?_⟩
  obtain ⟨n,rfl,h1,hn,k⟩:=h
  ·refine ⟨_,rfl,1,_,rfl,by omega,?_⟩
   refine ⟨by show 0<=Qe; decide,λl hl=>?_⟩
   refine ⟨_,rfl,?_⟩
   refine CC (λσ H2=>∃ (p left:Nat) (ws:List V) (L:List (Nat×Nat)) (x:Option V),σ=[some (.int (n:Nat)),some (.ref l),some (.int (left:Nat)),some (.int (p:Nat)),x]/\
     EM.FacTo n p left L/\Same H H2/\H2 l=some (.lst ws)/\TupsAt H2 ws L/\p<=2 ^ 31)
    (λσ _=>match σ with | [_,_,some (.int left),some (.int p),_]=>(left - p).toNat | _=>0)
    ⟨2,n,[],[],none,rfl,EM.FacTo.start h1,Ac hl,Aa,trivial,by decide⟩ ?_
   rintro m σ H2 ⟨p,left,ws,L,x,rfl,F2,s2,hl2,t2,hp31⟩ hm
   refine ⟨_,rfl,_,rfl,_,_,rfl,rfl,.inl ⟨by omega,by omega⟩,_,rfl,_,_,rfl,rfl,_,rfl,?_⟩
   refine ite2 (λhc=>WTurn.of ?_) (λhc=>?_)
   ·have hc':p * p<=left:=by
     have:=of_decide_eq_true hc
     exact ZS.mp (by rw[UG]; exact this)
    have hp30:=EM.root_lt hc' (Rn F2.le hn)
    have h2p:=EM.two_le_self F2.two hc'
    have htwo:=F2.two
    refine CC (λσ H3=>H3=H2/\∃ (lf of:Nat),σ=[some (.int (n:Nat)),some (.ref l),some (.int (lf:Nat)),some (.int (p:Nat)),some (.int (of:Nat))]/\left=lf * p ^ of)
     (λσ _=>match σ with | [_,_,some (.int lf),_,_]=>lf.toNat | _=>0)
     ⟨rfl,left,0,rfl,by rw[W4,WJ]⟩ ?_
    rintro m' σ H3 ⟨rfl,lf,of,rfl,hlf⟩ hm'
    have hlf0:1<=lf:=by
     rcases U8 lf with z | z
     ·have:=F2.pos
      rw[hlf,z,WK]at this
      omega
     ·exact z
    refine ⟨_,rfl,_,rfl,_,_,rfl,rfl,by omega,rfl,_,rfl,?_⟩
    refine ite2 (λhd=>WTurn.of ?_) (λhd=>?_)
    ·have hd':lf % p=0:=by
      have:=V.int.inj (of_decide_eq_true hd)
      omega
     have hdv:p ∣ lf:=Nat.dvd_of_mod_eq_zero hd'
     refine ⟨_,rfl,_,rfl,_,_,rfl,rfl,⟨by omega,by omega⟩,_,rfl,_,_,rfl,rfl,⟨rfl,lf / p,of + 1,?_,?_⟩,?_⟩
     ·rfl
     ·rw[RV,R4 (p ^ of) p,<- Yd,Nat.div_mul_cancel hdv]
      exact hlf
     ·rw[hm']
      show ((lf:Int) / (p:Int)).toNat < (lf:Int).toNat
      have e:(lf:Int) / (p:Int)=((lf / p:Nat):Int):=rfl
      rw[e]
      have:=Yn hlf0 (show 1 < p by omega)
      omega
    ·have hnd:¬ p ∣ lf:=λz=>hd (by
      have:=Nat.mod_eq_zero_of_dvd z
      refine decide_eq_true (congrArg V.int ?_)
      omega)
     refine ⟨_,rfl,_,_,rfl,rfl,_,rfl,?_⟩
     refine ite2 (λho=>?_) (λho=>?_)
     ·have ho':1<=of:=by
       have:=of_decide_eq_true ho
       omega
      have F3:=F2.some hlf ho' hnd
      refine ⟨_,rfl,.inl ⟨rfl,_,SqL.of hl2⟩,_,rfl,_,rfl,by show 2<=Qe; decide,λt ht=>?_⟩
      have nlt:l≠t:=AO hl2 ht
      refine ⟨l,ws,_,rfl,rfl,by rw[As nlt]; exact hl2,?_,?_⟩
      ·rw[t2.len]
       exact UF (F2.short hn) (by decide)
      refine ⟨_,rfl,_,_,rfl,rfl,⟨p + 1,lf,ws++[.ref t],L++[(p,of)],some (.int (of:Nat)),?_,F3,?_,Aa,?_,by omega⟩,?_⟩
      ·rfl
      ·exact AG (s2.trans (Ac ht)) hl
      ·refine TupsAt.upd (ys:=ws) (by rw[As nlt]; exact hl2) (TupsAt.snoc (x:=(p,of)) Aa (t2.same (Ac ht)))
      ·rw[hm]
       show ((lf:Int) - ((p:Int) + 1)).toNat < ((left:Int) - (p:Int)).toNat
       have:lf<=left:=hlf▸Yf _ (Yc (by omega))
       omega
     ·have ho':of=0:=by
       have:¬ (0 < (of:Int)):=λz=>ho (decide_eq_true z)
       omega
      subst ho'
      rw[W4,WJ]at hlf
      subst hlf
      refine ⟨_,rfl,_,_,rfl,rfl,⟨p + 1,left,ws,L,_,rfl,F2.none hnd,s2,hl2,t2,by omega⟩,?_⟩
      rw[hm]
      show ((left:Int) - ((p:Int) + 1)).toNat < ((left:Int) - (p:Int)).toNat
      omega
   ·have hc':left < p * p:=by
     have h3:¬ ((p:Int) * (p:Int)<=(left:Int)):=λz=>hc (decide_eq_true z)
     refine YW λz=>h3 ?_
     rw[<- UG]
     exact ZS.mpr z
    refine ⟨_,rfl,_,_,rfl,rfl,_,rfl,?_⟩
    refine ite2 (λho=>?_) (λho=>?_)
    ·have ho':1 < left:=by
      have:=of_decide_eq_true ho
      omega
     have F3:=F2.last hc' ho'
     refine ⟨_,rfl,.inl ⟨rfl,_,SqL.of hl2⟩,_,rfl,by show 2<=Qe; decide,λt ht=>?_⟩
     have nlt:l≠t:=AO hl2 ht
     refine ⟨l,ws,_,rfl,rfl,by rw[As nlt]; exact hl2,?_,?_⟩
     ·rw[t2.len]
      exact UF (F2.short hn) (by decide)
     refine ⟨_,rfl,k l (ws++[.ref t]) (L++[(left,1)]) _ hl (AG (s2.trans (Ac ht)) hl) Aa ?_ F3⟩
     exact TupsAt.upd (ys:=ws) (by rw[As nlt]; exact hl2) (TupsAt.snoc (x:=(left,1)) Aa (t2.same (Ac ht)))
    ·have ho':¬ 1 < left:=λz=>ho (decide_eq_true (by omega))
     exact ⟨_,rfl,k l ws L H2 hl s2 hl2 t2 (F2.done ho')⟩
theorem scIsPrime:FnScope ["p"] ["p"] (Ae Eh):=⟨rfl,rfl,rfl,by decide +kernel,rfl,by decide +kernel,by decide +kernel⟩
theorem ok_isprime {f:Addr} {fd:Qh} (F:Fun K "is_prime" "is_prime" Eh f fd) (pPrimes:Pm P w K mg base CX0 4 "primes_of" ["n"] EZ):FnOk P w K mg base CX0 5 f fd ["p"] ED:=by
 refine F.okQ scIsPrime (λvs H Q E h=>?_) (λcdv A outer s H vs Q E hr h=>?_)
 ·obtain ⟨i,rfl,_⟩:=h
  rfl
 ·obtain ⟨i,rfl,hi,k⟩:=h
  refine ⟨_,(Ah (Ax (Io (DI Ec (qv 0) Af (Az _)) (Im (DI (GD hr.units) (Aj pPrimes hr rfl Av (qac (qv 0) Ab)) (Bw (qac (AI (qac (qv 0) (qac Af Ab))) Ab)) (Az _)))))),?_⟩
  refine ⟨_,rfl,_,_,rfl,rfl,_,rfl,?_⟩
  by_cases h1:(1:Int) < i
  ·refine ifT h1 ?_
   obtain ⟨n,rfl⟩:∃ n:Nat,i=n:=⟨i.toNat,by omega⟩
   refine ⟨_,rfl,n,rfl,by omega,by omega,λl ws L H1 hl s1 hl1 t1 F1=>?_⟩
   refine ⟨_,rfl,by show 2<=Qe; decide,λt ht=>⟨by show 1<=Qe; decide,λm hm=>?_⟩⟩
   have s2:=Ac (o:=.tup [.int (n:Nat),.int 1]) ht
   have s3:=Ac (o:=.lst [.ref t]) hm
   have s4:=s2.trans s3
   refine ⟨.list (L.map ptup),.list ([(n,1)].map ptup),?_,?_,DW _,DW _,?_⟩
   ·simp only[IsD]
    exact ⟨l,ws,rfl,SqL.of (s4 _ _ hl1),FH (t1.same s4)⟩
   ·simp only[IsD]
    exact ⟨m,[.ref t],rfl,SqL.of Aa,FH (ws:=[.ref t]) (L:=[(n,1)]) ⟨⟨t,rfl,s3 _ _ Aa⟩,trivial⟩⟩
   ·refine k _ _ (s1.trans s4) ?_
    show PyData.eqv _ _=true↔_
    simp only[PyData.eqv,GG,decide_eq_true_eq]
    constructor
    ·rintro rfl
     exact ⟨n,rfl,F1.pr_of⟩
    ·rintro ⟨p,e,hp⟩
     have:p=n:=by omega
     subst this
     exact F1.of_pr hp
  ·refine ifF h1 ?_
   refine k false H (Same.refl H) ⟨λz=>(nomatch z),λ⟨p,e,hp⟩=>?_⟩
   have:=hp.1
   omega
def numL (p:Nat):List Nat->Nat
 | []=>0
 | d::l=>numL p l * p + d
theorem Ge {p:Nat} (hp:1<=p):∀ {l:List Nat},(∀ x∈l,x < p)->numL p l < p ^ l.length
 | [],_=>by simp[numL]
 | d::l,h=>by
  have h1:=Ge hp (l:=l) λx hx=>h x (Re _ hx)
  have h2:=h d (Rj ..)
  rw[numL,Rq,RV]
  have h3:(numL p l + 1) * p<=p ^ l.length * p:=R9 _ h1
  rw[UP]at h3
  omega
def sumP (p:Nat) (c:Nat->Nat):Nat->Nat
 | 0=>0
 | i + 1=>sumP p c i + c i * p ^ i
theorem Hc (p x:Nat):∀ l:List Nat,numL p (l++[x])=numL p l + x * p ^ l.length
 | []=>by simp[numL]
 | d::l=>by
  rw[Ws,numL,Hc p x l,numL,Rq,RV,UP,Yd]
  omega
theorem IO (p:Nat) (c:Nat->Nat):∀ d,numL p ((J1 d).map c)=sumP p c d
 | 0=>rfl
 | d + 1=>by
  rw[Rs,Rp,Rt,Uf,Hc,IO p c d,J0,J5]
  rfl
theorem sumP_lt {p:Nat} {c:Nat->Nat} {d:Nat} (hp:1<=p) (h:∀ i,c i < p):sumP p c d < p ^ d:=by
 rw[<- IO]
 have:=Ge hp (l:=(J1 d).map c) (λx hx=>by
  obtain ⟨i,_,rfl⟩:=RB.mp hx
  exact h i)
 rwa [J0,J5]at this
theorem He {p:Nat} {c:Nat->Nat} {i:Nat} (h:∀ j,i<=j->c j=0):∀ k,sumP p c (i + k)=sumP p c i
 | 0=>rfl
 | k + 1=>by
  rw[<- YF,sumP,He h k,h (i + k) (by omega),WK,W5]
theorem drop_cons {l:List Nat} {i:Nat} (h:i < l.length):l.drop i=l[i]::l.drop (i + 1):=(U6 h).symm
def LL:Sp:=λvs H Q _=>∃ (a:Addr) (p:Nat) (l:List Nat),vs=[.int ((p:Nat):Int),.ref a]/\H a=some (.tup (nats l))/\1<=p/\p<=31/\l.length<=6/\(∀ x∈l,x < p)/\Q (.int ((numL p l:Nat):Int)) H
theorem numL_drop_le {p:Nat} {l:List Nat} (hp:1<=p) (hp31:p<=31) (h6:l.length<=6) (hx:∀ x∈l,x < p) (k:Nat):numL p (l.drop k)<=887503681:=by
 have h1:=Ge hp (l:=l.drop k) λx h=>hx x (Wi h)
 have h2:=HM (s:=(l.drop k).length) hp31 (by rw[Uj]; omega)
 omega
theorem scNumberOf:FnScope ["p", "digits", "number", "digit"] ["p", "digits"] (Ae Dw):=⟨rfl,rfl,rfl,by decide +kernel,rfl,by decide +kernel,by decide +kernel⟩
theorem ok_num {f:Addr} {fd:Qh} (F:Fun K "number_of" "number_of" Dw f fd) (hR:mg "reversed"=none):FnOk P w K mg base CX0 1 f fd ["p", "digits"] LL:=by
 refine F.okQ scNumberOf (λvs H Q E h=>?_) (λcdv A outer s H vs Q E hr h=>?_)
 ·obtain ⟨a,p,l,rfl,_⟩:=h
  rfl
 ·obtain ⟨a,p,l,rfl,ha,hp1,hp31,h6,hx,q⟩:=h
  refine ⟨_,(Ad (An (i:=2) scNumberOf.nd rfl (Ro rfl) Af)
   (Ad (AJ PassesOwn.never rfl (qi_revT rfl hR (qac (qv 1) Ab)) (Ai (i:=3) scNumberOf.nd rfl (Ro rfl))
    (Ah (An (i:=2) scNumberOf.nd rfl (Ro rfl) (Aq AZ (Aq Bd (qv 2) (qv 0)) (qv 3)))))
   (Ah (Ax (qv 2))))),?_⟩
  refine ⟨_,rfl,a,nats l,rfl,SqT.of ha,for_rev (K:=K) (xs:=nats l) (λi σ H2=>H2=H/\∃ x3,σ=[some (.int ((p:Nat):Int)),some (.ref a),some (.int ((numL p (l.drop (l.length - i)):Nat):Int)),x3]) ⟨rfl,none,by rw[WM,List.drop_length]; rfl⟩ (λi σ H2 _ ⟨e,_⟩=>SqT.of (e▸ha)) ?_ ?_⟩
  ·rintro i v σ H2 hi ⟨rfl,x3,rfl⟩
   have hil:i < l.length:=by
    have:=(J3.mp hi).1
    rwa [Wv,Ag]at this
   rw[ZJ (by rw[Ag]; exact hil),Ag]at hi
   obtain ⟨x,hx',rfl⟩:=L2.AW hi
   have hb:=numL_drop_le hp1 hp31 h6 hx (l.length - i)
   have hxp:=hx x (Rf hx')
   have e1:l.drop (l.length - (i + 1))=x::l.drop (l.length - i):=by
    have z:=drop_cons (l:=l) (i:=l.length - 1 - i) (by omega)
    rw[show l.length - 1 - i + 1=l.length - i by omega]at z
    rw[show l.length - (i + 1)=l.length - 1 - i by omega,z]
    have:=(J3.mp hx').2
    rw[this]
   refine ⟨_,rfl,_,rfl,_,_,rfl,rfl,.inl ⟨by omega,by omega⟩,_,rfl,_,_,rfl,rfl,rfl,some (.int ((x:Nat):Int)),?_⟩
   rw[e1,numL]
   simp
  ·rintro σ H2 ⟨rfl,x3,rfl⟩
   refine ⟨_,rfl,?_⟩
   rw[Ag,WN,Wp]
   exact q
theorem Em (p:Nat):∀ (n x i:Nat),(digN p n x).getD i 0=if i < n then x / p ^ i % p else 0
 | 0,x,i=>by simp[digN]
 | n + 1,x,0=>by simp[digN]
 | n + 1,x,i + 1=>by
  rw[digN,List.getD_cons_succ,Em p n,RT,RV,R4 p]
  by_cases h:i < n
  ·rw[if_pos h,if_pos (by omega)]
  ·rw[if_neg h,if_neg (by omega)]
theorem tight_eq {l m:List Nat} (hl:KR l) (hm:KR m) (h:∀ i,l.getD i 0=m.getD i 0):l=m:=by
 have h1:=El hl h
 have h2:=El hm λi=>(h i).symm
 apply Ua (by omega)
 intro i z1 z2
 have:=h i
 rw[Cb z1,Cb z2]at this
 exact this
theorem IP {p n j i:Nat} (h:n / p ^ j=0) (hji:j<=i):n / p ^ i % p=0:=by
 have:n / p ^ i=0:=by
  rw[show i=j + (i - j) by omega,Nat.pow_add,<- RT,h,Jg8]
 rw[this,Nat.zero_mod]
theorem dig_trim {p n j d:Nat} (hp:2<=p) (hd:n < p ^ d) (h0:n / p ^ j=0) (h1:j=0\/n / p ^ (j - 1)≠0):digN p j n=AN (digN p d n):=by
 have hdz:n / p ^ d=0:=Uy hd
 refine tight_eq ?_ (Cm _ _ rfl).1 λi=>?_
 ·rcases h1 with rfl | h1
  ·exact .inl rfl
  ·right
   have hj:1<=j:=by
    rcases U8 j with z | z
    ·subst z
     exact absurd h0 h1
    ·exact z
   rw[Bm,Em,if_pos (by omega)]
   have:n / p ^ (j - 1) < p:=by
    rw[Yo (Yc (by omega))]
    have h2:n < p ^ j:=by
     rcases UL n (p ^ j) with z | z
     ·exact z
     ·have:=Nat.div_pos z (Yc (show 0 < p by omega))
      omega
    rw[R4,<- RV,show (j - 1).succ=j by omega]
    exact h2
   rw[Wt this]
   exact h1
 ·rw[HK,Em,Em]
  by_cases c1:i < j
  ·by_cases c2:i < d
   ·rw[if_pos c1,if_pos c2]
   ·rw[if_pos c1,if_neg c2,IP hdz (by omega)]
  ·by_cases c2:i < d
   ·rw[if_neg c1,if_pos c2,IP h0 (by omega)]
   ·rw[if_neg c1,if_neg c2]
def Kj:Sp:=λvs H Q _=>∃ (p n d:Nat),vs=[.int ((p:Nat):Int),.int ((n:Nat):Int)]/\2<=p/\p<=31/\d<=6/\n < p ^ d/\∀ (t:Addr) (H':Hp),H t=none->Same H H'->H' t=some (.tup (nats (AN (digN p d n))))->Q (.ref t) H'
theorem ok_digG {f:Addr} {fd:Qh} (F:Fun K "digits_of" "digits_of" CO f fd) (T:TxtB mg):FnOk P w K mg base CX0 1 f fd ["p", "number"] Kj:=by
 refine F.okQ scDigitsOf (λvs H Q E h=>?_) (λcdv A outer s H vs Q E hr h=>?_)
 ·obtain ⟨p,n,s,rfl,_⟩:=h
  rfl
 ·obtain ⟨p,n,d,rfl,hp2,hp31,hd6,hnd,q⟩:=h
  refine ⟨_,(Ad (An (i:=2) scDigitsOf.nd rfl (Ro rfl) (Bw Ab))
   (Ad (An (i:=3) scDigitsOf.nd rfl (Ro rfl) (qv 1))
   (Ad (BW PassesOwn.never (Ap Ec (qv 3) Af (Az _))
    (Ad (AK (Df RD RX RW Be (qv 2) (qac (Aq Bv (qv 3) (qv 0)) Ab)))
    (Ah (An (i:=3) scDigitsOf.nd rfl (Ro rfl) (Aq By (qv 3) (qv 0))))))
   (Ah (Ax (AD Ay (by rfl) T.tup (by decide +kernel) (qac (qv 2) Ab))))))),?_⟩
  refine ⟨by show 0<=Qe; decide,λl hl=>⟨_,rfl,?_⟩⟩
  refine CC (λσ H2=>Same H H2/\∃ j:Nat,(j=0\/n / p ^ (j - 1)≠0)/\j<=d/\σ=[some (.int ((p:Nat):Int)),some (.int ((n:Nat):Int)),some (.ref l),some (.int ((n / p ^ j:Nat):Int))]/\H2 l=some (.lst (nats (digN p j n))))
   (λσ _=>match σ with | [_,_,_,some (.int m)]=>m.toNat | _=>0) ⟨Ac hl,0,.inl rfl,by omega,by rw[W4,Zb]; rfl,Aa⟩ ?_
  rintro mm σ H2 ⟨s2,j,hj1,hj,rfl,hl2⟩ hmm
  refine ⟨_,rfl,_,_,rfl,rfl,_,rfl,?_⟩
  refine ite2 (λh1=>WTurn.of ?_) (λh1=>?_)
  ·have h1':0 < n / p ^ j:=by
    have:(0:Int) < ((n / p ^ j:Nat):Int):=of_decide_eq_true h1
    omega
   have hjk:j < d:=by
    rcases UL j d with z | z
    ·exact z
    ·have e:j=d:=by omega
     subst e
     rw[Uy hnd]at h1'
     exact absurd h1' (Ry _)
   have e1:((n / p ^ j:Nat):Int) % ((p:Nat):Int)=((n / p ^ j % p:Nat):Int):=by simp
   have e2:((n / p ^ j:Nat):Int) / ((p:Nat):Int)=((n / p ^ (j + 1):Nat):Int):=by
    rw[RV,<- RT]
    simp
   refine ⟨_,rfl,.inl ⟨rfl,_,SqL.of hl2⟩,_,rfl,_,rfl,_,_,rfl,rfl,by omega,l,_,.int ((n / p ^ j % p:Nat):Int),rfl,?_,hl2,by rw[Ag,Bm]; exact Rn (show j<=6 by omega) (by decide),?_⟩
   ·show [V.int (((n / p ^ j:Nat):Int) % ((p:Nat):Int))]=_
    rw[e1]
   refine ⟨_,rfl,_,rfl,_,_,rfl,rfl,⟨by omega,by omega⟩,?_⟩
   show (Same H _/\∃ j':Nat,(j'=0\/n / p ^ (j' - 1)≠0)/\j'<=d/\[some (V.int ((p:Nat):Int)),some (V.int ((n:Nat):Int)),some (V.ref l),some (V.int (((n / p ^ j:Nat):Int) / ((p:Nat):Int)))]=_/\_)/\(((n / p ^ j:Nat):Int) / ((p:Nat):Int)).toNat < mm
   rw[e2]
   refine ⟨⟨AG s2 hl,j + 1,.inr (by rw[YE]; exact Wc h1'),by omega,rfl,?_⟩,?_⟩
   ·rw[Aa,EY,AE]
   ·rw[hmm]
    show ((n / p ^ (j + 1):Nat):Int).toNat < ((n / p ^ j:Nat):Int).toNat
    rw[Rc,Rc,RV,<- RT]
    exact Yn h1' (by omega)
  ·have h1':n / p ^ j=0:=by
    have:¬ (0:Int) < ((n / p ^ j:Nat):Int):=λz=>h1 (decide_eq_true z)
    generalize n / p ^ j=z at this ⊢
    omega
   rw[dig_trim hp2 hnd h1' hj1]at hl2
   exact ⟨_,rfl,l,_,rfl,.inl ⟨SqL.of hl2,λt ht=>q t _ (s2.free ht) (s2.trans (Ac ht)) Aa⟩⟩
theorem cint_mk {K:J4} {x:Str} {n:Int} {t:Tok} (h:Ru K Qi x=some (some (.int n t))):∃ t,Ru K Qi x=some (some (.int n t)):=⟨t,h⟩
def cj (p:Nat) (sg:Int) (a b i:Nat):Nat:=((((a / p ^ i:Nat):Int) + sg * ((b / p ^ i:Nat):Int)) % ((p:Nat):Int)).toNat
theorem Lx {p:Nat} (hp:1<=p) (sg:Int) (a b i:Nat):(((a / p ^ i:Nat):Int) + sg * ((b / p ^ i:Nat):Int)) % ((p:Nat):Int)=((cj p sg a b i:Nat):Int)/\cj p sg a b i < p:=by
 unfold cj
 generalize ((a / p ^ i:Nat):Int) + sg * ((b / p ^ i:Nat):Int)=z
 have h1:=Ux z (show ((p:Nat):Int)≠0 by omega)
 have h2:=Ug z (show (0:Int) < ((p:Nat):Int) by omega)
 exact ⟨by omega,by omega⟩
theorem Fa {p n j i:Nat} (h:n / p ^ j=0) (hji:j<=i):n / p ^ i=0:=by
 rw[show i=j + (i - j) by omega,Nat.pow_add,<- RT,h,Jg8]
theorem cj_zero {p:Nat} {sg:Int} {a b j i:Nat} (h1:a / p ^ j=0) (h2:b / p ^ j=0) (hji:j<=i):cj p sg a b i=0:=by
 unfold cj
 rw[Fa h1 hji,Fa h2 hji]
 simp
def joinV (p:Nat) (sg:Int) (d a b:Nat):Nat:=sumP p (cj p sg a b) d
theorem joinV_lt {p:Nat} {sg:Int} {d a b:Nat} (hp:1<=p):joinV p sg d a b < p ^ d:=sumP_lt hp λi=>(Lx hp sg a b i).2
def Kk:Sp:=λvs H Q _=>∃ (p d a b:Nat) (sg:Int),vs=[.int ((p:Nat):Int),.int ((a:Nat):Int),.int ((b:Nat):Int),.int sg]/\2<=p/\p<=31/\d<=6/\a < p ^ d/\b < p ^ d/\(sg=1\/sg=-1)/\Q (.int ((joinV p sg d a b:Nat):Int)) H
theorem scJoined:FnScope ["p", "a", "b", "sign", "number", "power", "one", "other"] ["p", "a", "b", "sign"] (Ae FW):=⟨rfl,rfl,rfl,by decide +kernel,rfl,by decide +kernel,by decide +kernel⟩
theorem ok_join {f:Addr} {fd:Qh} (F:Fun K "joined" "joined" FW f fd):FnOk P w K mg base CX0 1 f fd ["p", "a", "b", "sign"] Kk:=by
 refine F.okQ scJoined (λvs H Q E h=>?_) (λcdv A outer s H vs Q E hr h=>?_)
 ·obtain ⟨p,d,a,b,sg,rfl,_⟩:=h
  rfl
 ·obtain ⟨p,d,a,b,sg,rfl,hp2,hp31,hd6,ha,hb,hsg,q⟩:=h
  refine ⟨_,(Ad (An (i:=4) scJoined.nd rfl (Ro rfl) Af)
   (Ad (An (i:=5) scJoined.nd rfl (Ro rfl) Af)
   (Ad (An (i:=6) scJoined.nd rfl (Ro rfl) (qv 1))
   (Ad (An (i:=7) scJoined.nd rfl (Ro rfl) (qv 2))
   (Ad (BW PassesOwn.never (QW.pt (Fn (Ap Ec (qv 6) Af (Az _)) (Ez (Ap Ec (qv 7) Af (Az _)))))
    (Ad (Ir (i:=4) scJoined.nd rfl (Ro rfl) (Aq Bd (Aq Bv (Aq AZ (qv 6) (Aq Bd (qv 3) (qv 7))) (qv 0)) (qv 5)) Ig)
    (Ad (An (i:=5) scJoined.nd rfl (Ro rfl) (Aq Bd (qv 5) (qv 0)))
    (Ad (An (i:=6) scJoined.nd rfl (Ro rfl) (Aq By (qv 6) (qv 0)))
    (Ah (An (i:=7) scJoined.nd rfl (Ro rfl) (Aq By (qv 7) (qv 0))))))))
   (Ah (Ax (qv 4)))))))),?_⟩
  have hpd:=HM hp31 hd6
  refine ⟨_,rfl,_,rfl,?_⟩
  refine CC (λσ H2=>H2=H/\∃ j:Nat,j<=d/\σ=[some (.int ((p:Nat):Int)),some (.int ((a:Nat):Int)),some (.int ((b:Nat):Int)),some (.int sg),some (.int ((sumP p (cj p sg a b) j:Nat):Int)),some (.int ((p ^ j:Nat):Int)),some (.int ((a / p ^ j:Nat):Int)),some (.int ((b / p ^ j:Nat):Int))])
   (λσ _=>match σ with | [_,_,_,_,_,_,some (.int m),some (.int n)]=>m.toNat + n.toNat | _=>0) ⟨rfl,0,by omega,by rw[W4,Zb,Zb]; rfl⟩ ?_
  rintro mm σ H2 ⟨rfl,j,hj,rfl⟩ hmm
  have hpj:=HM (s:=j) hp31 (by omega)
  have step:0 < a / p ^ j\/0 < b / p ^ j->j < d:=λz=>by
   rcases UL j d with y | y
   ·exact y
   ·exfalso
    have e:j=d:=by omega
    subst e
    rw[Uy ha,Uy hb]at z
    omega
  obtain ⟨e0,c1⟩:=Lx (show 1<=p by omega) sg a b j
  have eP:((p ^ j:Nat):Int) * ((p:Nat):Int)=((p ^ (j + 1):Nat):Int):=by rw[RV]; simp
  have eA:((a / p ^ j:Nat):Int) / ((p:Nat):Int)=((a / p ^ (j + 1):Nat):Int):=by
   rw[RV,<- RT]
   simp
  have eB:((b / p ^ j:Nat):Int) / ((p:Nat):Int)=((b / p ^ (j + 1):Nat):Int):=by
   rw[RV,<- RT]
   simp
  have eS:((sumP p (cj p sg a b) j:Nat):Int) + ((cj p sg a b j:Nat):Int) * ((p ^ j:Nat):Int)=((sumP p (cj p sg a b) (j + 1):Nat):Int):=by
   rw[sumP]
   simp
  have hb31:b / p ^ j<=887503681:=J6 (Yp ..) (by omega)
  have fin:(0 < a / p ^ j\/0 < b / p ^ j)->(H2=H2/\∃ i:Nat,i<=d/\[some (.int ((p:Nat):Int)),some (.int ((a:Nat):Int)),some (.int ((b:Nat):Int)),some (.int sg),some (V.int (((sumP p (cj p sg a b) j:Nat):Int) + (((a / p ^ j:Nat):Int) + sg * ((b / p ^ j:Nat):Int)) % ((p:Nat):Int) * ((p ^ j:Nat):Int))),some (V.int (((p ^ j:Nat):Int) * ((p:Nat):Int))),some (V.int (((a / p ^ j:Nat):Int) / ((p:Nat):Int))),some (V.int (((b / p ^ j:Nat):Int) / ((p:Nat):Int)))]=[some (.int ((p:Nat):Int)),some (.int ((a:Nat):Int)),some (.int ((b:Nat):Int)),some (.int sg),some (.int ((sumP p (cj p sg a b) i:Nat):Int)),some (.int ((p ^ i:Nat):Int)),some (.int ((a / p ^ i:Nat):Int)),some (.int ((b / p ^ i:Nat):Int))])/\
    (((a / p ^ j:Nat):Int) / ((p:Nat):Int)).toNat + (((b / p ^ j:Nat):Int) / ((p:Nat):Int)).toNat < mm:=λz=>by
   have hjd:=step z
   rw[e0,eS,eP,eA,eB]
   refine ⟨⟨rfl,j + 1,by omega,rfl⟩,?_⟩
   rw[hmm]
   show ((a / p ^ (j + 1):Nat):Int).toNat + ((b / p ^ (j + 1):Nat):Int).toNat < ((a / p ^ j:Nat):Int).toNat + ((b / p ^ j:Nat):Int).toNat
   rw[Rc,Rc,Rc,Rc,RV,<- RT,<- RT]
   have l1:∀ x:Nat,x / p<=x:=λx=>Yp ..
   have l2:∀ x:Nat,0 < x->x / p < x:=λx hx=>Yn hx (by omega)
   have:=l1 (a / p ^ j)
   have:=l1 (b / p ^ j)
   rcases z with z | z
   ·have:=l2 _ z
    omega
   ·have:=l2 _ z
    omega
  have hm64:-(2 ^ 64:Int)<=sg/\sg<=2 ^ 64:=by rcases hsg with rfl | rfl <;> exact ⟨by decide,by decide⟩
  have hmod:(((a / p ^ j:Nat):Int) + sg * ((b / p ^ j:Nat):Int)) % ((p:Nat):Int)=((cj p sg a b j:Nat):Int):=e0
  refine ⟨_,rfl,_,_,rfl,rfl,_,rfl,?_⟩
  by_cases h1:0 < a / p ^ j
  ·refine ifT (by omega) (WTurn.of ?_)
   refine ⟨_,rfl,_,rfl,_,rfl,_,rfl,_,_,rfl,rfl,.inl ⟨by rcases hsg with rfl | rfl <;> decide,by rcases hsg with rfl | rfl <;> decide⟩,_,_,rfl,rfl,_,rfl,_,_,rfl,rfl,by omega,_,rfl,_,_,rfl,rfl,.inl ⟨by rw[hmod]; omega,by rw[hmod]; omega⟩,_,_,rfl,rfl,?_⟩
   exact ⟨_,rfl,_,rfl,_,_,rfl,rfl,.inl ⟨by omega,by omega⟩,_,rfl,_,rfl,_,_,rfl,rfl,⟨by omega,by omega⟩,_,rfl,_,rfl,_,_,rfl,rfl,⟨by omega,by omega⟩,fin (.inl h1)⟩
  ·refine ifF (by omega) ⟨_,rfl,_,_,rfl,rfl,_,rfl,?_⟩
   by_cases h2:0 < b / p ^ j
   ·refine ifT (by omega) (WTurn.of ?_)
    refine ⟨_,rfl,_,rfl,_,rfl,_,rfl,_,_,rfl,rfl,.inl ⟨by rcases hsg with rfl | rfl <;> decide,by rcases hsg with rfl | rfl <;> decide⟩,_,_,rfl,rfl,_,rfl,_,_,rfl,rfl,by omega,_,rfl,_,_,rfl,rfl,.inl ⟨by rw[hmod]; omega,by rw[hmod]; omega⟩,_,_,rfl,rfl,?_⟩
    exact ⟨_,rfl,_,rfl,_,_,rfl,rfl,.inl ⟨by omega,by omega⟩,_,rfl,_,rfl,_,_,rfl,rfl,⟨by omega,by omega⟩,_,rfl,_,rfl,_,_,rfl,rfl,⟨by omega,by omega⟩,fin (.inr h2)⟩
   ·refine ifF (by omega) ⟨_,rfl,?_⟩
    have e:sumP p (cj p sg a b) j=joinV p sg d a b:=by
     unfold joinV
     rw[show d=j + (d - j) by omega,He (λi hi=>cj_zero (ZH h1) (ZH h2) hi)]
    rw[e]
    exact q
structure FOk (p:Nat) (row:List Nat):Prop where
 p2:2<=p
 p31:p<=31
 pr:EM.IsPr p
 l2:2<=row.length
 l6:row.length<=6
 lt:∀ x∈row,x < p
 top:row.getD (row.length - 1) 0=1
 few:p ^ (row.length - 1)<=32
 no:Dv p row none
def Kl:Sp:=λvs H Q _=>∃ (a:Addr) (p:Nat) (row:List Nat),vs=[.int ((p:Nat):Int),.ref a]/\H a=some (.tup (nats row))/\FOk p row/\∀ H',Same H H'->Q .non H'
theorem scMustBeRow:FnScope ["p", "row"] ["p", "row"] (Ae Ck):=⟨rfl,rfl,rfl,by decide +kernel,rfl,by decide +kernel,by decide +kernel⟩
theorem rep_true (n:Nat):(RQ n true).all id=true:=by simp
theorem ok_mrow {f:Addr} {fd:Qh} (F:Fun K "must_be_row" "must_be_row" Ck f fd) (T:TxtB mg) (pWhole:Pm P w K mg base CX0 1 "is_whole" ["thing"] (DJ K)) (pIsBelow:Pm P w K mg base CX0 2 "is_below" ["thing", "many"] FY):FnOk P w K mg base CX0 3 f fd ["p", "row"] Kl:=by
 refine F.okQ scMustBeRow (λvs H Q E h=>?_) (λcdv A outer s H vs Q E hr2 h=>?_)
 ·obtain ⟨a,p,row,rfl,_⟩:=h
  rfl
 ·obtain ⟨a,p,row,rfl,ha,O,q⟩:=h
  have hr1:=hr2.mono (show 1<=2 by decide)
  have hp2:=O.p2
  have hl2:=O.l2
  have hl6:=O.l6
  refine ⟨_,(Ad (Bb (QW.pt (Fn (CD (CA (Aj pWhole hr1 rfl Av (qac (qv 0) Ab)))) (Fn (Ap DE (qv 0) Af (Az _)) (Fn (CD (CA (Am Cp (by rfl) T.isi U1 (qac (qv 1) (qac (FG (v:=.ty "tuple") rfl T.tup (by decide +kernel) rfl) Ab))))) (Ez (Ap DE (Am Ak (by rfl) T.len Rr (qac (qv 1) Ab)) Af (Az _))))))) Bh AA)
   (Ah (Bb (QW.pt (Fn (CD (CA (Am (Il rfl) (by rfl) T.all (by decide +kernel) (qac (AH (g:=AR 0) (N:=["digit", "p"]) (src:=[none,some 0]) rfl (Al (Ae Ck) ["p", "row"] rfl rfl (by decide +kernel) rfl) (DV (qv 1)) (λ_ _ _ _ _=>(Ai (i:=0) (show (["digit", "p"]:List Str).Nodup by decide +kernel) rfl (Ro rfl) (R8 rfl))) (λ_ _ _ _ _=>AQ) (λ_ _ _ _ _=>(Aj pIsBelow hr2 rfl Av (qac (qv 0) (qac (qv 1) Ab))))) Ab)))) (Ez (Ap Gw (Au Aw (qv 1) (Mq KW Af) (λ_ _=>rfl)) Af (Az _))))) Bh AA))),?_⟩
  refine ⟨_,rfl,.int _,true,rfl,.int _,true,rfl,iteF ?_⟩
  refine ⟨_,rfl,_,_,rfl,rfl,_,rfl,ifF (by omega) ?_⟩
  refine ⟨_,rfl,_,_,_,_,rfl,.tup ha,EB (kit_tup_tup K),true,rfl,iteF ?_⟩
  refine ⟨_,rfl,a,_,rfl,.inr (SqT.of ha),_,_,rfl,rfl,_,rfl,ifF (by rw[Ag]; omega) ?_⟩
  refine ⟨_,rfl,a,rfl,⟨_,SqT.of ha⟩,Dc (K:=K) (xs:=nats row) (λi zs H2=>H2=H/\zs=(RQ i true).map V.bl) ⟨rfl,rfl⟩ (λi zs H2 _ ⟨e,_⟩=>SqT.of (e▸ha)) ?_ ?_⟩
  ·rintro i v zs H2 N hi ⟨rfl,rfl⟩ nx
   obtain ⟨x,hx,rfl⟩:=L2.AW hi
   have hxp:=O.lt x (Rf hx)
   have hil:=(J3.mp hx).1
   refine ⟨Weak.set (by intro v z; cases z),⟨_,rfl,_,rfl,_,_,rfl,by omega,by omega,by rw[J0,Wa]; exact Rn (show i<=6 by omega) (by decide),nx _ _ ⟨rfl,?_⟩⟩⟩
   rw[Wh,Rp]
   rfl
  ·rintro zs H2 ⟨rfl,rfl⟩
   refine ⟨by rw[J0,Wa,Ag]; exact J6 hl6 (by decide),λr hr'=>?_⟩
   have w1:=Ac (o:=.lst ((RQ (nats row).length true).map V.bl)) hr'
   refine ⟨r,_,rfl,SqL.of Aa,_,rfl,?_⟩
   rw[rep_true]
   refine iteF ?_
   have hlast:atI (nats row) (-1)=some (.int 1):=by
    have h1:=List.dropLast_concat_getLast (l:=row) (λz=>by rw[z]at hl2; simp at hl2)
    have h2:=O.top
    rw[J9,J7 (show row.length - 1 < row.length by omega)]at h2
    have h3:row.getLast (λz=>by rw[z]at hl2; simp at hl2)=1:=by rw[List.getLast_eq_getElem]; exact h2
    rw[<- h1,AE,atI_last,h3]
    rfl
   refine ⟨_,rfl,_,rfl,a,_,-1,.int 1,rfl,rfl,SqT.of (w1 _ _ ha),hlast,rfl,_,rfl,iteF (q _ w1)⟩
theorem not_wholeT {n c:Nat} (h:c < n):¬ (HT.sIx n 0 (some (((c:Nat):Int) + 1))=0/\HT.sIx n n none=n):=by
 rintro ⟨h1,_⟩
 rw[show ((c:Nat):Int) + 1=((c + 1:Nat):Int) by omega,HT.sIx_nat]at h1
 omega
def Km:Sp:=λvs H Q _=>∃ (a:Addr) (p:Nat) (row:List Nat),vs=[.int ((p:Nat):Int),.ref a]/\H a=some (.tup (nats row))/\FOk p row/\∀ H',Same H H'->Q (.int ((p ^ (row.length - 1):Nat):Int)) H'
theorem scSizeWithin:FnScope ["p", "row", "many", "digit"] ["p", "row"] (Ae Ct):=⟨rfl,rfl,rfl,by decide +kernel,rfl,by decide +kernel,by decide +kernel⟩
theorem ok_size {f:Addr} {fd:Qh} {t32:Tok} (F:Fun K "size_within" "size_within" Ct f fd) (m32:mg "MOST_NUMBERS"=some (.int 32 t32)):FnOk P w K mg base CX0 1 f fd ["p", "row"] Km:=by
 refine F.okQ scSizeWithin (λvs H Q E h=>?_) (λcdv A outer s H vs Q E hr h=>?_)
 ·obtain ⟨a,p,row,rfl,_⟩:=h
  rfl
 ·obtain ⟨a,p,row,rfl,ha,O,q⟩:=h
  have hp2:=O.p2
  have hl2:=O.l2
  have hl6:=O.l6
  refine ⟨_,(Ad (An (i:=2) scSizeWithin.nd rfl (Ro rfl) Af)
   (Ad (AJ PassesOwn.never rfl (DV (BB Ij (qv 1) (BI Af) CG)) (Ai (i:=3) scSizeWithin.nd rfl (Ro rfl))
    (Ad (An (i:=2) scSizeWithin.nd rfl (Ro rfl) (Aq Bd (qv 2) (qv 0)))
    (Ah (Bb (Ap Ec (qv 2) (qe_glob (v:=.int 32) rfl m32 ⟨t32,rfl⟩) (Az _)) Bh AA))))
   (Ah (Ax (qv 2))))),?_⟩
  have hnw:¬ (HT.sIx (nats row).length 0 (some 1)=0/\HT.sIx (nats row).length (nats row).length none=(nats row).length):=by
   rw[Ag]
   exact not_wholeT (c:=0) (by omega)
  refine ⟨_,rfl,_,rfl,a,_,rfl,SqT.of ha,hnw,λu hu=>?_⟩
  have hcut:cutV (nats row) (some 1) none=(nats row).drop 1:=FK (k:=1) (by rw[Ag]; omega)
  have hcl:(cutV (nats row) (some 1) none).length=row.length - 1:=by rw[hcut,Uj,Ag]
  have w1:=Ac (o:=.tup (cutV (nats row) (some 1) none)) hu
  have hu1:(upd H u (.tup (cutV (nats row) (some 1) none))) u=some (.tup (cutV (nats row) (some 1) none)):=Aa
  generalize upd H u (.tup (cutV (nats row) (some 1) none))=H1 at w1 hu1 ⊢
  refine ⟨u,rfl,⟨_,SqT.of hu1⟩,Hn (K:=K) (a:=u) (xs:=cutV (nats row) (some 1) none) (λi σ H2=>H2=H1/\i<=row.length - 1/\∃ x3,σ=[some (.int ((p:Nat):Int)),some (.ref a),some (.int ((p ^ i:Nat):Int)),x3]) ⟨rfl,by omega,none,by rw[W4]; rfl⟩ (λi σ H2 _ ⟨e,_⟩=>SqT.of (e▸hu1)) ?_ ?_⟩
  ·rintro i v σ H2 hi ⟨rfl,hi',x3,rfl⟩
   have hil:=(J3.mp hi).1
   rw[hcl]at hil
   have h32:p ^ (i + 1)<=32:=J6 (Uq (by omega) (show i + 1<=row.length - 1 by omega)) O.few
   have h32':p ^ i<=32:=J6 (Uq (by omega) (show i<=row.length - 1 by omega)) O.few
   have hps:((p ^ i:Nat):Int) * ((p:Nat):Int)=((p ^ (i + 1):Nat):Int):=by
    rw[RV]
    simp
   refine ⟨_,rfl,_,rfl,_,_,rfl,rfl,.inl ⟨by omega,by omega⟩,_,rfl,_,_,rfl,rfl,_,rfl,?_⟩
   rw[hps]
   exact ifF (by omega) ⟨rfl,by omega,_,rfl⟩
  ·rintro σ H2 ⟨rfl,hi',x3,rfl⟩
   rw[hcl]
   exact ⟨_,rfl,q _ w1⟩
def spMP:Sp:=λvs H Q _=>∃ p:Nat,vs=[.int ((p:Nat):Int)]/\p<=31/\EM.IsPr p/\∀ H',Same H H'->Q .non H'
theorem scMustBePrime:FnScope ["p"] ["p"] (Ae BY):=⟨rfl,rfl,rfl,by decide +kernel,rfl,by decide +kernel,by decide +kernel⟩
theorem ok_mp {f:Addr} {fd:Qh} (F:Fun K "must_be_prime" "must_be_prime" BY f fd) (pIsPrime:Pm P w K mg base CX0 5 "is_prime" ["p"] ED):FnOk P w K mg base CX0 6 f fd ["p"] spMP:=by
 refine F.okQ scMustBePrime (λvs H Q E h=>?_) (λcdv A outer s H vs Q E hr h=>?_)
 ·obtain ⟨p,rfl,_⟩:=h
  rfl
 ·obtain ⟨p,rfl,hp31,hpr,q⟩:=h
  refine ⟨_,(Ah (Bb (CD (CA (Aj pIsPrime hr rfl Av (qac (qv 0) Ab)))) Bh AA)),?_⟩
  refine ⟨_,rfl,_,rfl,by omega,λb H' s' hb=>⟨b,rfl,?_⟩⟩
  have:b=true:=hb.mpr ⟨p,rfl,hpr⟩
  subst this
  exact iteF (q _ s')
def LM:Sp:=λvs H Q _=>∃ (a:Addr) (p:Nat) (row:List Nat),vs=[.int ((p:Nat):Int),.ref a]/\H a=some (.tup (nats row))/\FOk p row/\∀ H',Same H H'->Q .non H'
theorem scMustBeNoProduct:FnScope ["p", "row", "factor"] ["p", "row"] (Ae Bl):=⟨rfl,rfl,rfl,by decide +kernel,rfl,by decide +kernel,by decide +kernel⟩
theorem ok_mno {f:Addr} {fd:Qh} (F:Fun K "must_be_no_product" "must_be_no_product" Bl f fd) (pRowFactor:Pm P w K mg base CX0 3 "row_factor" ["p", "row"] spDv):FnOk P w K mg base CX0 4 f fd ["p", "row"] LM:=by
 refine F.okQ scMustBeNoProduct (λvs H Q E h=>?_) (λcdv A outer s H vs Q E hr h=>?_)
 ·obtain ⟨a,p,row,rfl,_⟩:=h
  rfl
 ·obtain ⟨a,p,row,rfl,ha,O,q⟩:=h
  have hl6:=O.l6
  have hp31:=O.p31
  refine ⟨_,(Ad (An (i:=2) scMustBeNoProduct.nd rfl (Ro rfl) (Aj pRowFactor hr rfl Av (qac (qv 0) (qac (qv 1) Ab))))
   (Ah (Bb (Ap DF (qv 2) Cz (Az _)) Bh AA))),?_⟩
  refine ⟨_,rfl,_,rfl,a,p,row,rfl,ha,O.p2,hp31,by omega,λx hx=>by have:=O.lt x hx; omega,λv o H' s' ho hv=>?_⟩
  cases o with
  | some b=>exact absurd O.no ho.sides
  | none=>
   have:v=.non:=hv
   subst this
   exact ⟨_,rfl,rfl,_,rfl,iteF (q _ s')⟩
structure FieldK (K:J4) (C:Addr):Prop where
 cl:Cls K C
 a1:NoAttr K C "many"
 a2:NoAttr K C "prime"
 a3:NoAttr K C "row"
def fldF (n p:Nat) (r:Addr):List (Str×V):=putF "row" (.ref r) (putF "prime" (.int ((p:Nat):Int)) (putF "many" (.int ((n:Nat):Int)) []))
theorem IQ (n p:Nat) (r:Addr):(fldF n p r).lookup ("many":Str)=some (.int ((n:Nat):Int)):=by
 unfold fldF
 rw[AV,if_neg (by decide +kernel),AV,if_neg (by decide +kernel),AV,if_pos rfl]
theorem Cn (n p:Nat) (r:Addr):(fldF n p r).lookup ("prime":Str)=some (.int ((p:Nat):Int)):=by
 unfold fldF
 rw[AV,if_neg (by decide +kernel),AV,if_pos rfl]
theorem fld_row (n p:Nat) (r:Addr):(fldF n p r).lookup ("row":Str)=some (.ref r):=by
 unfold fldF
 rw[AV,if_pos rfl]
theorem Co (n p:Nat) (r:Addr) {m:Str} (h1:¬ m="row") (h2:¬ m="prime") (h3:¬ m="many"):(fldF n p r).lookup m=none:=by
 unfold fldF
 rw[AV,if_neg h1,AV,if_neg h2,AV,if_neg h3]
 rfl
def FieldAt (C:Addr) (H:Hp) (a:Addr) (p:Nat) (row:List Nat):Prop:=∃ dx r,H a=some (.ins C dx (fldF (p ^ (row.length - 1)) p r))/\H r=some (.tup (nats row))
theorem FieldAt.sm {C:Addr} {H H':Hp} (s:Same H H') {a:Addr} {p:Nat} {row:List Nat} (h:FieldAt C H a p row):FieldAt C H' a p row:=by
 obtain ⟨dx,r,h1,h2⟩:=h
 exact ⟨dx,r,s _ _ h1,s _ _ h2⟩
def Kn (C:Addr):Sp:=λvs H Q _=>∃ (x dx r:Addr) (p:Nat) (row:List Nat) (H0:Hp),vs=[.ref x,.int ((p:Nat):Int),.ref r]/\H0 x=none/\H=upd H0 x (.ins C dx [])/\H0 r=some (.tup (nats row))/\FOk p row/\∀ H',Same H0 H'->FieldAt C H' x p row->Q .non H'
theorem scMInit:FnScope ["self", "p", "row"] ["self", "p", "row"] (Ae Fu):=⟨rfl,rfl,rfl,by decide +kernel,rfl,by decide +kernel,by decide +kernel⟩
theorem ok_init {f:Addr} {fd:Qh} (F:Fun K "__init__" "Field.__init__" Fu f fd) (Z:FieldK K C) (pMRow:Pm P w K mg base CX0 3 "must_be_row" ["p", "row"] Kl) (pSize:Pm P w K mg base CX0 1 "size_within" ["p", "row"] Km) (pMP:Pm P w K mg base CX0 6 "must_be_prime" ["p"] spMP) (pMNo:Pm P w K mg base CX0 4 "must_be_no_product" ["p", "row"] LM):FnOk P w K mg base CX0 7 f fd ["self", "p", "row"] (Kn C):=by
 refine F.okQ scMInit (λvs H Q E h=>?_) (λcdv A outer s H vs Q E hr6 h=>?_)
 ·obtain ⟨x,dx,r,p,row,H0,rfl,_⟩:=h
  rfl
 ·obtain ⟨x,dx,r,p,row,H0,rfl,hx0,rfl,hr0,O,q⟩:=h
  have hr1:=hr6.mono (show 1<=6 by decide)
  have hr3:=hr6.mono (show 3<=6 by decide)
  have hr4:=hr6.mono (show 4<=6 by decide)
  refine ⟨_,(Ad (AK (Aj pMRow hr3 rfl Av (qac (qv 1) (qac (qv 2) Ab)))) (Ad (JF (qv 0) (Aj pSize hr1 rfl Av (qac (qv 1) (qac (qv 2) Ab))) rfl)
   (Ad (AK (Aj pMP hr6 rfl Av (qac (qv 1) Ab))) (Ad (AK (Aj pMNo hr4 rfl Av (qac (qv 1) (qac (qv 2) Ab))))
   (Ad (JF (qv 0) (qv 1) rfl) (Ah (JF (qv 0) (qv 2) rfl))))))),?_⟩
  have w0:=Ac (o:=.ins C dx []) hx0
  have hx:(upd H0 x (.ins C dx [])) x=some (.ins C dx []):=Aa
  generalize upd H0 x (.ins C dx [])=H1 at w0 hx ⊢
  refine ⟨_,rfl,_,rfl,r,p,row,rfl,w0 _ _ hr0,O,λH2 s2=>?_⟩
  have s02:=w0.trans s2
  refine ⟨_,rfl,_,rfl,r,p,row,rfl,s02 _ _ hr0,O,λH3 s3=>?_⟩
  have s03:=s02.trans s3
  refine ⟨_,rfl,x,C,dx,[],rfl,(s2.trans s3) _ _ hx,Z.cl,Z.a1,by decide,?_⟩
  have t4:Same H0 (upd H3 x (.ins C dx (putF "many" (.int ((p ^ (row.length - 1):Nat):Int)) []))):=AG s03 hx0
  have hx4:(upd H3 x (.ins C dx (putF "many" (.int ((p ^ (row.length - 1):Nat):Int)) []))) x=some (.ins C dx (putF "many" (.int ((p ^ (row.length - 1):Nat):Int)) [])):=Aa
  generalize upd H3 x (.ins C dx (putF "many" (.int ((p ^ (row.length - 1):Nat):Int)) []))=H4 at t4 hx4 ⊢
  refine ⟨_,rfl,p,rfl,O.p31,O.pr,λH5 s5=>?_⟩
  refine ⟨_,rfl,_,rfl,r,p,row,rfl,(t4.trans s5) _ _ hr0,O,λH6 s6=>?_⟩
  have t6:=t4.trans (s5.trans s6)
  refine ⟨_,rfl,_,rfl,x,C,dx,_,rfl,(s5.trans s6) _ _ hx4,Z.cl,Z.a2,Rn (BO ..) (by decide),?_⟩
  refine ⟨_,rfl,_,rfl,x,C,dx,_,rfl,Aa,Z.cl,Z.a3,Rn (J6 (BO ..) (Yh (BO ..))) (by decide),?_⟩
  exact q _ (AG (AG t6 hx0) hx0) ⟨dx,r,Aa,(AG (AG t6 hx0) hx0) _ _ hr0⟩
def Dh (C:Addr):Sp:=λvs H Q _=>∃ (a:Addr) (p:Nat) (row:List Nat),vs=[.ref a]/\FieldAt C H a p row/\Q (.int ((p ^ (row.length - 1):Nat):Int)) H
theorem scMSize:FnScope ["self"] ["self"] (Ae Fv):=⟨rfl,rfl,rfl,by decide +kernel,rfl,by decide +kernel,by decide +kernel⟩
theorem ok_sizeM {f:Addr} {fd:Qh} (F:Fun K "size" "Field.size" Fv f fd) (Z:FieldK K C):FnOk P w K mg base CX0 1 f fd ["self"] (Dh C):=by
 refine F.okQ scMSize (λvs H Q E h=>?_) (λcdv A outer s H vs Q E hr h=>?_)
 ·obtain ⟨a,p,row,rfl,_⟩:=h
  rfl
 ·obtain ⟨a,p,row,rfl,⟨dx,r,ha,hr'⟩,q⟩:=h
  refine ⟨_,(Ah (Ax (Dn (qv 0) rfl))),?_⟩
  exact ⟨_,rfl,a,C,dx,_,_,rfl,ha,Z.cl,Z.a1,IQ ..,q⟩
def IR (C:Addr):Sp:=λvs H Q _=>∃ (a:Addr) (p x:Nat) (row:List Nat),vs=[.ref a,.int ((x:Nat):Int)]/\FieldAt C H a p row/\x < p ^ (row.length - 1)/\Q .non H
theorem scMMustHave:FnScope ["self", "thing"] ["self", "thing"] (Ae BN):=⟨rfl,rfl,rfl,by decide +kernel,rfl,by decide +kernel,by decide +kernel⟩
theorem ok_have {f:Addr} {fd:Qh} (F:Fun K "must_have" "Field.must_have" BN f fd) (Z:FieldK K C) (pIsBelow:Pm P w K mg base CX0 2 "is_below" ["thing", "many"] FY):FnOk P w K mg base CX0 3 f fd ["self", "thing"] (IR C):=by
 refine F.okQ scMMustHave (λvs H Q E h=>?_) (λcdv A outer s H vs Q E hr h=>?_)
 ·obtain ⟨a,p,x,row,rfl,_⟩:=h
  rfl
 ·obtain ⟨a,p,x,row,rfl,⟨dx,r,ha,hr'⟩,hx,q⟩:=h
  refine ⟨_,(Ah (Bb (CD (CA (Aj pIsBelow hr rfl Av (qac (qv 1) (qac (Dn (qv 0) rfl) Ab))))) Bh AA)),?_⟩
  exact ⟨_,rfl,_,rfl,a,C,dx,_,_,rfl,ha,Z.cl,Z.a1,IQ ..,_,_,rfl,by omega,by omega,true,rfl,iteF q⟩
theorem Fy {p:Nat} (hp:1<=p) (one other:List Nat) (i:Nat):(BL p one other).getD i 0 < p:=by
 rcases UL i (BL p one other).length with z | z
 ·rw[Cb z]
  obtain ⟨k,_,e⟩:=RB.mp (show (BL p one other)[i]∈(J1 (one.length + other.length)).map λk=>(csL one other k one.length).sum % p from Uk z)
  rw[<- e]
  exact UT _ hp
 ·rw[Bc z]
  exact hp
theorem bsI_trim (l:List Nat) (s i:Nat):bsI (AN l) s i=bsI l s i:=by
 unfold bsI
 rw[HK]
theorem conv_trim {p:Nat} (hp:1<=p) (A B:List Nat):AN (BL p (AN A) (AN B))=AN (BL p A B):=by
 refine trim_ext λi=>Cg.eq (p:=p) ?_ (Fy hp _ _ i) (Fy hp _ _ i)
 refine (Kf (p:=p) (AN A) (AN B) i).trans (Cg.trans (Cg.of_eq ?_) (Kf (p:=p) A B i).symm)
 have h1:(AN A).length<=A.length:=Gb A
 have h2:=DQ (n:=(AN A).length) (f:=λj=>(((AN A).getD j 0:Nat):Int) * bsI (AN B) j i) (λj hj=>by rw[Bc hj]; simp) (A.length - (AN A).length)
 rw[show (AN A).length + (A.length - (AN A).length)=A.length by omega]at h2
 rw[<- h2]
 refine BA λj _=>?_
 rw[HK,bsI_trim]
def tmL (p:Nat) (row:List Nat) (a b:Nat):List Nat:=AN (Cu p row (AN (BL p (digN p (row.length - 1) a) (digN p (row.length - 1) b))))
def tmV (p:Nat) (row:List Nat) (a b:Nat):Nat:=numL p (tmL p row a b)
theorem IS {p:Nat} {row:List Nat} (O:FOk p row) (a b:Nat):(tmL p row a b).length<=row.length - 1/\∀ x∈tmL p row a b,x < p:=by
 have hl2:=O.l2
 have hl6:=O.l6
 have hp:1<=p:=J6 (by decide) O.p2
 obtain ⟨h1,h2,_⟩:=restF_facts (p:=p) (b:=row) (l:=AN (BL p (digN p (row.length - 1) a) (digN p (row.length - 1) b))) (d:=row.length - 1) hp (by omega) (by omega) O.top (J6 (Kh ..) (by rw[Bm,Bm]; omega)) (Kg hp _ _)
 exact ⟨J6 (Gb _) h1,λx hx=>h2 x (Ga hx)⟩
theorem MD {p:Nat} {row:List Nat} (O:FOk p row) (a b:Nat):tmV p row a b < p ^ (row.length - 1):=by
 obtain ⟨h1,h2⟩:=IS O a b
 have hp:1<=p:=J6 (by decide) O.p2
 exact Rb (Ge hp h2) (Uq hp h1)
def plV (p:Nat) (row:List Nat) (a b:Nat):Nat:=joinV p 1 (row.length - 1) a b
theorem pl_lt {p:Nat} {row:List Nat} (O:FOk p row) (a b:Nat):plV p row a b < p ^ (row.length - 1):=joinV_lt (J6 (by decide) O.p2)
def Hf (C:Addr) (g:Nat->List Nat->Nat->Nat->Nat):Sp:=λvs H Q _=>∃ (f:Addr) (p a b:Nat) (row:List Nat),vs=[.ref f,.int ((a:Nat):Int),.int ((b:Nat):Int)]/\FieldAt C H f p row/\FOk p row/\a < p ^ (row.length - 1)/\b < p ^ (row.length - 1)/\∀ H',Same H H'->Q (.int ((g p row a b:Nat):Int)) H'
theorem scMPlus:FnScope ["self", "a", "b"] ["self", "a", "b"] (Ae Fw):=⟨rfl,rfl,rfl,by decide +kernel,rfl,by decide +kernel,by decide +kernel⟩
theorem ok_plus {f:Addr} {fd:Qh} (F:Fun K "plus" "Field.plus" Fw f fd) (Z:FieldK K C) (pHave:Mp P w K mg base CX0 3 C "must_have" ["self", "thing"] (IR C)) (pJoined:Pm P w K mg base CX0 1 "joined" ["p", "a", "b", "sign"] Kk):FnOk P w K mg base CX0 4 f fd ["self", "a", "b"] (Hf C plV):=by
 refine F.okQ scMPlus (λvs H Q E h=>?_) (λcdv A outer s H vs Q E hr3 h=>?_)
 ·obtain ⟨f,p,a,b,row,rfl,_⟩:=h
  rfl
 ·obtain ⟨f,p,a,b,row,rfl,hF,O,ha,hb,q⟩:=h
  have hr1:=hr3.mono (show 1<=3 by decide)
  obtain ⟨dx,r,hf,hr'⟩:=id hF
  have hl6:=O.l6
  have hp2:=O.p2
  refine ⟨_,(Ad (AK (BX pHave Z.cl hr3 (qv 0) Av (qac (qv 1) Ab))) (Ad (AK (BX pHave Z.cl hr3 (qv 0) Av (qac (qv 2) Ab)))
   (Ah (Ax (Aj pJoined hr1 rfl Av (qac (Dn (qv 0) rfl) (qac (qv 1) (qac (qv 2) (qac Af Ab))))))))),?_⟩
  refine ⟨_,rfl,f,dx,_,rfl,hf,Co _ _ _ (by decide +kernel) (by decide +kernel) (by decide +kernel),_,rfl,f,p,a,row,rfl,hF,ha,?_⟩
  refine ⟨_,rfl,f,dx,_,rfl,hf,Co _ _ _ (by decide +kernel) (by decide +kernel) (by decide +kernel),_,rfl,f,p,b,row,rfl,hF,hb,?_⟩
  refine ⟨_,rfl,f,C,dx,_,_,rfl,hf,Z.cl,Z.a2,Cn ..,_,rfl,_,rfl,p,row.length - 1,a,b,1,rfl,hp2,O.p31,by omega,ha,hb,.inl rfl,q _ (Same.refl _)⟩
theorem scMTimes:FnScope ["self", "a", "b", "product"] ["self", "a", "b"] (Ae DM):=⟨rfl,rfl,rfl,by decide +kernel,rfl,by decide +kernel,by decide +kernel⟩
theorem ok_timesM {f:Addr} {fd:Qh} (F:Fun K "times" "Field.times" DM f fd) (Z:FieldK K C) (pHave:Mp P w K mg base CX0 3 C "must_have" ["self", "thing"] (IR C)) (pDigitsOf:Pm P w K mg base CX0 1 "digits_of" ["p", "number"] Kj) (pRowTimes:Pm P w K mg base CX0 2 "row_times" ["p", "one", "other"] Ke) (pRowRest:Pm P w K mg base CX0 2 "row_rest" ["p", "one", "by"] IL) (pNumberOf:Pm P w K mg base CX0 1 "number_of" ["p", "digits"] LL):FnOk P w K mg base CX0 4 f fd ["self", "a", "b"] (Hf C tmV):=by
 refine F.okQ scMTimes (λvs H Q E h=>?_) (λcdv A outer s H vs Q E hr3 h=>?_)
 ·obtain ⟨f,p,a,b,row,rfl,_⟩:=h
  rfl
 ·obtain ⟨f,p,a,b,row,rfl,hF,O,ha,hb,q⟩:=h
  have hr1:=hr3.mono (show 1<=3 by decide)
  have hr2:=hr3.mono (show 2<=3 by decide)
  obtain ⟨dx,r,hf,hr'⟩:=id hF
  have hl6:=O.l6
  have hl2:=O.l2
  have hp2:=O.p2
  have hp31:=O.p31
  refine ⟨_,(Ad (AK (BX pHave Z.cl hr3 (qv 0) Av (qac (qv 1) Ab))) (Ad (AK (BX pHave Z.cl hr3 (qv 0) Av (qac (qv 2) Ab)))
   (Ad (An (i:=3) scMTimes.nd rfl (Ro rfl) (Aj pRowTimes hr2 rfl Av (qac (Dn (qv 0) rfl) (qac (Aj pDigitsOf hr1 rfl Av (qac (Dn (qv 0) rfl) (qac (qv 1) Ab))) (qac (Aj pDigitsOf hr1 rfl Av (qac (Dn (qv 0) rfl) (qac (qv 2) Ab))) Ab)))))
   (Ah (Ax (Aj pNumberOf hr1 rfl Av (qac (Dn (qv 0) rfl) (qac (Aj pRowRest hr2 rfl Av (qac (Dn (qv 0) rfl) (qac (qv 3) (qac (Dn (qv 0) rfl) Ab)))) Ab)))))))),?_⟩
  refine ⟨_,rfl,f,dx,_,rfl,hf,Co _ _ _ (by decide +kernel) (by decide +kernel) (by decide +kernel),_,rfl,f,p,a,row,rfl,hF,ha,?_⟩
  refine ⟨_,rfl,f,dx,_,rfl,hf,Co _ _ _ (by decide +kernel) (by decide +kernel) (by decide +kernel),_,rfl,f,p,b,row,rfl,hF,hb,?_⟩
  refine ⟨_,rfl,f,C,dx,_,_,rfl,hf,Z.cl,Z.a2,Cn ..,?_⟩
  refine ⟨_,rfl,f,C,dx,_,_,rfl,hf,Z.cl,Z.a2,Cn ..,_,rfl,p,a,row.length - 1,rfl,hp2,hp31,by omega,ha,λt1 H1 ht1 s1 h1=>?_⟩
  refine ⟨_,rfl,f,C,dx,_,_,rfl,s1 _ _ hf,Z.cl,Z.a2,Cn ..,_,rfl,p,b,row.length - 1,rfl,hp2,hp31,by omega,hb,λt2 H2 ht2 s2 h2=>?_⟩
  have dl:∀ n,(AN (digN p (row.length - 1) n)).length<=5:=λn=>J6 (Gb _) (by rw[Bm]; omega)
  have dlt:∀ n,∀ x∈AN (digN p (row.length - 1) n),x < 32:=λn x hx=>UF (HL (by omega) _ _ x (Ga hx)) (by omega)
  refine ⟨t1,t2,p,_,_,rfl,s2 _ _ h1,h2,by omega,hp31,J6 (dl a) (by decide),J6 (dl b) (by decide),dlt a,dlt b,λt3 H3 ht3 s3 h3=>?_⟩
  rw[conv_trim (by omega)]at h3
  have s13:=s1.trans (s2.trans s3)
  have hpl:∀ x∈AN (BL p (digN p (row.length - 1) a) (digN p (row.length - 1) b)),x < p:=Kg (by omega) _ _
  refine ⟨_,rfl,f,C,dx,_,_,rfl,s13 _ _ hf,Z.cl,Z.a2,Cn ..,?_⟩
  refine ⟨_,rfl,f,C,dx,_,_,rfl,s13 _ _ hf,Z.cl,Z.a2,Cn ..,_,rfl,_,rfl,f,C,dx,_,_,rfl,s13 _ _ hf,Z.cl,Z.a3,fld_row ..,?_⟩
  refine ⟨t3,r,p,_,row,rfl,h3,s13 _ _ hr',by omega,hp31,J6 (Kh ..) (by rw[Bm,Bm]; omega),by omega,by omega,λx hx=>by have:=hpl x hx; omega,λt4 H4 ht4 s4 h4=>?_⟩
  obtain ⟨f1,f2⟩:=IS O a b
  exact ⟨t4,p,_,rfl,h4,by omega,hp31,J6 f1 (by omega),f2,q _ (s13.trans s4)⟩
def nF (p:Nat) (row:List Nat):Nat:=p ^ (row.length - 1)
theorem IT {α:Type} (f:Nat->α) (i:Nat):(J1 (i + 1)).map f=(J1 i).map f++[f i]:=by rw[Rs,Rp]; rfl
def PrL:List Nat:=[2,2,3,2,3,5,7,2,11,13,17,19,23,29,31,5]
theorem Ko:∀ p∈PrL,2<=p/\p<=31/\∀ d,d < 32->d ∣ p->d=1\/d=p:=by decide +kernel
theorem prL_pr {p:Nat} (hp:p∈PrL):EM.IsPr p:=by
 obtain ⟨h1,h2,h3⟩:=Ko p hp
 exact ⟨h1,λd hd=>h3 d (by have:=ZA (by omega) hd; omega) hd⟩
theorem Fz (p x:Nat):Dv p (fac p 1 x) none:=λs y h1 h2 _=>by
 rw[CT]at h2
 omega
theorem dv_of {p n x:Nat} (h:((J1 (n / 2)).all λs=>(J1 (p ^ (s + 1))).all λy=>!(AN (Cu p (fac p (s + 1) y) (fac p n x))).isEmpty)=true):Dv p (fac p n x) none:=λs y h1 h3 h4 z=>by
 rw[CT]at h3
 rw[Ue]at h
 have h5:=h (s - 1) (Ra.mpr (by omega))
 rw[Ue]at h5
 rw[show s - 1 + 1=s by omega]at h5
 have h6:=h5 y (Ra.mpr h4)
 rw[z]at h6
 simp at h6
theorem irr22:Dv 2 (fac 2 2 3) none:=dv_of (by decide +kernel)
theorem Fb {p n x:Nat} (hp:p∈PrL) (h1:1<=n) (h5:n<=5) (hf:p ^ n<=32) (hd:Dv p (fac p n x) none):FOk p (fac p n x):=by
 obtain ⟨hp2,hp31,_⟩:=Ko p hp
 refine ⟨hp2,hp31,prL_pr hp,by rw[CT]; omega,by rw[CT]; omega,λy hy=>?_,?_,by rw[CT]; exact hf,hd⟩
 ·unfold fac at hy
  rcases RU.mp hy with z | z
  ·exact HL (by omega) _ _ y z
  ·rw[Rh.mp z]
   omega
 ·rw[CT,YE]
  unfold fac
  rw[J9,Up (by rw[Bm]; exact J8 _),Bm,WN]
  rfl
def Bo (q:Nat):List (List Nat):=([[0,0,1]]++(J1 q).map λz=>[0,1,z])++(J1 (q * q)).map λj=>[1,j / q,j % q]
def nT (q:Nat):Nat:=1 + q + q * q
theorem Cv (q:Nat):(Bo q).length=nT q:=by
 unfold Bo nT
 simp
 omega
theorem triples_lt {q:Nat} (hq:2<=q) {t:List Nat} (h:t∈Bo q):∃ a b c,t=[a,b,c]/\a < q/\b < q/\c < q:=by
 unfold Bo at h
 rcases RU.mp h with h | h
 ·rcases RU.mp h with h | h
  ·exact ⟨0,0,1,Rh.mp h,by omega,by omega,by omega⟩
  ·obtain ⟨z,hz,rfl⟩:=RB.mp h
   have:=Ra.mp hz
   exact ⟨0,1,z,rfl,by omega,by omega,this⟩
 ·obtain ⟨j,hj,rfl⟩:=RB.mp h
  have hj':=Ra.mp hj
  exact ⟨1,j / q,j % q,rfl,by omega,Wk hj',UT _ (by omega)⟩
theorem tri_at {q y z:Nat} (hz:z < q):[1,(y * q + z) / q,(y * q + z) % q]=[1,y,z]:=by
 have h0:0 < q:=by omega
 rw[R4,Ym h0,Uy hz,W5,Za,Wt hz]
theorem Ly {H0 H2:Hp} {l u:Addr} {ws:List V} {bs:List (List Nat)} {b:List Nat} {zs:List V} (hl:H0 l=none) (s2:Same H0 H2) (hl2:H2 l=some (.lst ws)) (hT:TpAt H2 ws bs) (hu:H2 u=none) (hz:zs=nats b) :
  Same H0 (upd (upd H2 u (.tup zs)) l (.lst (ws++[.ref u])))/\(upd (upd H2 u (.tup zs)) l (.lst (ws++[.ref u]))) l=some (.lst (ws++[.ref u]))/\TpAt (upd (upd H2 u (.tup zs)) l (.lst (ws++[.ref u]))) (ws++[.ref u]) (bs++[b]):=by
 subst hz
 have w:=Ac (o:=.tup (nats b)) hu
 exact ⟨AG (s2.trans w) hl,Aa,EU (w _ _ hl2) (TpAt.snoc Aa (hT.sm w))⟩
def LN:Sp:=λvs H Q _=>∃ q:Nat,vs=[.int ((q:Nat):Int)]/\q<=32/\∀ (l:Addr) (ws:List V) (H':Hp),Same H H'->H' l=some (.lst ws)->TpAt H' ws (Bo q)->Q (.ref l) H'
theorem scTriplesOf:FnScope ["size", "triples", "z", "y"] ["size"] (Ae Db):=⟨rfl,rfl,rfl,by decide +kernel,rfl,by decide +kernel,by decide +kernel⟩
theorem ok_tri {f:Addr} {fd:Qh} (F:Fun K "triples_of" "triples_of" Db f fd) (T:TxtB mg):FnOk P w K mg base CX0 1 f fd ["size"] LN:=by
 refine F.okQ scTriplesOf (λvs H Q E h=>?_) (λcdv A outer s H vs Q E hr0 h=>?_)
 ·obtain ⟨q,rfl,_⟩:=h
  rfl
 ·obtain ⟨q,rfl,h32,k⟩:=h
  have hqq:q * q<=32 * 32:=R6 h32 h32
  refine ⟨_,(Ad (An (i:=1) scTriplesOf.nd rfl (Ro rfl) (Bw (qac (AI (qac Af (qac Af (qac Af Ab)))) Ab)))
   (Ad (AJ PassesOwn.never rfl (Ar rfl T.range (qac (qv 0) Ab)) (Ai (i:=2) scTriplesOf.nd rfl (Ro rfl))
    (Ah (AK (Df RD RX RW Be (qv 1) (qac (AI (qac Af (qac Af (qac (qv 2) Ab)))) Ab)))))
   (Ad (AJ PassesOwn.never rfl (Ar rfl T.range (qac (qv 0) Ab)) (Ai (i:=3) scTriplesOf.nd rfl (Ro rfl))
    (Ah (AJ PassesOwn.never rfl (Ar rfl T.range (qac (qv 0) Ab)) (Ai (i:=2) scTriplesOf.nd rfl (Ro rfl))
     (Ah (AK (Df RD RX RW Be (qv 1) (qac (AI (qac Af (qac (qv 3) (qac (qv 2) Ab)))) Ab)))))))
   (Ah (Ax (qv 1)))))),?_⟩
  refine ⟨by show 3<=Qe; decide,λt0 ht0=>⟨by show 1<=Qe; decide,λl hl=>?_⟩⟩
  have w0:=Ac (o:=.tup [.int 0,.int 0,.int 1]) ht0
  have hl0:=w0.free hl
  have w1:=Ac (o:=.lst [.ref t0]) hl
  refine ⟨_,rfl,((q:Nat):Int),rfl,by omega,by omega,?_⟩
  rw[Rc]
  refine AM (lo:=0) (n:=q) (λz σ H2=>Same H H2/\∃ (ws:List V) (x2:Option V),σ=[some (.int ((q:Nat):Int)),some (.ref l),x2,none]/\H2 l=some (.lst ws)/\TpAt H2 ws ([[0,0,1]]++(J1 z).map λz=>[0,1,z])) ⟨w0.trans w1,[.ref t0],none,rfl,Aa,(show TpAt _ [.ref t0] [[0,0,1]] from ⟨⟨t0,rfl,w1 _ _ Aa⟩,trivial⟩)⟩ ?_ ?_
  ·rintro z σ H2 hz ⟨s2,ws,x2,rfl,hl2,hT⟩
   rw[RI]
   refine ⟨_,rfl,.inl ⟨rfl,_,SqL.of hl2⟩,_,rfl,by show 3<=Qe; decide,λt ht=>?_⟩
   have hTl:=hT.len
   rw[Rk,J0,J5]at hTl
   obtain ⟨g1,g2,g3⟩:=Ly (b:=[0,1,z]) (zs:=[.int 0,.int 1,.int ((z:Nat):Int)]) hl0 s2 hl2 hT ht rfl
   refine ⟨l,ws,.ref t,rfl,rfl,(Ac ht) _ _ hl2,Rn (show ws.length<=2000 by simp at hTl; omega) (by decide),?_⟩
   refine ⟨g1,ws++[.ref t],some (.int ((z:Nat):Int)),rfl,g2,?_⟩
   rw[IT,<- UC]
   exact g3
  ·rintro σ H2 ⟨s2,ws,x2,rfl,hl2,hT⟩
   refine ⟨_,rfl,((q:Nat):Int),rfl,by omega,by omega,?_⟩
   rw[Rc]
   refine AM (lo:=0) (n:=q) (λy σ H3=>Same H H3/\∃ (ws:List V) (x2 x3:Option V),σ=[some (.int ((q:Nat):Int)),some (.ref l),x2,x3]/\H3 l=some (.lst ws)/\TpAt H3 ws (([[0,0,1]]++(J1 q).map λz=>[0,1,z])++(J1 (y * q)).map λj=>[1,j / q,j % q])) ⟨s2,ws,_,none,rfl,hl2,by rw[WK,List.range_zero,Uf,RJ]; exact hT⟩ ?_ ?_
   ·rintro y σ H3 hy ⟨s3,ws,x2,x3,rfl,hl3,hT3⟩
    rw[RI]
    refine ⟨_,rfl,((q:Nat):Int),rfl,by omega,by omega,?_⟩
    rw[Rc]
    refine AM (lo:=0) (n:=q) (λz σ H4=>Same H H4/\∃ (ws:List V) (x2:Option V),σ=[some (.int ((q:Nat):Int)),some (.ref l),x2,some (.int ((y:Nat):Int))]/\H4 l=some (.lst ws)/\TpAt H4 ws (([[0,0,1]]++(J1 q).map λz=>[0,1,z])++(J1 (y * q + z)).map λj=>[1,j / q,j % q])) ⟨s3,ws,_,rfl,hl3,hT3⟩ ?_ ?_
    ·rintro z σ H4 hz ⟨s4,ws,x2,rfl,hl4,hT4⟩
     rw[RI]
     refine ⟨_,rfl,.inl ⟨rfl,_,SqL.of hl4⟩,_,rfl,_,rfl,by show 3<=Qe; decide,λt ht=>?_⟩
     have hTl:=hT4.len
     rw[Rk,Rk,J0,J0,J5,J5]at hTl
     have hyq:=R9 q (WO hy)
     obtain ⟨g1,g2,g3⟩:=Ly (b:=[1,y,z]) (zs:=[.int 1,.int ((y:Nat):Int),.int ((z:Nat):Int)]) hl0 s4 hl4 hT4 ht rfl
     refine ⟨l,ws,.ref t,rfl,rfl,(Ac ht) _ _ hl4,Rn (show ws.length<=2000 by simp at hTl; omega) (by decide),?_⟩
     refine ⟨g1,ws++[.ref t],some (.int ((z:Nat):Int)),rfl,g2,?_⟩
     rw[show y * q + (z + 1)=y * q + z + 1 by omega,IT,tri_at hz,<- UC]
     exact g3
    ·rintro σ H4 ⟨s4,ws,x2,rfl,hl4,hT4⟩
     exact ⟨s4,ws,_,_,rfl,hl4,by rw[ZP]; exact hT4⟩
   ·rintro σ H3 ⟨s3,ws,x2,x3,rfl,hl3,hT3⟩
    exact ⟨_,rfl,k l ws H3 s3 hl3 hT3⟩
def dotK (p:Nat) (row u v:List Nat):Nat->Nat
 | 0=>0
 | i + 1=>plV p row (dotK p row u v i) (tmV p row (u.getD i 0) (v.getD i 0))
theorem Kp {p:Nat} {row:List Nat} (O:FOk p row):2<=nF p row:=by
 have h2:=O.p2
 have h3:=O.l2
 have:=Uq (show 0 < p by omega) (show 1<=row.length - 1 by omega)
 rw[Z0]at this
 unfold nF
 omega
theorem dotK_lt {p:Nat} {row:List Nat} (O:FOk p row) (u v:List Nat):∀ i,dotK p row u v i < nF p row
 | 0=>by have:=Kp O; show 0 < nF p row; omega
 | i + 1=>pl_lt O _ _
def LO (C:Addr):Sp:=λvs H Q _=>∃ (f a b:Addr) (p:Nat) (row u v:List Nat),vs=[.ref f,.ref a,.ref b]/\FieldAt C H f p row/\FOk p row/\H a=some (.tup (nats u))/\H b=some (.tup (nats v))/\u.length=3/\v.length=3/\(∀ x∈u,x < nF p row)/\(∀ x∈v,x < nF p row)/\∀ H',Same H H'->Q (.int ((dotK p row u v 3:Nat):Int)) H'
theorem scAddedProducts:FnScope ["field", "one", "other", "total", "a", "b"] ["field", "one", "other"] (Ae BC):=⟨rfl,rfl,rfl,by decide +kernel,rfl,by decide +kernel,by decide +kernel⟩
theorem ok_add {f:Addr} {fd:Qh} (F:Fun K "added_products" "added_products" BC f fd) (T:TxtB mg) (Z:FieldK K C) (pPlus:Mp P w K mg base CX0 4 C "plus" ["self", "a", "b"] (Hf C plV)) (pTimes:Mp P w K mg base CX0 4 C "times" ["self", "a", "b"] (Hf C tmV)):FnOk P w K mg base CX0 5 f fd ["field", "one", "other"] (LO C):=by
 refine F.okQ scAddedProducts (λvs H Q E h=>?_) (λcdv A outer s H vs Q E hr4 h=>?_)
 ·obtain ⟨f,a,b,p,row,u,v,rfl,_⟩:=h
  rfl
 ·obtain ⟨f,a,b,p,row,u,v,rfl,hF,O,ha,hb,hu3,hv3,hul,hvl,q⟩:=h
  obtain ⟨dx,r,hf,hr'⟩:=id hF
  refine ⟨_,(Ad (An (i:=3) scAddedProducts.nd rfl (Ro rfl) Af)
   (Ad (AJ PassesOwn.never rfl (qi_zipTT rfl T.zip (qac (qv 1) (qac (qv 2) Ab))) (BV rfl (AC (Ai (i:=4) scAddedProducts.nd rfl (Ro rfl)) (AC (Ai (i:=5) scAddedProducts.nd rfl (Ro rfl)) Bq)))
    (Ah (An (i:=3) scAddedProducts.nd rfl (Ro rfl) (BX pPlus Z.cl hr4 (qv 0) Av (qac (qv 3) (qac (BX pTimes Z.cl hr4 (qv 0) Av (qac (qv 4) (qac (qv 5) Ab))) Ab))))))
   (Ah (Ax (qv 3))))),?_⟩
  refine ⟨_,rfl,_,rfl,a,b,rfl,⟨_,SqT.of ha⟩,⟨_,SqT.of hb⟩,for_zipTT (K:=K) (xs:=nats u) (ys:=nats v) (by rw[Ag,Ag,hu3,hv3]) (λi σ H2=>Same H H2/\∃ x4 x5:Option V,σ=[some (.ref f),some (.ref a),some (.ref b),some (.int ((dotK p row u v i:Nat):Int)),x4,x5]) ⟨Same.refl _,none,none,rfl⟩ (λi σ H2 _ ⟨e,_⟩=>⟨SqT.of (e _ _ ha),SqT.of (e _ _ hb)⟩) ?_ ?_⟩
  ·rintro i x y t σ H2 hx hy ⟨s2,x4,x5,rfl⟩ ht
   obtain ⟨a',hxa,rfl⟩:=L2.AW hx
   obtain ⟨b',hyb,rfl⟩:=L2.AW hy
   have w3:=Ac (o:=.tup [.int ((a':Nat):Int),.int ((b':Nat):Int)]) ht
   have s3:=s2.trans w3
   have e1:u.getD i 0=a':=by rw[J9,hxa]; rfl
   have e2:v.getD i 0=b':=by rw[J9,hyb]; rfl
   refine ⟨t,_,rfl,SqT.of Aa,rfl,_,_,rfl,_,_,rfl,rfl,?_⟩
   refine ⟨_,rfl,f,dx,_,rfl,s3 _ _ hf,Co _ _ _ (by decide +kernel) (by decide +kernel) (by decide +kernel),_,rfl,_,rfl,f,dx,_,rfl,s3 _ _ hf,Co _ _ _ (by decide +kernel) (by decide +kernel) (by decide +kernel),_,rfl,_,rfl,f,p,a',b',row,rfl,hF.sm s3,O,hul _ (Rf hxa),hvl _ (Rf hyb),λH4 s4=>?_⟩
   refine ⟨f,p,dotK p row u v i,tmV p row a' b',row,rfl,hF.sm (s3.trans s4),O,dotK_lt O u v i,MD O a' b',λH5 s5=>⟨s3.trans (s4.trans s5),some (.int ((a':Nat):Int)),some (.int ((b':Nat):Int)),?_⟩⟩
   rw[dotK,e1,e2]
   rfl
  ·rintro σ H2 ⟨s2,x4,x5,rfl⟩
   refine ⟨_,rfl,?_⟩
   rw[Ag,hu3]
   exact q _ s2
def Di (p:Nat) (row u:List Nat) (n:Nat):List Nat:=(J1 n).filter λk=>decide (dotK p row u ((Bo (nF p row)).getD k []) 3=0)
def HP (p:Nat) (row u:List Nat):List Nat:=Di p row u (nT (nF p row))
theorem acrossK_snoc (p:Nat) (row u:List Nat) (i:Nat):Di p row u (i + 1)=Di p row u i++if decide (dotK p row u ((Bo (nF p row)).getD i []) 3=0)=true then [i] else []:=by
 unfold Di
 rw[Rs,R3]
 congr 1
 rw[Us,WX]
theorem FA (p:Nat) (row u:List Nat) (n:Nat):(Di p row u n).length<=n:=J6 (R1 ..) (by rw[J5]; exact J8 _)
def Kq (p:Nat) (row:List Nat):List (List Nat):=(Bo (nF p row)).map λu=>HP p row u
theorem ME {p:Nat} {row:List Nat} (O:FOk p row):nT (nF p row)<=1057:=by
 have h32:nF p row<=32:=O.few
 have:=R6 h32 h32
 unfold nT
 omega
def LP (C:Addr):Sp:=λvs H Q _=>∃ (f t l:Addr) (p:Nat) (row u:List Nat) (ws:List V),vs=[.ref f,.ref t,.ref l]/\FieldAt C H f p row/\FOk p row/\H t=some (.tup (nats u))/\u∈Bo (nF p row)/\H l=some (.lst ws)/\TpAt H ws (Bo (nF p row))/\∀ (r:Addr) (H':Hp),Same H H'->H' r=some (.tup (nats (HP p row u)))->Q (.ref r) H'
theorem scPointsAcross:FnScope ["field", "triple", "triples"] ["field", "triple", "triples"] (Ae Bu):=⟨rfl,rfl,rfl,by decide +kernel,rfl,by decide +kernel,by decide +kernel⟩
theorem tri3 {q:Nat} (hq:2<=q) {t:List Nat} (h:t∈Bo q):t.length=3/\∀ x∈t,x < q:=by
 obtain ⟨a,b,c,rfl,ha,hb,hc⟩:=triples_lt hq h
 refine ⟨rfl,λx hx=>?_⟩
 simp at hx
 omega
theorem ok_acr {f:Addr} {fd:Qh} (F:Fun K "points_across" "points_across" Bu f fd) (T:TxtB mg) (pAdd:Pm P w K mg base CX0 5 "added_products" ["field", "one", "other"] (LO C)):FnOk P w K mg base CX0 6 f fd ["field", "triple", "triples"] (LP C):=by
 refine F.okQ scPointsAcross (λvs H Q E h=>?_) (λcdv A outer s H vs Q E hr5 h=>?_)
 ·obtain ⟨f,t,l,p,row,u,ws,rfl,_⟩:=h
  rfl
 ·obtain ⟨f,t,l,p,row,u,ws,rfl,hF,O,ht,hu,hl,hT,q⟩:=h
  refine ⟨_,(Ah (Ax (AD Ay (by rfl) T.tup (by decide +kernel) (qac (AH (g:=gTup K 2 (Gs (AR 0) (Gs (AR 1) gNil))) (N:=["point", "other", "field", "triple"]) (src:=[none,none,some 0,some 1]) rfl (Al (Ae Bu) ["field", "triple", "triples"] rfl rfl (by decide +kernel) rfl) (EE rfl T.enu (qac (qv 2) Ab)) (λ_ _ _ _ _=>(show QG _ _ (gTup K 2 _) from BV rfl (AC (Ai (i:=0) (show (["point", "other", "field", "triple"]:List Str).Nodup by decide +kernel) rfl (Ro rfl) (R8 rfl)) (AC (Ai (i:=1) (show (["point", "other", "field", "triple"]:List Str).Nodup by decide +kernel) rfl (Ro rfl) (R8 rfl)) Bq)))) (λ_ _ _ _ _=>(BQ (Ap Ju (Aj pAdd hr5 rfl Av (qac (qv 2) (qac (qv 3) (qac (qv 1) Ab)))) Af (Az _)))) (λ_ _ _ _ _=>(qv 0))) Ab)))),?_⟩
  have h2:=Kp O
  have hle:=ME O
  obtain ⟨hu3,hul⟩:=tri3 h2 hu
  have hTl:=hT.len
  rw[Cv]at hTl
  refine ⟨_,rfl,l,rfl,⟨_,SqL.of hl⟩,GO (K:=K) (a:=l) (xs:=ws) (λi zs H2=>Same H H2/\zs=nats (Di p row u i)) ⟨Same.refl _,rfl⟩ (λi zs H2 _ ⟨e,_⟩=>SqL.of (e _ _ hl)) ?_ ?_⟩
  ·rintro i v x zs H2 N hi ⟨s2,rfl⟩ hx nx
   obtain ⟨b,blk,rfl,hbs,hb⟩:=(hT.sm s2).get hi
   have hil:=(J3.mp hi).1
   have w1:=Ac (o:=.tup [.int ((i:Nat):Int),.ref b]) hx
   have s3:=s2.trans w1
   obtain ⟨hb3,hbl⟩:=tri3 h2 (Rf hbs)
   have e:=acrossK_snoc p row u i
   rw[J9,hbs,show (some blk).getD []=blk from rfl]at e
   refine ⟨x,_,rfl,SqT.of Aa,rfl,_,_,rfl,_,_,rfl,rfl,(Weak.set (by intro v z; cases z)).trans (Weak.set (by intro v z; cases z)),?_⟩
   refine ⟨_,rfl,_,rfl,_,rfl,f,t,b,p,row,u,blk,rfl,hF.sm s3,O,s3 _ _ ht,w1 _ _ hb,hu3,hb3,hul,hbl,λH3 s4=>⟨rfl,_,rfl,?_⟩⟩
   by_cases h:dotK p row u blk 3=0
   ·rw[if_pos (decide_eq_true h)]at e
    refine ifT (by rw[h]; rfl) ⟨_,rfl,?_,nx _ _ ⟨s3.trans s4,by rw[e,AE]⟩⟩
    rw[Ag]
    exact Rn (FA p row u i) (Rb (show i < 1057 by omega) (by decide))
   ·rw[if_neg (by simp[h]),RJ]at e
    exact ifF (λz=>h (by have:=V.int.inj z; omega)) (nx _ _ ⟨s3.trans s4,by rw[e]⟩)
  ·rintro zs H2 ⟨s2,rfl⟩
   rw[hTl]
   refine ⟨by rw[Ag]; exact J6 (FA ..) (J6 hle (by decide)),λr hr'=>⟨r,_,rfl,.inl ⟨SqL.of Aa,λt ht=>?_⟩⟩⟩
   have w2:=Ac (o:=.lst (nats (Di p row u (nT (nF p row))))) hr'
   exact q t _ (s2.trans (w2.trans (Ac ht))) Aa
def PlaneQ (p:Nat) (row:List Nat) (H:Hp) (Q:VK):Prop:=∀ (t l:Addr) (ws:List V) (H':Hp),Same H H'->H' t=some (.tup [.int ((nT (nF p row):Nat):Int),.ref l])->H' l=some (.tup ws)->TpAt H' ws (Kq p row)->Q (.ref t) H'
def Fc (C:Addr):Sp:=λvs H Q _=>∃ (f:Addr) (p:Nat) (row:List Nat),vs=[.ref f]/\FieldAt C H f p row/\FOk p row/\PlaneQ p row H Q
theorem scPlaneOf:FnScope ["field", "triples", "blocks"] ["field"] (Ae Dx):=⟨rfl,rfl,rfl,by decide +kernel,rfl,by decide +kernel,by decide +kernel⟩
theorem ok_planeof {f:Addr} {fd:Qh} (F:Fun K "plane_of" "plane_of" Dx f fd) (T:TxtB mg) (Z:FieldK K C) (pSizeM:Mp P w K mg base CX0 1 C "size" ["self"] (Dh C)) (pTri:Pm P w K mg base CX0 1 "triples_of" ["size"] LN) (pAcr:Pm P w K mg base CX0 6 "points_across" ["field", "triple", "triples"] (LP C)):FnOk P w K mg base CX0 7 f fd ["field"] (Fc C):=by
 refine F.okQ scPlaneOf (λvs H Q E h=>?_) (λcdv A outer s H vs Q E hr6 h=>?_)
 ·obtain ⟨f,p,row,rfl,_⟩:=h
  rfl
 ·obtain ⟨f,p,row,rfl,hF,O,q⟩:=h
  have hr1:=hr6.mono (show 1<=6 by decide)
  have h32:nF p row<=32:=O.few
  have hle:=ME O
  obtain ⟨dx,r,hf,hr'⟩:=id hF
  refine ⟨_,(Ad (An (i:=1) scPlaneOf.nd rfl (R8 rfl) (Aj pTri hr1 rfl Av (qac (CJ pSizeM Z.cl hr1 (qv 0) Av) Ab)))
   (Ad (Ce (i:=2) (g:=AR 0) (N:=["triple", "field", "triples"]) (src:=[none,some 0,some 1]) rfl (Al (Ae Dx) ["field", "triples", "blocks"] rfl rfl (by decide +kernel) rfl) (Bz (qv 1)) (λ_ _ _ _ _=>(Ai (i:=0) (show (["triple", "field", "triples"]:List Str).Nodup by decide +kernel) rfl (Ro rfl) (R8 rfl))) (λ_ _ _ _ _=>AQ) (λ_ _ _ _ _=>(Aj pAcr hr6 rfl Av (qac (qv 1) (qac (qv 0) (qac (qv 2) Ab))))) (Ai (i:=2) scPlaneOf.nd rfl (Ro rfl)))
   (Ah (Ax (AI (qac (Am Ak (by rfl) T.len Rr (qac (qv 1) Ab)) (qac (AD Ay (by rfl) T.tup (by decide +kernel) (qac (qv 2) Ab)) Ab))))))),?_⟩
  refine ⟨_,rfl,f,dx,_,rfl,hf,Co _ _ _ (by decide +kernel) (by decide +kernel) (by decide +kernel),f,p,row,rfl,hF,nF p row,rfl,h32,λl ws H1 s1 hl hT=>?_⟩
  have hTl:=hT.len
  rw[Cv]at hTl
  refine ⟨_,rfl,l,rfl,⟨_,SqL.of hl⟩,BE (K:=K) (a:=l) (xs:=ws) (λi zs H2=>Same H1 H2/\TpAt H2 zs (((Bo (nF p row)).take i).map λu=>HP p row u)) ⟨Same.refl _,trivial⟩ (λi zs H2 _ ⟨e,_⟩=>SqL.of (e _ _ hl)) ?_ ?_⟩
  ·rintro i v zs H2 N hi ⟨s2,hz⟩ nx
   obtain ⟨b,u,rfl,hbs,hb⟩:=(hT.sm s2).get hi
   have hzl:=hz.len
   rw[J0,RA]at hzl
   have hil:=(J3.mp hi).1
   refine ⟨Weak.set (by intro v z; cases z),⟨_,rfl,_,rfl,_,rfl,f,b,l,p,row,u,ws,rfl,hF.sm (s1.trans s2),O,hb,Rf hbs,s2 _ _ hl,hT.sm s2,λr3 H3 s3 h3=>?_⟩⟩
   refine ⟨Rn (show zs.length<=1057 by omega) (by decide),nx _ _ ⟨s2.trans s3,?_⟩⟩
   rw[BG hbs,Rp]
   exact TpAt.snoc h3 (hz.sm s3)
  ·rintro zs H2 ⟨s2,hz⟩
   rw[hTl,<- Cv,RE]at hz
   have hzl:=hz.len
   rw[J0,Cv]at hzl
   refine ⟨J6 (show zs.length<=1057 by omega) (by decide),λu hu=>?_⟩
   have w3:=Ac (o:=.lst zs) hu
   refine ⟨_,rfl,l,_,rfl,.inl (SqL.of ((s2.trans w3) _ _ hl)),_,rfl,u,zs,rfl,.inl ⟨SqL.of Aa,λx hx=>⟨by show 2<=Qe; decide,λt ht=>?_⟩⟩⟩
   have w4:=Ac (o:=.tup zs) hx
   have w5:=Ac (o:=.tup [.int ((ws.length:Nat):Int),.ref x]) ht
   exact q t x zs _ (s1.trans (s2.trans (w3.trans (w4.trans w5)))) (by rw[<- hTl]; exact Aa) (w5 _ _ Aa) (hz.sm (w3.trans (w4.trans w5)))
def HQ:Sp:=λvs H Q _=>∃ (t:Addr) (m:Nat) (bs:List (List Nat)),vs=[.ref t]/\LayA H t m bs/\m<=60/\(∀ b∈bs,Blk m b)/\∀ v H',Same H H'->MC H' v (told (zof (cnt bs) (prs m m)))->Q v H'
theorem Kr {m:Nat}:∀ {a:Nat} {p:List Nat},p∈prs m a->p.length=2
 | 0,p,h=>by cases h
 | a + 1,p,h=>by
  rw[prs]at h
  rcases RU.mp h with z | z
  ·exact Kr z
  ·obtain ⟨j,_,rfl⟩:=RB.mp z
   rfl
theorem zof_short {m:Nat} {g:List Nat->Nat}:∀ z∈zof g (prs m m),z.1.length<=60:=by
 intro z hz
 obtain ⟨p,hp,rfl⟩:=RB.mp hz
 show p.length<=60
 rw[Kr (a:=m) hp]
 decide
theorem scPairsTold:FnScope ["M", "rows", "cases", "counts", "a", "with_a", "b"] ["M"] (Ae CZ):=⟨rfl,rfl,rfl,by decide +kernel,rfl,by decide +kernel,by decide +kernel⟩
theorem ok_pairs {f:Addr} {fd:Qh} (F:Fun K "pairs_told" "pairs_told" CZ f fd) (T:TxtB mg) (pMarkedBlocks:Pm P w K mg base CX0 2 "marked_blocks" ["M"] FZ) (pRowsWith:Pm P w K mg base CX0 1 "rows_with" ["rows", "point"] DN) (pToldOf:Pm P w K mg base CX0 1 "told_of" ["cases", "counts"] Kb):FnOk P w K mg base CX0 3 f fd ["M"] HQ:=by
 refine F.okQ scPairsTold (λvs H Q E h=>?_) (λcdv A outer s H vs Q E hr2 h=>?_)
 ·obtain ⟨t,m,bs,rfl,_⟩:=h
  rfl
 ·obtain ⟨t,m,bs,rfl,hL,hm,hb,q⟩:=h
  have hr1:=hr2.mono (show 1<=2 by decide)
  refine ⟨_,(Ad (An (i:=1) scPairsTold.nd rfl (Ro rfl) (Aj pMarkedBlocks hr2 rfl Av (qac (qv 0) Ab)))
   (Ad (An (i:=2) scPairsTold.nd rfl (Ro rfl) (Bw Ab))
   (Ad (An (i:=3) scPairsTold.nd rfl (Ro rfl) (Bw Ab))
   (Ad (AJ PassesOwn.never rfl (Ar rfl T.range (qac (Au Aw (qv 0) Af (λ_ _=>rfl)) Ab)) (Ai (i:=4) scPairsTold.nd rfl (Ro rfl))
    (Ad (An (i:=5) scPairsTold.nd rfl (Ro rfl) (Aj pRowsWith hr1 rfl Av (qac (qv 1) (qac (qv 4) Ab))))
    (Ah (AJ PassesOwn.never rfl (Dm rfl T.range (qac (Aq AZ (qv 4) Af) (qac (Au Aw (qv 0) Af (λ_ _=>rfl)) Ab))) (Ai (i:=6) scPairsTold.nd rfl (Ro rfl))
     (Ad (AK (Df RD RX RW Be (qv 2) (qac (AI (qac (qv 4) (qac (qv 6) Ab))) Ab)))
     (Ah (AK (Df RD RX RW Be (qv 3) (qac (Am Ak (by rfl) T.len Rr (qac (Aj pRowsWith hr1 rfl Av (qac (qv 5) (qac (qv 6) Ab))) Ab)) Ab)))))))))
   (Ah (Ax (Aj pToldOf hr1 rfl Av (qac (qv 2) (qac (qv 3) Ab))))))))),?_⟩
  have hn:=hL.choose_spec.choose_spec.2.2.2
  refine ⟨_,rfl,t,m,bs,rfl,hL,hm,hb,λl ws H1 hl0 s1 hl hW=>?_⟩
  refine ⟨by show 0<=Qe; decide,λc hc=>⟨by show 0<=Qe; decide,λk hk=>?_⟩⟩
  have w1:=Ac (o:=.lst []) hc
  have w2:=Ac (o:=.lst []) hk
  have hkc:k≠c:=λz=>by
   rw[z,Aa]at hk
   cases hk
  have hk1:H1 k=none:=w1.free hk
  obtain ⟨lb,wb,ht,hlb,_⟩:=id hL
  have ht1:=s1 _ _ ht
  have A0:Acc (cnt bs) H1 c k (prs m 0) (upd (upd H1 c (.lst [])) k (.lst [])):=by
   refine ⟨w1.trans w2,⟨[],?_,trivial⟩,Aa⟩
   rw[As (UQ hkc)]
   exact Aa
  refine ⟨_,rfl,t,_,0,.int (m:Nat),rfl,rfl,SqT.of ((w1.trans w2) _ _ ht1),rfl,(m:Int),rfl,by omega,by omega,AM (lo:=0) (n:=m) (λi σ H2=>Acc (cnt bs) H1 c k (prs m i) H2/\∃ x4 x5 x6,σ=[some (.ref t),some (.ref l),some (.ref c),some (.ref k),x4,x5,x6]) ⟨A0,none,none,none,rfl⟩ ?_ ?_⟩
  ·rintro a σ H2 ha ⟨A2,x4,x5,x6,rfl⟩
   rw[RI]
   refine ⟨_,rfl,_,rfl,l,m,a,ws,bs,rfl,A2.sm _ _ hl,hW.sm A2.sm,hn,ha,λr H3 hr3 s3 hr'=>?_⟩
   have A3:=A2.up s3
   have hrc:r≠c:=λz=>by
    obtain ⟨cs,e,_⟩:=A2.cs
    rw[z,e]at hr3
    cases hr3
   have hrk:r≠k:=λz=>by
    rw[z,A2.ks]at hr3
    cases hr3
   refine ⟨_,rfl,_,_,rfl,rfl,_,rfl,t,_,0,.int (m:Nat),rfl,rfl,SqT.of (A3.sm _ _ ht1),rfl,_,_,rfl,⟨by omega,by omega,by omega,by omega⟩,?_⟩
   rw[show ((m:Int) - ((a:Int) + 1)).toNat=m - (a + 1) by omega]
   refine AM (lo:=(a:Int) + 1) (n:=m - (a + 1)) (λj σ H4=>(Acc (cnt bs) H1 c k (prsJ m a j) H4/\H4 r=some (.lst (keep a ws bs)))/\∃ x6,σ=[some (.ref t),some (.ref l),some (.ref c),some (.ref k),some (.int (a:Nat)),some (.ref r),x6]) ⟨⟨by rw[prsJ_zero]; exact A3,hr'⟩,x6,rfl⟩ ?_ ?_
   ·rintro j σ H4 hj ⟨⟨A4,hr4⟩,x6,rfl⟩
    rw[show ((a:Int) + 1 + (j:Int))=((a + 1 + j:Nat):Int) by omega]
    obtain ⟨cs,hcs,hT⟩:=A4.cs
    have hll:=prsJ_len (j:=j) hm ha (by omega)
    refine ⟨_,rfl,.inl ⟨rfl,_,SqL.of hcs⟩,_,rfl,_,rfl,by show 2<=Qe; decide,λp hp=>?_⟩
    have v1:=Ac (o:=.tup [V.int (a:Nat),V.int ((a + 1 + j:Nat):Int)]) hp
    refine ⟨c,cs,.ref p,rfl,rfl,v1 _ _ hcs,by rw[hT.len]; exact Rn hll (by decide),?_⟩
    have B:=Acc.half (g:=cnt bs) (k:=k) (p:=[a,a + 1 + j]) (w1.free hk▸hc) hkc (v1 _ _ hcs) (hT.sm v1) (A4.sm.trans v1) (v1 _ _ A4.ks) Aa
    have hr5:upd (upd H4 p (.tup [V.int (a:Nat),V.int ((a + 1 + j:Nat):Int)])) c (.lst (cs++[.ref p])) r=some (.lst (keep a ws bs)):=by
     rw[As hrc]
     exact v1 _ _ hr4
    generalize upd (upd H4 p (.tup [V.int (a:Nat),V.int ((a + 1 + j:Nat):Int)])) c (.lst (cs++[.ref p]))=H5 at B hr5 ⊢
    refine ⟨_,rfl,.inl ⟨rfl,_,SqL.of B.ks⟩,_,rfl,_,rfl,r,m,a + 1 + j,keep a ws bs,bs.filter λx=>decide (a∈x),rfl,hr5,(hW.keep).sm B.sm,J6 (R1 ..) hn,by omega,λr2 H6 hr6 s6 hr6'=>?_⟩
    have hrr:r≠r2:=AO hr5 hr6
    refine ⟨r2,_,rfl,.inl (SqL.of hr6'),k,_,_,rfl,rfl,s6 _ _ B.ks,by rw[Ag,J0]; exact Rn hll (by decide),⟨?_,?_⟩,_,rfl⟩
    ·have C:=(B.up s6).full hk1 hkc
     rw[keep_len hW,prsJ_snoc]
     exact C
    ·rw[As hrk]
     exact s6 _ _ hr5
   ·rintro σ H4 ⟨⟨A4,hr4⟩,x6,rfl⟩
    rw[prsJ_full]at A4
    exact ⟨A4,_,_,_,rfl⟩
  ·rintro σ H2 ⟨A2,x4,x5,x6,rfl⟩
   obtain ⟨cs,hcs,hT⟩:=A2.cs
   refine ⟨_,rfl,_,rfl,c,k,cs,zof (cnt bs) (prs m m),rfl,hcs,by rw[zof_fst]; exact hT,by rw[zof_snd]; exact A2.ks,zof_short,λv H' s' ha=>?_⟩
   exact q v H' (s1.trans (A2.sm.trans s')) ha
theorem Ks (m:Nat) (f:Nat->Bool):((J1 m).filter f).length<=m:=J6 (R1 ..) (by rw[J5]; exact J8 _)
theorem filt_snoc (i:Nat) (f:Nat->Bool):(J1 (i + 1)).filter f=(J1 i).filter f++if f i=true then [i] else []:=by
 rw[Rs,R3]
 by_cases h:f i=true <;> simp[h]
theorem Bg {α:Type} {bs:List α} {j:Nat} {b d:α} (h:bs[j]?=some b):bs.getD j d=b:=by rw[J9,h]; rfl
def nbw (bs:List (List Nat)) (p:Nat):List Nat:=(J1 bs.length).filter λj=>decide (p∈bs.getD j [])
theorem comp_enumT {K:J4} {a:Addr} {xs:List V} {g:TG} {tc:TT} {te:TE} {σ':St} {H:Hp} {G:Addr->Hp->List V->Prop} (Pv:Nat->List V->Hp->Prop) (h0:Pv 0 [] H) (hl:∀ i ys H,i<=xs.length->Pv i ys H->SqT K H a xs)
  (hs:∀ i x t ys H (N:List V->Hp->Prop),xs[i]?=some x->Pv i ys H->H t=none->(∀ ys' H',Pv (i + 1) ys' H'->N ys' H')->g (.ref t) σ' (upd H t (.tup [.int (i:Nat),x])) λσ2 H4=>Weak σ' σ2/\tc σ2 H4 λb H5=>if b=true then te σ2 H5 λy H6=>ys.length < Qe/\N (ys++[y]) H6 else N ys H5)
  (hd:∀ ys H,Pv xs.length ys H->ys.length<=Qe/\∀ p,H p=none->G p H ys) :
  ∃ W:Nat->Nat->List V->Hp->Prop,(∃ m,W 0 m [] H)/\∀ i m ys H2,W i m ys H2->
   ((Itet K a).stop i H2/\ys.length<=Qe/\∀ p,H2 p=none->G p H2 ys)\/
   ((Itet K a).go i H2/\∀ x H3,(Itet K a).yld i H2 x H3->g x σ' H3 λσ2 H4=>Weak σ' σ2/\tc σ2 H4 λb H5=>
    if b=true then te σ2 H5 λy H6=>ys.length < Qe/\∃ m',m' < m/\W (i + 1) m' (ys++[y]) H6 else ∃ m',m' < m/\W (i + 1) m' ys H5):=by
 refine ⟨λi m ys H=>m=xs.length - i/\i<=xs.length/\Pv i ys H,⟨xs.length,rfl,RP _,h0⟩,?_⟩
 rintro i m ys H2 ⟨rfl,hi,p⟩
 have q:=hl i ys H2 hi p
 by_cases hlt:i < xs.length
 ·refine .inr ⟨⟨xs,xs[i],q,by simp[hlt]⟩,λv H' y=>?_⟩
  obtain ⟨t,x,hx,ht,rfl,rfl⟩:=y
  exact hs i x t ys _ (λys' H''=>∃ m',m' < xs.length - i/\m'=xs.length - (i + 1)/\i + 1<=xs.length/\Pv (i + 1) ys' H'') (hx xs q) p ht (λys' H'' p'=>⟨_,by omega,rfl,hlt,p'⟩)
 ·have e:i=xs.length:=by omega
  subst e
  exact .inl ⟨⟨xs,q,rfl⟩,hd ys H2 p⟩
def nbwK (bs:List (List Nat)) (p n:Nat):List Nat:=(J1 n).filter λj=>decide (p∈bs.getD j [])
theorem nbwK_snoc (bs:List (List Nat)) (p i:Nat):nbwK bs p (i + 1)=nbwK bs p i++if decide (p∈bs.getD i [])=true then [i] else []:=filt_snoc i λj=>decide (p∈bs.getD j [])
theorem Kt (bs:List (List Nat)) (p n:Nat):(nbwK bs p n).length<=n:=Ks n _
def LQ:Sp:=λvs H Q _=>∃ (t:Addr) (m p:Nat) (bs:List (List Nat)),vs=[.ref t,.int ((p:Nat):Int)]/\LayA H t m bs/\∀ (u:Addr) (H':Hp),H u=none->Same H H'->H' u=some (.tup (nats (nbw bs p)))->Q (.ref u) H'
theorem scNumbersOfBlocksWith:FnScope ["M", "point"] ["M", "point"] (Ae AS):=⟨rfl,rfl,rfl,by decide +kernel,rfl,by decide +kernel,by decide +kernel⟩
theorem ok_nbw {f:Addr} {fd:Qh} (F:Fun K "numbers_of_blocks_with" "numbers_of_blocks_with" AS f fd) (T:TxtB mg):FnOk P w K mg base CX0 1 f fd ["M", "point"] LQ:=by
 refine F.okQ scNumbersOfBlocksWith (λvs H Q E h=>?_) (λcdv A outer s H vs Q E hr h=>?_)
 ·obtain ⟨t,m,p,bs,rfl,_⟩:=h
  rfl
 ·obtain ⟨t,m,p,bs,rfl,⟨l,ws,ht,hl,hT,hn⟩,q⟩:=h
  refine ⟨_,(Ah (Ax (AD Ay (by rfl) T.tup (by decide +kernel) (qac (AH (g:=gTup K 2 (Gs (AR 0) (Gs (AR 1) gNil))) (N:=["number", "block", "point"]) (src:=[none,none,some 1]) rfl (Al (Ae AS) ["M", "point"] rfl rfl (by decide +kernel) rfl) (CW rfl T.enu (qac (Au Aw (qv 0) Af (λ_ _=>rfl)) Ab)) (λ_ _ _ _ _=>(show QG _ _ (gTup K 2 _) from BV rfl (AC (Ai (i:=0) (show (["number", "block", "point"]:List Str).Nodup by decide +kernel) rfl (Ro rfl) (R8 rfl)) (AC (Ai (i:=1) (show (["number", "block", "point"]:List Str).Nodup by decide +kernel) rfl (Ro rfl) (R8 rfl)) Bq)))) (λ_ _ _ _ _=>(BQ (Ap (show OpR _ _ (rIn K false) from BD) (qv 2) (qv 1) rfl))) (λ_ _ _ _ _=>(qv 0))) Ab)))),?_⟩
  have hTl:=hT.len
  refine ⟨_,rfl,t,_,1,.ref l,rfl,rfl,SqT.of ht,rfl,l,rfl,⟨_,SqT.of hl⟩,comp_enumT (K:=K) (a:=l) (xs:=ws) (λi zs H2=>Same H H2/\zs=nats (nbwK bs p i)) ⟨Same.refl _,rfl⟩ (λi zs H2 _ ⟨e,_⟩=>SqT.of (e _ _ hl)) ?_ ?_⟩
  ·rintro i v u zs H2 N hi ⟨s2,rfl⟩ hu nx
   obtain ⟨b,blk,rfl,hbs,hb⟩:=(hT.sm s2).get hi
   have hil:=(J3.mp hbs).1
   have w1:=Ac (o:=.tup [.int ((i:Nat):Int),.ref b]) hu
   have e:=nbwK_snoc bs p i
   rw[Bg hbs]at e
   refine ⟨u,_,rfl,SqT.of Aa,rfl,_,_,rfl,_,_,rfl,rfl,(Weak.set (by intro v z; cases z)).trans (Weak.set (by intro v z; cases z)),?_⟩
   refine ⟨_,rfl,_,rfl,b,_,rfl,.inr (SqT.of (w1 _ _ hb)),rfl,BF blk,_,rfl,?_⟩
   rw[if_neg (by decide),BK]
   by_cases h:p∈blk
   ·rw[if_pos (decide_eq_true h)]at e
    rw[decide_eq_true h]
    refine iteT ⟨_,rfl,?_,nx _ _ ⟨s2.trans w1,by rw[e,AE]⟩⟩
    rw[Ag]
    exact Rn (Kt bs p i) (Rb (show i < 201 by omega) (by decide))
   ·rw[if_neg (by simp[h]),RJ]at e
    rw[decide_eq_false h]
    exact iteF (nx _ _ ⟨s2.trans w1,by rw[e]⟩)
  ·rintro zs H2 ⟨s2,rfl⟩
   rw[hTl]
   refine ⟨by rw[Ag]; exact J6 (Kt ..) (J6 hn (by decide)),λr hr'=>⟨r,_,rfl,.inl ⟨SqL.of Aa,λt ht=>?_⟩⟩⟩
   have w2:=Ac (o:=.lst (nats (nbwK bs p bs.length))) hr'
   exact q t _ ((s2.trans w2).free ht) (s2.trans (w2.trans (Ac ht))) Aa
def Sq (n:Nat) (rs:List (List Nat)):Prop:=rs.length=n/\∀ r∈rs,r.length=n/\∀ x∈r,x < n
theorem nat_at {r:List Nat} {k:Nat} (hk:k < r.length):atI (nats r) ((k:Nat):Int)=some (.int ((r[k]:Nat):Int)):=by
 refine AB ?_
 unfold nats
 rw[Rm,J7 hk]
 rfl
def HR:Sp:=λvs H Q _=>∃ n:Nat,vs=[.int ((n:Nat):Int)]/\Q .non H
theorem ok_must0 {f:Addr} {fd:Qh} (F:Fun K "must_be_whole" "must_be_whole" JY f fd) (pWhole:Pm P w K mg base CX0 1 "is_whole" ["thing"] (DJ K)):FnOk P w K mg base CX0 2 f fd ["thing"] HR:=by
 refine F.okQ Lv (λvs H Q E h=>?_) (λcdv A outer s H vs Q E hr1 h=>?_)
 ·obtain ⟨n,rfl,_⟩:=h
  rfl
 ·obtain ⟨n,rfl,q⟩:=h
  refine ⟨_,(Ah (Bb (CD (CA (Aj pWhole hr1 rfl Av (qac (qv 0) Ab)))) Bh AA)),?_⟩
  exact ⟨_,rfl,_,true,rfl,.int _,true,rfl,iteF q⟩
def HS:Sp:=λvs H Q _=>∃ n:Nat,vs=[.int 0,.int ((n:Nat):Int)]/\Q .non H
theorem ok_from0 {f:Addr} {fd:Qh} (F:Fun K "must_be_from" "must_be_from" Jm f fd) (pMust:Pm P w K mg base CX0 2 "must_be_whole" ["thing"] HR):FnOk P w K mg base CX0 3 f fd ["least", "thing"] HS:=by
 refine F.okQ Lw (λvs H Q E h=>?_) (λcdv A outer s H vs Q E hr2 h=>?_)
 ·obtain ⟨n,rfl,_⟩:=h
  rfl
 ·obtain ⟨n,rfl,q⟩:=h
  refine ⟨_,(Ad (AK (Aj pMust hr2 rfl Av (qac (qv 1) Ab))) (Ah (Bb (Ap DE (qv 1) (qv 0) (Az _)) Bh AA))),?_⟩
  exact ⟨_,rfl,n,rfl,_,rfl,_,rfl,_,_,rfl,rfl,_,rfl,ifF (by show ¬((n:Nat):Int) < 0; omega) q⟩
def HU:Sp:=λvs H Q _=>∃ n:Nat,vs=[.int ((n:Nat):Int)]/\n<=1000/\∀ r:Nat,r * r<=n->n < (r + 1) * (r + 1)->Q (.int ((r:Nat):Int)) H
theorem scRoot:FnScope ["n", "root"] ["n"] (Ae KP):=⟨rfl,rfl,rfl,by decide +kernel,rfl,by decide +kernel,by decide +kernel⟩
theorem ok_root0 {f:Addr} {fd:Qh} (F:Fun K "root_of" "root_of" KP f fd) (pFrom:Pm P w K mg base CX0 3 "must_be_from" ["least", "thing"] HS):FnOk P w K mg base CX0 4 f fd ["n"] HU:=by
 refine F.okQ scRoot (λvs H Q E h=>?_) (λcdv A outer s H vs Q E hr3 h=>?_)
 ·obtain ⟨n,rfl,_⟩:=h
  rfl
 ·obtain ⟨n,rfl,hn,k⟩:=h
  refine ⟨_,(Ad (AK (Aj pFrom hr3 rfl Av (qac Af (qac (qv 0) Ab))))
   (Ad (An (i:=1) scRoot.nd rfl (Ro rfl) (qv 0))
   (Ad (BW PassesOwn.never (Ap Ec (Aq Bd (qv 1) (qv 1)) (qv 0) (Az _))
    (Ah (An (i:=1) scRoot.nd rfl (Ro rfl) (Aq By (Aq AZ (qv 1) (Aq By (qv 0) (qv 1))) Af))))
   (Ah (Ax (qv 1)))))),?_⟩
  refine ⟨_,rfl,n,rfl,_,rfl,?_⟩
  refine CC (λσ H2=>H2=H/\∃ r:Nat,σ=[some (.int (n:Nat)),some (.int (r:Nat))]/\r<=n/\n < (r + 1) * (r + 1))
   (λσ _=>match σ with | [_,some (.int r)]=>r.toNat | _=>0) ⟨rfl,n,rfl,J8 n,by rw[Ye,WJ]; omega⟩ ?_
  rintro m σ H2 ⟨rfl,r,rfl,hr1,hr2⟩ hm
  refine ⟨_,rfl,_,rfl,_,_,rfl,rfl,.inl ⟨by omega,by omega⟩,_,rfl,_,_,rfl,rfl,_,rfl,?_⟩
  refine ite2 (λhc=>WTurn.of ?_) (λhc=>?_)
  ·have hc':n < r * r:=by
    have:=of_decide_eq_true hc
    exact Int.ofNat_lt.mp (by rw[UG]; exact this)
   have r0:1<=r:=by
    rcases U8 r with z | z
    ·subst z
     simp at hc'
    ·exact z
   refine ⟨_,rfl,_,rfl,_,rfl,_,_,rfl,rfl,⟨by omega,by omega⟩,_,_,rfl,rfl,_,_,rfl,rfl,⟨by decide,by decide⟩,⟨rfl,(r + n / r) / 2,rfl,?_,EM.newton r0⟩,?_⟩
   ·have:=EM.newton_less hc'
    omega
   ·rw[hm]
    have e:((r:Int) + (n:Int) / (r:Int)) / 2=(((r + n / r) / 2:Nat):Int):=rfl
    show (((r:Int) + (n:Int) / (r:Int)) / 2).toNat < (r:Int).toNat
    rw[e,Rc,Rc]
    exact EM.newton_less hc'
  ·have hc':r * r<=n:=by
    have hc2:decide (((n:Nat):Int) < ((r:Nat):Int) * ((r:Nat):Int))=false:=by simpa using hc
    have:=of_decide_eq_false hc2
    rw[<- UG]at this
    omega
   exact ⟨_,rfl,k r hc' hr2⟩
def cw (L:List Nat) (x:Nat):List Nat:=(J1 L.length).filter λc=>decide (L.getD c 0=x)
def cwK (L:List Nat) (x i:Nat):List Nat:=(J1 i).filter λc=>decide (L.getD c 0=x)
theorem cwK_snoc {L:List Nat} {x i y:Nat} (h:L[i]?=some y):cwK L x (i + 1)=cwK L x i++if y=x then [i] else []:=by
 unfold cwK
 rw[Rs,R3]
 congr 1
 by_cases hx:y=x
 ·rw[if_pos hx]
  simp[h,hx]
 ·rw[if_neg hx]
  simp[h,hx]
theorem Lz (L:List Nat) (x i:Nat):(cwK L x i).length<=i:=J6 (R1 ..) (by rw[J5]; exact J8 _)
def spCw:Sp:=λvs H Q _=>∃ (l:Addr) (L:List Nat) (x:Nat),vs=[.ref l,.int ((x:Nat):Int)]/\H l=some (.lst (nats L))/\L.length<=100/\∀ (t:Addr) (H':Hp),H t=none->Same H H'->H' t=some (.tup (nats (cw L x)))->Q (.ref t) H'
theorem scCellsWith:FnScope ["numbers", "number"] ["numbers", "number"] (Ae Ci):=⟨rfl,rfl,rfl,by decide +kernel,rfl,by decide +kernel,by decide +kernel⟩
theorem ok_cw {f:Addr} {fd:Qh} (F:Fun K "cells_with" "cells_with" Ci f fd) (T:TxtB mg):FnOk P w K mg base CX0 1 f fd ["numbers", "number"] spCw:=by
 refine F.okQ scCellsWith (λvs H Q E h=>?_) (λcdv A outer s H vs Q E hr1 h=>?_)
 ·obtain ⟨l,L,x,rfl,_⟩:=h
  rfl
 ·obtain ⟨l,L,x,rfl,hl,hL,q⟩:=h
  refine ⟨_,(Ah (Ax (AD Ay (by rfl) T.tup (by decide +kernel) (qac (AH (g:=gTup K 2 (Gs (AR 0) (Gs (AR 1) gNil))) (N:=["cell", "other", "number"]) (src:=[none,none,some 1]) rfl (Al (Ae Ci) ["numbers", "number"] rfl rfl (by decide +kernel) rfl) (EE rfl T.enu (qac (qv 0) Ab)) (λ_ _ _ _ _=>(show QG _ _ (gTup K 2 _) from BV rfl (AC (Ai (i:=0) (show (["cell", "other", "number"]:List Str).Nodup by decide +kernel) rfl (Ro rfl) (R8 rfl)) (AC (Ai (i:=1) (show (["cell", "other", "number"]:List Str).Nodup by decide +kernel) rfl (Ro rfl) (R8 rfl)) Bq)))) (λ_ _ _ _ _=>(BQ (Ap Ju (qv 1) (qv 2) (Az _)))) (λ_ _ _ _ _=>(qv 0))) Ab)))),?_⟩
  refine ⟨_,rfl,l,rfl,⟨_,SqL.of hl⟩,GO (K:=K) (a:=l) (xs:=nats L) (λi zs H2=>Same H H2/\zs=nats (cwK L x i)) ⟨Same.refl _,rfl⟩ (λi zs H2 _ ⟨e,_⟩=>SqL.of (e _ _ hl)) ?_ ?_⟩
  ·rintro i v u zs H2 N hi ⟨s2,rfl⟩ hu nx
   obtain ⟨y,hy,rfl⟩:=L2.AW hi
   have hil:=(J3.mp hy).1
   have w1:=Ac (o:=.tup [.int ((i:Nat):Int),.int ((y:Nat):Int)]) hu
   have e:=cwK_snoc (x:=x) hy
   refine ⟨u,_,rfl,SqT.of Aa,rfl,_,_,rfl,_,_,rfl,rfl,(Weak.set (by intro v z; cases z)).trans (Weak.set (by intro v z; cases z)),?_⟩
   refine ⟨_,rfl,_,rfl,rfl,_,rfl,?_⟩
   by_cases h:y=x
   ·subst h
    rw[if_pos rfl]at e
    refine ifT rfl ⟨_,rfl,?_,nx _ _ ⟨s2.trans w1,by rw[e,AE]⟩⟩
    rw[Ag]
    exact Rn (Lz L y i) (Rb (show i < 101 by omega) (by decide))
   ·rw[if_neg h,RJ]at e
    exact ifF (λz=>h (by injection z with z; exact Ja0 z)) (nx _ _ ⟨s2.trans w1,by rw[e]⟩)
  ·rintro zs H2 ⟨s2,rfl⟩
   rw[Ag L]
   refine ⟨by rw[Ag]; exact J6 (Lz ..) (J6 hL (by decide)),λr hr'=>⟨r,_,rfl,.inl ⟨SqL.of Aa,λt ht=>?_⟩⟩⟩
   have w2:=Ac (o:=.lst (nats (cwK L x L.length))) hr'
   exact q t _ ((s2.trans w2).free ht) (s2.trans (w2.trans (Ac ht))) Aa
def LR:Sp:=λvs H Q _=>∃ (l:Addr) (n:Nat) (L:List Nat),vs=[.int ((n:Nat):Int),.ref l]/\H l=some (.lst (nats L))/\L.length<=100/\n<=60/\∀ (t:Addr) (ws:List V) (H':Hp),H t=none->Same H H'->H' t=some (.lst ws)->TpAt H' ws ((J1 n).map (cw L))->Q (.ref t) H'
theorem scBlocksByNumber:FnScope ["size", "numbers"] ["size", "numbers"] (Ae Bf):=⟨rfl,rfl,rfl,by decide +kernel,rfl,by decide +kernel,by decide +kernel⟩
theorem ok_bbn {f:Addr} {fd:Qh} (F:Fun K "blocks_by_number" "blocks_by_number" Bf f fd) (T:TxtB mg) (pCellsWith:Pm P w K mg base CX0 1 "cells_with" ["numbers", "number"] spCw):FnOk P w K mg base CX0 2 f fd ["size", "numbers"] LR:=by
 refine F.okQ scBlocksByNumber (λvs H Q E h=>?_) (λcdv A outer s H vs Q E hr1 h=>?_)
 ·obtain ⟨l,n,L,rfl,_⟩:=h
  rfl
 ·obtain ⟨l,n,L,rfl,hl,hL,hn,q⟩:=h
  refine ⟨_,(Ah (Ax (AH (g:=AR 0) (N:=["number", "numbers"]) (src:=[none,some 1]) rfl (Al (Ae Bf) ["size", "numbers"] rfl rfl (by decide +kernel) rfl) (Ar rfl T.range (qac (qv 0) Ab)) (λ_ _ _ _ _=>(Ai (i:=0) (show (["number", "numbers"]:List Str).Nodup by decide +kernel) rfl (Ro rfl) (R8 rfl))) (λ_ _ _ _ _=>AQ) (λ_ _ _ _ _=>(Aj pCellsWith hr1 rfl Av (qac (qv 1) (qac (qv 0) Ab))))))),?_⟩
  refine ⟨_,rfl,((n:Nat):Int),rfl,by omega,by omega,?_⟩
  rw[Rc]
  refine AX (lo:=0) (n:=n) (λi ys H2=>Same H H2/\TpAt H2 ys ((J1 i).map (cw L))) ⟨Same.refl _,trivial⟩ ?_ ?_
  ·rintro i ys H2 N hi ⟨s2,hT⟩ nx
   rw[RI]
   refine ⟨Weak.set (by intro v z; cases z),⟨_,rfl,_,rfl,l,L,i,rfl,s2 _ _ hl,hL,λt H' ht s' ht'=>⟨?_,nx _ _ ⟨s2.trans s',?_⟩⟩⟩⟩
   ·rw[hT.len,J0,J5]
    exact Rb (show i < 61 by omega) (by decide)
   ·rw[Rs,Rp]
    exact (hT.sm s').snoc ht'
  ·rintro ys H2 ⟨s2,hT⟩
   exact ⟨by rw[hT.len,J0,J5]; exact J6 hn (by decide),λr hr=>q r ys _ (s2.free hr) (s2.trans (Ac hr)) Aa (hT.sm (Ac hr))⟩
def TupSq (H:Hp) (a:Addr) (rs:List (List Nat)):Prop:=∃ ws,H a=some (.tup ws)/\TpAt H ws rs
theorem TupSq.sm {H H':Hp} {a:Addr} {rs:List (List Nat)} (s:Same H H') (h:TupSq H a rs):TupSq H' a rs:=by
 obtain ⟨ws,h1,h2⟩:=h
 exact ⟨ws,s _ _ h1,h2.sm s⟩
def SqsAt (H:Hp):List V->List (List (List Nat))->Prop
 | [],[]=>True
 | v::vs,rs::sqs=>(∃ a,v=.ref a/\TupSq H a rs)/\SqsAt H vs sqs
 | _,_=>False
theorem SqsAt.len {H:Hp}:∀ {vs:List V} {sqs:List (List (List Nat))},SqsAt H vs sqs->vs.length=sqs.length
 | [],[],_=>rfl
 | _::_,_::_,⟨_,r⟩=>by rw[Rq,Rq,r.len]
theorem SqsAt.sm {H H':Hp} (s:Same H H'):∀ {vs:List V} {sqs:List (List (List Nat))},SqsAt H vs sqs->SqsAt H' vs sqs
 | [],[],_=>trivial
 | _::_,_::_,⟨⟨a,e,h⟩,r⟩=>⟨⟨a,e,h.sm s⟩,r.sm s⟩
theorem SqsAt.get {H:Hp}:∀ {vs:List V} {sqs:List (List (List Nat))} {i:Nat} {v:V},SqsAt H vs sqs->vs[i]?=some v->∃ a rs,v=.ref a/\sqs[i]?=some rs/\TupSq H a rs
 | _::_,rs::_,0,_,⟨⟨a,e,h⟩,_⟩,hv=>by
  cases hv
  exact ⟨a,rs,e,rfl,h⟩
 | _::_,_::_,i + 1,v,⟨_,r⟩,hv=>by
  rw[Uo]at hv
  obtain ⟨a,rs,h1,h2,h3⟩:=r.get hv
  exact ⟨a,rs,h1,by rw[Uo]; exact h2,h3⟩
theorem SqsAt.snoc {H:Hp} {a:Addr} {rs:List (List Nat)} (h:TupSq H a rs):∀ {vs:List V} {sqs:List (List (List Nat))},SqsAt H vs sqs->SqsAt H (vs++[.ref a]) (sqs++[rs])
 | [],[],_=>⟨⟨a,rfl,h⟩,trivial⟩
 | _::_,_::_,⟨q,r⟩=>⟨q,r.snoc h⟩
def fS (n:Nat) (rs:List (List Nat)) (c:Nat):Nat:=(rs.getD (c / n) []).getD (c % n) 0
def clsF (n:Nat) (f:Nat->Nat):List (List Nat):=(J1 n).map λx=>(J1 (n * n)).filter λc=>decide (f c=x)
theorem Ku (n:Nat) (f:Nat->Nat):(J1 n).map (cw ((J1 (n * n)).map f))=clsF n f:=by
 unfold clsF cw
 refine RG λx _=>?_
 rw[J0,J5]
 refine WH λc hc=>?_
 have hc:=Ra.mp hc
 simp[hc]
def netL (n:Nat) (sqs:List (List (List Nat))):List (List Nat):=clsF n (· / n)++clsF n (· % n)++sqs.flatMap λrs=>clsF n (fS n rs)
theorem Cw (n:Nat) (f:Nat->Nat):(clsF n f).length=n:=by unfold clsF; rw[J0,J5]
theorem net_len (n:Nat) (sqs:List (List (List Nat))):(netL n sqs).length=n * (2 + sqs.length):=by
 unfold netL
 rw[Rk,Rk,Cw,Cw]
 induction sqs with
 | nil=>simp; omega
 | cons rs sqs ih=>
  rw[Wf,Rk,Cw,Rq,Ye]at *
  rw[Ye,WJ]
  omega
def LS:Sp:=λvs H Q _=>∃ (l:Addr) (n:Nat) (ws:List V) (sqs:List (List (List Nat))),vs=[.ref l]/\H l=some (.lst ws)/\SqsAt H ws sqs/\1<=n/\n<=5/\1<=sqs.length/\sqs.length<=4/\(∀ rs∈sqs,Sq n rs)/\∀ (t u:Addr) (us:List V) (H':Hp),H t=none->Same H H'->H' t=some (.tup [.int ((n * n:Nat):Int),.ref u])->H' u=some (.tup us)->TpAt H' us (netL n sqs)->Q (.ref t) H'
theorem scNetOf:FnScope ["squares", "size", "cells", "blocks", "square"] ["squares"] (Ae ES):=⟨rfl,rfl,rfl,by decide +kernel,rfl,by decide +kernel,by decide +kernel⟩
theorem ok_net {f:Addr} {fd:Qh} (F:Fun K "net_of" "net_of" ES f fd) (T:TxtB mg) (pBlocksByNumber:Pm P w K mg base CX0 2 "blocks_by_number" ["size", "numbers"] LR):FnOk P w K mg base CX0 3 f fd ["squares"] LS:=by
 refine F.okQ scNetOf (λvs H Q E h=>?_) (λcdv A outer s H vs Q E hr2 h=>?_)
 ·obtain ⟨l,n,ws,sqs,rfl,_⟩:=h
  rfl
 ·obtain ⟨l,n,ws,sqs,rfl,hl,hS,hn1,hn5,hq1,hq4,hsq,q⟩:=h
  refine ⟨_,(Ad (An (i:=1) scNetOf.nd rfl (R8 rfl) (Am Ak (by rfl) T.len Rr (qac (Au AF (qv 0) Af (λ_ _=>rfl)) Ab)))
   (Ad (An (i:=2) scNetOf.nd rfl (Ro rfl) (Aq Bd (qv 1) (qv 1)))
   (Ad (An (i:=3) scNetOf.nd rfl (Ro rfl) (Aj pBlocksByNumber hr2 rfl Av (qac (qv 1) (qac (AH (g:=AR 0) (N:=["cell", "size"]) (src:=[none,some 1]) rfl (Al (Ae ES) ["squares", "size", "cells", "blocks", "square"] rfl rfl (by decide +kernel) rfl) (Ar rfl T.range (qac (qv 2) Ab)) (λ_ _ _ _ _=>(Ai (i:=0) (show (["cell", "size"]:List Str).Nodup by decide +kernel) rfl (Ro rfl) (R8 rfl))) (λ_ _ _ _ _=>AQ) (λ_ _ _ _ _=>(Aq By (qv 0) (qv 1)))) Ab))))
   (Ad (AK (Df RD Wn Wm Dl (qv 3) (qac (Aj pBlocksByNumber hr2 rfl Av (qac (qv 1) (qac (AH (g:=AR 0) (N:=["cell", "size"]) (src:=[none,some 1]) rfl (Al (Ae ES) ["squares", "size", "cells", "blocks", "square"] rfl rfl (by decide +kernel) rfl) (Ar rfl T.range (qac (qv 2) Ab)) (λ_ _ _ _ _=>(Ai (i:=0) (show (["cell", "size"]:List Str).Nodup by decide +kernel) rfl (Ro rfl) (R8 rfl))) (λ_ _ _ _ _=>AQ) (λ_ _ _ _ _=>(Aq Bv (qv 0) (qv 1)))) Ab))) Ab)))
   (Ad (AJ PassesOwn.never rfl (Bz (qv 0)) (Ai (i:=4) scNetOf.nd rfl (R8 rfl))
    (Ah (AK (Df RD Wn Wm Dl (qv 3) (qac (Aj pBlocksByNumber hr2 rfl Av (qac (qv 1) (qac (AH (g:=AR 0) (N:=["cell", "size", "square"]) (src:=[none,some 1,some 4]) rfl (Al (Ae ES) ["squares", "size", "cells", "blocks", "square"] rfl rfl (by decide +kernel) rfl) (Ar rfl T.range (qac (qv 2) Ab)) (λ_ _ _ _ _=>(Ai (i:=0) (show (["cell", "size", "square"]:List Str).Nodup by decide +kernel) rfl (Ro rfl) (R8 rfl))) (λ_ _ _ _ _=>AQ) (λ_ _ _ _ _=>(Au (show IxR _ (rIxT K) from Aw) (Au (show IxR _ (rIxT K) from Aw) (qv 2) (Aq By (qv 0) (qv 1)) (λ_ _=>rfl)) (Aq Bv (qv 0) (qv 1)) (λ_ _=>rfl)))) Ab))) Ab)))))
   (Ah (Ax (AI (qac (qv 2) (qac (AD Ay (by rfl) T.tup (by decide +kernel) (qac (qv 3) Ab)) Ab)))))))))),?_⟩
  have hwl:=hS.len
  have g0:ws[0]?=some (ws[0]'(by omega)):=J7 _
  obtain ⟨a0,r0,ea0,hr0,us0,ha0,hT0⟩:=hS.get g0
  have hs0:=hsq r0 (Rf hr0)
  have hu0:us0.length=n:=by rw[hT0.len,hs0.1]
  refine ⟨_,rfl,l,_,_,_,rfl,rfl,SqL.of hl,AB (j:=0) g0,a0,us0,by rw[ea0],.inr (SqT.of ha0),?_⟩
  dsimp only
  rw[hu0]
  have hnn:((n:Nat):Int) * ((n:Nat):Int)=((n * n:Nat):Int):=by rw[UG]
  have hn25:n * n<=25:=R6 hn5 hn5
  refine ⟨_,rfl,_,rfl,_,_,rfl,rfl,.inl ⟨by omega,by omega⟩,?_⟩
  dsimp only
  rw[hnn]
  have hmapl:∀ f:Nat->Nat,((J1 (n * n)).map f).length<=100:=λf=>by rw[J0,J5]; omega
  have hn0:(0:Int) < ((n:Nat):Int):=by omega
  refine ⟨_,rfl,_,rfl,((n * n:Nat):Int),rfl,by omega,by omega,?_⟩
  rw[Rc]
  refine AX (lo:=0) (n:=n * n) (λi ys H2=>H2=H/\ys=nats ((J1 i).map (· / n))) ⟨rfl,rfl⟩ ?_ ?_
  ·rintro i ys H2 N hi ⟨rfl,rfl⟩ nx
   rw[RI]
   refine ⟨Weak.set (by intro v z; cases z),⟨_,rfl,_,rfl,_,_,rfl,rfl,⟨by omega,by omega⟩,?_,nx _ _ ⟨rfl,?_⟩⟩⟩
   ·rw[Ag,J0,J5]
    exact Rb (show i < 26 by omega) (by decide)
   ·rw[Rs,Rp,Rt,Uf,AE]
    rfl
  rintro ys H2 ⟨rfl,rfl⟩
  refine ⟨by rw[Ag,J0,J5]; exact J6 hn25 (by decide),λc1 hc1=>?_⟩
  have v1:=Ac (o:=.lst (nats ((J1 (n * n)).map (· / n)))) hc1
  refine ⟨c1,n,_,rfl,Aa,hmapl _,by omega,λb ws1 H3 hb0 s3 hb3 hT3=>?_⟩
  rw[Ku]at hT3
  have hb00:H2 b=none:=v1.free hb0
  have s13:=v1.trans s3
  refine ⟨_,rfl,.inl ⟨rfl,_,SqL.of hb3⟩,_,rfl,_,rfl,((n * n:Nat):Int),rfl,by omega,by omega,?_⟩
  rw[Rc]
  refine AX (lo:=0) (n:=n * n) (λi ys H4=>H4=H3/\ys=nats ((J1 i).map (· % n))) ⟨rfl,rfl⟩ ?_ ?_
  ·rintro i ys H4 N hi ⟨rfl,rfl⟩ nx
   rw[RI]
   refine ⟨Weak.set (by intro v z; cases z),⟨_,rfl,_,rfl,_,_,rfl,rfl,hn0,?_,nx _ _ ⟨rfl,?_⟩⟩⟩
   ·rw[Ag,J0,J5]
    exact Rb (show i < 26 by omega) (by decide)
   ·rw[Rs,Rp,Rt,Uf,AE]
    rfl
  rintro ys H4 ⟨rfl,rfl⟩
  refine ⟨by rw[Ag,J0,J5]; exact J6 hn25 (by decide),λc2 hc2=>?_⟩
  have v2:=Ac (o:=.lst (nats ((J1 (n * n)).map (· % n)))) hc2
  refine ⟨c2,n,_,rfl,Aa,hmapl _,by omega,λb2 ws2 H5 _ s5 hb5 hT5=>?_⟩
  rw[Ku]at hT5
  have s35:=v2.trans s5
  have hbl:∀ f,(clsF n f).length<=5:=λf=>by rw[Cw]; omega
  have hw1:=hT3.len
  have hw2:=hT5.len
  rw[Cw]at hw1 hw2
  have hbH:=s35 _ _ hb3
  refine ⟨b,b2,ws1,ws2,rfl,rfl,hbH,hb5,J6 (show ws1.length + ws2.length<=10 by omega) (by decide),?_⟩
  have up:∀ {H6:Hp} {xs:List V},H6 b=some (.lst xs)->∀ (o:HO) (d:Addr) (zs:List V),H6 d=some (.tup zs)->L2.upd H6 b o d=some (.tup zs):=λ{H6 xs} hb6 o d zs hd=>by
   rw[As (λz=>by rw[z,hb6]at hd; cases hd)]
   exact hd
  have hTA:TpAt (L2.upd H5 b (.lst (ws1++ws2))) (ws1++ws2) (clsF n (· / n)++clsF n (· % n)):=((hT3.sm s35).app hT5).same λd zs hd=>up hbH _ d zs hd
  have sA:Same H2 (L2.upd H5 b (.lst (ws1++ws2))):=AG (s13.trans s35) hb00
  refine ⟨_,rfl,l,rfl,⟨_,SqL.of (sA _ _ hl)⟩,CV (K:=K) (xs:=ws) (λi σ H6=>Same H2 H6/\∃ (zs:List V) (x4:Option V),σ=[some (.ref l),some (.int ((n:Nat):Int)),some (.int ((n * n:Nat):Int)),some (.ref b),x4]/\H6 b=some (.lst zs)/\TpAt H6 zs (netL n (sqs.take i))) ⟨sA,ws1++ws2,none,rfl,Aa,by unfold netL; rw[Jc9,YR,RJ]; exact hTA⟩ (λi σ H6 _ ⟨s6,_⟩=>SqL.of (s6 _ _ hl)) ?_ ?_⟩
  ·rintro i v σ H6 hi ⟨s6,zs,x4,rfl,hb6,hT6⟩
   obtain ⟨ai,ri,rfl,hri,ui,hai,hTi⟩:=(hS.sm s6).get hi
   have hil:=(J3.mp hri).1
   have hsi:=hsq ri (Rf hri)
   refine ⟨_,rfl,.inl ⟨rfl,_,SqL.of hb6⟩,_,rfl,_,rfl,((n * n:Nat):Int),rfl,by omega,by omega,?_⟩
   rw[Rc]
   refine AX (lo:=0) (n:=n * n) (λi ys H7=>H7=H6/\ys=nats ((J1 i).map (fS n ri))) ⟨rfl,rfl⟩ ?_ ?_
   ·rintro j ys H7 N hj ⟨rfl,rfl⟩ nx
    rw[RI]
    have hjd:j / n < n:=Wk hj
    have hjm:j % n < n:=UT _ hn1
    have gr:ui[j / n]?=some (ui[j / n]'(by rw[hTi.len,hsi.1]; exact hjd)):=J7 _
    obtain ⟨tr,rr,etr,hrr,htr⟩:=hTi.get gr
    have hrl:=(hsi.2 rr (Rf hrr)).1
    have gc:(nats rr)[j % n]?=some (.int ((fS n ri j:Nat):Int)):=by
     unfold nats fS
     have e1:ri.getD (j / n) []=rr:=by rw[J9,hrr]; rfl
     rw[Rm,e1,J7 (by omega)]
     simp[show j % n < rr.length by omega]
    refine ⟨Weak.set (by intro v z; cases z),⟨_,rfl,_,rfl,_,rfl,_,_,rfl,rfl,⟨by omega,by omega⟩,ai,_,_,_,rfl,rfl,SqT.of hai,AB gr,_,rfl,_,rfl,_,_,rfl,rfl,hn0,tr,_,_,_,etr,rfl,SqT.of htr,AB gc,?_,nx _ _ ⟨rfl,?_⟩⟩⟩
    ·rw[Ag,J0,J5]
     exact Rb (show j < 26 by omega) (by decide)
    ·rw[Rs,Rp,Rt,Uf,AE]
   rintro ys H7 ⟨rfl,rfl⟩
   refine ⟨by rw[Ag,J0,J5]; exact J6 hn25 (by decide),λc3 hc3=>?_⟩
   have v3:=Ac (o:=.lst (nats ((J1 (n * n)).map (fS n ri)))) hc3
   refine ⟨c3,n,_,rfl,Aa,hmapl _,by omega,λb3 ws3 H8 _ s8 hb8 hT8=>?_⟩
   rw[Ku]at hT8
   have s78:=v3.trans s8
   have hw3:=hT8.len
   rw[Cw]at hw3
   have hz:=hT6.len
   rw[net_len,RA]at hz
   have hzz:zs.length<=30:=by
    rw[hz]
    exact J6 (R6 hn5 (show 2 + min i sqs.length<=6 by omega)) (by decide)
   have hb8':=s78 _ _ hb6
   refine ⟨b,b3,zs,ws3,rfl,rfl,hb8',hb8,J6 (show zs.length + ws3.length<=35 by omega) (by decide),?_⟩
   refine ⟨AG (s6.trans s78) hb00,_,_,rfl,Aa,?_⟩
   have e:netL n (sqs.take (i + 1))=netL n (sqs.take i)++clsF n (fS n ri):=by
    unfold netL
    rw[RO,hri,RM,Wx,Wf,YR,RJ,<- UC]
   rw[e]
   exact ((hT6.sm s78).app hT8).same λd zs hd=>up hb8' _ d zs hd
  ·rintro σ H6 ⟨s6,zs,x4,rfl,hb6,hT6⟩
   rw[hwl,RE]at hT6
   refine ⟨_,rfl,_,rfl,b,_,rfl,.inl ⟨SqL.of hb6,λu hu=>⟨by show 2<=Qe; decide,λt ht=>?_⟩⟩⟩
   have w1:=Ac (o:=.tup zs) hu
   have w2:=Ac (o:=.tup [.int ((n * n:Nat):Int),.ref u]) ht
   exact q t u zs _ ((s6.trans w1).free ht) (s6.trans (w1.trans w2)) Aa (w2 _ _ Aa) (hT6.sm (w1.trans w2))
def tDead:TS:=λ_ _ _=>False
theorem AT {X:Cx} {b:List Stmt}:QSs X b tDead:=⟨λ_ _ _ _ _ _ h=>h.elim⟩
def onV:Option Nat->V
 | none=>.non
 | some k=>.int ((k:Nat):Int)
def stN (bs:List (List Nat)) (i:Nat) (c:List Nat) (p:Nat):Option Nat:=if p∈c then some i else (bs.take i).findIdx? λb=>decide (p∈b)
theorem stN_none {bs:List (List Nat)} {i:Nat} {c:List Nat} {p:Nat}:stN bs i c p=none↔p∉(bs.take i).flatten++c:=by
 unfold stN
 rw[RU,U5]
 by_cases h:p∈c
 ·rw[if_pos h]
  simp[h]
 ·rw[if_neg h,Zo]
  simp only[decide_eq_false_iff_not]
  constructor
  ·rintro h1 (⟨b,hb,hp⟩ | h2)
   ·exact h1 b hb hp
   ·exact h h2
  ·exact λh1 b hb hp=>h1 (.inl ⟨b,hb,hp⟩)
theorem stN_set {bs:List (List Nat)} {i m p:Nat} {c:List Nat}:((J1 m).map λq=>onV (stN bs i c q)).set p (.int ((i:Nat):Int))=(J1 m).map λq=>onV (stN bs i (c++[p]) q):=by
 apply Ua
 ·simp
 intro j h1 h2
 rw[WP]
 simp only[Wr,U7]
 by_cases h:p=j
 ·subst h
  rw[if_pos rfl]
  unfold stN
  rw[if_pos (by simp)]
  rfl
 ·rw[if_neg h]
  unfold stN
  by_cases hc:j∈c
  ·rw[if_pos hc,if_pos (by simp[hc])]
  ·rw[if_neg hc,if_neg (by simp[hc]; exact λz=>h z.symm)]
theorem stN_next {bs:List (List Nat)} {i:Nat} {b:List Nat} (h:bs[i]?=some b) (nd:((bs.take i).flatten++b).Nodup) (p:Nat):stN bs i b p=stN bs (i + 1) [] p:=by
 have hil:=(J3.mp h).1
 unfold stN
 rw[if_neg (by simp:¬p∈([]:List Nat)),RO,h,RM,List.findIdx?_append]
 by_cases hp:p∈b
 ·rw[if_pos hp]
  have hn:(bs.take i).findIdx? (λb=>decide (p∈b))=none:=by
   rw[Zo]
   intro c hc
   rw[decide_eq_false_iff_not]
   intro hpc
   exact (UM.mp nd).2.2 p (U5.mpr ⟨c,hc,hpc⟩) p hp rfl
  rw[hn]
  simp[hp]
  omega
 ·rw[if_neg hp]
  simp[hp]
def Part (m:Nat) (bs:List (List Nat)):Prop:=bs.flatten.Nodup/\∀ p,p < m->p∈bs.flatten
def nmL (bs:List (List Nat)) (p:Nat):Nat:=bs.findIdx λb=>decide (p∈b)
theorem Kv {m:Nat} {bs:List (List Nat)} (h:Part m bs) {p:Nat} (hp:p < m):stN bs bs.length [] p=some (nmL bs p):=by
 unfold stN nmL
 rw[if_neg (by simp),RE]
 obtain ⟨b,hb,hpb⟩:=U5.mp (h.2 p hp)
 rw[List.findIdx?_eq_some_iff_findIdx_eq]
 exact ⟨YG ⟨b,hb,decide_eq_true hpb⟩,rfl⟩
def LT:Sp:=λvs H Q _=>∃ (l:Addr) (m:Nat) (ws:List V) (bs:List (List Nat)),vs=[.int ((m:Nat):Int),.ref l]/\H l=some (.tup ws)/\TpAt H ws bs/\(∀ b∈bs,∀ x∈b,x < m)/\m<=100/\bs.length<=100/\
 Part m bs/\∀ (t:Addr) (H':Hp),H t=none->Same H H'->H' t=some (.lst (nats ((J1 m).map (nmL bs))))->Q (.ref t) H'
theorem nones (m:Nat):(RQ m [V.non]).flatten=(J1 m).map λp=>onV (stN [] 0 [] p):=by
 induction m with
 | zero=>rfl
 | succ m ih=>
  rw[Wh,Ww,ih,Rs,Rp]
  rfl
theorem scNumbersByClass:FnScope ["points", "blocks", "numbers", "number", "block", "point"] ["points", "blocks"] (Ae Bs):=⟨rfl,rfl,rfl,by decide +kernel,rfl,by decide +kernel,by decide +kernel⟩
theorem ok_nbc {f:Addr} {fd:Qh} (F:Fun K "numbers_by_class" "numbers_by_class" Bs f fd) (T:TxtB mg):FnOk P w K mg base CX0 1 f fd ["points", "blocks"] LT:=by
 refine F.okQ scNumbersByClass (λvs H Q E h=>?_) (λcdv A outer s H vs Q E hr h=>?_)
 ·obtain ⟨l,m,ws,bs,rfl,_⟩:=h
  rfl
 ·obtain ⟨l,m,ws,bs,rfl,hl,hT,hlt,hm,hbl,hp,q⟩:=h
  refine ⟨_,(Ad (An (i:=2) scNumbersByClass.nd rfl (Ro rfl) (Aq FI (Bw (qac Cz Ab)) (qv 0)))
   (Ad (AJ PassesOwn.never rfl (CW rfl T.enu (qac (qv 1) Ab)) (BV rfl (AC (Ai (i:=3) scNumbersByClass.nd rfl (Ro rfl)) (AC (Ai (i:=4) scNumbersByClass.nd rfl (Ro rfl)) Bq)))
    (Ah (AJ PassesOwn.never rfl (DV (qv 4)) (Ai (i:=5) scNumbersByClass.nd rfl (Ro rfl))
     (Ad (Bb (Ap DF (Au AF (qv 2) (qv 5) (λ_ _=>rfl)) Cz (Az _)) AT AA)
     (Ah (Iq (qv 3) (Ip (qv 2) (qv 5) Dj (λ_=>rfl))))))))
   (Ad (Bb (Ap BD Cz (qv 2) rfl) AT AA)
   (Ah (Ax (qv 2)))))),?_⟩
  refine ⟨by show 1<=Qe; decide,λd hd=>⟨_,rfl,d,[V.non],(m:Int),rfl,rfl,SqL.of Aa,by omega,by omega,by rw[UV,Rc]; omega,λc hc=>?_⟩⟩
  have ez:(RQ ((m:Nat):Int).toNat [V.non]).flatten=(J1 m).map λp=>onV (stN bs 0 [] p):=by
   rw[Rc,nones]
   rfl
  rw[ez]
  have w1:=Ac (o:=.lst [V.non]) hd
  have w2:=Ac (o:=.lst ((J1 m).map λp=>onV (stN bs 0 [] p))) hc
  have hc0:H c=none:=w1.free hc
  have s2:=w1.trans w2
  have hc2:L2.upd (L2.upd H d (.lst [V.non])) c (.lst ((J1 m).map λp=>onV (stN bs 0 [] p))) c=some (.lst ((J1 m).map λp=>onV (stN bs 0 [] p))):=Aa
  generalize L2.upd (L2.upd H d (.lst [V.non])) c (.lst ((J1 m).map λp=>onV (stN bs 0 [] p)))=H2 at s2 hc2 ⊢
  have hwl:=hT.len
  refine ⟨_,rfl,l,rfl,⟨_,SqT.of (s2 _ _ hl)⟩,CI (K:=K) (a:=l) (xs:=ws) (λi σ H3=>Same H H3/\∃ x3 x4 x5:Option V,σ=[some (.int ((m:Nat):Int)),some (.ref l),some (.ref c),x3,x4,x5]/\H3 c=some (.lst ((J1 m).map λp=>onV (stN bs i [] p)))/\(bs.take i).flatten.Nodup) ⟨s2,none,none,none,rfl,hc2,by simp⟩ (λi σ H3 _ ⟨s3,_⟩=>SqT.of (s3 _ _ hl)) ?_ ?_⟩
  ·rintro i v U σ H3 hi ⟨s3,x3,x4,x5,rfl,hc3,nd3⟩ hU
   obtain ⟨a,b,rfl,hb,ha⟩:=(hT.sm s3).get hi
   have hbx:=hlt b (Rf hb)
   have v1:=Ac (o:=.tup [.int (i:Nat),.ref a]) hU
   refine ⟨U,_,rfl,SqT.of Aa,rfl,_,_,rfl,_,_,rfl,rfl,?_⟩
   have hcU:c≠U:=λz=>by
    rw[z,hU]at hc3
    cases hc3
   have s4:=s3.trans v1
   have ha4:=v1 _ _ ha
   have hc4:=v1 _ _ hc3
   generalize L2.upd H3 U (.tup [.int (i:Nat),.ref a])=H4 at s4 ha4 hc4 ⊢
   have hca:∀ o,L2.upd H4 c (.lst o) a=some (.tup (nats b)):=λo=>by
    rw[As (λz=>by rw[z,hc4]at ha4; cases ha4)]
    exact ha4
   refine ⟨_,rfl,a,rfl,⟨_,SqT.of ha4⟩,Hn (K:=K) (xs:=nats b) (λj σ H5=>Same H H5/\H5 a=some (.tup (nats b))/\∃ x5:Option V,σ=[some (.int ((m:Nat):Int)),some (.ref l),some (.ref c),some (.int (i:Nat)),some (.ref a),x5]/\H5 c=some (.lst ((J1 m).map λp=>onV (stN bs i (b.take j) p)))/\((bs.take i).flatten++b.take j).Nodup) ⟨s4,ha4,x5,rfl,hc4,by rw[Jc9,RJ]; exact nd3⟩ (λj σ H5 _ ⟨_,h5,_⟩=>SqT.of h5) ?_ ?_⟩
   ·rintro j v σ H5 hj ⟨s5,ha5,x5,rfl,hc5,nd5⟩
    obtain ⟨x,hx,rfl⟩:=L2.AW hj
    have hxm:=hbx x (Rf hx)
    have gx:((J1 m).map λp=>onV (stN bs i (b.take j) p))[x]?=some (onV (stN bs i (b.take j) x)):=by
     rw[Rm,RN hxm]
     rfl
    refine ⟨_,rfl,_,rfl,c,_,_,_,rfl,rfl,SqL.of hc5,AB gx,?_⟩
    have bsplit:bs.flatten=((bs.take i).flatten++b.take j)++x::(b.drop (j + 1)++(bs.drop (i + 1)).flatten):=by
     have e1:bs=bs.take i++b::bs.drop (i + 1):=by
      have hil:=(J3.mp hb).1
      have e:bs[i]=b:=(J3.mp hb).2
      rw[<- e,U6,UU]
     have e2:b=b.take j++x::b.drop (j + 1):=by
      have hjl:=(J3.mp hx).1
      have e:b[j]=x:=(J3.mp hx).2
      rw[<- e,U6,UU]
     conv=>lhs; rw[e1,Ww,U0,e2]
     simp
    cases hst:stN bs i (b.take j) x with
    | some k=>
     refine ⟨rfl,_,rfl,?_⟩
     show if (!decide (V.int ((k:Nat):Int)=V.non))=true then _ else _
     rw[decide_eq_false (by intro z; cases z)]
     refine iteT ?_
     have hin:x∈(bs.take i).flatten++b.take j:=R5 λz=>by
      rw[stN_none.mpr z]at hst
      cases hst
     have nd:=hp.1
     rw[bsplit]at nd
     exact (UM.mp nd).2.2 x hin x (Rj ..) rfl
    | none=>
     refine ⟨rfl,_,rfl,?_⟩
     show if (!decide (V.non=V.non))=true then _ else _
     rw[decide_eq_true rfl]
     refine iteF ?_
     have hni:=stN_none.mp hst
     refine ⟨_,rfl,_,rfl,_,rfl,c,_,((x:Nat):Int),x,rfl,rfl,hc5,?_,AG s5 hc0,?_,_,rfl,?_,?_⟩
     ·unfold ixN
      rw[if_pos (by omega),if_pos (by rw[J0,J5]; omega),Rc]
     ·rw[As (λz=>by rw[z,hc5]at ha5; cases ha5)]
      exact ha5
     ·rw[Aa,RO,hx,RM]
      exact congrArg (λz=>some (HO.lst z)) stN_set
     ·rw[RO,hx,RM,<- UC,UM]
      exact ⟨nd5,by simp,λy hy z hz e=>hni (by rw[Rh.mp hz]at e; rw[<- e]; exact hy)⟩
   ·rintro σ H5 ⟨s5,ha5,x5,rfl,hc5,nd5⟩
    rw[Ag,RE]at hc5 nd5
    refine ⟨s5,_,_,_,rfl,?_,?_⟩
    ·rw[hc5]
     congr 2
     exact RG λp _=>by rw[stN_next hb nd5]
    ·rw[RO,hb,RM,Ww]
     simpa using nd5
  ·rintro σ H3 ⟨s3,x3,x4,x5,rfl,hc3,nd3⟩
   rw[hwl]at hc3 nd3
   rw[RE]at nd3
   have hall:((J1 m).map λp=>onV (stN bs bs.length [] p)).all Eu=true:=by
    rw[Ue]
    intro y hy
    obtain ⟨p,_,rfl⟩:=RB.mp hy
    cases stN bs bs.length [] p <;> rfl
   refine ⟨_,rfl,c,_,rfl,.inl (SqL.of hc3),rfl,hall,_,rfl,?_⟩
   rw[if_neg (by decide)]
   have hin:inV V.non ((J1 m).map λp=>onV (stN bs bs.length [] p))=false:=by
    unfold inV
    rw[Ja7]
    intro y hy
    obtain ⟨p,hpm,rfl⟩:=RB.mp hy
    rw[Kv hp (Ra.mp hpm)]
    simp[onV,eqV]
   rw[hin]
   refine iteF ⟨_,rfl,q c _ hc0 s3 ?_⟩
   rw[hc3]
   unfold nats
   rw[Uh]
   congr 2
   exact RG λp hpm=>by rw[Kv hp (Ra.mp hpm)]; rfl
def HV:Sp:=λvs H Q _=>∃ (a b:Addr) (m:Nat) (f g:Nat->Nat),vs=[.ref a,.ref b]/\H a=some (.lst (nats ((J1 m).map f)))/\H b=some (.lst (nats ((J1 m).map g)))/\m<=64/\
 (∀ p q,p < m->q < m->f p=f q->g p=g q->p=q)/\∀ H',Same H H'->Q .non H'
theorem zp_tp {H:Hp} {ts:List Addr} {m:Nat} {f g:Nat->Nat} (h:ZpAt H ts (nats ((J1 m).map f)) (nats ((J1 m).map g))):TpAt H (ts.map V.ref) ((J1 m).map λp=>[f p,g p]):=by
 have key:∀ (k:Nat) (ts:List Addr),ts.length + k=m->(∀ (j:Nat) (t:Addr),ts[j]?=some t->H t=some (.tup (nats [f (k + j),g (k + j)])))->TpAt H (ts.map V.ref) ((List.range' k ts.length).map λp=>[f p,g p]):=by
  intro k ts
  induction ts generalizing k with
  | nil=>intro _ _; trivial
  | cons t ts ih=>
   intro hk hj
   rw[Rq,List.range'_succ,Rt,Rt]
   refine ⟨⟨t,rfl,hj 0 t rfl⟩,ih (k + 1) (by rw[Rq]at hk; omega) λj t' e=>?_⟩
   have:=hj (j + 1) t' (by rw[Uo]; exact e)
   rwa [show k + (j + 1)=k + 1 + j by omega]at this
 have hl:ts.length=m:=by rw[h.1,Ag,J0,J5]
 have:=key 0 ts (by omega) λj t e=>by
  obtain ⟨x,y,hx,hy,ht⟩:=h.2 j t e
  have hjm:j < m:=by
   have:=(J3.mp e).1
   omega
  have e1:∀ h:Nat->Nat,(nats ((J1 m).map h))[j]?=some (.int ((h j:Nat):Int)):=λh=>by
   unfold nats
   rw[Rm,Rm,RN hjm]
   rfl
  rw[e1]at hx hy
  cases hx
  cases hy
  rw[WL]
  exact ht
 rw[hl,<- List.range_eq_range']at this
 exact this
theorem scMustCross:FnScope ["numbers", "others"] ["numbers", "others"] (Ae Cj):=⟨rfl,rfl,rfl,by decide +kernel,rfl,by decide +kernel,by decide +kernel⟩
theorem ok_cross {f:Addr} {fd:Qh} (F:Fun K "must_cross" "must_cross" Cj f fd) (T:TxtB mg):FnOk P w K mg base CX0 1 f fd ["numbers", "others"] HV:=by
 refine F.okQ scMustCross (λvs H Q E h=>?_) (λcdv A outer s H vs Q E hr h=>?_)
 ·obtain ⟨a,b,m,f,g,rfl,_⟩:=h
  rfl
 ·obtain ⟨a,b,m,f,g,rfl,ha,hb,hm,hI,q⟩:=h
  have hu:(A.deeper (Jg2 "must_cross" (Ae Cj) s.heap.objs.size _ cdv)).units + 64 < cLine:=hr.units
  refine ⟨_,(Ah (Bb (Ap DE (Am (show Bx _ _ (Lp P w) from call_lenTs) (by rfl) T.len Rr (qac (AD (show Bx _ _ (Lo P w K) from call_setTs rfl hu) (by rfl) T.set (by decide +kernel) (qac (show QE _ _ (JX K _) from qe_listZ rfl (by rfl) T.lst (by rfl) T.zip (qac (qv 0) (qac (qv 1) Ab))) Ab)) Ab)) (Am Ak (by rfl) T.len Rr (qac (qv 0) Ab)) (Az _)) AT AA)),?_⟩
  refine ⟨_,rfl,_,rfl,a,b,_,_,rfl,SqL.of ha,SqL.of hb,by rw[Ag,Ag,J0,J0],by rw[Ag,J0,J5]; omega,λl ts H1 hl s1 hl1 hZ=>?_⟩
  have hT:=zp_tp hZ
  refine ⟨l,_,_,rfl,SqL.of hl1,hT,by rw[J0,J5]; exact hm,λl2 ws2 cs hl2 hT2 nd h1 h2 hle=>?_⟩
  have w2:=Ac (o:=TsO P w l2 ws2 cs) hl2
  have s2:=s1.trans w2
  refine ⟨l2,ws2,cs,rfl,Aa,hT2.sm w2,?_⟩
  generalize L2.upd H1 l2 (TsO P w l2 ws2 cs)=H2 at s2 ⊢
  refine ⟨_,rfl,a,_,rfl,.inl (SqL.of (s2 _ _ ha)),_,_,rfl,rfl,_,rfl,?_⟩
  rw[Ag,J0,J5]
  rw[J0,J5]at hle
  have ndm:((J1 m).map λp=>[f p,g p]).Nodup:=by
   rw[RR,UA]
   refine (RR.mp Ur).imp_of_mem λ{x y} hx hy h e=>h ?_
   injection e with e1 e2
   injection e2 with e2 _
   exact hI x y (Ra.mp hx) (Ra.mp hy) e1 e2
  have hge:m<=cs.length:=by
   have:=Yw ndm (l₂:=cs) λx hx=>h2 x hx
   rwa [J0,J5]at this
  exact ifF (by show ¬((cs.length:Nat):Int) < ((m:Nat):Int); omega) (q _ s2)
theorem IU {lo c:Int} {n:Nat} {g:TG} {tc:TT} {te:TE} {σ':St} {H:Hp} {G:Addr->Hp->List V->Prop} (Pv:Nat->List V->Hp->Prop) (h0:Pv 0 [] H)
  (hs:∀ i ys H (N:List V->Hp->Prop),i < n->Pv i ys H->(∀ ys' H',Pv (i + 1) ys' H'->N ys' H')->g (.int (lo + (i:Nat) * c)) σ' H λσ2 H4=>Weak σ' σ2/\tc σ2 H4 λb H5=>if b=true then te σ2 H5 λy H6=>ys.length < Qe/\N (ys++[y]) H6 else N ys H5)
  (hd:∀ ys H,Pv n ys H->ys.length<=Qe/\∀ p,H p=none->G p H ys) :
  ∃ W:Nat->Nat->List V->Hp->Prop,(∃ m,W 0 m [] H)/\∀ i m ys H2,W i m ys H2->
   ((Its lo c n).stop i H2/\ys.length<=Qe/\∀ p,H2 p=none->G p H2 ys)\/
   ((Its lo c n).go i H2/\∀ x H3,(Its lo c n).yld i H2 x H3->g x σ' H3 λσ2 H4=>Weak σ' σ2/\tc σ2 H4 λb H5=>
    if b=true then te σ2 H5 λy H6=>ys.length < Qe/\∃ m',m' < m/\W (i + 1) m' (ys++[y]) H6 else ∃ m',m' < m/\W (i + 1) m' ys H5):=by
 refine ⟨λi m ys H=>m=n - i/\i<=n/\Pv i ys H,⟨n,rfl,RP _,h0⟩,?_⟩
 rintro i m ys H2 ⟨rfl,hi,p⟩
 by_cases hlt:i < n
 ·refine .inr ⟨hlt,λx H' y=>?_⟩
  obtain ⟨rfl,e⟩:=y
  subst e
  exact hs i ys _ (λys' H''=>∃ m',m' < n - i/\m'=n - (i + 1)/\i + 1<=n/\Pv (i + 1) ys' H'') hlt p (λys' H'' p'=>⟨_,by omega,rfl,hlt,p'⟩)
 ·have e:i=n:=by omega
  subst e
  exact .inl ⟨J8 _,hd ys H2 p⟩
theorem rng_qF:∀ (n:Fin 8) (q:Fin 41),1<=n.val->Builtin.Range.small 0 ((q.val * n.val:Nat):Int) ((n.val:Nat):Int)=true/\Builtin.Range.rangeSize 0 ((q.val * n.val:Nat):Int) ((n.val:Nat):Int)=((q.val:Nat):Int):=by decide +kernel
theorem MF {n q:Nat} (h1:1<=n) (hn:n<=7) (hq:q<=40):Builtin.Range.small 0 ((q * n:Nat):Int) ((n:Nat):Int)=true/\Builtin.Range.rangeSize 0 ((q * n:Nat):Int) ((n:Nat):Int)=((q:Nat):Int):=rng_qF ⟨n,by omega⟩ ⟨q,by omega⟩ h1
def prt {α:Type} (n:Nat) (bs:List α) (k:Nat):List α:=(bs.drop (k * n)).take n
theorem Kw {xs:List V} {n k:Nat} (h:k * n + n<=xs.length):cutV xs (some ((k * n:Nat):Int)) (some ((k * n + n:Nat):Int))=prt n xs k:=by
 unfold cutV prt
 have e1:HT.sIx xs.length 0 (some ((k * n:Nat):Int))=k * n:=by rw[HT.sIx_nat]; omega
 have e2:HT.sIx xs.length xs.length (some ((k * n + n:Nat):Int))=k * n + n:=by rw[HT.sIx_nat]; omega
 rw[e1,e2,U4]
theorem prt_nats (n:Nat) (L:List Nat) (k:Nat):prt n (nats L) k=nats (prt n L k):=by
 unfold prt nats
 rw[WT,Ya]
theorem Gf {α:Type} {n k:Nat} {L:List α} (h:k * n + n<=L.length):(prt n L k).length=n:=by
 unfold prt
 rw[RA,Uj]
 omega
theorem IV {n k:Nat} (h:k < n):k * n + n<=n * n:=by
 have:(k + 1) * n<=n * n:=R9 n h
 rwa [ZP]at this
def spSB:Sp:=λvs H Q _=>∃ (l:Addr) (n:Nat) (L:List Nat),vs=[.int ((n:Nat):Int),.ref l]/\H l=some (.lst (nats L))/\L.length=n * n/\1<=n/\n<=7/\∀ (t:Addr) (H':Hp),H t=none->Same H H'->TupSq H' t ((J1 n).map (prt n L))->Q (.ref t) H'
theorem scSquareBack:FnScope ["size", "numbers"] ["size", "numbers"] (Ae BT):=⟨rfl,rfl,rfl,by decide +kernel,rfl,by decide +kernel,by decide +kernel⟩
theorem ok_sb {f:Addr} {fd:Qh} (F:Fun K "square_back" "square_back" BT f fd) (T:TxtB mg):FnOk P w K mg base CX0 1 f fd ["size", "numbers"] spSB:=by
 refine F.okQ scSquareBack (λvs H Q E h=>?_) (λcdv A outer s H vs Q E hr h=>?_)
 ·obtain ⟨l,n,L,rfl,_⟩:=h
  rfl
 ·obtain ⟨l,n,L,rfl,hl,hL,hn1,hn7,q⟩:=h
  refine ⟨_,(Ah (Ax (AD Ay (by rfl) T.tup (by decide +kernel) (qac (AH (g:=AR 0) (N:=["start", "size", "numbers"]) (src:=[none,some 0,some 1]) rfl (Al (Ae BT) ["size", "numbers"] rfl rfl (by decide +kernel) rfl) (GE rfl T.range (qac Af (qac (Aq Bd (qv 0) (qv 0)) (qac (qv 0) Ab)))) (λ_ _ _ _ _=>(Ai (i:=0) (show (["start", "size", "numbers"]:List Str).Nodup by decide +kernel) rfl (Ro rfl) (R8 rfl))) (λ_ _ _ _ _=>AQ) (λ_ _ _ _ _=>(AD (show Bx _ _ (LG K) from GJ) (by rfl) T.tup (by decide +kernel) (qac (BB (show SlR _ (rSlL K) from DG) (qv 2) (BI (qv 0)) (BI (Aq AZ (qv 0) (qv 1)))) Ab)))) Ab)))),?_⟩
  obtain ⟨sm,rs⟩:=MF (q:=n) hn1 hn7 (by omega)
  refine ⟨_,rfl,_,rfl,_,_,rfl,rfl,.inl ⟨by omega,by omega⟩,_,rfl,0,((n * n:Nat):Int),((n:Nat):Int),n,by dsimp only; rw[UG],by omega,by omega,sm,rs,?_⟩
  refine IU (lo:=0) (c:=((n:Nat):Int)) (n:=n) (λi ys H2=>Same H H2/\TpAt H2 ys ((J1 i).map (prt n L))) ⟨Same.refl _,trivial⟩ ?_ ?_
  ·rintro i ys H2 N hi ⟨s2,hT⟩ nx
   rw[RI,<- UG]
   have hle:i * n + n<=(nats L).length:=by rw[Ag,hL]; exact IV hi
   refine ⟨Weak.set (by intro v z; cases z),⟨_,rfl,_,rfl,_,rfl,_,rfl,_,rfl,_,_,rfl,rfl,_,rfl,l,_,rfl,SqL.of (s2 _ _ hl),λp hp=>?_⟩⟩
   dsimp only
   rw[show ((i * n:Nat):Int) + ((n:Nat):Int)=((i * n + n:Nat):Int) by omega,Kw hle,prt_nats]
   have w1:=Ac (o:=.lst (nats (prt n L i))) hp
   refine ⟨p,_,rfl,.inl ⟨SqL.of Aa,λt ht=>⟨?_,nx _ _ ⟨s2.trans (w1.trans (Ac ht)),?_⟩⟩⟩⟩
   ·rw[hT.len,J0,J5]
    exact Rb (show i < 8 by omega) (by decide)
   ·rw[Rs,Rp]
    exact ((hT.sm w1).sm (Ac ht)).snoc Aa
  ·rintro ys H2 ⟨s2,hT⟩
   refine ⟨by rw[hT.len,J0,J5]; exact J6 hn7 (by decide),λr hr=>⟨r,_,rfl,.inl ⟨SqL.of Aa,λt ht=>?_⟩⟩⟩
   have w1:=Ac (o:=.lst ys) hr
   have w2:=Ac (o:=.tup ys) ht
   exact q t _ ((s2.trans w1).free ht) (s2.trans (w1.trans w2)) ⟨ys,Aa,hT.sm (w1.trans w2)⟩
theorem inj_perm {n:Nat} {f:Nat->Nat} (h1:∀ x,x < n->f x < n) (h2:∀ x y,x < n->y < n->f x=f y->x=y):((J1 n).map f).Perm (J1 n):=by
 have nd:((J1 n).map f).Nodup:=by
  rw[RR,UA]
  exact (RR.mp Ur).imp_of_mem λha hb h e=>h (h2 _ _ (Ra.mp ha) (Ra.mp hb) e)
 have sub:∀ x∈(J1 n).map f,x∈J1 n:=λx hx=>by
  obtain ⟨y,hy,rfl⟩:=RB.mp hx
  exact Ra.mpr (h1 y (Ra.mp hy))
 rw[List.perm_iff_count]
 intro x
 rw[nd.count,Ur.count]
 have e:x∈(J1 n).map f↔x∈J1 n:=by
  refine ⟨sub x,λhx=>R5 λhn=>?_⟩
  have nd2:(x::(J1 n).map f).Nodup:=UN.mpr ⟨hn,nd⟩
  have:=Yw nd2 (l₂:=J1 n) λy hy=>by
   rcases Rg.mp hy with rfl | hy
   ·exact hx
   ·exact sub y hy
  rw[Rq,J0,J5]at this
  omega
 by_cases hx:x∈J1 n
 ·rw[if_pos hx,if_pos (e.mpr hx)]
 ·rw[if_neg hx,if_neg λz=>hx (e.mp z)]
theorem IW {n:Nat} {f:Nat->Nat} (h1:∀ x,x < n->f x < n) (h2:∀ x y,x < n->y < n->f x=f y->x=y) {c:Nat} (hc:c < n):∃ p,p < n/\f p=c:=by
 have:=(inj_perm h1 h2).mem_iff.mpr (Ra.mpr hc)
 obtain ⟨p,hp,e⟩:=RB.mp this
 exact ⟨p,Ra.mp hp,e⟩
theorem nm_ex {m:Nat} {bs:List (List Nat)} (h:Part m bs) {p:Nat} (hp:p < m):∃ b∈bs,decide (p∈b)=true:=by
 obtain ⟨b,hb,hpb⟩:=U5.mp (h.2 p hp)
 exact ⟨b,hb,decide_eq_true hpb⟩
theorem Gg {m:Nat} {bs:List (List Nat)} (h:Part m bs) {p:Nat} (hp:p < m):nmL bs p < bs.length:=YG (nm_ex h hp)
theorem IX {m:Nat} {bs:List (List Nat)} (h:Part m bs) {p:Nat} (hp:p < m):∃ b,bs[nmL bs p]?=some b/\p∈b:=by
 have hl:=Gg h hp
 refine ⟨bs[nmL bs p],J7 hl,?_⟩
 have:=List.findIdx_getElem (xs:=bs) (p:=λb=>decide (p∈b)) (w:=hl)
 exact of_decide_eq_true this
theorem IZ:∀ {bs:List (List Nat)} {i j:Nat} {a b:List Nat} {p:Nat},bs.flatten.Nodup->bs[i]?=some a->bs[j]?=some b->p∈a->p∈b->i=j
 | [],_,_,_,_,_,_,h,_,_,_=>by simp at h
 | c::bs,0,0,_,_,_,_,_,_,_,_=>rfl
 | c::bs,0,j + 1,a,b,p,nd,ha,hb,hpa,hpb=>by
  cases ha
  rw[Uo]at hb
  rw[U0,UM]at nd
  exact (nd.2.2 p hpa p (U5.mpr ⟨b,Rf hb,hpb⟩) rfl).elim
 | c::bs,i + 1,0,a,b,p,nd,ha,hb,hpa,hpb=>by
  cases hb
  rw[Uo]at ha
  rw[U0,UM]at nd
  exact (nd.2.2 p hpb p (U5.mpr ⟨a,Rf ha,hpa⟩) rfl).elim
 | c::bs,i + 1,j + 1,a,b,p,nd,ha,hb,hpa,hpb=>by
  rw[Uo]at ha hb
  rw[U0,UM]at nd
  rw[IZ nd.2.1 ha hb hpa hpb]
theorem nm_at {m:Nat} {bs:List (List Nat)} (h:Part m bs) {i p:Nat} {b:List Nat} (hb:bs[i]?=some b) (hpb:p∈b) (hp:p < m):nmL bs p=i:=by
 obtain ⟨c,hc,hpc⟩:=IX h hp
 exact IZ h.1 hc hb hpc hpb
def Inj (m:Nat) (A B:List (List Nat)):Prop:=∀ p q,p < m->q < m->nmL A p=nmL A q->nmL B p=nmL B q->p=q
structure Back (n m:Nat) (bs:List (List Nat)) (k:Nat):Prop where
 sq:n * n=m
 len:bs.length=k * n
 two:2<=k
 part:∀ i,i < k->Part m (prt n bs i)
 inj:∀ i j,j < i->i < k->Inj m (prt n bs i) (prt n bs j)
def kap (n:Nat) (A B:List (List Nat)) (p:Nat):Nat:=nmL A p * n + nmL B p
theorem Ja {n m:Nat} {A B:List (List Nat)} (hm:n * n=m) (hA:Part m A) (hB:Part m B) (la:A.length=n) (lb:B.length=n) {p:Nat} (hp:p < m):kap n A B p < m:=by
 unfold kap
 have h1:=Gg hA hp
 have h2:=Gg hB hp
 have h3:=IV (show nmL A p < n by omega)
 omega
theorem Fd {n a b:Nat} (hb:b < n):(a * n + b) / n=a/\(a * n + b) % n=b:=by
 have hn:0 < n:=by omega
 refine ⟨?_,?_⟩
 ·rw[Yq,Nat.add_mul_div_right _ _ hn,Uy hb,WL]
 ·rw[Yq,Nat.add_mul_mod_self_right,Wt hb]
theorem HW {n m:Nat} {A B:List (List Nat)} (hB:Part m B) (lb:B.length=n) (hI:Inj m A B) {p q:Nat} (hp:p < m) (hq:q < m) (e:kap n A B p=kap n A B q):p=q:=by
 have h1:=Fd (a:=nmL A p) (show nmL B p < n by have:=Gg hB hp; omega)
 have h2:=Fd (a:=nmL A q) (show nmL B q < n by have:=Gg hB hq; omega)
 unfold kap at e
 rw[e]at h1
 exact hI p q hp hq (h1.1.symm.trans h2.1) (h1.2.symm.trans h2.2)
def ptf (n m:Nat) (A B:List (List Nat)) (c:Nat):Nat:=((J1 m).find? λp=>decide (kap n A B p=c)).getD 0
theorem HX {n m:Nat} {A B:List (List Nat)} (hB:Part m B) (lb:B.length=n) (hI:Inj m A B) {p:Nat} (hp:p < m):ptf n m A B (kap n A B p)=p:=by
 unfold ptf
 cases h:(J1 m).find? λq=>decide (kap n A B q=kap n A B p) with
 | none=>
  rw[W3]at h
  exact (h p (Ra.mpr hp) (decide_eq_true rfl)).elim
 | some q=>
  have h1:kap n A B q=kap n A B p:=by
   have:=Jc2 h
   exact of_decide_eq_true this
  have h2:=Ra.mp (W6 h)
  exact HW hB lb hI h2 hp h1
def ptK (n m:Nat) (A B:List (List Nat)) (i:Nat) (c:Nat):Nat:=if (J1 i).any (λp=>decide (kap n A B p=c)) then ptf n m A B c else 0
theorem ptK_set {n m i:Nat} {A B:List (List Nat)} (hB:Part m B) (lb:B.length=n) (hI:Inj m A B) (hi:i < m):(nats ((J1 m).map (ptK n m A B i))).set (kap n A B i) (.int ((i:Nat):Int))=nats ((J1 m).map (ptK n m A B (i + 1))):=by
 unfold nats
 apply Ua
 ·simp
 intro j h1 h2
 rw[WP]
 simp only[Wr,U7]
 unfold ptK
 rw[Rs,Jc3]
 by_cases h:kap n A B i=j
 ·subst h
  rw[if_pos rfl,if_pos (by simp),HX hB lb hI hi]
 ·rw[if_neg h]
  simp[h]
theorem ptK_all {n m:Nat} {A B:List (List Nat)} (hm:n * n=m) (hA:Part m A) (hB:Part m B) (la:A.length=n) (lb:B.length=n) (hI:Inj m A B):(J1 m).map (ptK n m A B m)=(J1 m).map (ptf n m A B):=by
 refine RG λc hc=>?_
 obtain ⟨p,hp,e⟩:=IW (λx hx=>Ja hm hA hB la lb hx) (λx y hx hy e=>HW hB lb hI hx hy e) (Ra.mp hc)
 unfold ptK
 rw[if_pos]
 rw[YS]
 exact ⟨p,Ra.mpr hp,decide_eq_true e⟩
theorem ptf_lt {n m:Nat} {A B:List (List Nat)} (hm1:0 < m) (c:Nat):ptf n m A B c < m:=by
 unfold ptf
 cases h:(J1 m).find? λq=>decide (kap n A B q=c) with
 | none=>exact hm1
 | some q=>exact Ra.mp (W6 h)
def sqB (n m:Nat) (bs:List (List Nat)) (k:Nat):List (List Nat):=(J1 n).map (prt n ((J1 m).map λc=>nmL (prt n bs k) (ptf n m (prt n bs 0) (prt n bs 1) c)))
def Ed (n m:Nat) (bs:List (List Nat)) (k:Nat):List (List (List Nat)):=(J1 (k - 2)).map λj=>sqB n m bs (j + 2)
theorem Hg {n m k r:Nat} {bs:List (List Nat)} (h:Back n m bs k) (h1:r * r<=m) (h2:m < (r + 1) * (r + 1)):n=r:=by
 have e:=h.sq
 rcases U2 n r with z | z | z
 ·have:=R6 (show n + 1<=r from z) (show n + 1<=r from z)
  have h3:(n + 1) * (n + 1)=n * n + (2 * n + 1):=by rw[Ye,UP]; omega
  omega
 ·exact z
 ·have:=R6 (show r + 1<=n from z) (show r + 1<=n from z)
  omega
theorem Kx {H:Hp}:∀ {vs:List V} {bs:List (List Nat)} (n:Nat),TpAt H vs bs->TpAt H (vs.drop n) (bs.drop n)
 | [],[],_,_=>by simp[TpAt]
 | _::_,_::_,0,h=>h
 | _::_,_::_,n + 1,⟨_,t⟩=>Kx n t
def Ky:Sp:=λvs H Q _=>∃ (t l:Addr) (m:Nat) (ws:List V) (bs:List (List Nat)),vs=[.ref t]/\H t=some (.tup [.int ((m:Nat):Int),.ref l])/\H l=some (.tup ws)/\TpAt H ws bs/\(∀ b∈bs,∀ x∈b,x < m)/\1<=m/\m<=40/\bs.length<=40/\
 ∃ n k,Back n m bs k/\∀ (g:Addr) (us:List V) (H':Hp),H g=none->Same H H'->H' g=some (.lst us)->SqsAt H' us (Ed n m bs k)->Q (.ref g) H'
theorem scSquaresBack:FnScope ["M", "size", "classes", "place", "numbers", "other", "points", "point"] ["M"] (Ae Bp):=⟨rfl,rfl,rfl,by decide +kernel,rfl,by decide +kernel,by decide +kernel⟩
theorem ok_back {f:Addr} {fd:Qh} (F:Fun K "squares_back" "squares_back" Bp f fd) (T:TxtB mg) (pRoot:Pm P w K mg base CX0 4 "root_of" ["n"] HU) (pNumbersByClass:Pm P w K mg base CX0 1 "numbers_by_class" ["points", "blocks"] LT) (pMustCross:Pm P w K mg base CX0 1 "must_cross" ["numbers", "others"] HV) (pSquareBack:Pm P w K mg base CX0 1 "square_back" ["size", "numbers"] spSB):FnOk P w K mg base CX0 5 f fd ["M"] Ky:=by
 refine F.okQ scSquaresBack (λvs H Q E h=>?_) (λcdv A outer s H vs Q E hr4 h=>?_)
 ·obtain ⟨t,l,m,ws,bs,rfl,_⟩:=h
  rfl
 ·obtain ⟨t,l,m,ws,bs,rfl,ht,hl,hT,hlt,hm1,hm,hbl,n0,k0,hB0,q⟩:=h
  have hr1:=hr4.mono (show 1<=4 by decide)
  refine ⟨_,(Ad (An (i:=1) scSquaresBack.nd rfl (R8 rfl) ((Aj pRoot hr4 rfl Av (qac (Au Aw (qv 0) Af (λ_ _=>rfl)) Ab))))
   (Ad (Bb (QW.pt (Fn (Ap Gw (Aq Bd (qv 1) (qv 1)) (Au Aw (qv 0) Af (λ_ _=>rfl)) (Az _)) (Fn (Ap Gw (Aq Bv (Am Ak (by rfl) T.len Rr (qac (Au Aw (qv 0) Af (λ_ _=>rfl)) Ab)) (qv 1)) Af (Az _)) (Ez (Ap DE (Am Ak (by rfl) T.len Rr (qac (Au Aw (qv 0) Af (λ_ _=>rfl)) Ab)) (Aq Bd Af (qv 1)) (Az _)))))) AT AA)
   (Ad (Ce (i:=2) (g:=AR 0) (N:=["start", "M", "size"]) (src:=[none,some 0,some 1]) rfl (Al (Ae Bp) ["M", "size", "classes", "place", "numbers", "other", "points", "point"] rfl rfl (by decide +kernel) rfl) (GE rfl T.range (qac Af (qac (Am Ak (by rfl) T.len Rr (qac (Au Aw (qv 0) Af (λ_ _=>rfl)) Ab)) (qac (qv 1) Ab)))) (λ_ _ _ _ _=>(Ai (i:=0) (show (["start", "M", "size"]:List Str).Nodup by decide +kernel) rfl (Ro rfl) (R8 rfl))) (λ_ _ _ _ _=>AQ) (λ_ _ _ _ _=>(Aj pNumbersByClass hr1 rfl Av (qac (Au (show IxR _ (rIxT K) from Aw) (qv 1) Af (λ_ _=>rfl)) (qac (BB (show SlR _ rSlA from sl_tupA) (Au (show IxR _ (rIxT K) from Aw) (qv 1) Af (λ_ _=>rfl)) (BI (qv 0)) (BI (Aq AZ (qv 0) (qv 2)))) Ab)))) (Ai (i:=2) scSquaresBack.nd rfl (Ro rfl)))
   (Ad (AJ PassesOwn.never rfl (EE rfl T.enu (qac (qv 2) Ab)) (BV rfl (AC (Ai (i:=3) scSquaresBack.nd rfl (Ro rfl)) (AC (Ai (i:=4) scSquaresBack.nd rfl (Ro rfl)) Bq)))
    (Ah (AJ PassesOwn.never rfl (Bz (BB DG (qv 2) CG (BI (qv 3)))) (Ai (i:=5) scSquaresBack.nd rfl (Ro rfl))
     (Ah (AK (Aj pMustCross hr1 rfl Av (qac (qv 4) (qac (qv 5) Ab))))))))
   (Ad (An (i:=6) scSquaresBack.nd rfl (R8 rfl) (Aq FI (Bw (qac Af Ab)) (Au Aw (qv 0) Af (λ_ _=>rfl))))
   (Ad (AJ PassesOwn.never rfl (Ar rfl T.range (qac (Au Aw (qv 0) Af (λ_ _=>rfl)) Ab)) (Ai (i:=7) scSquaresBack.nd rfl (Ro rfl))
    (Ah (Iq (qv 7) (Ip (qv 6) (Aq AZ (Aq Bd (Au AF (Au AF (qv 2) Af (λ_ _=>rfl)) (qv 7) (λ_ _=>rfl)) (qv 1)) (Au AF (Au AF (qv 2) Af (λ_ _=>rfl)) (qv 7) (λ_ _=>rfl))) Dj (λ_=>rfl)))))
   (Ah (Ax ((AH (g:=AR 0) (N:=["numbers", "size", "points"]) (src:=[none,some 1,some 6]) rfl (Al (Ae Bp) ["M", "size", "classes", "place", "numbers", "other", "points", "point"] rfl rfl (by decide +kernel) rfl) (Bz (BB DG (qv 2) (BI Af) CG)) (λ_ _ _ _ _=>(Ai (i:=0) (show (["numbers", "size", "points"]:List Str).Nodup by decide +kernel) rfl (R8 rfl) (Ro rfl))) (λ_ _ _ _ _=>AQ) (λ_ _ _ _ _=>(Aj pSquareBack hr1 rfl Av (qac (qv 1) (qac (AH (g:=AR 0) (N:=["point", "numbers"]) (src:=[none,some 0]) rfl (Ey ["numbers", "size", "points"] rfl rfl rfl) (show QI _ _ _ (LE K _) from Bz (qv 2)) (λ_ _ _ _ _=>(Ai (i:=0) (show (["point", "numbers"]:List Str).Nodup by decide +kernel) rfl (Ro rfl) (R8 rfl))) (λ_ _ _ _ _=>AQ) (λ_ _ _ _ _=>(Au (show IxR _ (rIxL K) from AF) (qv 1) (qv 0) (λ_ _=>rfl)))) Ab)))))))))))))),?_⟩
  refine ⟨_,rfl,t,_,0,.int ((m:Nat):Int),rfl,rfl,SqT.of ht,rfl,m,rfl,by omega,λr hra hrb=>?_⟩
  have hr1':1<=r:=by
   rcases U8 r with z | z
   ·subst z
    simp at hrb
    omega
   ·exact z
  have hr6:r<=6:=by
   refine R5 λz=>?_
   have:=R6 (show 7<=r by omega) (show 7<=r by omega)
   omega
  have hwl:=hT.len
  refine ⟨_,rfl,_,rfl,_,_,rfl,rfl,.inl ⟨by omega,by omega⟩,_,rfl,t,_,0,.int ((m:Nat):Int),rfl,rfl,SqT.of ht,rfl,rfl,_,rfl,?_⟩
  have hsq:r * r=m:=by rw[<- Hg hB0 hra hrb]; exact hB0.sq
  refine JD (by show V.int (((r:Nat):Int) * ((r:Nat):Int))=V.int ((m:Nat):Int); rw[<- UG,hsq]) ?_
  refine ⟨_,rfl,t,_,1,.ref l,rfl,rfl,SqT.of ht,rfl,l,ws,rfl,.inr (SqT.of hl),_,rfl,_,_,rfl,rfl,by omega,rfl,_,rfl,?_⟩
  have hmod:bs.length % r=0:=by rw[<- Hg hB0 hra hrb,hB0.len]; exact Nat.mul_mod_left _ _
  refine JD (by show V.int (((ws.length:Nat):Int) % ((r:Nat):Int))=V.int 0; rw[hwl,<- Jc4,hmod]; rfl) ?_
  refine ⟨_,rfl,t,_,1,.ref l,rfl,rfl,SqT.of ht,rfl,l,ws,rfl,.inr (SqT.of hl),_,rfl,_,_,rfl,rfl,.inl ⟨by omega,by omega⟩,_,_,rfl,rfl,_,rfl,?_⟩
  have htwo:¬bs.length < 2 * r:=by
   have e:=Hg hB0 hra hrb
   have h1:=hB0.len
   have h2:=R9 n0 hB0.two
   rw[e]at h1 h2
   omega
  refine ifF (by show ¬((ws.length:Nat):Int) < 2 * ((r:Nat):Int); omega) ?_
  obtain ⟨k,hk⟩:∃ k,bs.length=k * r:=⟨bs.length / r,by
   have:=WY bs.length r
   rw[hmod,W5,R4]at this
   exact this.symm⟩
  have hk2:2<=k:=by
   refine R5 λz=>htwo ?_
   rw[hk]
   exact (Nat.mul_lt_mul_right (by omega)).mpr (by omega)
  have hk40:k<=40:=by
   have:=Z6 k hr1'
   omega
  have hpb:∀ i,i < k->∀ b∈prt r bs i,∀ x∈b,x < m:=λi hi b hb=>hlt b (Wi (WR hb))
  have hil:∀ i,i < k->i * r + r<=bs.length:=λi hi=>by
   rw[hk]
   have:(i + 1) * r<=k * r:=R9 r hi
   rwa [ZP]at this
  obtain ⟨sm,rs⟩:=MF (q:=k) hr1' (by omega) hk40
  refine ⟨_,rfl,t,_,1,.ref l,rfl,rfl,SqT.of ht,rfl,l,ws,rfl,.inr (SqT.of hl),_,rfl,0,((k * r:Nat):Int),((r:Nat):Int),k,by rw[hwl,hk],by omega,by omega,sm,rs,?_⟩
  refine IU (lo:=0) (c:=((r:Nat):Int)) (n:=k) (λi ys H2=>Same H H2/\BlAt H2 ys ((J1 i).map λj=>(J1 m).map (nmL (prt r bs j)))/\∀ j,j < i->Part m (prt r bs j)) ⟨Same.refl _,trivial,nofun⟩ ?_ ?_
  ·rintro i ys H2 N hi ⟨s2,hB,hP⟩ nx
   rw[RI,<- UG]
   refine ⟨Weak.set (by intro v z; cases z),⟨_,rfl,t,_,0,.int ((m:Nat):Int),rfl,rfl,SqT.of (s2 _ _ ht),rfl,_,rfl,t,_,1,.ref l,rfl,rfl,SqT.of (s2 _ _ ht),rfl,_,rfl,_,rfl,_,rfl,_,rfl,_,_,rfl,rfl,_,rfl,l,ws,rfl,s2 _ _ hl,λp H3 s3 hp3=>?_⟩⟩
   rw[show ((i * r:Nat):Int) + ((r:Nat):Int)=((i * r + r:Nat):Int) by omega,Kw (by rw[hwl]; exact hil i hi)]at hp3
   have hTp:TpAt H3 (prt r ws i) (prt r bs i):=by
    unfold prt
    exact (Kx _ (hT.sm (s2.trans s3))).take _
   have hpart:Part m (prt r bs i):=by
    have e:=Hg hB0 hra hrb
    have hl0:=hB0.len
    rw[e,hk]at hl0
    have:=W1 (by omega) hl0
    rw[<- e]
    exact hB0.part i (by omega)
   refine ⟨p,m,_,_,rfl,hp3,hTp,hpb i hi,by omega,by rw[Gf (hil i hi)]; omega,hpart,λt' H4 ht' s4 ht4=>⟨?_,nx _ _ ⟨s2.trans (s3.trans s4),?_,?_⟩⟩⟩
   ·rw[hB.len,J0,J5]
    exact Rb (show i < 41 by omega) (by decide)
   ·rw[Rs,Rp]
    exact ((hB.same s3).same s4).snoc ht4
   ·intro j hj
    by_cases hji:j < i
    ·exact hP j hji
    ·rw[show j=i by omega]
     exact hpart
  rintro ys H2 ⟨s2,hB,hP⟩
  have hyl:ys.length=k:=by rw[hB.len,J0,J5]
  refine ⟨J6 (show ys.length<=40 by omega) (by decide),λc hc=>?_⟩
  have w1:=Ac (o:=.lst ys) hc
  have hc3:L2.upd H2 c (.lst ys) c=some (.lst ys):=Aa
  have hB3:=hB.same w1
  have s3:Same H (L2.upd H2 c (.lst ys)):=s2.trans w1
  have hc0:H c=none:=s2.free hc
  dsimp only[AR]
  generalize L2.upd H2 c (.lst ys)=H3 at hc3 hB3 s3 ⊢
  clear w1 hc hB s2
  have gcl:∀ {H4:Hp},Same H3 H4->∀ j,j < k->∃ a,ys[j]?=some (.ref a)/\H4 a=some (.lst (nats ((J1 m).map (nmL (prt r bs j))))):=λ{H4} s4 j hj=>by
   have g:ys[j]?=some (ys[j]'(by omega)):=J7 _
   obtain ⟨a,b,e,hb,ha⟩:=(hB3.same s4).get g
   rw[Rm,RN hj]at hb
   cases hb
   exact ⟨a,by rw[g,e],ha⟩
  have bN:∀ {n k'},Back n m bs k'->n=r/\k'=k:=λ{n k'} hBk=>by
   have e:=Hg hBk hra hrb
   refine ⟨e,?_⟩
   subst e
   have:=hBk.len
   rw[hk]at this
   exact (W1 (by omega) this).symm
  refine ⟨_,rfl,c,rfl,⟨_,SqL.of hc3⟩,FJ (K:=K) (a:=c) (xs:=ys) (λi σ H4=>Same H3 H4/\(∃ x3 x4 x5:Option V,σ=[some (.ref t),some (.int ((r:Nat):Int)),some (.ref c),x3,x4,x5,none,none])/\∀ a b,b < a->a < i->Inj m (prt r bs a) (prt r bs b)) ⟨Same.refl _,⟨none,none,none,rfl⟩,λa b _ h=>absurd h (UO _)⟩ (λi σ H4 _ ⟨s4,_⟩=>SqL.of (s4 _ _ hc3)) ?_ ?_⟩
  ·rintro i v U σ H4 hi ⟨s4,⟨x3,x4,x5,rfl⟩,hI⟩ hU
   have hik:i < k:=by
    have:=(J3.mp hi).1
    omega
   obtain ⟨a,ea,ha⟩:=gcl s4 i hik
   rw[ea]at hi
   cases hi
   have v1:=Ac (o:=.tup [.int (i:Nat),.ref a]) hU
   refine ⟨U,_,rfl,SqT.of Aa,rfl,_,_,rfl,_,_,rfl,rfl,?_⟩
   have s5:=s4.trans v1
   generalize L2.upd H4 U (.tup [.int (i:Nat),.ref a])=H5 at s5 ⊢
   refine ⟨_,rfl,_,rfl,_,rfl,c,_,rfl,SqL.of (s5 _ _ hc3),λp hp=>?_⟩
   rw[Lf (by omega)]
   have v2:=Ac (o:=.lst (ys.take i)) hp
   have s6:=s5.trans v2
   have hp6:L2.upd H5 p (.lst (ys.take i)) p=some (.lst (ys.take i)):=Aa
   generalize L2.upd H5 p (.lst (ys.take i))=H6 at s6 hp6 ⊢
   refine ⟨p,rfl,⟨_,SqL.of hp6⟩,CV (K:=K) (xs:=ys.take i) (λj σ H7=>Same H6 H7/\(∃ x5:Option V,σ=[some (.ref t),some (.int ((r:Nat):Int)),some (.ref c),some (.int (i:Nat)),some (.ref a),x5,none,none])/\∀ b,b < j->Inj m (prt r bs i) (prt r bs b)) ⟨Same.refl _,⟨x5,rfl⟩,nofun⟩ (λj σ H7 _ ⟨s7,_⟩=>SqL.of (s7 _ _ hp6)) ?_ ?_⟩
   ·rintro j v σ H7 hj ⟨s7,⟨x5,rfl⟩,hJ⟩
    have hji:j < i:=by
     have:=(J3.mp hj).1
     rw[RA]at this
     omega
    rw[UZ hji]at hj
    obtain ⟨b,eb,hb⟩:=gcl (s6.trans s7) j (by omega)
    rw[eb]at hj
    cases hj
    obtain ⟨a',ea',ha'⟩:=gcl (s6.trans s7) i hik
    rw[ea]at ea'
    cases ea'
    have hx:Inj m (prt r bs i) (prt r bs j):=by
     obtain ⟨e1,e2⟩:=bN hB0
     rw[<- e1]
     exact hB0.inj i j hji (by omega)
    refine ⟨_,rfl,_,rfl,a,b,m,_,_,rfl,ha',hb,by omega,hx,λH8 s8=>⟨s7.trans s8,⟨_,rfl⟩,λb' hb'=>?_⟩⟩
    ·by_cases hlt':b' < j
     ·exact hJ b' hlt'
     ·rw[show b'=j by omega]
      exact hx
   ·rintro σ H7 ⟨s7,⟨x5,rfl⟩,hJ⟩
    refine ⟨s6.trans s7,⟨_,_,_,rfl⟩,λa' b' hba hai=>?_⟩
    by_cases hlt':a' < i
    ·exact hI a' b' hba hlt'
    ·rw[show a'=i by omega]at hba ⊢
     exact hJ b' (by rw[RA]; omega)
  ·rintro σ H4 ⟨s4,⟨x3,x4,x5,rfl⟩,hI⟩
   rw[hyl]at hI
   have hBack:Back r m bs k:=⟨hsq,hk,hk2,hP,λi j hji hik=>hI i j hji hik⟩
   have la:(prt r bs 0).length=r:=Gf (hil 0 (by omega))
   have lb:(prt r bs 1).length=r:=Gf (hil 1 (by omega))
   have hPA:=hP 0 (by omega)
   have hPB:=hP 1 (by omega)
   have hAB:Inj m (prt r bs 0) (prt r bs 1):=λp q hp hq e1 e2=>hI 1 0 (by omega) (by omega) p q hp hq e2 e1
   have s34:=s3.trans s4
   refine ⟨by show 1<=Qe; decide,λd hd=>?_⟩
   have w1:=Ac (o:=.lst [V.int 0]) hd
   refine ⟨_,rfl,t,_,0,.int ((m:Nat):Int),rfl,rfl,SqT.of (w1 _ _ (s34 _ _ ht)),rfl,d,[V.int 0],(m:Int),rfl,rfl,SqL.of Aa,by omega,by omega,by rw[UV,Rc]; omega,λpt hpt=>?_⟩
   have ez:(RQ ((m:Nat):Int).toNat [V.int 0]).flatten=nats ((J1 m).map (ptK r m (prt r bs 0) (prt r bs 1) 0)):=by
    rw[Rc]
    have:∀ j:Nat,(RQ j [V.int 0]).flatten=nats ((J1 j).map (ptK r m (prt r bs 0) (prt r bs 1) 0)):=λj=>by
     induction j with
     | zero=>rfl
     | succ j ih=>
      rw[Wh,Ww,ih,Rs,Rp,Rt,Uf,AE]
      rfl
    exact this m
   rw[ez]
   have w2:=Ac (o:=.lst (nats ((J1 m).map (ptK r m (prt r bs 0) (prt r bs 1) 0)))) hpt
   have s5:=s4.trans (w1.trans w2)
   have hp5:L2.upd (L2.upd H4 d (.lst [V.int 0])) pt (.lst (nats ((J1 m).map (ptK r m (prt r bs 0) (prt r bs 1) 0)))) pt=some (.lst (nats ((J1 m).map (ptK r m (prt r bs 0) (prt r bs 1) 0)))):=Aa
   have hpt0:H3 pt=none:=s4.free (w1.free hpt)
   generalize L2.upd (L2.upd H4 d (.lst [V.int 0])) pt (.lst (nats ((J1 m).map (ptK r m (prt r bs 0) (prt r bs 1) 0))))=H5 at s5 hp5 ⊢
   refine ⟨_,rfl,t,_,0,.int ((m:Nat):Int),rfl,rfl,SqT.of (s5 _ _ (s3 _ _ ht)),rfl,((m:Nat):Int),rfl,by omega,by omega,?_⟩
   rw[Rc]
   refine AM (lo:=0) (n:=m) (λi σ H6=>Same H3 H6/\(∃ x7:Option V,σ=[some (.ref t),some (.int ((r:Nat):Int)),some (.ref c),x3,x4,x5,some (.ref pt),x7])/\H6 pt=some (.lst (nats ((J1 m).map (ptK r m (prt r bs 0) (prt r bs 1) i))))) ⟨s5,⟨none,rfl⟩,hp5⟩ ?_ ?_
   ·rintro i σ H6 hi ⟨s6,⟨x7,rfl⟩,hp6⟩
    rw[RI]
    obtain ⟨a0,ea0,ha0⟩:=gcl s6 0 (by omega)
    obtain ⟨a1,ea1,ha1⟩:=gcl s6 1 (by omega)
    have gat:∀ j,(nats ((J1 m).map (nmL (prt r bs j))))[i]?=some (.int ((nmL (prt r bs j) i:Nat):Int)):=λj=>by
     unfold nats
     rw[Rm,Rm,RN hi]
     rfl
    have hka:=Ja hsq hPA hPB la lb hi
    refine ⟨_,rfl,_,rfl,_,rfl,c,_,_,_,rfl,rfl,SqL.of (s6 _ _ hc3),AB (j:=0) ea0,_,rfl,a0,_,_,_,rfl,rfl,SqL.of ha0,AB (gat 0),_,rfl,_,_,rfl,rfl,.inl ⟨by have:=Gg hPA hi; omega,by have:=Gg hPA hi; omega⟩,_,rfl,c,_,_,_,rfl,rfl,SqL.of (s6 _ _ hc3),AB (j:=1) ea1,_,rfl,a1,_,_,_,rfl,rfl,SqL.of ha1,AB (gat 1),_,_,rfl,rfl,?_⟩
    have ek:((nmL (prt r bs 0) i:Nat):Int) * ((r:Nat):Int) + ((nmL (prt r bs 1) i:Nat):Int)=((kap r (prt r bs 0) (prt r bs 1) i:Nat):Int):=by
     unfold kap
     rw[Wd,UG]
    refine ⟨pt,_,_,kap r (prt r bs 0) (prt r bs 1) i,rfl,rfl,hp6,?_,AG s6 hpt0,⟨_,rfl⟩,?_⟩
    ·rw[ek]
     unfold ixN
     rw[if_pos (by omega),if_pos (by rw[Ag,J0,J5]; omega),Rc]
    ·rw[Aa,ptK_set hPB lb hAB hi]
   ·rintro σ H6 ⟨s6,⟨x7,rfl⟩,hp6⟩
    rw[ptK_all hsq hPA hPB la lb hAB]at hp6
    have s36:=s3.trans s6
    refine ⟨_,rfl,_,rfl,c,_,rfl,SqL.of (s6 _ _ hc3),λp hp=>?_⟩
    rw[show cutV ys (some 2) none=ys.drop 2 from FK (k:=2) (by omega)]
    have w1:=Ac (o:=.lst (ys.drop 2)) hp
    have s7:=s6.trans w1
    have hp7:L2.upd H6 p (.lst (ys.drop 2)) p=some (.lst (ys.drop 2)):=Aa
    have hpt7:=w1 _ _ hp6
    generalize L2.upd H6 p (.lst (ys.drop 2))=H7 at s7 hp7 hpt7 ⊢
    refine ⟨p,rfl,⟨_,SqL.of hp7⟩,BE (K:=K) (xs:=ys.drop 2) (λj zs H8=>Same H7 H8/\SqsAt H8 zs ((J1 j).map λi=>sqB r m bs (i + 2))) ⟨Same.refl _,trivial⟩ (λj zs H8 _ ⟨s8,_⟩=>SqL.of (s8 _ _ hp7)) ?_ ?_⟩
    ·rintro j v zs H8 N hj ⟨s8,hZ⟩ nx
     have hjk:j + 2 < k:=by
      have:=(J3.mp hj).1
      rw[Uj]at this
      omega
     rw[YC,Yq]at hj
     obtain ⟨a,ea,ha⟩:=gcl (s7.trans s8) (j + 2) hjk
     rw[ea]at hj
     cases hj
     have hpt8:=s8 _ _ hpt7
     refine ⟨Weak.set (by intro v z; cases z),?_⟩
     refine ⟨_,rfl,_,rfl,pt,rfl,⟨_,SqL.of hpt8⟩,BE (K:=K) (xs:=nats ((J1 m).map (ptf r m (prt r bs 0) (prt r bs 1)))) (λc us H9=>H9=H8/\us=nats ((J1 c).map λx=>nmL (prt r bs (j + 2)) (ptf r m (prt r bs 0) (prt r bs 1) x))) ⟨rfl,rfl⟩ (λc us H9 _ ⟨e,_⟩=>SqL.of (e▸hpt8)) ?_ ?_⟩
     ·rintro x v us H9 N9 hx ⟨rfl,rfl⟩ nx9
      have hxm:x < m:=by
       have:=(J3.mp hx).1
       rw[Ag,J0,J5]at this
       exact this
      have ev:v=.int ((ptf r m (prt r bs 0) (prt r bs 1) x:Nat):Int):=by
       unfold nats at hx
       rw[Rm,Rm,RN hxm]at hx
       cases hx
       rfl
      subst ev
      have gp:(nats ((J1 m).map (nmL (prt r bs (j + 2)))))[ptf r m (prt r bs 0) (prt r bs 1) x]?=some (.int ((nmL (prt r bs (j + 2)) (ptf r m (prt r bs 0) (prt r bs 1) x):Nat):Int)):=by
       unfold nats
       rw[Rm,Rm,RN (ptf_lt (by omega) x)]
       rfl
      refine ⟨Weak.set (by intro v z; cases z),⟨_,rfl,_,rfl,a,_,_,_,rfl,rfl,SqL.of ha,AB gp,?_,nx9 _ _ ⟨rfl,?_⟩⟩⟩
      ·rw[Ag,J0,J5]
       exact Rb (show x < 41 by omega) (by decide)
      ·rw[Rs,Rp,Rt,Uf,AE]
     rintro us H9 ⟨rfl,rfl⟩
     rw[show (nats ((J1 m).map (ptf r m (prt r bs 0) (prt r bs 1)))).length=m by rw[Ag,J0,J5]]
     refine ⟨by rw[Ag,J0,J5]; exact J6 (show m<=41 by omega) (by decide),λe he=>?_⟩
     have w2:=Ac (o:=.lst (nats ((J1 m).map λx=>nmL (prt r bs (j + 2)) (ptf r m (prt r bs 0) (prt r bs 1) x)))) he
     refine ⟨e,r,_,rfl,Aa,by rw[J0,J5,hsq],hr1',by omega,λu H10 hu s10 hu10=>⟨?_,nx _ _ ⟨s8.trans (w2.trans s10),?_⟩⟩⟩
     ·rw[hZ.len,J0,J5]
      exact Rb (show j < 41 by omega) (by decide)
     ·rw[Rs,Rp]
      exact (hZ.sm (w2.trans s10)).snoc hu10
    ·rintro zs H8 ⟨s8,hZ⟩
     rw[Uj,hyl]at hZ
     refine ⟨by rw[hZ.len,J0,J5]; exact J6 (show k - 2<=40 by omega) (by decide),λg hg=>?_⟩
     have w3:=Ac (o:=.lst zs) hg
     obtain ⟨e1,e2⟩:=bN hB0
     rw[<- e1,<- e2]at hZ
     exact q g zs _ (s3.free (s7.free (s8.free hg))) (s3.trans (s7.trans (s8.trans w3))) Aa (hZ.sm w3)
theorem Jb {row:List Nat} {k:Nat} (hk:k<=row.length):cutV (nats row) (some ((k:Nat):Int)) none=nats (row.drop k):=by
 rw[FK (by rw[Ag]; exact hk)]
 unfold nats
 rw[Ya]
theorem not_whole {n c:Nat} (h:c < n):¬ (HT.sIx n 0 (some (((c:Nat):Int) + 1))=0/\HT.sIx n n none=n):=by
 rintro ⟨z,_⟩
 rw[show (((c:Nat):Int) + 1)=((c + 1:Nat):Int) by omega,HT.sIx_nat]at z
 omega
theorem scFirstTwice:FnScope ["rows", "r", "row", "c", "number"] ["rows"] (Ae BS):=⟨rfl,rfl,rfl,by decide +kernel,rfl,by decide +kernel,by decide +kernel⟩
def Gh:Sp:=λvs H Q _=>∃ (t:Addr) (ws:List V) (rs:List (List Nat)),vs=[.ref t]/\H t=some (.tup ws)/\TpAt H ws rs/\(∀ r∈rs,r.Nodup)/\∀ H',Same H H'->Q .non H'
theorem ok_firstT {f:Addr} {fd:Qh} (F:Fun K "first_twice" "first_twice" BS f fd) (T:TxtB mg):FnOk P w K mg base CX0 1 f fd ["rows"] Gh:=by
 refine F.okQ scFirstTwice (λvs H Q E h=>?_) (λcdv A outer s H vs Q E hr h=>?_)
 ·obtain ⟨t,ws,rs,rfl,_⟩:=h
  rfl
 ·obtain ⟨t,ws,rs,rfl,ht,hT,hs,q⟩:=h
  refine ⟨_,(Ad (AJ PassesOwn.never rfl (CW rfl T.enu (qac (qv 0) Ab)) (BV rfl (AC (Ai (i:=1) scFirstTwice.nd rfl (Ro rfl)) (AC (Ai (i:=2) scFirstTwice.nd rfl (Ro rfl)) Bq)))
    (Ah (AJ PassesOwn.never rfl (CW rfl T.enu (qac (qv 2) Ab)) (BV rfl (AC (Ai (i:=3) scFirstTwice.nd rfl (Ro rfl)) (AC (Ai (i:=4) scFirstTwice.nd rfl (Ro rfl)) Bq)))
     (Ah (Bb (Ap BD (qv 4) (BB Ij (qv 2) (BI (Aq AZ (qv 3) Af)) CG) rfl) AT AA)))))
   (Ah (Ax Cz))),?_⟩
  refine ⟨_,rfl,t,rfl,⟨_,SqT.of ht⟩,CI (K:=K) (xs:=ws) (λr σ H2=>Same H H2/\∃ x1 x2 x3 x4,σ=[some (.ref t),x1,x2,x3,x4]) ⟨Same.refl _,none,none,none,none,rfl⟩ (λr σ H2 _ ⟨e,_⟩=>SqT.of (e _ _ ht)) ?_ ?_⟩
  ·rintro r v T1 σ H2 hr' ⟨s2,x1,x2,x3,x4,rfl⟩ hT1
   obtain ⟨a,row,rfl,hrow',ha⟩:=(hT.sm s2).get hr'
   have hrow:=hs row (Rf hrow')
   have w1:=Ac (o:=.tup [V.int ((r:Nat):Int),V.ref a]) hT1
   have s3:=s2.trans w1
   have ha3:=w1 _ _ ha
   refine ⟨T1,_,rfl,SqT.of Aa,rfl,_,_,rfl,_,_,rfl,rfl,?_⟩
   generalize upd H2 T1 (.tup [V.int ((r:Nat):Int),V.ref a])=H3 at s3 ha3 ⊢
   refine ⟨_,rfl,a,rfl,⟨_,SqT.of ha3⟩,CI (K:=K) (xs:=nats row) (λc σ H4=>Same H3 H4/\∃ x3 x4,σ=[some (.ref t),some (.int ((r:Nat):Int)),some (.ref a),x3,x4]) ⟨Same.refl _,_,_,rfl⟩ (λc σ H4 _ ⟨e,_⟩=>SqT.of (e _ _ ha3)) ?_ ?_⟩
   ·rintro c v T2 σ H4 hc ⟨s4,x3,x4,rfl⟩ hT2
    obtain ⟨y,hy,rfl⟩:=L2.AW hc
    have hcl:=(J3.mp hy).1
    have w2:=Ac (o:=.tup [V.int ((c:Nat):Int),V.int ((y:Nat):Int)]) hT2
    have s5:=s4.trans w2
    have ha5:=s5 _ _ ha3
    refine ⟨T2,_,rfl,SqT.of Aa,rfl,_,_,rfl,_,_,rfl,rfl,?_⟩
    generalize upd H4 T2 (.tup [V.int ((c:Nat):Int),V.int ((y:Nat):Int)])=H5 at s5 ha5 ⊢
    have ecut:cutV (nats row) (some (((c:Nat):Int) + 1)) none=nats (row.drop (c + 1)):=Jb (k:=c + 1) (by omega)
    refine ⟨_,rfl,_,rfl,_,rfl,_,_,rfl,rfl,_,rfl,a,nats row,rfl,SqT.of ha5,by rw[Ag]; exact not_whole (by omega),λp hp=>?_⟩
    rw[ecut]
    have w3:=Ac (o:=.tup (nats (row.drop (c + 1)))) hp
    refine ⟨p,_,rfl,.inr (SqT.of Aa),rfl,BF _,_,rfl,?_⟩
    have hni:inV (V.int ((y:Nat):Int)) (nats (row.drop (c + 1)))=false:=by
     rw[BK]
     refine decide_eq_false λhm=>?_
     have e:row.drop c=y::row.drop (c + 1):=by
      rw[<- (J3.mp hy).2]
      exact (U6 hcl).symm
     have nd:=hrow.sublist (YI c row)
     rw[e]at nd
     exact (UN.mp nd).1 hm
    show if inV (V.int ((y:Nat):Int)) (nats (row.drop (c + 1)))=true then _ else _
    rw[hni]
    exact iteF ⟨s5.trans w3,_,_,rfl⟩
   ·rintro σ H4 ⟨s4,x3,x4,rfl⟩
    exact ⟨s3.trans s4,_,_,_,_,rfl⟩
  ·rintro σ H2 ⟨s2,x1,x2,x3,x4,rfl⟩
   exact q _ s2
def Gi:Sp:=λvs H Q _=>∃ (t:Addr) (ws:List V) (rs:List (List Nat)),vs=[.ref t]/\H t=some (.lst ws)/\BlAt H ws rs/\(∀ r∈rs,r.Nodup)/\∀ H',Same H H'->Q .non H'
theorem ok_firstL {f:Addr} {fd:Qh} (F:Fun K "first_twice" "first_twice" BS f fd) (T:TxtB mg):FnOk P w K mg base CX0 1 f fd ["rows"] Gi:=by
 refine F.okQ scFirstTwice (λvs H Q E h=>?_) (λcdv A outer s H vs Q E hr h=>?_)
 ·obtain ⟨t,ws,rs,rfl,_⟩:=h
  rfl
 ·obtain ⟨t,ws,rs,rfl,ht,hT,hs,q⟩:=h
  refine ⟨_,(Ad (AJ PassesOwn.never rfl (EE rfl T.enu (qac (qv 0) Ab)) (BV rfl (AC (Ai (i:=1) scFirstTwice.nd rfl (Ro rfl)) (AC (Ai (i:=2) scFirstTwice.nd rfl (Ro rfl)) Bq)))
    (Ah (AJ PassesOwn.never rfl (EE rfl T.enu (qac (qv 2) Ab)) (BV rfl (AC (Ai (i:=3) scFirstTwice.nd rfl (Ro rfl)) (AC (Ai (i:=4) scFirstTwice.nd rfl (Ro rfl)) Bq)))
     (Ah (Bb (Ap BD (qv 4) (BB DG (qv 2) (BI (Aq AZ (qv 3) Af)) CG) rfl) AT AA)))))
   (Ah (Ax Cz))),?_⟩
  refine ⟨_,rfl,t,rfl,⟨_,SqL.of ht⟩,FJ (K:=K) (xs:=ws) (λr σ H2=>Same H H2/\∃ x1 x2 x3 x4,σ=[some (.ref t),x1,x2,x3,x4]) ⟨Same.refl _,none,none,none,none,rfl⟩ (λr σ H2 _ ⟨e,_⟩=>SqL.of (e _ _ ht)) ?_ ?_⟩
  ·rintro r v T1 σ H2 hr' ⟨s2,x1,x2,x3,x4,rfl⟩ hT1
   obtain ⟨a,row,rfl,hrow',ha⟩:=(hT.same s2).get hr'
   have hrow:=hs row (Rf hrow')
   have w1:=Ac (o:=.tup [V.int ((r:Nat):Int),V.ref a]) hT1
   have s3:=s2.trans w1
   have ha3:=w1 _ _ ha
   refine ⟨T1,_,rfl,SqT.of Aa,rfl,_,_,rfl,_,_,rfl,rfl,?_⟩
   generalize upd H2 T1 (.tup [V.int ((r:Nat):Int),V.ref a])=H3 at s3 ha3 ⊢
   refine ⟨_,rfl,a,rfl,⟨_,SqL.of ha3⟩,FJ (K:=K) (xs:=nats row) (λc σ H4=>Same H3 H4/\∃ x3 x4,σ=[some (.ref t),some (.int ((r:Nat):Int)),some (.ref a),x3,x4]) ⟨Same.refl _,_,_,rfl⟩ (λc σ H4 _ ⟨e,_⟩=>SqL.of (e _ _ ha3)) ?_ ?_⟩
   ·rintro c v T2 σ H4 hc ⟨s4,x3,x4,rfl⟩ hT2
    obtain ⟨y,hy,rfl⟩:=L2.AW hc
    have hcl:=(J3.mp hy).1
    have w2:=Ac (o:=.tup [V.int ((c:Nat):Int),V.int ((y:Nat):Int)]) hT2
    have s5:=s4.trans w2
    have ha5:=s5 _ _ ha3
    refine ⟨T2,_,rfl,SqT.of Aa,rfl,_,_,rfl,_,_,rfl,rfl,?_⟩
    generalize upd H4 T2 (.tup [V.int ((c:Nat):Int),V.int ((y:Nat):Int)])=H5 at s5 ha5 ⊢
    have ecut:cutV (nats row) (some (((c:Nat):Int) + 1)) none=nats (row.drop (c + 1)):=Jb (k:=c + 1) (by omega)
    refine ⟨_,rfl,_,rfl,_,rfl,_,_,rfl,rfl,_,rfl,a,nats row,rfl,SqL.of ha5,λp hp=>?_⟩
    rw[ecut]
    have w3:=Ac (o:=.lst (nats (row.drop (c + 1)))) hp
    refine ⟨p,_,rfl,.inl (SqL.of Aa),rfl,BF _,_,rfl,?_⟩
    have hni:inV (V.int ((y:Nat):Int)) (nats (row.drop (c + 1)))=false:=by
     rw[BK]
     refine decide_eq_false λhm=>?_
     have e:row.drop c=y::row.drop (c + 1):=by
      rw[<- (J3.mp hy).2]
      exact (U6 hcl).symm
     have nd:=hrow.sublist (YI c row)
     rw[e]at nd
     exact (UN.mp nd).1 hm
    show if inV (V.int ((y:Nat):Int)) (nats (row.drop (c + 1)))=true then _ else _
    rw[hni]
    exact iteF ⟨s5.trans w3,_,_,rfl⟩
   ·rintro σ H4 ⟨s4,x3,x4,rfl⟩
    exact ⟨s3.trans s4,_,_,_,_,rfl⟩
  ·rintro σ H2 ⟨s2,x1,x2,x3,x4,rfl⟩
   exact q _ s2
theorem Fe {r:List Nat} {k:Nat} (hk:k < r.length):atI (nats r) ((k:Nat):Int)=some (.int ((r.getD k 0:Nat):Int)):=by
 rw[nat_at hk]
 simp[hk]
def colN (rs:List (List Nat)) (c:Nat):List Nat:=rs.map λrow=>row.getD c 0
def LU:Sp:=λvs H Q _=>∃ (t:Addr) (n c:Nat) (rs:List (List Nat)),vs=[.ref t,.int ((c:Nat):Int)]/\TupSq H t rs/\Sq n rs/\n<=7/\c < n/\∀ (l:Addr) (H':Hp),H l=none->Same H H'->H' l=some (.lst (nats (colN rs c)))->Q (.ref l) H'
theorem scColumnOf:FnScope ["rows", "c"] ["rows", "c"] (Ae CL):=⟨rfl,rfl,rfl,by decide +kernel,rfl,by decide +kernel,by decide +kernel⟩
theorem ok_col {f:Addr} {fd:Qh} (F:Fun K "column_of" "column_of" CL f fd) (T:TxtB mg):FnOk P w K mg base CX0 1 f fd ["rows", "c"] LU:=by
 refine F.okQ scColumnOf (λvs H Q E h=>?_) (λcdv A outer s H vs Q E hr h=>?_)
 ·obtain ⟨t,n,c,rs,rfl,_⟩:=h
  rfl
 ·obtain ⟨t,n,c,rs,rfl,⟨ws,ht,hT⟩,hs,hn7,hc,q⟩:=h
  refine ⟨_,(Ah (Ax (AH (g:=AR 0) (N:=["row", "c"]) (src:=[none,some 1]) rfl (Al (Ae CL) ["rows", "c"] rfl rfl (by decide +kernel) rfl) (DV (qv 0)) (λ_ _ _ _ _=>(Ai (i:=0) (show (["row", "c"]:List Str).Nodup by decide +kernel) rfl (Ro rfl) (R8 rfl))) (λ_ _ _ _ _=>AQ) (λ_ _ _ _ _=>(Au (show IxR _ (rIxT K) from Aw) (qv 0) (qv 1) (λ_ _=>rfl)))))),?_⟩
  refine ⟨_,rfl,t,rfl,⟨_,SqT.of ht⟩,Dc (K:=K) (xs:=ws) (λi zs H2=>H2=H/\zs=nats (colN (rs.take i) c)) ⟨rfl,rfl⟩ (λi zs H2 _ ⟨e,_⟩=>SqT.of (e▸ht)) ?_ ?_⟩
  ·rintro i v zs H2 N hi ⟨rfl,rfl⟩ nx
   obtain ⟨a,row,rfl,hrow',ha⟩:=hT.get hi
   have hil:=(J3.mp hrow').1
   have hrow:=hs.2 row (Rf hrow')
   refine ⟨Weak.set (by intro v z; cases z),⟨_,rfl,_,rfl,a,_,_,_,rfl,rfl,SqT.of ha,Fe (show c < row.length by omega),?_,nx _ _ ⟨rfl,?_⟩⟩⟩
   ·unfold colN
    rw[Ag,J0,RA]
    exact Rn (show _<=7 by have:=hs.1; omega) (by decide)
   ·unfold colN
    rw[RO,hrow',RM,Rp,Rt,Uf,AE]
  ·rintro zs H2 ⟨rfl,rfl⟩
   rw[hT.len,RE]
   refine ⟨by unfold colN; rw[Ag,J0,hs.1]; exact J6 hn7 (by decide),λr hr'=>?_⟩
   exact q r _ hr' (Ac hr') Aa
structure Lat (n:Nat) (rs:List (List Nat)):Prop where
 sq:Sq n rs
 row:∀ r∈rs,r.Nodup
 col:∀ c,c < n->(colN rs c).Nodup
def LV:Sp:=λvs H Q _=>∃ (t:Addr) (n:Nat) (rs:List (List Nat)),vs=[.ref t]/\TupSq H t rs/\Lat n rs/\n<=7/\∀ (u:Addr) (H':Hp),Same H H'->H' u=some (.tup [.str "square"])->Q (.ref u) H'
theorem scSquareTold:FnScope ["rows", "twice"] ["rows"] (Ae BR):=⟨rfl,rfl,rfl,by decide +kernel,rfl,by decide +kernel,by decide +kernel⟩
theorem ok_sqt {f:Addr} {fd:Qh} (F:Fun K "square_told" "square_told" BR f fd) (T:TxtB mg) (pFirstTwice:Pm P w K mg base CX0 1 "first_twice" ["rows"] (λvs H Q E=>Gh vs H Q E\/Gi vs H Q E)) (pColumnOf:Pm P w K mg base CX0 1 "column_of" ["rows", "c"] LU):FnOk P w K mg base CX0 2 f fd ["rows"] LV:=by
 refine F.okQ scSquareTold (λvs H Q E h=>?_) (λcdv A outer s H vs Q E hr1 h=>?_)
 ·obtain ⟨t,n,rs,rfl,_⟩:=h
  rfl
 ·obtain ⟨t,n,rs,rfl,⟨ws,ht,hT⟩,hs,hn7,q⟩:=h
  refine ⟨_,(Ad (An (i:=1) scSquareTold.nd rfl (Ro rfl) (Aj pFirstTwice hr1 rfl Av (qac (qv 0) Ab)))
   (Ad (Bb (Ap DF (qv 1) Cz (Az _)) AT AA)
   (Ad (An (i:=1) scSquareTold.nd rfl (Ro rfl) (Aj pFirstTwice hr1 rfl Av (qac (AH (g:=AR 0) (N:=["c", "rows"]) (src:=[none,some 0]) rfl (Al (Ae BR) ["rows", "twice"] rfl rfl (by decide +kernel) rfl) (Ar rfl T.range (qac (Am Ak (by rfl) T.len Rr (qac (qv 0) Ab)) Ab)) (λ_ _ _ _ _=>(Ai (i:=0) (show (["c", "rows"]:List Str).Nodup by decide +kernel) rfl (Ro rfl) (R8 rfl))) (λ_ _ _ _ _=>AQ) (λ_ _ _ _ _=>(Aj pColumnOf hr1 rfl Av (qac (qv 1) (qac (qv 0) Ab))))) Ab)))
   (Ad (Bb (Ap DF (qv 1) Cz (Az _)) AT AA)
   (Ah (Ax (AI (qac Dd Ab)))))))),?_⟩
  have hwl:ws.length=n:=by rw[hT.len,hs.sq.1]
  refine ⟨_,rfl,.inl ⟨t,ws,rs,rfl,ht,hT,hs.row,λH1 s1=>?_⟩⟩
  refine ⟨_,rfl,rfl,_,rfl,?_⟩
  refine iteF ?_
  refine ⟨_,rfl,t,ws,rfl,.inr (SqT.of (s1 _ _ ht)),((ws.length:Nat):Int),rfl,by omega,by omega,?_⟩
  rw[Rc,hwl]
  refine AX (lo:=0) (n:=n) (λi zs H2=>Same H1 H2/\BlAt H2 zs ((J1 i).map (colN rs))) ⟨Same.refl _,trivial⟩ ?_ ?_
  ·rintro i zs H2 N hi ⟨s2,hB⟩ nx
   refine ⟨Weak.set (by intro v z; cases z),⟨_,rfl,_,rfl,t,n,i,rs,by rw[RI]; rfl,⟨ws,(s1.trans s2) _ _ ht,hT.sm (s1.trans s2)⟩,hs.sq,hn7,hi,λl H3 hl s3 hl3=>⟨?_,nx _ _ ⟨s2.trans s3,?_⟩⟩⟩⟩
   ·rw[hB.len,J0,J5]
    exact Rb hi (J6 hn7 (by decide))
   ·rw[Rs,Rp]
    exact (hB.same s3).snoc hl3
  ·rintro zs H2 ⟨s2,hB⟩
   refine ⟨by rw[hB.len,J0,J5]; exact J6 hn7 (by decide),λl hl=>?_⟩
   have w2:=Ac (o:=.lst zs) hl
   refine .inr ⟨l,zs,(J1 n).map (colN rs),rfl,Aa,hB.same w2,λr hr=>?_,λH3 s3=>?_⟩
   ·obtain ⟨c,hc,rfl⟩:=RB.mp hr
    exact hs.col c (Ra.mp hc)
   have s13:=s1.trans (s2.trans (w2.trans s3))
   refine ⟨_,rfl,rfl,_,rfl,?_⟩
   refine iteF ?_
   refine ⟨by show 1<=Qe; decide,λe he=>?_⟩
   exact q e _ (s13.trans (Ac he)) Aa
def Ee (n:Nat) (rs qs:List (List Nat)) (k:Nat):List Nat:=[(rs.getD (k / n) []).getD (k % n) 0,(qs.getD (k / n) []).getD (k % n) 0]
theorem tp_at {H:Hp} {n k:Nat} {ws:List V} {rs:List (List Nat)} (hT:TpAt H ws rs) (hs:Sq n rs) (hk:k < n):∃ a r,atI ws ((k:Nat):Int)=some (.ref a)/\rs.getD k []=r/\H a=some (.tup (nats r))/\r.length=n:=by
 have hl:=hT.len
 have hk2:k < ws.length:=by rw[hl,hs.1]; exact hk
 obtain ⟨a,r,e,hr,ha⟩:=hT.get (J7 hk2)
 refine ⟨a,r,AB (by rw[J7 hk2,e]),?_,ha,(hs.2 r (Rf hr)).1⟩
 rw[J9,hr]
 rfl
theorem Kz {H:Hp} {n r c:Nat} {ws:List V} {rs:List (List Nat)} (hT:TpAt H ws rs) (hs:Sq n rs) (hr:r < n) (hc:c < n):∃ a x,atI ws ((r:Nat):Int)=some (.ref a)/\H a=some (.tup x)/\atI x ((c:Nat):Int)=some (.int ((((rs.getD ((r * n + c) / n) []).getD ((r * n + c) % n) 0:Nat)):Int)):=by
 obtain ⟨a,row,h1,h2,h3,h4⟩:=tp_at hT hs hr
 refine ⟨a,nats row,h1,h3,?_⟩
 have e1:(r * n + c) / n=r:=by
  rw[R4,Ym (by omega),Uy hc,W5]
 have e2:(r * n + c) % n=c:=by
  rw[R4,Za,Wt hc]
 rw[e1,e2,h2]
 exact Fe (by omega)
theorem cell_div {n r c:Nat} (hc:c < n):(r * n + c) / n=r/\(r * n + c) % n=c:=by
 refine ⟨?_,?_⟩
 ·rw[R4,Ym (by omega),Uy hc,W5]
 ·rw[R4,Za,Wt hc]
def Ort (n:Nat) (rs qs:List (List Nat)):Prop:=∀ i k,i < k->k < n * n->Ee n rs qs i≠Ee n rs qs k
def KA:Sp:=λvs H Q _=>∃ (a b:Addr) (n:Nat) (rs qs:List (List Nat)),vs=[.ref a,.ref b]/\TupSq H a rs/\TupSq H b qs/\Sq n rs/\Sq n qs/\n<=7/\Ort n rs qs/\∀ (u:Addr) (H':Hp),Same H H'->H' u=some (.tup [.str "over"])->Q (.ref u) H'
def keyL (p:List Nat):List Key:=p.map λx=>YJ ((x:Nat):Int)
theorem keyL_kV (p:List Nat):(keyL p).map kV=nats p:=by
 unfold keyL nats
 rw[Uh]
 rfl
theorem Jc:∀ {p q:List Nat},keyL p=keyL q->p=q
 | [],[],_=>rfl
 | [],_::_,h=>by cases h
 | _::_,[],h=>by cases h
 | x::p,y::q,h=>by
  simp only[keyL,Rt,List.cons.injEq]at h
  have h1:(x:Int)=(y:Int):=Jc6 h.1
  rw[show x=y by omega,Jc (p:=p) (q:=q) h.2]
def CeAt (f:Nat->List Nat) (m:Nat) (kvs:List (List Key×V)):Prop:=kvs.length=m/\∀ j,j < m->∃ v,kvs[j]?=some (keyL (f j),v)
theorem val_none {kvs:List (List Key×V)} {k:List Key} (hn:∀ (j:Nat) x,kvs[j]?=some x->x.1≠k):valV kvs k=none:=by
 unfold valV
 rw[Option.map_eq_none_iff,W3]
 intro x hx
 obtain ⟨j,hj⟩:=List.getElem?_of_mem hx
 have:=hn j x hj
 simp[this]
theorem scOverTold:FnScope ["one", "other", "cells", "r", "c", "pair"] ["one", "other"] (Ae Du):=⟨rfl,rfl,rfl,by decide +kernel,rfl,by decide +kernel,by decide +kernel⟩
theorem ok_over {f:Addr} {fd:Qh} (F:Fun K "over_told" "over_told" Du f fd) (T:TxtB mg):FnOk P w K mg base CX0 1 f fd ["one", "other"] KA:=by
 refine F.okQ scOverTold (λvs H Q E h=>?_) (λcdv A outer s H vs Q E hr h=>?_)
 ·obtain ⟨a,b,n,rs,qs,rfl,_⟩:=h
  rfl
 ·obtain ⟨a,b,n,rs,qs,rfl,⟨wa,ha,hTa⟩,⟨wb,hb,hTb⟩,hsa,hsb,hn7,hO,q⟩:=h
  have hu:A.units + 3 + 1 < cLine:=by
   have:=hr.units
   first | omega | (change A.units + 3 + 64 < cLine at this; omega)
  have hwl:wa.length=n:=by rw[hTa.len,hsa.1]
  have hn2:n * n<=49:=R6 hn7 hn7
  refine ⟨_,(Ad (An (i:=2) scOverTold.nd rfl (Ro rfl) qe_dnewT)
   (Ad (AJ PassesOwn.never rfl (Ar rfl T.range (qac (Am Ak (by rfl) T.len Rr (qac (qv 0) Ab)) Ab)) (Ai (i:=3) scOverTold.nd rfl (Ro rfl))
    (Ah (AJ PassesOwn.never rfl (Ar rfl T.range (qac (Am Ak (by rfl) T.len Rr (qac (qv 0) Ab)) Ab)) (Ai (i:=4) scOverTold.nd rfl (Ro rfl))
     (Ad (An (i:=5) scOverTold.nd rfl (Ro rfl) (AI (qac (Au Aw (Au Aw (qv 0) (qv 3) (λ_ _=>rfl)) (qv 4) (λ_ _=>rfl)) (qac (Au Aw (Au Aw (qv 1) (qv 3) (λ_ _=>rfl)) (qv 4) (λ_ _=>rfl)) Ab))))
     (Ad (Bb (qt_din hu (qv 5) (qv 2)) AT AA)
     (Ah (qs_dput hu (qv 2) (qv 5) (AI (qac (qv 3) (qac (qv 4) Ab))))))))))
   (Ah (Ax (AI (qac Dd Ab)))))),?_⟩
  refine λd hd=>?_
  have w1:=Ac (o:=.dT []) hd
  refine ⟨_,rfl,a,wa,rfl,.inr (SqT.of (w1 _ _ ha)),((wa.length:Nat):Int),rfl,by omega,by omega,?_⟩
  rw[Rc,hwl]
  refine AM (lo:=0) (n:=n) (λr σ Hx=>Same H Hx/\(∃ x3 x4 x5,σ=[some (.ref a),some (.ref b),some (.ref d),x3,x4,x5])/\∃ kvs,Hx d=some (.dT kvs)/\CeAt (Ee n rs qs) (r * n) kvs) ⟨w1,⟨none,none,none,rfl⟩,[],Aa,by rw[WK]; exact ⟨rfl,λj z=>by omega⟩⟩ ?_ ?_
  ·rintro r σ Hx hr' ⟨sx,⟨x3,x4,x5,rfl⟩,kvs,hdx,hC⟩
   rw[RI]
   refine ⟨_,rfl,a,wa,rfl,.inr (SqT.of (sx _ _ ha)),((wa.length:Nat):Int),rfl,by omega,by omega,?_⟩
   rw[Rc,hwl]
   refine AM (lo:=0) (n:=n) (λc σ Hy=>Same H Hy/\(∃ x4 x5,σ=[some (.ref a),some (.ref b),some (.ref d),some (.int (r:Nat)),x4,x5])/\∃ kvs,Hy d=some (.dT kvs)/\CeAt (Ee n rs qs) (r * n + c) kvs) ⟨sx,⟨x4,x5,rfl⟩,kvs,hdx,hC⟩ ?_ ?_
   ·rintro c σ Hy hc ⟨sy,⟨x4,x5,rfl⟩,kvs,hdy,hCl,hC⟩
    rw[RI]
    obtain ⟨a1,y1,g1,g2,g3⟩:=Kz (hTa.sm sy) hsa hr' hc
    obtain ⟨b1,z1,k1,k2,k3⟩:=Kz (hTb.sm sy) hsb hr' hc
    refine ⟨_,rfl,_,rfl,a,wa,_,_,rfl,rfl,SqT.of (sy _ _ ha),g1,_,rfl,a1,_,_,_,rfl,rfl,SqT.of g2,g3,_,rfl,_,rfl,b,wb,_,_,rfl,rfl,SqT.of (sy _ _ hb),k1,_,rfl,b1,_,_,_,rfl,rfl,SqT.of k2,k3,by show 2<=Qe; decide,λp hp=>?_⟩
    have v1:=Ac (o:=.tup (nats (Ee n rs qs (r * n + c)))) hp
    have hpk:upd Hy p (.tup (nats (Ee n rs qs (r * n + c)))) p=some (.tup ((keyL (Ee n rs qs (r * n + c))).map kV)):=by rw[keyL_kV]; exact Aa
    have hpd:d≠p:=AO hdy hp
    change tSeq _ _ _ _ (upd Hy p (.tup (nats (Ee n rs qs (r * n + c)))))
    have hmn:r * n + c < n * n:=by
     have:=R9 n (show r + 1<=n from hr')
     rw[UP,Wz]at this
     omega
    refine ⟨_,rfl,_,rfl,d,_,rfl,.t (v1 _ _ hdy) hpk,_,rfl,?_⟩
    have hnone:valV kvs (keyL (Ee n rs qs (r * n + c)))=none:=val_none λj x hx=>by
     have hj:j < r * n + c:=by
      have:=(J3.mp hx).1
      omega
     obtain ⟨e3,he3⟩:=hC j hj
     rw[hx]at he3
     cases he3
     exact λz=>hO j (r * n + c) hj hmn (Jc z)
    rw[hnone]
    refine iteF ?_
    refine ⟨_,rfl,_,rfl,by show 2<=Qe; decide,λe4 he4=>?_⟩
    have v2:=Ac (o:=.tup [V.int (r:Nat),V.int (c:Nat)]) he4
    refine ⟨_,rfl,_,rfl,d,_,rfl,.t (v2 _ _ (v1 _ _ hdy)) (v2 _ _ hpk) (by rw[hCl]; exact Rn (show _<=49 by omega) (by decide)),?_⟩
    rw[putK_new _ hnone]
    have hde:d≠e4:=AO (v1 _ _ hdy) he4
    refine ⟨AG (sy.trans (v1.trans v2)) hd,⟨_,_,rfl⟩,_,Aa,?_,λj hj=>?_⟩
    ·rw[Rk,hCl]
     rfl
    ·by_cases hj2:j=r * n + c
     ·subst hj2
      exact ⟨_,by rw[Up (by omega),hCl,WN]; rfl⟩
     ·obtain ⟨e5,h5⟩:=hC j (by omega)
      exact ⟨e5,by rw[Wo (by rw[hCl]; omega)]; exact h5⟩
   ·rintro σ Hy ⟨sy,⟨x4,x5,rfl⟩,kvs,hdy,hC⟩
    rw[show r * n + n=(r + 1) * n by rw[UP,Wz]]at hC
    exact ⟨sy,⟨_,_,_,rfl⟩,kvs,hdy,hC⟩
  ·rintro σ Hx ⟨sx,⟨x3,x4,x5,rfl⟩,kvs,hdx,hC⟩
   refine ⟨by show 1<=Qe; decide,λt ht=>?_⟩
   exact q t _ (sx.trans (Ac ht)) Aa
section
variable {CF:Addr}
def slR (p:Nat) (row:List Nat) (s:Nat):List Nat:=(J1 (nF p row)).map λc=>plV p row s c
def slQ (p:Nat) (row:List Nat) (s:Nat):List (List Nat):=(J1 (nF p row)).map λr=>slR p row (tmV p row s r)
def slS (p:Nat) (row:List Nat):List (List (List Nat)):=(J1 (nF p row - 1)).map λs=>slQ p row (1 + s)
def LW (C:Addr):Sp:=λvs H Q _=>∃ (f:Addr) (p s:Nat) (row:List Nat),vs=[.ref f,.int ((s:Nat):Int)]/\FieldAt C H f p row/\FOk p row/\s < nF p row/\∀ (t:Addr) (H':Hp),Same H H'->H' t=some (.tup (nats (slR p row s)))->Q (.ref t) H'
theorem scSlopedRow:FnScope ["field", "start"] ["field", "start"] (Ae Ch):=⟨rfl,rfl,rfl,by decide +kernel,rfl,by decide +kernel,by decide +kernel⟩
theorem ok_slR {f:Addr} {fd:Qh} (F:Fun K "sloped_row" "sloped_row" Ch f fd) (T:TxtB mg) (Z:FieldK K CF) (pSizeM:Mp P w K mg base CX0 1 CF "size" ["self"] (Dh CF)) (pPlus:Mp P w K mg base CX0 4 CF "plus" ["self", "a", "b"] (Hf CF plV)):FnOk P w K mg base CX0 5 f fd ["field", "start"] (LW CF):=by
 refine F.okQ scSlopedRow (λvs H Q E h=>?_) (λcdv A outer s H vs Q E hr4 h=>?_)
 ·obtain ⟨f,p,s,row,rfl,_⟩:=h
  rfl
 ·obtain ⟨f,p,s0,row,rfl,hF,O,hs,q⟩:=h
  have hr1:=hr4.mono (show 1<=4 by decide)
  have h32:nF p row<=32:=O.few
  obtain ⟨dx,r,hf,hr'⟩:=id hF
  refine ⟨_,(Ah (Ax (AD Ay (by rfl) T.tup (by decide +kernel) (qac (AH (g:=AR 0) (N:=["c", "field", "start"]) (src:=[none,some 0,some 1]) rfl (Al (Ae Ch) ["field", "start"] rfl rfl (by decide +kernel) rfl) (Ar rfl T.range (qac (CJ pSizeM Z.cl hr1 (qv 0) Av) Ab)) (λ_ _ _ _ _=>(Ai (i:=0) (show (["c", "field", "start"]:List Str).Nodup by decide +kernel) rfl (Ro rfl) (R8 rfl))) (λ_ _ _ _ _=>AQ) (λ_ _ _ _ _=>(BX pPlus Z.cl hr4 (qv 1) Av (qac (qv 2) (qac (qv 0) Ab))))) Ab)))),?_⟩
  refine ⟨_,rfl,f,dx,_,rfl,hf,Co _ _ _ (by decide +kernel) (by decide +kernel) (by decide +kernel),f,p,row,rfl,hF,((nF p row:Nat):Int),rfl,by omega,by omega,?_⟩
  rw[Rc]
  refine AX (lo:=0) (n:=nF p row) (λi zs H2=>Same H H2/\zs=nats ((J1 i).map λc=>plV p row s0 c)) ⟨Same.refl _,rfl⟩ ?_ ?_
  ·rintro i zs H2 N hi ⟨s2,rfl⟩ nx
   rw[RI]
   refine ⟨Weak.set (by intro v z; cases z),⟨_,rfl,f,dx,_,rfl,s2 _ _ hf,Co _ _ _ (by decide +kernel) (by decide +kernel) (by decide +kernel),_,rfl,_,rfl,f,p,s0,i,row,rfl,hF.sm s2,O,hs,hi,λH3 s3=>⟨?_,nx _ _ ⟨s2.trans s3,?_⟩⟩⟩⟩
   ·rw[Ag,J0,J5]
    exact Rb (show i < 33 by omega) (by decide)
   ·rw[Rs,Rp,Rt,Uf,AE]
  ·rintro zs H2 ⟨s2,rfl⟩
   refine ⟨by rw[Ag,J0,J5]; exact J6 h32 (by decide),λl hl=>?_⟩
   have w1:=Ac (o:=.lst (nats (slR p row s0))) hl
   exact ⟨l,_,rfl,.inl ⟨SqL.of Aa,λt ht=>q t _ (s2.trans (w1.trans (Ac ht))) Aa⟩⟩
def LX (C:Addr):Sp:=λvs H Q _=>∃ (f:Addr) (p s:Nat) (row:List Nat),vs=[.ref f,.int ((s:Nat):Int)]/\FieldAt C H f p row/\FOk p row/\s < nF p row/\∀ (t:Addr) (H':Hp),Same H H'->TupSq H' t (slQ p row s)->Q (.ref t) H'
theorem scSlopedSquare:FnScope ["field", "slope"] ["field", "slope"] (Ae Br):=⟨rfl,rfl,rfl,by decide +kernel,rfl,by decide +kernel,by decide +kernel⟩
theorem ok_slQ {f:Addr} {fd:Qh} (F:Fun K "sloped_square" "sloped_square" Br f fd) (T:TxtB mg) (Z:FieldK K CF) (pSizeM:Mp P w K mg base CX0 1 CF "size" ["self"] (Dh CF)) (pTimes:Mp P w K mg base CX0 4 CF "times" ["self", "a", "b"] (Hf CF tmV)) (pSlopedRow:Pm P w K mg base CX0 5 "sloped_row" ["field", "start"] (LW CF)):FnOk P w K mg base CX0 6 f fd ["field", "slope"] (LX CF):=by
 refine F.okQ scSlopedSquare (λvs H Q E h=>?_) (λcdv A outer s H vs Q E hr5 h=>?_)
 ·obtain ⟨f,p,s,row,rfl,_⟩:=h
  rfl
 ·obtain ⟨f,p,s0,row,rfl,hF,O,hs,q⟩:=h
  have hr1:=hr5.mono (show 1<=5 by decide)
  have hr4:=hr5.mono (show 4<=5 by decide)
  have h32:nF p row<=32:=O.few
  obtain ⟨dx,r,hf,hr'⟩:=id hF
  refine ⟨_,(Ah (Ax (AD Ay (by rfl) T.tup (by decide +kernel) (qac (AH (g:=AR 0) (N:=["r", "field", "slope"]) (src:=[none,some 0,some 1]) rfl (Al (Ae Br) ["field", "slope"] rfl rfl (by decide +kernel) rfl) (Ar rfl T.range (qac (CJ pSizeM Z.cl hr1 (qv 0) Av) Ab)) (λ_ _ _ _ _=>(Ai (i:=0) (show (["r", "field", "slope"]:List Str).Nodup by decide +kernel) rfl (Ro rfl) (R8 rfl))) (λ_ _ _ _ _=>AQ) (λ_ _ _ _ _=>(Aj pSlopedRow hr5 rfl Av (qac (qv 1) (qac (BX pTimes Z.cl hr4 (qv 1) Av (qac (qv 2) (qac (qv 0) Ab))) Ab))))) Ab)))),?_⟩
  refine ⟨_,rfl,f,dx,_,rfl,hf,Co _ _ _ (by decide +kernel) (by decide +kernel) (by decide +kernel),f,p,row,rfl,hF,((nF p row:Nat):Int),rfl,by omega,by omega,?_⟩
  rw[Rc]
  refine AX (lo:=0) (n:=nF p row) (λi zs H2=>Same H H2/\TpAt H2 zs ((J1 i).map λr=>slR p row (tmV p row s0 r))) ⟨Same.refl _,trivial⟩ ?_ ?_
  ·rintro i zs H2 N hi ⟨s2,hz⟩ nx
   rw[RI]
   refine ⟨Weak.set (by intro v z; cases z),⟨_,rfl,_,rfl,f,dx,_,rfl,s2 _ _ hf,Co _ _ _ (by decide +kernel) (by decide +kernel) (by decide +kernel),_,rfl,_,rfl,f,p,s0,i,row,rfl,hF.sm s2,O,hs,hi,λH3 s3=>?_⟩⟩
   refine ⟨f,p,tmV p row s0 i,row,rfl,hF.sm (s2.trans s3),O,MD O s0 i,λt H4 s4 ht=>⟨?_,nx _ _ ⟨s2.trans (s3.trans s4),?_⟩⟩⟩
   ·rw[hz.len,J0,J5]
    exact Rb (show i < 33 by omega) (by decide)
   ·rw[Rs,Rp]
    exact TpAt.snoc ht (hz.sm (s3.trans s4))
  ·rintro zs H2 ⟨s2,hz⟩
   refine ⟨by rw[hz.len,J0,J5]; exact J6 h32 (by decide),λl hl=>?_⟩
   have w1:=Ac (o:=.lst zs) hl
   exact ⟨l,_,rfl,.inl ⟨SqL.of Aa,λt ht=>q t _ (s2.trans (w1.trans (Ac ht))) ⟨zs,Aa,hz.sm (w1.trans (Ac ht))⟩⟩⟩
def LY (C:Addr):Sp:=λvs H Q _=>∃ (f:Addr) (p:Nat) (row:List Nat),vs=[.ref f]/\FieldAt C H f p row/\FOk p row/\∀ (l:Addr) (ws:List V) (H':Hp),Same H H'->H' l=some (.lst ws)->SqsAt H' ws (slS p row)->Q (.ref l) H'
theorem scSquaresOf:FnScope ["field"] ["field"] (Ae Cf):=⟨rfl,rfl,rfl,by decide +kernel,rfl,by decide +kernel,by decide +kernel⟩
theorem ok_slS {f:Addr} {fd:Qh} (F:Fun K "squares_of" "squares_of" Cf f fd) (T:TxtB mg) (Z:FieldK K CF) (pSizeM:Mp P w K mg base CX0 1 CF "size" ["self"] (Dh CF)) (pSlopedSquare:Pm P w K mg base CX0 6 "sloped_square" ["field", "slope"] (LX CF)):FnOk P w K mg base CX0 7 f fd ["field"] (LY CF):=by
 refine F.okQ scSquaresOf (λvs H Q E h=>?_) (λcdv A outer s H vs Q E hr6 h=>?_)
 ·obtain ⟨f,p,row,rfl,_⟩:=h
  rfl
 ·obtain ⟨f,p,row,rfl,hF,O,q⟩:=h
  have hr1:=hr6.mono (show 1<=6 by decide)
  have h32:nF p row<=32:=O.few
  have h2:=Kp O
  obtain ⟨dx,r,hf,hr'⟩:=id hF
  refine ⟨_,(Ah (Ax (AH (g:=AR 0) (N:=["slope", "field"]) (src:=[none,some 0]) rfl (Al (Ae Cf) ["field"] rfl rfl (by decide +kernel) rfl) (Dm rfl T.range (qac Af (qac (CJ pSizeM Z.cl hr1 (qv 0) Av) Ab))) (λ_ _ _ _ _=>(Ai (i:=0) (show (["slope", "field"]:List Str).Nodup by decide +kernel) rfl (Ro rfl) (R8 rfl))) (λ_ _ _ _ _=>AQ) (λ_ _ _ _ _=>(Aj pSlopedSquare hr6 rfl Av (qac (qv 1) (qac (qv 0) Ab))))))),?_⟩
  refine ⟨_,rfl,f,dx,_,rfl,hf,Co _ _ _ (by decide +kernel) (by decide +kernel) (by decide +kernel),f,p,row,rfl,hF,1,((nF p row:Nat):Int),rfl,by omega,?_⟩
  rw[show (((nF p row:Nat):Int) - 1).toNat=nF p row - 1 by omega]
  refine AX (lo:=1) (n:=nF p row - 1) (λi zs H2=>Same H H2/\SqsAt H2 zs ((J1 i).map λs=>slQ p row (1 + s))) ⟨Same.refl _,trivial⟩ ?_ ?_
  ·rintro i zs H2 N hi ⟨s2,hz⟩ nx
   refine ⟨Weak.set (by intro v z; cases z),⟨_,rfl,_,rfl,f,p,1 + i,row,by rw[Wd]; rfl,hF.sm s2,O,by omega,λt H4 s4 ht=>⟨?_,nx _ _ ⟨s2.trans s4,?_⟩⟩⟩⟩
   ·rw[hz.len,J0,J5]
    exact Rb (show i < 33 by omega) (by decide)
   ·rw[Rs,Rp]
    exact SqsAt.snoc ht (hz.sm s4)
  ·rintro zs H2 ⟨s2,hz⟩
   refine ⟨by rw[hz.len,J0,J5]; exact J6 (show _<=32 by omega) (by decide),λl hl=>?_⟩
   exact q l zs _ (s2.trans (Ac hl)) Aa (hz.sm (Ac hl))
end
theorem Gj {bs:List (List Nat)} {j:Nat} (h:j < bs.length):bs.getD j []∈bs:=by
 rw[Bg (J7 h)]
 exact Uk h
def shr (b c:List Nat):Nat:=(b.filter λp=>decide (p∈c)).length
theorem idx_filter (bs:List (List Nat)) (P:List Nat->Bool):((J1 bs.length).filter λk=>P (bs.getD k [])).length=(bs.filter P).length:=by
 have e:(J1 bs.length).map (λk=>bs.getD k [])=bs:=by
  apply Ua
  ·simp
  ·intro i h1 h2
   simp[h2]
 conv=>rhs; rw[<- e,List.filter_map,J0]
 rfl
theorem shr_nbw (bs:List (List Nat)) (i j:Nat):shr (nbw bs i) (nbw bs j)=cnt bs [i,j]:=by
 unfold shr cnt
 rw[<- idx_filter]
 unfold nbw
 rw[Z9]
 congr 1
 apply WH
 intro k hk
 have:=Ra.mp hk
 by_cases h1:i∈bs.getD k [] <;> by_cases h2:j∈bs.getD k [] <;> simp[h1,h2,this] <;> simp_all
theorem len_shr {b c:List Nat} {L:List Int} (hb:b.Nodup) (hL:L.Nodup) (h:∀ k:Int,k∈L↔k∈b.map (λp=>((p:Nat):Int))/\k∈c.map (λp=>((p:Nat):Int))):L.length=shr b c:=by
 unfold shr
 have hm:((b.filter λp=>decide (p∈c)).map λp=>((p:Nat):Int)).Nodup:=by
  rw[RR,UA]
  exact (hb.filter _).imp λhne e=>hne (by omega)
 have hp:L.Perm ((b.filter λp=>decide (p∈c)).map λp=>((p:Nat):Int)):=(Zd hL hm).mpr λk=>by
  rw[h k]
  simp only[RB,RZ,decide_eq_true_eq]
  constructor
  ·rintro ⟨⟨x,hx,rfl⟩,y,hy,e⟩
   have:y=x:=by omega
   exact ⟨x,⟨hx,this▸hy⟩,rfl⟩
  ·rintro ⟨x,⟨hx,hy⟩,rfl⟩
   exact ⟨⟨x,hx,rfl⟩,x,hy,rfl⟩
 rw[hp.length_eq,J0]
def SeqH (H:Hp) (a:Addr) (xs:List V):Prop:=H a=some (.lst xs)\/H a=some (.tup xs)
theorem SeqH.sm {H H':Hp} (s:Same H H') {a:Addr} {xs:List V} (h:SeqH H a xs):SeqH H' a xs:=h.imp (λz=>s _ _ z) (λz=>s _ _ z)
theorem SeqH.sq {K:J4} {H:Hp} {a:Addr} {xs:List V} (h:SeqH H a xs):SqL K H a xs\/SqT K H a xs:=h.imp SqL.of SqT.of
theorem MG {X:Cx} {r r':R2} (h:IxR X r) (h':IxR X r'):IxR X (λx y H Q=>r x y H Q\/r' x y H Q):=λvalue slice pins s σ H x y v u Q I rx ry q hs=>q.elim (λz=>h value slice pins s σ H x y v u Q I rx ry z hs) (λz=>h' value slice pins s σ H x y v u Q I rx ry z hs)
theorem KB (b:List Nat) (k:Int):(b.map λp=>((p:Nat):Int)).any (· == k)=true↔k∈b.map λp=>((p:Nat):Int):=by
 rw[YS]
 constructor
 ·rintro ⟨x,hx,e⟩
  rw[<- eq_of_beq e]
  exact hx
 ·exact λh=>⟨k,h,by simp⟩
def shI (bs:List (List Nat)) (i j:Nat):Nat:=shr (bs.getD i []) (bs.getD j [])
def spFU:Sp:=λvs H Q _=>∃ (a:Addr) (ws:List V) (bs:List (List Nat)),vs=[.ref a]/\SeqH H a ws/\TpAt H ws bs/\bs.length<=200/\(∀ b∈bs,b.Nodup/\b.length<=200)/\(∀ i j,i < j->j < bs.length->shI bs i j=1)/\∀ H',Same H H'->Q .non H'
theorem scFirstUneven:FnScope ["rows", "i", "j", "common"] ["rows"] (Ae BZ):=⟨rfl,rfl,rfl,by decide +kernel,rfl,by decide +kernel,by decide +kernel⟩
theorem ok_fu {f:Addr} {fd:Qh} (F:Fun K "first_uneven" "first_uneven" BZ f fd) (T:TxtB mg):FnOk P w K mg base CX0 1 f fd ["rows"] spFU:=by
 refine F.okQ scFirstUneven (λvs H Q E h=>?_) (λcdv A outer s H vs Q E hr h=>?_)
 ·obtain ⟨a,ws,bs,rfl,_⟩:=h
  rfl
 ·obtain ⟨a,ws,bs,rfl,ha,hT,hn,hb,hO,q⟩:=h
  refine ⟨_,(Ad (AJ PassesOwn.never rfl (Ar rfl T.range (qac (Am Ak (by rfl) T.len Rr (qac (qv 0) Ab)) Ab)) (Ai (i:=1) scFirstUneven.nd rfl (Ro rfl))
    (Ah (AJ PassesOwn.never rfl (Dm rfl T.range (qac (Aq AZ (qv 1) Af) (qac (Am Ak (by rfl) T.len Rr (qac (qv 0) Ab)) Ab))) (Ai (i:=2) scFirstUneven.nd rfl (Ro rfl))
     (Ad (An (i:=3) scFirstUneven.nd rfl (Ro rfl) (Am call_len_setI (by rfl) T.len Rr (qac (Aq op_andS (AD (GP rfl) (by rfl) T.set (by decide +kernel) (qac (Au (MG AF Aw) (qv 0) (qv 1) (λ_ _=>rfl)) Ab)) (AD (GP rfl) (by rfl) T.set (by decide +kernel) (qac (Au (MG AF Aw) (qv 0) (qv 2) (λ_ _=>rfl)) Ab))) Ab)))
     (Ah (Bb (Ap Gw (qv 3) Af (Az _)) AT AA))))))
   (Ah (Ax Cz))),?_⟩
  have hTl:=hT.len
  have ix:∀ (H2:Hp) (i:Nat),Same H H2->i < bs.length->∃ b:Addr,(rIxL K (.ref a) (.int ((i:Nat):Int)) H2=rIxL K (.ref a) (.int ((i:Nat):Int)) H2)/\H2 b=some (.tup (nats (bs.getD i [])))/\∀ R:VK,R (.ref b) H2->(rIxL K (.ref a) (.int ((i:Nat):Int)) H2 R\/rIxT K (.ref a) (.int ((i:Nat):Int)) H2 R):=λH2 i s2 hi=>by
   have g:ws[i]?=some (ws[i]'(by omega)):=J7 (by omega)
   obtain ⟨b,blk,eb,hbs,hab⟩:=(hT.sm s2).get g
   refine ⟨b,rfl,by rw[Bg hbs]; exact hab,λR hR=>?_⟩
   have ea:=AB (g.trans (congrArg some eb))
   exact (ha.sm s2).imp (λz=>⟨a,ws,_,_,rfl,rfl,SqL.of z,ea,hR⟩) (λz=>⟨a,ws,_,_,rfl,rfl,SqT.of z,ea,hR⟩)
  refine ⟨_,rfl,a,ws,rfl,ha.sq,((ws.length:Nat):Int),rfl,by omega,by omega,?_⟩
  rw[Rc]
  refine AM (lo:=0) (n:=ws.length) (λi σ H2=>Same H H2/\∃ x1 x2 x3,σ=[some (.ref a),x1,x2,x3]) ⟨Same.refl _,none,none,none,rfl⟩ ?_ ?_
  ·rintro i σ H2 hi ⟨s2,x1,x2,x3,rfl⟩
   rw[RI]
   refine ⟨_,rfl,_,_,rfl,rfl,_,rfl,a,ws,rfl,(ha.sm s2).sq,_,_,rfl,⟨by omega,by omega,by omega,by omega⟩,?_⟩
   rw[show ((ws.length:Int) - ((i:Int) + 1)).toNat=ws.length - (i + 1) by omega]
   refine AM (lo:=(i:Int) + 1) (n:=ws.length - (i + 1)) (λj σ H3=>Same H H3/\∃ x2 x3,σ=[some (.ref a),some (.int ((i:Nat):Int)),x2,x3]) ⟨s2,x2,x3,rfl⟩ ?_ ?_
   ·rintro j σ H3 hj ⟨s3,x2,x3,rfl⟩
    rw[show ((i:Int) + 1 + (j:Int))=((i + 1 + j:Nat):Int) by omega]
    obtain ⟨b,_,hb3,qb⟩:=ix H3 i s3 (by omega)
    have b1:=hb _ (Gj (show i < bs.length by omega))
    have b2:=hb _ (Gj (show i + 1 + j < bs.length by omega))
    refine ⟨_,rfl,_,rfl,qb _ ⟨b,(bs.getD i []).map λp=>((p:Nat):Int),rfl,SqT.of (by rw[<- Dp]; exact hb3),by rw[J0]; omega,λl1 n1 hl1=>?_⟩⟩
    have w1:=Ac (o:=.set (λk=>((bs.getD i []).map λp=>((p:Nat):Int)).any (· == k)) n1) hl1
    obtain ⟨c,_,hc4,qc⟩:=ix _ (i + 1 + j) (s3.trans w1) (by omega)
    refine ⟨_,rfl,_,rfl,qc _ ⟨c,(bs.getD (i + 1 + j) []).map λp=>((p:Nat):Int),rfl,SqT.of (by rw[<- Dp]; exact hc4),by rw[J0]; omega,λl2 n2 hl2=>?_⟩⟩
    have w2:=Ac (o:=.set (λk=>((bs.getD (i + 1 + j) []).map λp=>((p:Nat):Int)).any (· == k)) n2) hl2
    have ne:l2≠l1:=λz=>by
     rw[z,Aa]at hl2
     cases hl2
    refine ⟨l1,l2,_,_,n1,n2,rfl,rfl,ne,w2 _ _ Aa,Aa,λl3 S3 L hl3 hLn hLm=>?_⟩
    have w3:=Ac (o:=.set S3 L.length) hl3
    have hlen:L.length=shI bs i (i + 1 + j):=len_shr b1.1 hLn λk=>by rw[hLm k,KB,KB]
    refine ⟨l3,S3,L.length,rfl,Aa,?_⟩
    rw[hlen]at w3 ⊢
    have s6:=s3.trans (w1.trans (w2.trans w3))
    refine ⟨_,rfl,rfl,_,rfl,?_⟩
    exact niF (by have:=hO i (i + 1 + j) (by omega) (by omega); omega) ⟨s6,_,_,rfl⟩
   ·rintro σ H3 ⟨s3,x2,x3,rfl⟩
    exact ⟨s3,_,_,_,rfl⟩
  ·rintro σ H2 ⟨s2,x1,x2,x3,rfl⟩
   exact q _ s2
def spPT:Sp:=λvs H Q _=>∃ (t:Addr) (m:Nat) (bs:List (List Nat)),vs=[.ref t]/\LayA H t m bs/\m<=60/\(∀ b∈bs,Blk m b)/\(∀ i j,i < j->j < m->cnt bs [i,j]=1)/\(∀ i j,i < j->j < bs.length->shI bs i j=1)/\¬(bs.filter λb=>decide (2 < b.length)).length < 2/\∀ (e:Addr) (H':Hp),Same H H'->H' e=some (.tup [.str "plane",.int ((((bs.getD 0 []).length:Nat):Int) - 1)])->Q (.ref e) H'
theorem scPlaneTold:FnScope ["M", "uneven"] ["M"] (Ae BM):=⟨rfl,rfl,rfl,by decide +kernel,rfl,by decide +kernel,by decide +kernel⟩
theorem nbw_ok {bs:List (List Nat)} (hn:bs.length<=200) (p:Nat):(nbw bs p).Nodup/\(nbw bs p).length<=200:=⟨WS Wy Ur,J6 (Ks ..) hn⟩
theorem shI_nbw {bs:List (List Nat)} {m i j:Nat} (hi:i < m) (hj:j < m):shI ((J1 m).map (nbw bs)) i j=cnt bs [i,j]:=by
 unfold shI
 rw[Bg (b:=nbw bs i) (by rw[Rm,RN hi]; rfl),Bg (b:=nbw bs j) (by rw[Rm,RN hj]; rfl)]
 exact shr_nbw bs i j
theorem ok_pt {f:Addr} {fd:Qh} (F:Fun K "plane_told" "plane_told" BM f fd) (T:TxtB mg) (pFirstUneven:Pm P w K mg base CX0 1 "first_uneven" ["rows"] spFU) (pNumbersOfBlocksWith:Pm P w K mg base CX0 1 "numbers_of_blocks_with" ["M", "point"] LQ):FnOk P w K mg base CX0 2 f fd ["M"] spPT:=by
 refine F.okQ scPlaneTold (λvs H Q E h=>?_) (λcdv A outer s H vs Q E hr1 h=>?_)
 ·obtain ⟨t,m,bs,rfl,_⟩:=h
  rfl
 ·obtain ⟨t,m,bs,rfl,hL,hm,hb,hO1,hO2,h2,q⟩:=h
  refine ⟨_,(Ad (An (i:=1) scPlaneTold.nd rfl (Ro rfl) (Aj pFirstUneven hr1 rfl Av (qac (AH (g:=AR 0) (N:=["point", "M"]) (src:=[none,some 0]) rfl (Al (Ae BM) ["M", "uneven"] rfl rfl (by decide +kernel) rfl) (Ar rfl T.range (qac (Au Aw (qv 0) Af (λ_ _=>rfl)) Ab)) (λ_ _ _ _ _=>(Ai (i:=0) (show (["point", "M"]:List Str).Nodup by decide +kernel) rfl (Ro rfl) (R8 rfl))) (λ_ _ _ _ _=>AQ) (λ_ _ _ _ _=>(Aj pNumbersOfBlocksWith hr1 rfl Av (qac (qv 1) (qac (qv 0) Ab))))) Ab)))
   (Ad (Bb (Ap DF (qv 1) Cz (Az _)) AT AA)
   (Ad (An (i:=1) scPlaneTold.nd rfl (Ro rfl) (Aj pFirstUneven hr1 rfl Av (qac (Au Aw (qv 0) Af (λ_ _=>rfl)) Ab)))
   (Ad (Bb (Ap DF (qv 1) Cz (Az _)) AT AA)
   (Ad (Bb (Ap DE (Am Ak (by rfl) T.len Rr (qac (AH (g:=AR 0) (N:=["block"]) (src:=[none]) rfl (Al (Ae BM) ["M", "uneven"] rfl rfl (by decide +kernel) rfl) (DV (Au Aw (qv 0) Af (λ_ _=>rfl))) (λ_ _ _ _ _=>(Ai (i:=0) (show (["block"]:List Str).Nodup by decide +kernel) rfl (Ro rfl) (R8 rfl))) (λ_ _ _ _ _=>(BQ (Ap Ec (Am (show Bx _ _ (KO K) from EF) (by rfl) T.len Rr (qac (qv 0) Ab)) Af (Az _)))) (λ_ _ _ _ _=>(qv 0))) Ab)) Af (Az _)) AT AA)
   (Ah (Ax (AI (qac Dd (qac (Aq Fp (Am Ak (by rfl) T.len Rr (qac (Au Aw (Au Aw (qv 0) Af (λ_ _=>rfl)) Af (λ_ _=>rfl)) Ab)) Af) Ab)))))))))),?_⟩
  obtain ⟨l,ws,ht,hl,hT,hn⟩:=id hL
  have hTl:=hT.len
  refine ⟨_,rfl,t,_,0,.int ((m:Nat):Int),rfl,rfl,SqT.of ht,rfl,((m:Nat):Int),rfl,by omega,by omega,?_⟩
  rw[Rc]
  refine AX (lo:=0) (n:=m) (λi zs H2=>Same H H2/\TpAt H2 zs ((J1 i).map (nbw bs))) ⟨Same.refl _,trivial⟩ ?_ ?_
  ·rintro i zs H2 N hi ⟨s2,hz⟩ nx
   rw[RI]
   refine ⟨Weak.set (by intro v z; cases z),⟨_,rfl,_,rfl,t,m,i,bs,rfl,hL.sm s2,λu H3 hu s3 hu3=>⟨?_,nx _ _ ⟨s2.trans s3,?_⟩⟩⟩⟩
   ·rw[hz.len,J0,J5]
    exact Rb (show i < 60 by omega) (by decide)
   ·rw[Rs,Rp]
    exact (hz.sm s3).snoc hu3
  rintro zs H2 ⟨s2,hz⟩
  have hzl:zs.length=m:=by rw[hz.len,J0,J5]
  refine ⟨by rw[hzl]; exact J6 hm (by decide),λr hr'=>?_⟩
  have w1:=Ac (o:=.lst zs) hr'
  have hrl:((J1 m).map (nbw bs)).length=m:=by rw[J0,J5]
  refine ⟨r,zs,_,rfl,.inl Aa,hz.sm w1,by rw[hrl]; omega,λb hb'=>?_,λi j h1 h3=>?_,λH3 s3=>?_⟩
  ·obtain ⟨p,_,rfl⟩:=RB.mp hb'
   exact nbw_ok hn p
  ·rw[hrl]at h3
   exact (shI_nbw (by omega) h3).trans (hO1 i j h1 h3)
  have s03:=s2.trans (w1.trans s3)
  refine ⟨_,rfl,rfl,_,rfl,?_⟩
  refine iteF ?_
  refine ⟨_,rfl,t,_,1,.ref l,rfl,rfl,SqT.of (s03 _ _ ht),rfl,l,ws,bs,rfl,.inr (s03 _ _ hl),hT.sm s03,hn,λb hb'=>⟨(hb b hb').nd,J6 (hb b hb').len (by omega)⟩,hO2,λH4 s4=>?_⟩
  have s04:=s03.trans s4
  refine ⟨_,rfl,rfl,_,rfl,?_⟩
  refine iteF ?_
  refine ⟨_,rfl,t,_,1,.ref l,rfl,rfl,SqT.of (s04 _ _ ht),rfl,l,rfl,⟨_,SqT.of (s04 _ _ hl)⟩,Dc (K:=K) (xs:=ws) (λi zs H5=>H5=H4/\zs.length=((bs.take i).filter λb=>decide (2 < b.length)).length) ⟨rfl,rfl⟩ (λi zs H5 _ ⟨e,_⟩=>SqT.of (e▸s04 _ _ hl)) ?_ ?_⟩
  ·rintro i v zs H5 N hi ⟨rfl,hz5⟩ nx
   obtain ⟨ab,bb,rfl,hbs,hab⟩:=(hT.sm s04).get hi
   have hil:=(J3.mp hbs).1
   have htk:(bs.take (i + 1)).filter (λb=>decide (2 < b.length))=(bs.take i).filter (λb=>decide (2 < b.length))++[bb].filter (λb=>decide (2 < b.length)):=by
    rw[BG hbs,R3]
   have hfl:((bs.take i).filter λb=>decide (2 < b.length)).length<=200:=J6 (R1 ..) (by rw[RA]; omega)
   refine ⟨Weak.set (by intro v z; cases z),⟨_,rfl,ab,_,rfl,.inr (SqT.of hab),_,_,rfl,rfl,_,rfl,?_⟩⟩
   rw[Ag]
   by_cases h:2 < bb.length
   ·refine ifT (by omega) ⟨_,rfl,Rn (show zs.length<=200 by omega) (by decide),nx _ _ ⟨rfl,?_⟩⟩
    rw[htk,Zw (by simpa using h),WX,Rk,Rk,hz5]
    rfl
   ·refine ifF (by omega) (nx _ _ ⟨rfl,?_⟩)
    rw[htk,Zx (by simpa using h),WX,RJ,hz5]
  rintro zs H5 ⟨rfl,hz5⟩
  rw[hTl,RE]at hz5
  have hfl:(bs.filter λb=>decide (2 < b.length)).length<=bs.length:=R1 ..
  refine ⟨J6 (show zs.length<=200 by omega) (by decide),λr2 hr2=>⟨r2,zs,rfl,.inl (SqL.of Aa),_,_,rfl,rfl,_,rfl,?_⟩⟩
  have w5:=Ac (o:=.lst zs) hr2
  have s05:=s04.trans w5
  rw[hz5]
  have g0:ws[0]?=some (ws[0]'(by omega)):=J7 (by omega)
  obtain ⟨b0,blk0,e0,hbs0,hb0⟩:=(hT.sm s05).get g0
  refine ifF (by omega) ⟨_,rfl,t,_,1,.ref l,rfl,rfl,SqT.of (s05 _ _ ht),rfl,l,ws,0,.ref b0,rfl,rfl,SqT.of (s05 _ _ hl),AB (j:=0) (g0.trans (congrArg some e0)),b0,nats blk0,rfl,.inr (SqT.of hb0),_,_,rfl,rfl,by show 2<=Qe; decide,λe he=>?_⟩
  refine q e _ (s05.trans (Ac he)) ?_
  rw[Bg hbs0,Aa,Ag]
def fldL:List (Nat×List Nat):=[(2,[0,1]),(3,[1,1]),(2,[1,1,1]),(5,[3,1]),(2,[1,1]),(3,[2,1]),(5,[0,1])]
theorem HY {H:Hp} {a b:Addr} {xs:List V} {p:Int} (ha:H a=none) (hb:(upd H a (.tup xs)) b=none):Same H (upd (upd H a (.tup xs)) b (.tup [.int p,.ref a]))/\(upd (upd H a (.tup xs)) b (.tup [.int p,.ref a])) b=some (.tup [.int p,.ref a])/\(upd (upd H a (.tup xs)) b (.tup [.int p,.ref a])) a=some (.tup xs):=
 ⟨(Ac ha).trans (Ac hb),Aa,(Ac hb) _ _ Aa⟩
def HZ:Sp:=λvs H Q _=>∃ x:Int,vs=[.int x]/\∀ (t r:Addr) (p:Nat) (row:List Nat) (H':Hp),Same H H'->fldL[(x % 7).toNat]?=some (p,row)->H' t=some (.tup [.int ((p:Nat):Int),.ref r])->H' r=some (.tup (nats row))->Q (.ref t) H'
theorem scLField:FnScope ["_law_x"] ["_law_x"] (Ae FX):=⟨rfl,rfl,rfl,by decide +kernel,rfl,by decide +kernel,by decide +kernel⟩
theorem ok_field {f:Addr} {fd:Qh} (F:Fun K "_law_field" "_law_field" FX f fd):FnOk P w K mg base CX0 1 f fd ["_law_x"] HZ:=by
 refine F.okQ scLField (λvs H Q E h=>?_) (λcdv A outer s H vs Q E hr h=>?_)
 ·obtain ⟨x,rfl,_⟩:=h
  rfl
 ·obtain ⟨x,rfl,q⟩:=h
  refine ⟨_,(Ah (Ax (Au AF (Bw (qac (AI (qac Af (qac (AI (qac Af (qac Af Ab))) Ab))) (qac (AI (qac Af (qac (AI (qac Af (qac Af Ab))) Ab))) (qac (AI (qac Af (qac (AI (qac Af (qac Af (qac Af Ab)))) Ab))) (qac (AI (qac Af (qac (AI (qac Af (qac Af Ab))) Ab))) (qac (AI (qac Af (qac (AI (qac Af (qac Af Ab))) Ab))) (qac (AI (qac Af (qac (AI (qac Af (qac Af Ab))) Ab))) (qac (AI (qac Af (qac (AI (qac Af (qac Af Ab))) Ab))) Ab)))))))) (Aq Bv (qv 0) Af) (λ_ _=>rfl)))),?_⟩
  refine ⟨by show 2<=Qe; decide,λa1 ha1=>⟨by show 2<=Qe; decide,λb1 hb1=>?_⟩⟩
  obtain ⟨s1,e1,g1⟩:=HY (p:=2) ha1 hb1
  generalize upd (upd H a1 (.tup [.int 0,.int 1])) b1 (.tup [.int 2,.ref a1])=H1 at s1 e1 g1 ⊢
  refine ⟨by show 2<=Qe; decide,λa2 ha2=>⟨by show 2<=Qe; decide,λb2 hb2=>?_⟩⟩
  obtain ⟨s2,e2,g2⟩:=HY (p:=3) ha2 hb2
  generalize upd (upd H1 a2 (.tup [.int 1,.int 1])) b2 (.tup [.int 3,.ref a2])=H2 at s2 e2 g2 ⊢
  refine ⟨by show 3<=Qe; decide,λa3 ha3=>⟨by show 2<=Qe; decide,λb3 hb3=>?_⟩⟩
  obtain ⟨s3,e3,g3⟩:=HY (p:=2) ha3 hb3
  generalize upd (upd H2 a3 (.tup [.int 1,.int 1,.int 1])) b3 (.tup [.int 2,.ref a3])=H3 at s3 e3 g3 ⊢
  refine ⟨by show 2<=Qe; decide,λa4 ha4=>⟨by show 2<=Qe; decide,λb4 hb4=>?_⟩⟩
  obtain ⟨s4,e4,g4⟩:=HY (p:=5) ha4 hb4
  generalize upd (upd H3 a4 (.tup [.int 3,.int 1])) b4 (.tup [.int 5,.ref a4])=H4 at s4 e4 g4 ⊢
  refine ⟨by show 2<=Qe; decide,λa5 ha5=>⟨by show 2<=Qe; decide,λb5 hb5=>?_⟩⟩
  obtain ⟨s5,e5,g5⟩:=HY (p:=2) ha5 hb5
  generalize upd (upd H4 a5 (.tup [.int 1,.int 1])) b5 (.tup [.int 2,.ref a5])=H5 at s5 e5 g5 ⊢
  refine ⟨by show 2<=Qe; decide,λa6 ha6=>⟨by show 2<=Qe; decide,λb6 hb6=>?_⟩⟩
  obtain ⟨s6,e6,g6⟩:=HY (p:=3) ha6 hb6
  generalize upd (upd H5 a6 (.tup [.int 2,.int 1])) b6 (.tup [.int 3,.ref a6])=H6 at s6 e6 g6 ⊢
  refine ⟨by show 2<=Qe; decide,λa7 ha7=>⟨by show 2<=Qe; decide,λb7 hb7=>?_⟩⟩
  obtain ⟨s7,e7,g7⟩:=HY (p:=5) ha7 hb7
  generalize upd (upd H6 a7 (.tup [.int 0,.int 1])) b7 (.tup [.int 5,.ref a7])=H7 at s7 e7 g7 ⊢
  refine ⟨by show 7<=Qe; decide,λl hl=>?_⟩
  have s8:=Ac (o:=.lst [.ref b1,.ref b2,.ref b3,.ref b4,.ref b5,.ref b6,.ref b7]) hl
  refine ⟨_,rfl,_,_,rfl,rfl,(by show (0:Int) < 7; decide),?_⟩
  have h0:=Ux x (show (7:Int)≠0 by decide)
  have h1:=Ug x (show (0:Int) < 7 by decide)
  dsimp only
  generalize x % 7=y at h0 h1 q ⊢
  have hy:y=0\/y=1\/y=2\/y=3\/y=4\/y=5\/y=6:=by omega
  have sA:=(s1.trans (s2.trans (s3.trans (s4.trans (s5.trans (s6.trans (s7.trans s8)))))))
  rcases hy with rfl | rfl | rfl | rfl | rfl | rfl | rfl
  ·exact ⟨l,_,_,.ref b1,rfl,rfl,SqL.of Aa,rfl,q b1 a1 2 [0,1] _ sA rfl ((s2.trans (s3.trans (s4.trans (s5.trans (s6.trans (s7.trans s8)))))) _ _ e1) ((s2.trans (s3.trans (s4.trans (s5.trans (s6.trans (s7.trans s8)))))) _ _ g1)⟩
  ·exact ⟨l,_,_,.ref b2,rfl,rfl,SqL.of Aa,rfl,q b2 a2 3 [1,1] _ sA rfl ((s3.trans (s4.trans (s5.trans (s6.trans (s7.trans s8))))) _ _ e2) ((s3.trans (s4.trans (s5.trans (s6.trans (s7.trans s8))))) _ _ g2)⟩
  ·exact ⟨l,_,_,.ref b3,rfl,rfl,SqL.of Aa,rfl,q b3 a3 2 [1,1,1] _ sA rfl ((s4.trans (s5.trans (s6.trans (s7.trans s8)))) _ _ e3) ((s4.trans (s5.trans (s6.trans (s7.trans s8)))) _ _ g3)⟩
  ·exact ⟨l,_,_,.ref b4,rfl,rfl,SqL.of Aa,rfl,q b4 a4 5 [3,1] _ sA rfl ((s5.trans (s6.trans (s7.trans s8))) _ _ e4) ((s5.trans (s6.trans (s7.trans s8))) _ _ g4)⟩
  ·exact ⟨l,_,_,.ref b5,rfl,rfl,SqL.of Aa,rfl,q b5 a5 2 [1,1] _ sA rfl ((s6.trans (s7.trans s8)) _ _ e5) ((s6.trans (s7.trans s8)) _ _ g5)⟩
  ·exact ⟨l,_,_,.ref b6,rfl,rfl,SqL.of Aa,rfl,q b6 a6 3 [2,1] _ sA rfl ((s7.trans s8) _ _ e6) ((s7.trans s8) _ _ g6)⟩
  ·exact ⟨l,_,_,.ref b7,rfl,rfl,SqL.of Aa,rfl,q b7 a7 5 [0,1] _ sA rfl (s8 _ _ e7) (s8 _ _ g7)⟩
def dW (x:Str):Q0:=.tuple [.str x]
theorem KS {K:J4} {H:Hp} {t:Addr} {x:Str} (h:H t=some (.tup [.str x])):IsD K H (dW x) (.ref t):=by
 simp only[dW,IsD]
 refine ⟨t,_,rfl,SqT.of h,?_⟩
 simp only[IsDs,IsD]
 exact ⟨_,_,rfl,rfl,rfl⟩
theorem En {x:Str} (h:PyData.strOk x=true):R7 (dW x)=true:=by simp[dW,R7,PyData.canLay0,PyData.canLayAll0,PyData.depth,PyData.depthAll,h]
theorem MH (x:Str):PyData.eqv (dW x) (dW x)=true:=by simp[dW,PyData.eqv,PyData.eqvAll]
theorem KC:PyData.strOk "square"=true:=by decide +kernel
theorem Hh:PyData.strOk "over"=true:=by decide +kernel
def spSR:Sp:=λvs H Q _=>∃ (l:Addr) (n:Nat) (ws:List V) (sqs:List (List (List Nat))),vs=[.ref l,.int ((n:Nat):Int)]/\H l=some (.lst ws)/\SqsAt H ws sqs/\sqs.length + 1=n/\n<=7/\(∀ rs∈sqs,Lat n rs)/\(∀ (i j:Nat) (rs qs:List (List Nat)),i < j->sqs[i]?=some rs->sqs[j]?=some qs->Ort n rs qs)/\∀ H',Same H H'->Q (.bl true) H'
theorem scLSquaresRight:FnScope ["_law_squares", "_law_size", "_law_k"] ["_law_squares", "_law_size"] (Ae Bj):=⟨rfl,rfl,rfl,by decide +kernel,rfl,by decide +kernel,by decide +kernel⟩
theorem ok_sr {f:Addr} {fd:Qh} (F:Fun K "_law_squares_right" "_law_squares_right" Bj f fd) (T:TxtB mg) (pSquareTold:Pm P w K mg base CX0 2 "square_told" ["rows"] LV) (pOverTold:Pm P w K mg base CX0 1 "over_told" ["one", "other"] KA):FnOk P w K mg base CX0 3 f fd ["_law_squares", "_law_size"] spSR:=by
 refine F.okQ scLSquaresRight (λvs H Q E h=>?_) (λcdv A outer s H vs Q E hr2 h=>?_)
 ·obtain ⟨l,n,ws,sqs,rfl,_⟩:=h
  rfl
 ·obtain ⟨l,n,ws,sqs,rfl,hl,hS,hn,hn7,hLat,hOrt,q⟩:=h
  have hr1:=hr2.mono (show 1<=2 by decide)
  have hu:=hr2.units
  refine ⟨_,(Ad (Bb (QW.pt (Fn (CD (CA (Am Cp (by rfl) T.isi U1 (qac (qv 0) (qac (FG (v:=.ty "list") rfl T.lst (by decide +kernel) rfl) Ab))))) (Ez (Ap Gw (Am Ak (by rfl) T.len Rr (qac (qv 0) Ab)) (Aq Fp (qv 1) Af) (Az _))))) AT AA)
   (Ad (AJ PassesOwn.never rfl (Ar rfl T.range (qac (Am Ak (by rfl) T.len Rr (qac (qv 0) Ab)) Ab)) (Ai (i:=2) scLSquaresRight.nd rfl (R8 rfl))
    (Ad (Bb (QW.pt (Fn (Ap (Lc hu) (Aj pSquareTold hr2 rfl Av (qac (Au AF (qv 0) (qv 2) (λ_ _=>rfl)) Ab)) (AI (qac Dd Ab)) (Az _)) (Ez (Ap Gw (Am Ak (by rfl) T.len Rr (qac (Au AF (qv 0) (qv 2) (λ_ _=>rfl)) Ab)) (qv 1) (Az _))))) AT AA)
    (Ah (Bb (CD (CA (Am (Il rfl) (by rfl) T.all (by decide +kernel) (qac (AH (g:=AR 0) (N:=["_law_j", "_law_squares", "_law_k"]) (src:=[none,some 0,some 2]) rfl (Al (Ae Bj) ["_law_squares", "_law_size", "_law_k"] rfl rfl (by decide +kernel) rfl) (Ar rfl T.range (qac (qv 2) Ab)) (λ_ _ _ _ _=>(Ai (i:=0) (show (["_law_j", "_law_squares", "_law_k"]:List Str).Nodup by decide +kernel) rfl (Ro rfl) (R8 rfl))) (λ_ _ _ _ _=>AQ) (λ_ _ _ _ _=>(DI (show OpR _ _ (rEqD K false) from GD hu) (Aj pOverTold hr1 rfl Av (qac (Au (show IxR _ (rIxL K) from AF) (qv 1) (qv 0) (λ_ _=>rfl)) (qac (Au (show IxR _ (rIxL K) from AF) (qv 1) (qv 2) (λ_ _=>rfl)) Ab))) (AI (qac Dd Ab)) (Az _)))) Ab)))) AT AA))))
   (Ah (Ax LF)))),?_⟩
  have hwl:=hS.len
  have gq:∀ {H2:Hp},Same H H2->∀ k,k < ws.length->∃ a rs,ws[k]?=some (.ref a)/\sqs[k]?=some rs/\TupSq H2 a rs:=λ{H2} s2 k hk=>by
   have g:ws[k]?=some (ws[k]'hk):=J7 hk
   obtain ⟨a,rs,e,h1,h2⟩:=(hS.sm s2).get g
   exact ⟨a,rs,by rw[g,e],h1,h2⟩
  refine ⟨_,rfl,_,_,_,_,rfl,.lst hl,EB (by kernel_rfl),true,rfl,iteF ?_⟩
  refine ⟨_,rfl,l,ws,rfl,.inl (SqL.of hl),_,rfl,_,_,rfl,rfl,rfl,_,rfl,?_⟩
  refine JD (by show V.int ((ws.length:Nat):Int)=V.int (((n:Nat):Int) - 1); congr 1; omega) ?_
  refine ⟨_,rfl,l,ws,rfl,.inl (SqL.of hl),((ws.length:Nat):Int),rfl,by omega,by omega,?_⟩
  rw[Rc]
  refine AM (lo:=0) (n:=ws.length) (λk σ H2=>Same H H2/\∃ x2:Option V,σ=[some (.ref l),some (.int ((n:Nat):Int)),x2]) ⟨Same.refl _,none,rfl⟩ ?_ ?_
  ·rintro k σ H2 hk ⟨s2,x2,rfl⟩
   rw[RI]
   obtain ⟨a,rs,ea,er,ha⟩:=gq s2 k hk
   have hL:=hLat rs (Rf er)
   refine ⟨_,rfl,_,rfl,l,ws,_,_,rfl,rfl,SqL.of (s2 _ _ hl),AB ea,a,n,rs,rfl,ha,hL,hn7,λu H3 s3 hu3=>⟨by show 1<=Qe; decide,λv hv=>?_⟩⟩
   have w1:=Ac (o:=.tup [.str "square"]) hv
   refine ⟨dW "square",dW "square",KS (w1 _ _ hu3),KS Aa,En KC,En KC,_,rfl,?_⟩
   show if (!PyData.eqv (dW "square") (dW "square"))=true then _ else _
   rw[MH]
   have s4:=s2.trans (s3.trans w1)
   generalize upd H3 v (.tup [.str "square"])=H4 at s4 ⊢
   obtain ⟨a',rs',ea',er',ws',hw',hT'⟩:=gq s4 k hk
   rw[ea]at ea'
   cases ea'
   rw[er]at er'
   cases er'
   refine iteF ⟨_,rfl,_,rfl,l,ws,_,_,rfl,rfl,SqL.of (s4 _ _ hl),AB ea,a,ws',rfl,.inr (SqT.of hw'),_,rfl,rfl,_,rfl,?_⟩
   refine JD (by show V.int ((ws'.length:Nat):Int)=V.int ((n:Nat):Int); rw[hT'.len,hL.sq.1]) ?_
   refine ⟨_,rfl,((k:Nat):Int),rfl,by omega,by omega,?_⟩
   rw[Rc]
   refine AX (lo:=0) (n:=k) (λj zs H5=>Same H4 H5/\zs=(RQ j true).map V.bl) ⟨Same.refl _,rfl⟩ ?_ ?_
   ·rintro j zs H5 N hj ⟨s5,rfl⟩ nx
    rw[RI]
    obtain ⟨b,qs,eb,eq,hb⟩:=gq (s4.trans s5) j (by omega)
    obtain ⟨a2,rs2,ea2,er2,ha2⟩:=gq (s4.trans s5) k hk
    rw[ea]at ea2
    cases ea2
    rw[er]at er2
    cases er2
    refine ⟨Weak.set (by intro v z; cases z),⟨_,rfl,_,rfl,l,ws,_,_,rfl,rfl,SqL.of ((s4.trans s5) _ _ hl),AB eb,_,rfl,_,rfl,l,ws,_,_,rfl,rfl,SqL.of ((s4.trans s5) _ _ hl),AB ea,b,a,n,qs,rs,rfl,hb,ha2,(hLat qs (Rf eq)).sq,hL.sq,hn7,hOrt j k qs rs hj eq er,λu2 H6 s6 hu6=>?_⟩⟩
    refine ⟨by show 1<=Qe; decide,λv2 hv2=>?_⟩
    have w6:=Ac (o:=.tup [.str "over"]) hv2
    refine ⟨dW "over",dW "over",KS (w6 _ _ hu6),KS Aa,En Hh,En Hh,?_,nx _ _ ⟨s5.trans (s6.trans w6),?_⟩⟩
    ·rw[J0,Wa]
     exact Rb (show j < 7 by omega) (by decide)
    ·show _++[V.bl (PyData.eqv (dW "over") (dW "over"))]=_
     rw[MH,Wh,Rp]
     rfl
   ·rintro zs H5 ⟨s5,rfl⟩
    refine ⟨by rw[J0,Wa]; exact J6 (show k<=7 by omega) (by decide),λr hr=>?_⟩
    refine ⟨r,RQ k true,rfl,SqL.of Aa,true,?_,iteF ⟨s4.trans (s5.trans (Ac hr)),_,rfl⟩⟩
    simp
  ·rintro σ H2 ⟨s2,x2,rfl⟩
   exact q _ s2
def clB (m n:Nat) (bs:List (List Nat)) (i:Nat):List (List Nat):=(J1 i).map λk=>bs.getD k []++[m + k / n]
def CU (m n:Nat) (bs:List (List Nat)):List (List Nat):=clB m n bs bs.length++[(J1 (bs.length / n)).map λk=>m + k]
def Gk:Sp:=λvs H Q _=>∃ (t:Addr) (m n:Nat) (bs:List (List Nat)),vs=[.ref t,.int ((n:Nat):Int)]/\LayA H t m bs/\1<=n/\n<=7/\m<=60/\1<=bs.length/\bs.length<=100/\(∀ b∈bs,b≠[]/\b.length<=60)/\∀ (u:Addr) (H':Hp),Same H H'->LayA H' u (m + bs.length / n) (CU m n bs)->Q (.ref u) H'
theorem scLClosed:FnScope ["_law_layout", "_law_size", "_law_many", "_law_blocks", "_law_k", "_law_more"] ["_law_layout", "_law_size"] (Ae Dz):=⟨rfl,rfl,rfl,by decide +kernel,rfl,by decide +kernel,by decide +kernel⟩
theorem nats_one (b:List Nat) (x:Nat):nats b++[V.int ((x:Nat):Int)]=nats (b++[x]):=by rw[AE]
theorem ok_closed {f:Addr} {fd:Qh} (F:Fun K "_law_closed" "_law_closed" Dz f fd) (T:TxtB mg):FnOk P w K mg base CX0 1 f fd ["_law_layout", "_law_size"] Gk:=by
 refine F.okQ scLClosed (λvs H Q E h=>?_) (λcdv A outer s H vs Q E hr h=>?_)
 ·obtain ⟨t,m,n,bs,rfl,_⟩:=h
  rfl
 ·obtain ⟨t,m,n,bs,rfl,hL,hn1,hn7,hm,hb1,hb100,hb,q⟩:=h
  obtain ⟨l,ws,ht,hl,hT,hn200⟩:=id hL
  refine ⟨_,(Ad (An (i:=2) scLClosed.nd rfl (R8 rfl) (Au Aw (qv 0) Af (λ_ _=>rfl)))
   (Ad (An (i:=3) scLClosed.nd rfl (Ro rfl) (Bw Ab))
   (Ad (AJ PassesOwn.never rfl (Ar rfl T.range (qac (Am Ak (by rfl) T.len Rr (qac (Au Aw (qv 0) Af (λ_ _=>rfl)) Ab)) Ab)) (Ai (i:=4) scLClosed.nd rfl (Ro rfl))
    (Ah (AK (Df RD RX RW Be (qv 3) (qac (Aq JA (Au Aw (Au Aw (qv 0) Af (λ_ _=>rfl)) (qv 4) (λ_ _=>rfl)) (AI (qac (Aq AZ (qv 2) (Aq By (qv 4) (qv 1))) Ab))) Ab)))))
   (Ad (An (i:=5) scLClosed.nd rfl (Ro rfl) (Aq By (Am Ak (by rfl) T.len Rr (qac (qv 3) Ab)) (qv 1)))
   (Ah (Ax (AI (qac (Aq AZ (qv 2) (qv 5)) (qac (Aq JA (AD Ay (by rfl) T.tup (by decide +kernel) (qac (qv 3) Ab)) (AI (qac (AD Ay (by rfl) T.tup (by decide +kernel) (qac (AH (g:=AR 0) (N:=["_law_k", "_law_many"]) (src:=[none,some 2]) rfl (Al (Ae Dz) ["_law_layout", "_law_size", "_law_many", "_law_blocks", "_law_k", "_law_more"] rfl rfl (by decide +kernel) rfl) (Ar rfl T.range (qac (qv 5) Ab)) (λ_ _ _ _ _=>(Ai (i:=0) (show (["_law_k", "_law_many"]:List Str).Nodup by decide +kernel) rfl (Ro rfl) (R8 rfl))) (λ_ _ _ _ _=>AQ) (λ_ _ _ _ _=>(Aq AZ (qv 1) (qv 0)))) Ab)) Ab))) Ab))))))))),?_⟩
  have hwl:=hT.len
  refine ⟨_,rfl,t,_,0,.int ((m:Nat):Int),rfl,rfl,SqT.of ht,rfl,by show 0<=Qe; decide,λc hc=>?_⟩
  have w1:=Ac (o:=.lst []) hc
  refine ⟨_,rfl,t,_,1,.ref l,rfl,rfl,SqT.of (w1 _ _ ht),rfl,l,ws,rfl,.inr (SqT.of (w1 _ _ hl)),((ws.length:Nat):Int),rfl,by omega,by omega,?_⟩
  rw[Rc,hwl]
  refine AM (lo:=0) (n:=bs.length) (λk σ H2=>Same H H2/\∃ (x4:Option V) (zs:List V),σ=[some (.ref t),some (.int ((n:Nat):Int)),some (.int ((m:Nat):Int)),some (.ref c),x4,none]/\H2 c=some (.lst zs)/\TpAt H2 zs (clB m n bs k)) ⟨w1,none,[],rfl,Aa,trivial⟩ ?_ ?_
  ·rintro k σ H2 hk ⟨s2,x4,zs,rfl,hc2,hz⟩
   rw[RI]
   have g:ws[k]?=some (ws[k]'(by omega)):=J7 _
   obtain ⟨a,b,ea,eb,ha⟩:=(hT.sm s2).get g
   rw[ea]at g
   have hbb:=hb b (Rf eb)
   have hkd:((k:Nat):Int) / ((n:Nat):Int)=((k / n:Nat):Int):=(Jc5 k n).symm
   refine ⟨_,rfl,.inl ⟨rfl,_,SqL.of hc2⟩,_,rfl,t,_,1,.ref l,rfl,rfl,SqT.of (s2 _ _ ht),rfl,_,rfl,l,ws,_,_,rfl,rfl,SqT.of (s2 _ _ hl),AB g,_,rfl,_,rfl,_,rfl,_,_,rfl,rfl,⟨by omega,by omega⟩,_,_,rfl,rfl,by show 1<=Qe; decide,λd hd=>?_⟩
   have ex:[V.int (((m:Nat):Int) + ((k:Nat):Int) / ((n:Nat):Int))]=[V.int ((m + k / n:Nat):Int)]:=by rw[hkd,Wd]
   have w2:=Ac (o:=.tup [V.int (((m:Nat):Int) + ((k:Nat):Int) / ((n:Nat):Int))]) hd
   refine ⟨a,d,_,_,rfl,rfl,SqT.of (w2 _ _ ha),SqT.of Aa,λz=>hbb.1 (List.map_eq_nil_iff.mp z),by rw[Ag]; exact J6 (show _<=61 by have:=hbb.2; show b.length + 1<=61; omega) (by decide),(λz=>by cases z),λ_ e he=>?_⟩
   have w3:=Ac (o:=.tup (nats b++[V.int (((m:Nat):Int) + ((k:Nat):Int) / ((n:Nat):Int))])) he
   have hc3:=(w2.trans w3) _ _ hc2
   refine ⟨c,zs,.ref e,rfl,rfl,hc3,Rn (show zs.length<=100 by rw[hz.len]; unfold clB; rw[J0,J5]; omega) (by decide),?_⟩
   have hte:upd (upd H2 d (.tup [V.int (((m:Nat):Int) + ((k:Nat):Int) / ((n:Nat):Int))])) e (.tup (nats b++[V.int (((m:Nat):Int) + ((k:Nat):Int) / ((n:Nat):Int))])) e=some (.tup (nats (b++[m + k / n]))):=by rw[Aa,ex,nats_one]
   refine ⟨AG (s2.trans (w2.trans w3)) hc,_,_,rfl,Aa,EU hc3 ?_⟩
   unfold clB
   rw[Rs,Rp]
   refine TpAt.snoc ?_ (hz.sm (w2.trans w3))
   show _=some (HO.tup (nats (bs.getD k []++[m + k / n])))
   rw[Bg eb]
   exact hte
  ·rintro σ H2 ⟨s2,x4,zs,rfl,hc2,hz⟩
   have hzl:zs.length=bs.length:=by rw[hz.len]; unfold clB; rw[J0,J5]
   have hq:((zs.length:Nat):Int) / ((n:Nat):Int)=((bs.length / n:Nat):Int):=by rw[hzl,Jc5]
   refine ⟨_,rfl,c,zs,rfl,.inl (SqL.of hc2),_,rfl,_,_,rfl,rfl,⟨by omega,by omega⟩,?_⟩
   dsimp only
   rw[hq]
   have hql:bs.length / n<=100:=J6 (Yp _ _) hb100
   refine ⟨_,rfl,_,rfl,_,_,rfl,rfl,_,rfl,c,zs,rfl,.inl ⟨SqL.of hc2,λe he=>?_⟩⟩
   have w2:=Ac (o:=.tup zs) he
   refine ⟨_,rfl,((bs.length / n:Nat):Int),rfl,Int.le_trans (by decide) (Int.natCast_nonneg _),Int.lt_of_le_of_lt (ZS.mpr hql) (by decide),?_⟩
   rw[Rc]
   refine AX (lo:=0) (n:=bs.length / n) (λi us H3=>H3=upd H2 e (.tup zs)/\us=nats ((J1 i).map λk=>m + k)) ⟨rfl,rfl⟩ ?_ ?_
   ·rintro i us H3 N hi ⟨rfl,rfl⟩ nx
    refine ⟨Weak.set (by intro v z; cases z),⟨_,rfl,_,rfl,_,_,rfl,rfl,?_,nx _ _ ⟨rfl,?_⟩⟩⟩
    ·rw[Ag,J0,J5]
     exact Rb (show i < 101 by omega) (by decide)
    ·rw[Rs,Rp,Rt,Uf,AE,RI,Wd]
   ·rintro us H3 ⟨rfl,rfl⟩
    refine ⟨by rw[Ag,J0,J5]; exact J6 hql (by decide),λg hg=>?_⟩
    have w3:=Ac (o:=.lst (nats ((J1 (bs.length / n)).map λk=>m + k))) hg
    refine ⟨g,_,rfl,.inl ⟨SqL.of Aa,λx hx=>?_⟩⟩
    have w4:=Ac (o:=.tup (nats ((J1 (bs.length / n)).map λk=>m + k))) hx
    refine ⟨by show 1<=Qe; decide,λy hy=>?_⟩
    have w5:=Ac (o:=.tup [.ref x]) hy
    have w35:=w3.trans (w4.trans w5)
    refine ⟨e,y,_,_,rfl,rfl,SqT.of (w35 _ _ Aa),SqT.of Aa,(λz=>by rw[z]at hzl; simp at hzl; omega),by rw[hzl]; exact J6 (show bs.length + 1<=101 by omega) (by decide),(λz=>by cases z),λ_ z hz'=>?_⟩
    have w6:=Ac (o:=.tup (zs++[.ref x])) hz'
    refine ⟨by show 2<=Qe; decide,λu hu=>?_⟩
    have w7:=Ac (o:=.tup [.int (((m:Nat):Int) + ((bs.length / n:Nat):Int)),.ref z]) hu
    refine q u _ (s2.trans (w2.trans (w35.trans (w6.trans w7)))) ⟨z,zs++[.ref x],?_,w7 _ _ Aa,?_,?_⟩
    ·rw[Aa,Wd]
    ·exact TpAt.snoc ((w5.trans (w6.trans w7)) _ _ Aa) (hz.sm (w2.trans (w35.trans (w6.trans w7))))
    ·unfold CU clB
     rw[Rk,J0,J5]
     show bs.length + 1<=200
     omega
def Gm (bs:List (List Nat)) (i j k:Nat):List Nat:=(J1 k).filter λx=>decide (x∈bs.getD i []) && decide (x∈bs.getD j [])
theorem Eo (bs:List (List Nat)) (i j k:Nat):(Gm bs i j k).length<=k:=J6 (R1 ..) (by rw[J5]; exact J8 _)
theorem DR (bs:List (List Nat)) (i j k:Nat):Gm bs i j (k + 1)=Gm bs i j k++if (decide (k∈bs.getD i []) && decide (k∈bs.getD j []))=true then [k] else []:=by
 unfold Gm
 rw[Rs,R3]
 congr 1
 rw[Us]
 rfl
def DD (m n:Nat) (bs:List (List Nat)) (j:Nat):List Nat:=(J1 j).flatMap λi=>Gm bs (i / n) (n + i % n) m
theorem FB (m n:Nat) (bs:List (List Nat)) (j:Nat):DD m n bs (j + 1)=DD m n bs j++Gm bs (j / n) (n + j % n) m:=by
 unfold DD
 rw[Rs,Wx]
 simp
theorem Jd (m n:Nat) (bs:List (List Nat)):∀ j,(DD m n bs j).length<=j * m
 | 0=>by simp[DD]
 | j + 1=>by
  rw[FB,Rk,UP,Wz]
  exact Nat.add_le_add (Jd m n bs j) (Eo ..)
def Ia:Sp:=λvs H Q _=>∃ (t:Addr) (m n:Nat) (bs:List (List Nat)),vs=[.ref t,.int ((n:Nat):Int)]/\LayA H t m bs/\1<=n/\n<=7/\m<=60/\2 * n<=bs.length/\∀ (u:Addr) (H':Hp),Same H H'->H' u=some (.lst (nats (DD m n bs (n * n))))->Q (.ref u) H'
theorem scLCells:FnScope ["_law_layout", "_law_size", "_law_found", "_law_r", "_law_c", "_law_both"] ["_law_layout", "_law_size"] (Ae ET):=⟨rfl,rfl,rfl,by decide +kernel,rfl,by decide +kernel,by decide +kernel⟩
theorem ok_cells {f:Addr} {fd:Qh} (F:Fun K "_law_cells" "_law_cells" ET f fd) (T:TxtB mg):FnOk P w K mg base CX0 1 f fd ["_law_layout", "_law_size"] Ia:=by
 refine F.okQ scLCells (λvs H Q E h=>?_) (λcdv A outer s H vs Q E hr h=>?_)
 ·obtain ⟨t,m,n,bs,rfl,_⟩:=h
  rfl
 ·obtain ⟨t,m,n,bs,rfl,hL,hn1,hn7,hm,hb2,q⟩:=h
  obtain ⟨l,ws,ht,hl,hT,hn200⟩:=id hL
  refine ⟨_,(Ad (An (i:=2) scLCells.nd rfl (Ro rfl) (Bw Ab))
   (Ad (AJ PassesOwn.never rfl (Ar rfl T.range (qac (qv 1) Ab)) (Ai (i:=3) scLCells.nd rfl (R8 rfl))
    (Ah (AJ PassesOwn.never rfl (Ar rfl T.range (qac (qv 1) Ab)) (Ai (i:=4) scLCells.nd rfl (R8 rfl))
     (Ad (Ce (i:=5) (g:=AR 0) (N:=["_law_k", "_law_layout", "_law_size", "_law_r", "_law_c"]) (src:=[none,some 0,some 1,some 3,some 4]) rfl (Al (Ae ET) ["_law_layout", "_law_size", "_law_found", "_law_r", "_law_c", "_law_both"] rfl rfl (by decide +kernel) rfl) (Ar rfl T.range (qac (Au Aw (qv 0) Af (λ_ _=>rfl)) Ab)) (λ_ _ _ _ _=>(Ai (i:=0) (show (["_law_k", "_law_layout", "_law_size", "_law_r", "_law_c"]:List Str).Nodup by decide +kernel) rfl (Ro rfl) (R8 rfl))) (λ_ _ _ _ _=>(BQ (QW.pt (JE (Ap (show OpR _ _ (rIn K false) from BD) (qv 0) (Au (show IxR _ (rIxT K) from Aw) (Au (show IxR _ (rIxT K) from Aw) (qv 1) Af (λ_ _=>rfl)) (qv 3) (λ_ _=>rfl)) rfl) (Hr (Ap (show OpR _ _ (rIn K false) from BD) (qv 0) (Au (show IxR _ (rIxT K) from Aw) (Au (show IxR _ (rIxT K) from Aw) (qv 1) Af (λ_ _=>rfl)) (Aq AZ (qv 2) (qv 4)) (λ_ _=>rfl)) rfl)))))) (λ_ _ _ _ _=>(qv 0)) (Ai (i:=5) scLCells.nd rfl (Ro rfl)))
     (Ah (AK (Df RD Wn Wm Dl (qv 2) (qac (qv 5) Ab))))))))
   (Ah (Ax (qv 2))))),?_⟩
  have hwl:=hT.len
  have hnn:n * n<=49:=R6 hn7 hn7
  have hix:∀ {H2:Hp},Same H H2->∀ k,k < bs.length->∃ a,ws[k]?=some (.ref a)/\H2 a=some (.tup (nats (bs.getD k []))):=λ{H2} s2 k hk=>by
   have g:ws[k]?=some (ws[k]'(by omega)):=J7 _
   obtain ⟨a,b,ea,eb,ha⟩:=(hT.sm s2).get g
   exact ⟨a,by rw[g,ea],by rw[Bg eb]; exact ha⟩
  refine ⟨by show 0<=Qe; decide,λd hd=>?_⟩
  have w1:=Ac (o:=.lst []) hd
  refine ⟨_,rfl,((n:Nat):Int),rfl,by omega,by omega,?_⟩
  rw[Rc]
  refine AM (lo:=0) (n:=n) (λr σ H2=>Same H H2/\∃ x3 x4 x5:Option V,σ=[some (.ref t),some (.int ((n:Nat):Int)),some (.ref d),x3,x4,x5]/\H2 d=some (.lst (nats (DD m n bs (r * n))))) ⟨w1,none,none,none,rfl,by rw[WK]; exact Aa⟩ ?_ ?_
  ·rintro r σ H2 hr' ⟨s2,x3,x4,x5,rfl,hd2⟩
   rw[RI]
   refine ⟨_,rfl,((n:Nat):Int),rfl,by omega,by omega,?_⟩
   rw[Rc]
   refine AM (lo:=0) (n:=n) (λc σ H3=>Same H H3/\∃ x4 x5:Option V,σ=[some (.ref t),some (.int ((n:Nat):Int)),some (.ref d),some (.int ((r:Nat):Int)),x4,x5]/\H3 d=some (.lst (nats (DD m n bs (r * n + c))))) ⟨s2,x4,x5,rfl,hd2⟩ ?_ ?_
   ·rintro c σ H3 hc ⟨s3,x4,x5,rfl,hd3⟩
    rw[RI]
    obtain ⟨ar,er,har⟩:=hix s3 r (by omega)
    obtain ⟨ac,ec,hac⟩:=hix s3 (n + c) (by omega)
    refine ⟨_,rfl,t,_,0,.int ((m:Nat):Int),rfl,rfl,SqT.of (s3 _ _ ht),rfl,((m:Nat):Int),rfl,by omega,by omega,?_⟩
    rw[Rc]
    refine AX (lo:=0) (n:=m) (λk us H4=>H4=H3/\us=nats (Gm bs r (n + c) k)) ⟨rfl,rfl⟩ ?_ ?_
    ·rintro k us H4 N hk ⟨rfl,rfl⟩ nx
     rw[RI]
     have hle:(nats (Gm bs r (n + c) k)).length < Qe:=by
      rw[Ag]
      exact Rn (J6 (Eo ..) (show k<=60 by omega)) (by decide)
     refine ⟨Weak.set (by intro v z; cases z),?_⟩
     refine ⟨_,rfl,_,rfl,t,_,1,.ref l,rfl,rfl,SqT.of (s3 _ _ ht),rfl,_,rfl,l,ws,_,_,rfl,rfl,SqT.of (s3 _ _ hl),AB er,ar,_,rfl,.inr (SqT.of har),rfl,BF _,_,rfl,?_⟩
     rw[if_neg (by decide),BK]
     by_cases h1:k∈bs.getD r []
     ·rw[decide_eq_true h1]
      refine iteT ⟨_,rfl,_,rfl,t,_,1,.ref l,rfl,rfl,SqT.of (s3 _ _ ht),rfl,_,rfl,_,rfl,_,_,rfl,rfl,l,ws,_,_,rfl,rfl,SqT.of (s3 _ _ hl),?_,ac,_,rfl,.inr (SqT.of hac),rfl,BF _,_,rfl,?_⟩
      ·show atI ws (((n:Nat):Int) + ((c:Nat):Int))=_
       rw[<- Wd]
       exact AB ec
      rw[if_neg (by decide),BK]
      by_cases h2:k∈bs.getD (n + c) []
      ·rw[decide_eq_true h2]
       refine iteT ⟨_,rfl,hle,nx _ _ ⟨rfl,?_⟩⟩
       rw[DR,decide_eq_true h1,decide_eq_true h2,if_pos (by decide),AE]
      ·rw[decide_eq_false h2]
       refine iteF (nx _ _ ⟨rfl,?_⟩)
       rw[DR,decide_eq_false h2,Zr,if_neg (by decide),RJ]
     ·rw[decide_eq_false h1]
      refine iteF (iteF (nx _ _ ⟨rfl,?_⟩))
      rw[DR,decide_eq_false h1,Zq,if_neg (by decide),RJ]
    ·rintro us H4 ⟨rfl,rfl⟩
     refine ⟨by rw[Ag]; exact J6 (J6 (Eo ..) hm) (by decide),λb hb=>?_⟩
     have w4:=Ac (o:=.lst (nats (Gm bs r (n + c) m))) hb
     have hcc:=Jd m n bs (r * n + c)
     have hrc:r * n + c < n * n:=by
      have:=R9 n (show r + 1<=n from hr')
      rw[UP,Wz]at this
      omega
     have hcm:(r * n + c) * m<=49 * 60:=R6 (by omega) hm
     have hbm:=Eo bs r (n + c) m
     have hbd:b≠d:=λz=>by rw[z,hd3]at hb; cases hb
     refine ⟨_,rfl,.inl ⟨rfl,_,SqL.of (w4 _ _ hd3)⟩,_,rfl,d,b,_,_,rfl,rfl,w4 _ _ hd3,Aa,by rw[Ag,Ag]; exact J6 (show _<=3000 by omega) (by decide),?_⟩
     refine ⟨AG (s3.trans w4) hd,_,_,rfl,?_⟩
     obtain ⟨e1,e2⟩:=cell_div (r:=r) hc
     rw[Aa,show r * n + (c + 1)=r * n + c + 1 by omega,FB,e1,e2]
     unfold nats
     rw[Rp]
   ·rintro σ H3 ⟨s3,x4,x5,rfl,hd3⟩
    exact ⟨s3,_,_,_,rfl,by rw[UP,Wz]; exact hd3⟩
  ·rintro σ H2 ⟨s2,x3,x4,x5,rfl,hd2⟩
   exact ⟨_,rfl,q d _ s2 hd2⟩
def thrK (bs:List (List Nat)) (b z i:Nat):List (List Nat):=((J1 i).filter λk=>decide (k≠b) && decide (z∈bs.getD k [])).map λk=>bs.getD k []
theorem Ff (bs:List (List Nat)) (b z i:Nat):thrK bs b z (i + 1)=thrK bs b z i++if (decide (i≠b) && decide (z∈bs.getD i []))=true then [bs.getD i []] else []:=by
 unfold thrK
 rw[Rs,R3,Rp,Us]
 congr 1
 split <;> rfl
theorem KD (bs:List (List Nat)) (b z i:Nat):(thrK bs b z i).length<=i:=by
 unfold thrK
 rw[J0]
 exact J6 (R1 ..) (by rw[J5]; exact J8 _)
def pick {α:Type} (d:α) (L:List α) (o:List Nat):List α:=(o.filter λk=>decide (k < L.length)).map λk=>L.getD k d
theorem DA {α:Type} (d:α) (L:List α) (o:List Nat) (k:Nat):pick d L (o++[k])=pick d L o++if k < L.length then [L.getD k d] else []:=by
 unfold pick
 rw[R3,Rp,Us]
 congr 1
 by_cases h:k < L.length
 ·rw[decide_eq_true h,if_pos rfl,if_pos h]; rfl
 ·rw[decide_eq_false h,if_neg (by decide),if_neg h]; rfl
theorem DS {α:Type} (d:α) (L:List α) (o:List Nat):(pick d L o).length<=o.length:=by
 unfold pick
 rw[J0]
 exact R1 ..
def Ib:Sp:=λvs H Q _=>∃ (t o:Addr) (m b z:Nat) (bs:List (List Nat)) (ord:List Nat),vs=[.ref t,.int ((b:Nat):Int),.int ((z:Nat):Int),.ref o]/\LayA H t m bs/\H o=some (.lst (nats ord))/\ord.length<=100/\∀ (u:Addr) (ws:List V) (H':Hp),H u=none->Same H H'->H' u=some (.lst ws)->TpAt H' ws (pick [] (thrK bs b z bs.length) ord)->Q (.ref u) H'
theorem scLClass:FnScope ["_law_plane", "_law_b", "_law_point", "_law_order", "_law_blocks"] ["_law_plane", "_law_b", "_law_point", "_law_order"] (Ae DL):=⟨rfl,rfl,rfl,by decide +kernel,rfl,by decide +kernel,by decide +kernel⟩
theorem ok_class {f:Addr} {fd:Qh} (F:Fun K "_law_class" "_law_class" DL f fd) (T:TxtB mg):FnOk P w K mg base CX0 1 f fd ["_law_plane", "_law_b", "_law_point", "_law_order"] Ib:=by
 refine F.okQ scLClass (λvs H Q E h=>?_) (λcdv A outer s H vs Q E hr h=>?_)
 ·obtain ⟨t,o,m,b,z,bs,ord,rfl,_⟩:=h
  rfl
 ·obtain ⟨t,o,m,b,z,bs,ord,rfl,hL,ho,hol,q⟩:=h
  obtain ⟨l,ws,ht,hl,hT,hn200⟩:=id hL
  refine ⟨_,(Ad (An (i:=4) scLClass.nd rfl (R8 rfl) (AH (g:=AR 0) (N:=["_law_k", "_law_plane", "_law_b", "_law_point"]) (src:=[none,some 0,some 1,some 2]) rfl (Al (Ae DL) ["_law_plane", "_law_b", "_law_point", "_law_order", "_law_blocks"] rfl rfl (by decide +kernel) rfl) (Ar rfl T.range (qac (Am Ak (by rfl) T.len Rr (qac (Au Aw (qv 0) Af (λ_ _=>rfl)) Ab)) Ab)) (λ_ _ _ _ _=>(Ai (i:=0) (show (["_law_k", "_law_plane", "_law_b", "_law_point"]:List Str).Nodup by decide +kernel) rfl (Ro rfl) (R8 rfl))) (λ_ _ _ _ _=>(BQ (QW.pt (JE (Ap Gw (qv 0) (qv 2) (Az _)) (Hr (Ap (show OpR _ _ (rIn K false) from BD) (qv 3) (Au (show IxR _ (rIxT K) from Aw) (Au (show IxR _ (rIxT K) from Aw) (qv 1) Af (λ_ _=>rfl)) (qv 0) (λ_ _=>rfl)) rfl)))))) (λ_ _ _ _ _=>(Au (show IxR _ (rIxT K) from Aw) (Au (show IxR _ (rIxT K) from Aw) (qv 1) Af (λ_ _=>rfl)) (qv 0) (λ_ _=>rfl)))))
   (Ah (Ax (AH (g:=AR 0) (N:=["_law_k", "_law_blocks"]) (src:=[none,some 4]) rfl (Al (Ae DL) ["_law_plane", "_law_b", "_law_point", "_law_order", "_law_blocks"] rfl rfl (by decide +kernel) rfl) (Bz (qv 3)) (λ_ _ _ _ _=>(Ai (i:=0) (show (["_law_k", "_law_blocks"]:List Str).Nodup by decide +kernel) rfl (Ro rfl) (R8 rfl))) (λ_ _ _ _ _=>(BQ (Ap DE (qv 0) (Am (show Bx _ _ (KO K) from EF) (by rfl) T.len Rr (qac (qv 1) Ab)) (Az _)))) (λ_ _ _ _ _=>(Au (show IxR _ (rIxL K) from AF) (qv 1) (qv 0) (λ_ _=>rfl))))))),?_⟩
  have hwl:=hT.len
  refine ⟨_,rfl,t,_,1,.ref l,rfl,rfl,SqT.of ht,rfl,l,ws,rfl,.inr (SqT.of hl),((ws.length:Nat):Int),rfl,by omega,by omega,?_⟩
  rw[Rc,hwl]
  refine AX (lo:=0) (n:=bs.length) (λk us H2=>H2=H/\TpAt H us (thrK bs b z k)) ⟨rfl,trivial⟩ ?_ ?_
  ·rintro k us H2 N hk ⟨rfl,hU⟩ nx
   rw[RI]
   have g:ws[k]?=some (ws[k]'(by omega)):=J7 _
   obtain ⟨a,blk,ea,eb,ha⟩:=hT.get g
   rw[ea]at g
   have egd:=Bg (d:=[]) eb
   have hul:us.length < Qe:=by
    rw[hU.len]
    exact Rn (J6 (KD ..) (show k<=200 by omega)) (by decide)
   refine ⟨Weak.set (by intro v z; cases z),⟨_,rfl,_,rfl,rfl,_,rfl,?_⟩⟩
   by_cases h1:k=b
   ·refine JD (by show V.int ((k:Nat):Int)=V.int ((b:Nat):Int); rw[h1]) (iteF (nx _ _ ⟨rfl,?_⟩))
    rw[Ff,decide_eq_false (λz=>z h1),Zq,if_neg (by decide),RJ]
    exact hU
   ·show if (!decide (V.int ((k:Nat):Int)=V.int ((b:Nat):Int)))=true then _ else _
    rw[decide_eq_false (λz=>h1 (by injection z with z; exact Ja0 z))]
    refine iteT ⟨_,rfl,_,rfl,t,_,1,.ref l,rfl,rfl,SqT.of ht,rfl,_,rfl,l,ws,_,_,rfl,rfl,SqT.of hl,AB g,a,_,rfl,.inr (SqT.of ha),rfl,BF _,_,rfl,?_⟩
    rw[if_neg (by decide),BK]
    by_cases h2:z∈blk
    ·rw[decide_eq_true h2]
     refine iteT ⟨_,rfl,t,_,1,.ref l,rfl,rfl,SqT.of ht,rfl,_,rfl,l,ws,_,_,rfl,rfl,SqT.of hl,AB g,hul,nx _ _ ⟨rfl,?_⟩⟩
     rw[Ff,egd,decide_eq_true h1,decide_eq_true h2,if_pos (by decide)]
     exact TpAt.snoc ha hU
    ·rw[decide_eq_false h2]
     refine iteF (nx _ _ ⟨rfl,?_⟩)
     rw[Ff,egd,decide_eq_false h2,Zr,if_neg (by decide),RJ]
     exact hU
  ·rintro us H2 ⟨rfl,hU⟩
   have hul:us.length<=200:=by
    rw[hU.len]
    exact J6 (KD ..) hn200
   refine ⟨J6 hul (by decide),λc hc=>?_⟩
   have w1:=Ac (o:=.lst us) hc
   refine ⟨_,rfl,o,rfl,⟨_,SqL.of (w1 _ _ ho)⟩,BE (K:=K) (xs:=nats ord) (λi vs H3=>H3=upd H2 c (.lst us)/\TpAt H3 vs (pick [] (thrK bs b z bs.length) (ord.take i))) ⟨rfl,trivial⟩ (λi vs H3 _ ⟨e,_⟩=>SqL.of (e▸w1 _ _ ho)) ?_ ?_⟩
   ·rintro i v vs H3 N hi ⟨rfl,hV⟩ nx
    obtain ⟨k,hk,rfl⟩:=L2.AW hi
    have hik:=(J3.mp hk).1
    have hvl:vs.length < Qe:=by
     rw[hV.len]
     exact Rn (J6 (DS ..) (by rw[RA]; exact J6 (Yi _ _) hol)) (by decide)
    refine ⟨Weak.set (by intro v z; cases z),⟨_,rfl,_,rfl,c,us,rfl,.inl (SqL.of Aa),_,_,rfl,rfl,_,rfl,?_⟩⟩
    have hUl:=hU.len
    by_cases h:k < us.length
    ·have g:us[k]?=some (us[k]'h):=J7 _
     obtain ⟨a,blk,ea,eb,ha⟩:=(hU.sm w1).get g
     rw[ea]at g
     refine ifT (by omega) ⟨_,rfl,_,rfl,c,us,_,_,rfl,rfl,SqL.of Aa,AB g,hvl,nx _ _ ⟨rfl,?_⟩⟩
     rw[RO,hk,RM,DA,if_pos (by omega)]
     refine TpAt.snoc ?_ hV
     rw[Bg eb]
     exact ha
    ·refine ifF (by omega) (nx _ _ ⟨rfl,?_⟩)
     rw[RO,hk,RM,DA,if_neg (by omega),RJ]
     exact hV
   ·rintro vs H3 ⟨rfl,hV⟩
    rw[Ag,RE]at hV
    have hvl:vs.length<=100:=by
     rw[hV.len]
     exact J6 (DS ..) hol
    refine ⟨J6 hvl (by decide),λu hu=>?_⟩
    exact q u vs _ (w1.free hu) (w1.trans (Ac hu)) Aa (hV.sm (Ac hu))
def offK (bs:List (List Nat)) (b i:Nat):List Nat:=(J1 i).filter λp=>decide (p∉bs.getD b [])
theorem Hi (bs:List (List Nat)) (b i:Nat):offK bs b (i + 1)=offK bs b i++if i∉bs.getD b [] then [i] else []:=by
 unfold offK
 rw[Rs,R3,Us]
 congr 1
 by_cases h:i∉bs.getD b []
 ·rw[decide_eq_true h,if_pos rfl,if_pos h]; rfl
 ·rw[decide_eq_false h,if_neg (by decide),if_neg h]; rfl
theorem KE (bs:List (List Nat)) (b i:Nat):(offK bs b i).length<=i:=J6 (R1 ..) (by rw[J5]; exact J8 _)
def blkK (bs ords:List (List Nat)) (b:Nat) (o:List Nat):List (List Nat):=(o.filter λk=>decide (k < (bs.getD b []).length)).flatMap λk=>pick [] (thrK bs b ((bs.getD b []).getD k 0) bs.length) (ords.getD (2 + k) [])
theorem Fg (bs ords:List (List Nat)) (b:Nat) (o:List Nat) (k:Nat):blkK bs ords b (o++[k])=blkK bs ords b o++if k < (bs.getD b []).length then pick [] (thrK bs b ((bs.getD b []).getD k 0) bs.length) (ords.getD (2 + k) []) else []:=by
 unfold blkK
 rw[R3,Wx,Us]
 congr 1
 by_cases h:k < (bs.getD b []).length
 ·rw[decide_eq_true h,if_pos rfl,if_pos h]; simp
 ·rw[decide_eq_false h,if_neg (by decide),if_neg h]; rfl
def trK (P B:List Nat) (i:Nat):List Nat:=(J1 i).filter λk=>decide (P.getD k 0∈B)
theorem Je (P B:List Nat) (i:Nat):trK P B (i + 1)=trK P B i++if P.getD i 0∈B then [i] else []:=by
 unfold trK
 rw[Rs,R3,Us]
 congr 1
 by_cases h:P.getD i 0∈B
 ·rw[decide_eq_true h,if_pos rfl,if_pos h]; rfl
 ·rw[decide_eq_false h,if_neg (by decide),if_neg h]; rfl
theorem LA (P B:List Nat) (i:Nat):(trK P B i).length<=i:=J6 (R1 ..) (by rw[J5]; exact J8 _)
def ptsL (m:Nat) (bs ords:List (List Nat)) (b:Nat):List Nat:=pick 0 (offK bs b m) (ords.getD 0 [])
def offL (m:Nat) (bs ords:List (List Nat)) (b:Nat):List (List Nat):=(blkK bs ords b (ords.getD 1 [])).map λB=>trK (ptsL m bs ords b) B (ptsL m bs ords b).length
def LZ:Sp:=λvs H Q _=>∃ (t o:Addr) (m b:Nat) (ows:List V) (bs ords:List (List Nat)),vs=[.ref t,.int ((b:Nat):Int),.ref o]/\LayA H t m bs/\m<=60/\b < bs.length/\H o=some (.lst ows)/\BlAt H ows ords/\(∀ x∈ords,x.length<=25)/\2 + (bs.getD b []).length<=ords.length/\(blkK bs ords b (ords.getD 1 [])).length<=200/\
 ∀ (u:Addr) (H':Hp),Same H H'->LayA H' u (ptsL m bs ords b).length (offL m bs ords b)->Q (.ref u) H'
theorem scLOff:FnScope ["_law_plane", "_law_b", "_law_orders", "_law_points", "_law_blocks", "_law_k", "_law_found", "_law_block"] ["_law_plane", "_law_b", "_law_orders"] (Ae HE):=⟨rfl,rfl,rfl,by decide +kernel,rfl,by decide +kernel,by decide +kernel⟩
theorem KF {bs ords:List (List Nat)} {b:Nat} (h:∀ k,(ords.getD k []).length<=25):∀ o:List Nat,(blkK bs ords b o).length<=25 * o.length
 | []=>RP _
 | k::r=>by
  have ih:=KF (b:=b) (bs:=bs) h r
  have e:blkK bs ords b (k::r)=blkK bs ords b [k]++blkK bs ords b r:=by
   unfold blkK
   rw[<- Wx,<- R3]
   rfl
  have h2:(blkK bs ords b [k]).length<=25:=by
   have:=Fg bs ords b [] k
   rw[Y2]at this
   rw[this]
   split
   ·rw[Rk]
    have h3:=DS ([]:List Nat) (thrK bs b ((bs.getD b []).getD k 0) bs.length) (ords.getD (2 + k) [])
    have h4:=h (2 + k)
    show 0 + _<=25
    omega
   ·simp[blkK]
  rw[e,Rk,Rq]
  omega
theorem ok_off {f:Addr} {fd:Qh} (F:Fun K "_law_off" "_law_off" HE f fd) (T:TxtB mg) (pLClass:Pm P w K mg base CX0 1 "_law_class" ["_law_plane", "_law_b", "_law_point", "_law_order"] Ib):FnOk P w K mg base CX0 2 f fd ["_law_plane", "_law_b", "_law_orders"] LZ:=by
 refine F.okQ scLOff (λvs H Q E h=>?_) (λcdv A outer s H vs Q E hr1 h=>?_)
 ·obtain ⟨t,o,m,b,ows,bs,ords,rfl,_⟩:=h
  rfl
 ·obtain ⟨t,o,m,b,ows,bs,ords,rfl,hL,hm,hbl,ho,hO,hO25,hO2,hB200,q⟩:=h
  obtain ⟨l,ws,ht,hl,hT,hn200⟩:=id hL
  refine ⟨_,(Ad (An (i:=3) scLOff.nd rfl (R8 rfl) (AH (g:=AR 0) (N:=["_law_point", "_law_plane", "_law_b"]) (src:=[none,some 0,some 1]) rfl (Al (Ae HE) ["_law_plane", "_law_b", "_law_orders", "_law_points", "_law_blocks", "_law_k", "_law_found", "_law_block"] rfl rfl (by decide +kernel) rfl) (Ar rfl T.range (qac (Au Aw (qv 0) Af (λ_ _=>rfl)) Ab)) (λ_ _ _ _ _=>(Ai (i:=0) (show (["_law_point", "_law_plane", "_law_b"]:List Str).Nodup by decide +kernel) rfl (Ro rfl) (R8 rfl))) (λ_ _ _ _ _=>(BQ (Ap (show OpR _ _ (rIn K true) from op_notIn_seq) (qv 0) (Au (show IxR _ (rIxT K) from Aw) (Au (show IxR _ (rIxT K) from Aw) (qv 1) Af (λ_ _=>rfl)) (qv 2) (λ_ _=>rfl)) rfl))) (λ_ _ _ _ _=>(qv 0))))
   (Ad (An (i:=3) scLOff.nd rfl (R8 rfl) (AH (g:=AR 0) (N:=["_law_k", "_law_points"]) (src:=[none,some 3]) rfl (Al (Ae HE) ["_law_plane", "_law_b", "_law_orders", "_law_points", "_law_blocks", "_law_k", "_law_found", "_law_block"] rfl rfl (by decide +kernel) rfl) (Bz (Au AF (qv 2) Af (λ_ _=>rfl))) (λ_ _ _ _ _=>(Ai (i:=0) (show (["_law_k", "_law_points"]:List Str).Nodup by decide +kernel) rfl (Ro rfl) (R8 rfl))) (λ_ _ _ _ _=>(BQ (Ap DE (qv 0) (Am (show Bx _ _ (KO K) from EF) (by rfl) T.len Rr (qac (qv 1) Ab)) (Az _)))) (λ_ _ _ _ _=>(Au (show IxR _ (rIxL K) from AF) (qv 1) (qv 0) (λ_ _=>rfl)))))
   (Ad (An (i:=4) scLOff.nd rfl (Ro rfl) (Bw Ab))
   (Ad (AJ PassesOwn.never rfl (Bz (Au AF (qv 2) Af (λ_ _=>rfl))) (Ai (i:=5) scLOff.nd rfl (Ro rfl))
    (Ah (Bb (Ap DE (qv 5) (Am Ak (by rfl) T.len Rr (qac (Au Aw (Au Aw (qv 0) Af (λ_ _=>rfl)) (qv 1) (λ_ _=>rfl)) Ab)) (Az _)) (Ah (AK (Df RD Wn Wm Dl (qv 4) (qac (Aj pLClass hr1 rfl Av (qac (qv 0) (qac (qv 1) (qac (Au Aw (Au Aw (Au Aw (qv 0) Af (λ_ _=>rfl)) (qv 1) (λ_ _=>rfl)) (qv 5) (λ_ _=>rfl)) (qac (Au AF (qv 2) (Aq AZ Af (qv 5)) (λ_ _=>rfl)) Ab))))) Ab)))) AA)))
   (Ad (An (i:=6) scLOff.nd rfl (Ro rfl) (Bw Ab))
   (Ad (AJ PassesOwn.never rfl (Bz (qv 4)) (Ai (i:=7) scLOff.nd rfl (R8 rfl))
    (Ah (AK (Df RD RX RW Be (qv 6) (qac (AD Ay (by rfl) T.tup (by decide +kernel) (qac (AH (g:=AR 0) (N:=["_law_k", "_law_points", "_law_block"]) (src:=[none,some 3,some 7]) rfl (Al (Ae HE) ["_law_plane", "_law_b", "_law_orders", "_law_points", "_law_blocks", "_law_k", "_law_found", "_law_block"] rfl rfl (by decide +kernel) rfl) (Ar rfl T.range (qac (Am Ak (by rfl) T.len Rr (qac (qv 3) Ab)) Ab)) (λ_ _ _ _ _=>(Ai (i:=0) (show (["_law_k", "_law_points", "_law_block"]:List Str).Nodup by decide +kernel) rfl (Ro rfl) (R8 rfl))) (λ_ _ _ _ _=>(BQ (Ap (show OpR _ _ (rIn K false) from BD) (Au (show IxR _ (rIxL K) from AF) (qv 1) (qv 0) (λ_ _=>rfl)) (qv 2) rfl))) (λ_ _ _ _ _=>(qv 0))) Ab)) Ab)))))
   (Ah (Ax (AI (qac (Am Ak (by rfl) T.len Rr (qac (qv 3) Ab)) (qac (AD Ay (by rfl) T.tup (by decide +kernel) (qac (qv 6) Ab)) Ab))))))))))),?_⟩
  have hwl:=hT.len
  have hol:=hO.len
  have gb:ws[b]?=some (ws[b]'(by omega)):=J7 _
  obtain ⟨ab,line,eab,ebl,hab⟩:=hT.get gb
  rw[eab]at gb
  have egl:=Bg (d:=[]) ebl
  have hg25:∀ k,(ords.getD k []).length<=25:=λk=>by
   by_cases h:k < ords.length
   ·rw[Bg (J7 h)]
    exact hO25 _ (Uk h)
   ·rw[J9,ZK (by omega)]
    exact RP _
  have hord:∀ {H2:Hp},Same H H2->∀ k,k < ords.length->∃ a,ows[k]?=some (.ref a)/\H2 a=some (.lst (nats (ords.getD k []))):=λ{H2} s2 k hk=>by
   have g:ows[k]?=some (ows[k]'(by omega)):=J7 _
   obtain ⟨a,x,ea,eb,ha⟩:=(hO.same s2).get g
   exact ⟨a,by rw[g,ea],by rw[Bg eb]; exact ha⟩
  refine ⟨_,rfl,t,_,0,.int ((m:Nat):Int),rfl,rfl,SqT.of ht,rfl,((m:Nat):Int),rfl,by omega,by omega,?_⟩
  rw[Rc]
  refine AX (lo:=0) (n:=m) (λk us H2=>H2=H/\us=nats (offK bs b k)) ⟨rfl,rfl⟩ ?_ ?_
  ·rintro k us H2 N hk ⟨rfl,rfl⟩ nx
   rw[RI]
   refine ⟨Weak.set (by intro v z; cases z),⟨_,rfl,_,rfl,t,_,1,.ref l,rfl,rfl,SqT.of ht,rfl,_,rfl,l,ws,_,_,rfl,rfl,SqT.of hl,AB gb,ab,_,rfl,.inr (SqT.of hab),rfl,BF _,_,rfl,?_⟩⟩
   rw[if_pos rfl,BK]
   by_cases h:k∈line
   ·rw[decide_eq_true h]
    refine iteF (nx _ _ ⟨rfl,?_⟩)
    rw[Hi,egl,if_neg (λz=>z h),RJ]
   ·rw[decide_eq_false h]
    refine iteT ⟨_,rfl,?_,nx _ _ ⟨rfl,?_⟩⟩
    ·rw[Ag]
     exact Rn (J6 (KE ..) (show k<=60 by omega)) (by decide)
    ·rw[Hi,egl,if_pos h,AE]
  rintro us H2 ⟨rfl,rfl⟩
  refine ⟨by rw[Ag]; exact J6 (J6 (KE ..) hm) (by decide),λc0 hc0=>?_⟩
  have w1:=Ac (o:=.lst (nats (offK bs b m))) hc0
  obtain ⟨o0,eo0,ho0⟩:=hord w1 0 (by omega)
  refine ⟨_,rfl,o,ows,0,.ref o0,rfl,rfl,SqL.of (w1 _ _ ho),AB (j:=0) eo0,o0,rfl,⟨_,SqL.of ho0⟩,BE (K:=K) (xs:=nats (ords.getD 0 [])) (λi vs H3=>H3=upd H2 c0 (.lst (nats (offK bs b m)))/\vs=nats (pick 0 (offK bs b m) ((ords.getD 0 []).take i))) ⟨rfl,rfl⟩ (λi vs H3 _ ⟨e,_⟩=>SqL.of (e▸ho0)) ?_ ?_⟩
  ·rintro i v vs H3 N hi ⟨rfl,rfl⟩ nx
   obtain ⟨k,hk,rfl⟩:=L2.AW hi
   refine ⟨Weak.set (by intro v z; cases z),⟨_,rfl,_,rfl,c0,_,rfl,.inl (SqL.of Aa),_,_,rfl,rfl,_,rfl,?_⟩⟩
   by_cases h:k < (offK bs b m).length
   ·refine ifT (by rw[Ag]; omega) ⟨_,rfl,_,rfl,c0,_,_,_,rfl,rfl,SqL.of Aa,Fe h,?_,nx _ _ ⟨rfl,?_⟩⟩
    ·rw[Ag]
     exact Rn (J6 (DS ..) (by rw[RA]; exact J6 (Yi _ _) (hg25 0))) (by decide)
    ·rw[RO,hk,RM,DA,if_pos h,AE]
   ·refine ifF (by rw[Ag]; omega) (nx _ _ ⟨rfl,?_⟩)
    rw[RO,hk,RM,DA,if_neg h,RJ]
  rintro vs H3 ⟨rfl,rfl⟩
  rw[show (ords.getD 0 []).take (nats (ords.getD 0 [])).length=ords.getD 0 [] by rw[Ag,RE],show pick 0 (offK bs b m) (ords.getD 0 [])=ptsL m bs ords b from rfl]
  have hpl:(ptsL m bs ords b).length<=25:=J6 (DS ..) (hg25 0)
  refine ⟨by rw[Ag]; exact J6 hpl (by decide),λc1 hc1=>?_⟩
  have w2:=w1.trans (Ac (o:=.lst (nats (ptsL m bs ords b))) hc1)
  have hc1':upd (upd H2 c0 (.lst (nats (offK bs b m)))) c1 (.lst (nats (ptsL m bs ords b))) c1=some (.lst (nats (ptsL m bs ords b))):=Aa
  refine ⟨by show 0<=Qe; decide,λc hc=>?_⟩
  have w3:=w2.trans (Ac (o:=.lst []) hc)
  have hcH:=w2.free hc
  have hc13:=(Ac (o:=.lst []) hc) _ _ hc1'
  have hcc:upd (upd (upd H2 c0 (.lst (nats (offK bs b m)))) c1 (.lst (nats (ptsL m bs ords b)))) c (.lst []) c=some (.lst []):=Aa
  have hcc1:c≠c1:=λz=>by rw[z,hc1']at hc; cases hc
  change tSeq _ _ _ _ (upd (upd (upd H2 c0 (.lst (nats (offK bs b m)))) c1 (.lst (nats (ptsL m bs ords b)))) c (.lst []))
  generalize upd (upd (upd H2 c0 (.lst (nats (offK bs b m)))) c1 (.lst (nats (ptsL m bs ords b)))) c (.lst [])=H4 at w3 hc13 hcc ⊢
  clear hc hc1' hc1 w2 hc0 ho0 w1
  obtain ⟨o1,eo1,ho1⟩:=hord w3 1 (by omega)
  refine ⟨_,rfl,o,ows,1,.ref o1,rfl,rfl,SqL.of (w3 _ _ ho),AB (j:=1) eo1,o1,rfl,⟨_,SqL.of ho1⟩,CV (K:=K) (xs:=nats (ords.getD 1 [])) (λi σ H5=>Same H2 H5/\H5 c1=some (.lst (nats (ptsL m bs ords b)))/\∃ (x5:Option V) (zs:List V),σ=[some (.ref t),some (.int ((b:Nat):Int)),some (.ref o),some (.ref c1),some (.ref c),x5,none,none]/\H5 c=some (.lst zs)/\TpAt H5 zs (blkK bs ords b ((ords.getD 1 []).take i))) ⟨w3,hc13,none,[],rfl,hcc,trivial⟩ (λi σ H5 _ ⟨s5,_⟩=>by
   obtain ⟨o1',eo1',ho1'⟩:=hord s5 1 (by omega)
   rw[eo1]at eo1'
   cases eo1'
   exact SqL.of ho1') ?_ ?_⟩
  ·rintro i v σ H5 hi ⟨s5,hc15,x5,zs,rfl,hc5,hz⟩
   obtain ⟨k,hk,rfl⟩:=L2.AW hi
   refine ⟨_,rfl,_,rfl,t,_,1,.ref l,rfl,rfl,SqT.of (s5 _ _ ht),rfl,_,rfl,l,ws,_,_,rfl,rfl,SqT.of (s5 _ _ hl),AB gb,ab,_,rfl,.inr (SqT.of (s5 _ _ hab)),_,_,rfl,rfl,_,rfl,?_⟩
   rw[Ag]
   by_cases h:k < line.length
   ·rw[egl]at hO2
    obtain ⟨ok,eok,hok⟩:=hord s5 (2 + k) (by omega)
    refine ifT (by omega) ⟨_,rfl,.inl ⟨rfl,_,SqL.of hc5⟩,_,rfl,_,rfl,_,rfl,t,_,1,.ref l,rfl,rfl,SqT.of (s5 _ _ ht),rfl,_,rfl,l,ws,_,_,rfl,rfl,SqT.of (s5 _ _ hl),AB gb,_,rfl,ab,_,_,_,rfl,rfl,SqT.of (s5 _ _ hab),Fe h,_,rfl,_,rfl,_,_,rfl,rfl,o,ows,_,_,rfl,rfl,SqL.of (s5 _ _ ho),AB (j:=2 + k) eok,?_⟩
    refine ⟨t,ok,m,b,line.getD k 0,bs,ords.getD (2 + k) [],rfl,hL.sm s5,hok,J6 (hg25 _) (by decide),λu us H6 hu s6 hu6 hT6=>?_⟩
    have hc6:=s6 _ _ hc5
    have hul:us.length<=25:=by
     rw[hT6.len]
     exact J6 (DS ..) (hg25 _)
    have hzl:zs.length<=625:=by
     rw[hz.len]
     have h1:=KF (bs:=bs) (b:=b) hg25 ((ords.getD 1 []).take i)
     have h2:((ords.getD 1 []).take i).length<=25:=by rw[RA]; exact J6 (Yi _ _) (hg25 1)
     omega
    refine ⟨c,u,zs,us,rfl,rfl,hc6,hu6,J6 (show _<=650 by omega) (by decide),AG (s5.trans s6) hcH,?_,_,zs++us,rfl,Aa,?_⟩
    ·rw[As (UQ hcc1)]
     exact s6 _ _ hc15
    ·refine EU hc6 ?_
     rw[RO,hk,RM,Fg,egl,if_pos h]
     exact (hz.sm s6).app hT6
   ·refine ifF (by omega) ⟨s5,hc15,_,zs,rfl,hc5,?_⟩
    rw[RO,hk,RM,Fg,egl,if_neg h,RJ]
    exact hz
  ·rintro σ H5 ⟨s5,hc15,x5,zs,rfl,hc5,hz⟩
   rw[Ag,RE]at hz
   have hzl:=hz.len
   refine ⟨by show 0<=Qe; decide,λd hd=>?_⟩
   have hdH:=s5.free hd
   have v1:=Ac (o:=.lst []) hd
   have hdc1:d≠c1:=λz=>by rw[z,hc15]at hd; cases hd
   have hdc:d≠c:=λz=>by rw[z,hc5]at hd; cases hd
   refine ⟨_,rfl,c,rfl,⟨_,SqL.of (v1 _ _ hc5)⟩,CV (K:=K) (xs:=zs) (λi σ H6=>Same H2 H6/\H6 c1=some (.lst (nats (ptsL m bs ords b)))/\H6 c=some (.lst zs)/\TpAt H6 zs (blkK bs ords b (ords.getD 1 []))/\∃ (x7:Option V) (us:List V),σ=[some (.ref t),some (.int ((b:Nat):Int)),some (.ref o),some (.ref c1),some (.ref c),x5,some (.ref d),x7]/\H6 d=some (.lst us)/\TpAt H6 us (((blkK bs ords b (ords.getD 1 [])).take i).map λB=>trK (ptsL m bs ords b) B (ptsL m bs ords b).length)) ⟨s5.trans v1,v1 _ _ hc15,v1 _ _ hc5,hz.sm v1,none,[],rfl,Aa,trivial⟩ (λi σ H6 _ ⟨_,_,h6,_⟩=>SqL.of h6) ?_ ?_⟩
   ·rintro i v σ H6 hi ⟨s6,hc16,hc6,hz6,x7,us,rfl,hd6,hu6⟩
    obtain ⟨a,B,rfl,eB,ha⟩:=hz6.get hi
    have hil:=(J3.mp eB).1
    refine ⟨_,rfl,.inl ⟨rfl,_,SqL.of hd6⟩,_,rfl,c1,_,rfl,.inl (SqL.of hc16),(((ptsL m bs ords b).length:Nat):Int),by rw[Ag],by omega,by omega,?_⟩
    rw[Rc]
    refine AX (lo:=0) (n:=(ptsL m bs ords b).length) (λk xs H7=>H7=H6/\xs=nats (trK (ptsL m bs ords b) B k)) ⟨rfl,rfl⟩ ?_ ?_
    ·rintro k xs H7 N hk ⟨rfl,rfl⟩ nx
     rw[RI]
     refine ⟨Weak.set (by intro v z; cases z),⟨_,rfl,_,rfl,c1,_,_,_,rfl,rfl,SqL.of hc16,Fe hk,_,rfl,a,_,rfl,.inr (SqT.of ha),rfl,BF _,_,rfl,?_⟩⟩
     rw[if_neg (by decide),BK]
     by_cases h:(ptsL m bs ords b).getD k 0∈B
     ·rw[decide_eq_true h]
      refine iteT ⟨_,rfl,?_,nx _ _ ⟨rfl,?_⟩⟩
      ·rw[Ag]
       exact Rn (J6 (LA ..) (show k<=25 by omega)) (by decide)
      ·rw[Je,if_pos h,AE]
     ·rw[decide_eq_false h]
      refine iteF (nx _ _ ⟨rfl,?_⟩)
      rw[Je,if_neg h,RJ]
    ·rintro xs H7 ⟨rfl,rfl⟩
     refine ⟨by rw[Ag]; exact J6 (J6 (LA ..) hpl) (by decide),λe he=>?_⟩
     have v2:=Ac (o:=.lst (nats (trK (ptsL m bs ords b) B (ptsL m bs ords b).length))) he
     refine ⟨e,_,rfl,.inl ⟨SqL.of Aa,λg hg=>?_⟩⟩
     have v3:=Ac (o:=.tup (nats (trK (ptsL m bs ords b) B (ptsL m bs ords b).length))) hg
     have v23:=v2.trans v3
     have hd8:=v23 _ _ hd6
     refine ⟨d,us,.ref g,rfl,rfl,hd8,Rn (show us.length<=200 by rw[hu6.len,J0,RA]; omega) (by decide),AG (s6.trans v23) hdH,?_,?_,EU hd8 (hz6.sm v23),_,us++[.ref g],rfl,Aa,EU hd8 ?_⟩
     ·rw[As (UQ hdc1)]
      exact v23 _ _ hc16
     ·rw[As (UQ hdc)]
      exact v23 _ _ hc6
     ·rw[RO,eB,RM,Rp]
      exact TpAt.snoc Aa (hu6.sm v23)
   ·rintro σ H6 ⟨s6,hc16,hc6,hz6,x7,us,rfl,hd6,hu6⟩
    rw[hzl,RE]at hu6
    have hul:us.length<=200:=by rw[hu6.len,J0]; exact hB200
    refine ⟨_,rfl,c1,_,rfl,.inl (SqL.of hc16),_,rfl,d,us,rfl,.inl ⟨SqL.of hd6,λg hg=>?_⟩⟩
    have v2:=Ac (o:=.tup us) hg
    refine ⟨by show 2<=Qe; decide,λu hu=>?_⟩
    have v3:=Ac (o:=.tup [.int (((nats (ptsL m bs ords b)).length:Nat):Int),.ref g]) hu
    refine q u _ (s6.trans (v2.trans v3)) ⟨g,us,?_,v3 _ _ Aa,hu6.sm (v2.trans v3),?_⟩
    ·rw[Aa,Ag]
    ·unfold offL
     rw[J0]
     exact hB200
structure Pl (q m:Nat) (bs:List (List Nat)):Prop where
 len:bs.length=m
 m60:m<=60
 q2:2<=q
 q5:q<=5
 line:∀ b,b < m->(bs.getD b []).length=q + 1/\(bs.getD b []).Nodup/\∀ x∈bs.getD b [],x < m
 pair:∀ x y,x < m->y < m->x≠y->((J1 m).filter λi=>decide (x∈bs.getD i []) && decide (y∈bs.getD i [])).length=1
 off:∀ b,b < m->(offK bs b m).length=q * q
 thr:∀ b,b < m->∀ z∈bs.getD b [],(thrK bs b z m).length=q
def chkP (q m:Nat) (bs:List (List Nat)):Bool:=decide (bs.length=m) && (decide (m<=60) && decide (2<=q) && decide (q<=5)) && (J1 m).all (λb=>decide ((bs.getD b []).length=q + 1) && decide ((bs.getD b []).Nodup) && (bs.getD b []).all (λx=>decide (x < m)) && decide ((offK bs b m).length=q * q) && (bs.getD b []).all λz=>decide ((thrK bs b z m).length=q)) && (J1 m).all λx=>(J1 m).all λy=>decide (x=y) || decide (((J1 m).filter λi=>decide (x∈bs.getD i []) && decide (y∈bs.getD i [])).length=1)
theorem pl_of {q m:Nat} {bs:List (List Nat)} (h:chkP q m bs=true):Pl q m bs:=by
 unfold chkP at h
 simp only[RL,decide_eq_true_eq,Ue,Ra,Y5]at h
 obtain ⟨⟨⟨h1,⟨h2,h3⟩,h4⟩,h5⟩,h6⟩:=h
 exact ⟨h1,h2,h3,h4,λb hb=>⟨(h5 b hb).1.1.1.1,(h5 b hb).1.1.1.2,(h5 b hb).1.1.2⟩,λx y hx hy hn=>(h6 x hx y hy).resolve_left hn,λb hb=>(h5 b hb).1.2,λb hb=>(h5 b hb).2⟩
theorem Pl.one {q m:Nat} {bs:List (List Nat)} (h:Pl q m bs) {x y:Nat} (hx:x < m) (hy:y < m) (hn:x≠y):∃ i,i < m/\x∈bs.getD i []/\y∈bs.getD i []:=by
 obtain ⟨i,hi⟩:=ZD.mp (h.pair x y hx hy hn)
 have:i∈(J1 m).filter λi=>decide (x∈bs.getD i []) && decide (y∈bs.getD i []):=by rw[hi]; exact Rh.mpr rfl
 obtain ⟨h1,h2⟩:=RZ.mp this
 rw[RL,decide_eq_true_eq,decide_eq_true_eq]at h2
 exact ⟨i,Ra.mp h1,h2⟩
theorem Pl.uni {q m:Nat} {bs:List (List Nat)} (h:Pl q m bs) {x y i j:Nat} (hx:x < m) (hy:y < m) (hn:x≠y) (hi:i < m) (hj:j < m) (h1:x∈bs.getD i []) (h2:y∈bs.getD i []) (h3:x∈bs.getD j []) (h4:y∈bs.getD j []):i=j:=by
 obtain ⟨k,hk⟩:=ZD.mp (h.pair x y hx hy hn)
 have g:∀ i,i < m->x∈bs.getD i []->y∈bs.getD i []->i=k:=λi hi a b=>by
  have:i∈(J1 m).filter λi=>decide (x∈bs.getD i []) && decide (y∈bs.getD i []):=RZ.mpr ⟨Ra.mpr hi,by rw[decide_eq_true a,decide_eq_true b]; rfl⟩
  rw[hk]at this
  exact Rh.mp this
 rw[g i hi h1 h2,g j hj h3 h4]
theorem pl_all:∀ x∈fldL,chkP (nF x.1 x.2) (nT (nF x.1 x.2)) (Kq x.1 x.2)=true:=by decide +kernel
theorem fld_ok:∀ x∈fldL,FOk x.1 x.2:=λx hx=>by
 simp only[fldL,Rg,Rv,or_false]at hx
 rcases hx with rfl | rfl | rfl | rfl | rfl | rfl | rfl
 ·exact Fb (n:=1) (x:=0) (by decide) (by decide) (by decide) (by decide) (Fz 2 0)
 ·exact Fb (n:=1) (x:=1) (by decide) (by decide) (by decide) (by decide) (Fz 3 1)
 ·exact Fb (n:=2) (x:=3) (by decide) (by decide) (by decide) (by decide) irr22
 ·exact Fb (n:=1) (x:=3) (by decide) (by decide) (by decide) (by decide) (Fz 5 3)
 ·exact Fb (n:=1) (x:=1) (by decide) (by decide) (by decide) (by decide) (Fz 2 1)
 ·exact Fb (n:=1) (x:=2) (by decide) (by decide) (by decide) (by decide) (Fz 3 2)
 ·exact Fb (n:=1) (x:=0) (by decide) (by decide) (by decide) (by decide) (Fz 5 0)
theorem range_filter_lt {n k:Nat} (h:n<=k):(J1 k).filter (λx=>decide (x < n))=J1 n:=by
 induction k with
 | zero=>rw[show n=0 by omega]; rfl
 | succ k ih=>
  rw[Rs,R3,Us,WX]
  by_cases e:n=k + 1
  ·subst e
   rw[decide_eq_true (by omega),if_pos rfl,Rs]
   congr 1
   exact Yx.mpr λx hx=>decide_eq_true (by have:=Ra.mp hx; omega)
  ·rw[decide_eq_false (by omega),if_neg (by decide),RJ]
   exact ih (by omega)
theorem FL {α:Type} (d:α) (L:List α):(J1 L.length).map (λk=>L.getD k d)=L:=by
 apply Ua
 ·simp
 ·intro i h1 h2
  simp[h2]
theorem Hj {o:List Nat} {n:Nat} (ho:o.Perm (J1 25)) (h:n<=25):(o.filter λk=>decide (k < n)).Perm (J1 n):=by
 rw[<- range_filter_lt h]
 exact ho.filter _
theorem Ds {α:Type} (d:α) {L:List α} {o:List Nat} (ho:o.Perm (J1 25)) (h:L.length<=25):(pick d L o).Perm L:=by
 unfold pick
 have:=(Hj ho h).map λk=>L.getD k d
 rwa [FL]at this
theorem Gn {α:Type} {n:Nat} {f:Nat->List α}:∀ {js:List Nat} {i j:Nat},(∀ j∈js,(f j).length=n)->js[i]?=some j->prt n (js.flatMap f) i=f j
 | [],i,j,_,h=>by cases h
 | a::r,0,j,hl,h=>by
  cases h
  unfold prt
  rw[WK,Wp,Wf]
  have:=hl a (Rj ..)
  rw[List.take_append_of_le_length (by omega),WG (by omega)]
 | a::r,i + 1,j,hl,h=>by
  have ih:=Gn (n:=n) (f:=f) (js:=r) (i:=i) (j:=j) (λj hj=>hl j (Re _ hj)) h
  unfold prt at ih ⊢
  have:=hl a (Rj ..)
  rw[Wf,show (i + 1) * n=(f a).length + i * n by rw[this,UP,Wz,Yq],List.drop_append]
  rw[List.drop_of_length_le (by omega),Y2,U4]
  exact ih
theorem DB {α:Type} {n:Nat} {f:Nat->List α}:∀ {js:List Nat},(∀ j∈js,(f j).length=n)->(js.flatMap f).length=js.length * n
 | [],_=>by simp
 | a::r,hl=>by
  rw[Wf,Rk,hl a (Rj ..),DB λj hj=>hl j (Re _ hj),Rq,UP,Wz,Yq]
theorem KG {l:List Nat} (h:l.Nodup) {i j x:Nat} (hi:l[i]?=some x) (hj:l[j]?=some x):i=j:=by
 obtain ⟨a,ea⟩:=J3.mp hi
 obtain ⟨b,eb⟩:=J3.mp hj
 rcases U2 i j with z | z | z
 ·exact absurd (ea.trans eb.symm) (UW.mp h i j a b z)
 ·exact z
 ·exact absurd (eb.trans ea.symm) (UW.mp h j i b a z)
theorem Fh {l:List Nat} {i:Nat} (h:i < l.length):l[i]?=some (l.getD i 0):=by rw[J9,J7 h]; rfl
structure Ords (ords:List (List Nat)):Prop where
 len:ords.length=8
 ord:∀ o∈ords,o.Perm (J1 25)
theorem Ords.at {ords:List (List Nat)} (h:Ords ords) {k:Nat} (hk:k < 8):(ords.getD k []).Perm (J1 25):=by
 rw[Bg (J7 (by rw[h.len]; exact hk))]
 exact h.ord _ (Uk _)
section
variable {q m b:Nat} {bs ords:List (List Nat)}
theorem Go (h:Pl q m bs) (hb:b < m) (hO:Ords ords):(ptsL m bs ords b).Perm (offK bs b m):=Ds 0 (hO.at (by decide)) (by rw[h.off b hb]; have:=h.q5; exact R6 this this)
theorem Fi (h:Pl q m bs) (hb:b < m) (hO:Ords ords):(ptsL m bs ords b).length=q * q:=(Go h hb hO).length_eq.trans (h.off b hb)
theorem pts_nd (h:Pl q m bs) (hb:b < m) (hO:Ords ords):(ptsL m bs ords b).Nodup:=(Go h hb hO).nodup_iff.mpr (WS Wy Ur)
theorem Jf (h:Pl q m bs) (hb:b < m) (hO:Ords ords) {k:Nat} (hk:k < q * q):(ptsL m bs ords b).getD k 0 < m/\(ptsL m bs ords b).getD k 0∉bs.getD b []:=by
 have hl:=Fi h hb hO
 rw[Bg (J7 (by omega))]
 have:=(Go h hb hO).subset (Uk (show k < (ptsL m bs ords b).length by omega))
 obtain ⟨h1,h2⟩:=RZ.mp this
 exact ⟨Ra.mp h1,of_decide_eq_true h2⟩
theorem pts_inj (h:Pl q m bs) (hb:b < m) (hO:Ords ords) {i j:Nat} (hi:i < q * q) (hj:j < q * q) (e:(ptsL m bs ords b).getD i 0=(ptsL m bs ords b).getD j 0):i=j:=by
 have hl:=Fi h hb hO
 exact KG (pts_nd h hb hO) (Fh (by omega)) (e▸Fh (by omega))
def clsO (bs ords:List (List Nat)) (b j:Nat):List (List Nat):=pick [] (thrK bs b ((bs.getD b []).getD j 0) bs.length) (ords.getD (2 + j) [])
theorem KH (h:Pl q m bs) (hb:b < m) {j:Nat} (hj:j < q + 1):(bs.getD b []).getD j 0∈bs.getD b []/\(bs.getD b []).getD j 0 < m:=by
 have h1:=h.line b hb
 have hm:=Rf (Fh (show j < (bs.getD b []).length by omega))
 exact ⟨hm,h1.2.2 _ hm⟩
theorem Gp (h:Pl q m bs) (hb:b < m) (hO:Ords ords) {j:Nat} (hj:j < q + 1):(clsO bs ords b j).Perm (thrK bs b ((bs.getD b []).getD j 0) m):=by
 unfold clsO
 rw[h.len]
 exact Ds [] (hO.at (by have:=h.q5; omega)) (by rw[h.thr b hb _ (KH h hb hj).1]; have:=h.q5; omega)
theorem Jg (h:Pl q m bs) (hb:b < m) (hO:Ords ords) {j:Nat} (hj:j < q + 1):(clsO bs ords b j).length=q:=(Gp h hb hO hj).length_eq.trans (h.thr b hb _ (KH h hb hj).1)
theorem KI (h:Pl q m bs) (hb:b < m) (hO:Ords ords) {j:Nat} (hj:j < q + 1) {B:List Nat}:B∈clsO bs ords b j↔∃ i,i < m/\i≠b/\(bs.getD b []).getD j 0∈bs.getD i []/\bs.getD i []=B:=by
 rw[(Gp h hb hO hj).mem_iff]
 unfold thrK
 rw[RB]
 constructor
 ·rintro ⟨i,hi,e⟩
  obtain ⟨h1,h2⟩:=RZ.mp hi
  rw[RL,decide_eq_true_eq,decide_eq_true_eq]at h2
  exact ⟨i,Ra.mp h1,h2.1,h2.2,e⟩
 ·rintro ⟨i,h1,h2,h3,e⟩
  exact ⟨i,RZ.mpr ⟨Ra.mpr h1,by rw[decide_eq_true h2,decide_eq_true h3]; rfl⟩,e⟩
def jsL (bs ords:List (List Nat)) (b:Nat):List Nat:=(ords.getD 1 []).filter λk=>decide (k < (bs.getD b []).length)
theorem Gq (h:Pl q m bs) (hb:b < m) (hO:Ords ords):(jsL bs ords b).Perm (J1 (q + 1)):=by
 unfold jsL
 rw[(h.line b hb).1]
 exact Hj (hO.at (by decide)) (by have:=h.q5; omega)
theorem Ma (h:Pl q m bs) (hb:b < m) (hO:Ords ords) {j:Nat} (hj:j∈jsL bs ords b):j < q + 1:=Ra.mp ((Gq h hb hO).subset hj)
theorem KJ (h:Pl q m bs) (hb:b < m) (hO:Ords ords):(blkK bs ords b (ords.getD 1 [])).length=(q + 1) * q:=by
 have:=DB (f:=clsO bs ords b) (js:=jsL bs ords b) (n:=q) λj hj=>Jg h hb hO (Ma h hb hO hj)
 rw[(Gq h hb hO).length_eq,J5]at this
 exact this
theorem Ic (h:Pl q m bs) (hb:b < m) (hO:Ords ords) {i:Nat} (hi:i < q + 1):∃ j,j < q + 1/\(jsL bs ords b)[i]?=some j/\prt q (offL m bs ords b) i=(clsO bs ords b j).map λB=>trK (ptsL m bs ords b) B (q * q):=by
 have hl:(jsL bs ords b).length=q + 1:=by rw[(Gq h hb hO).length_eq,J5]
 have g:(jsL bs ords b)[i]?=some ((jsL bs ords b)[i]'(by omega)):=J7 _
 refine ⟨_,Ma h hb hO (Uk _),g,?_⟩
 have:=Gn (n:=q) (f:=clsO bs ords b) (λj hj=>Jg h hb hO (Ma h hb hO hj)) g
 unfold offL
 rw[Fi h hb hO]
 unfold prt at this ⊢
 rw[<- Ya,<- WT]
 exact congrArg _ this
theorem tr_mem {P B:List Nat} {n k:Nat}:k∈trK P B n↔k < n/\P.getD k 0∈B:=by
 unfold trK
 rw[RZ,Ra,decide_eq_true_eq]
theorem Ep (h:Pl q m bs) (hb:b < m) (hO:Ords ords) {i:Nat} (hi:i < q + 1):Part (q * q) (prt q (offL m bs ords b) i):=by
 obtain ⟨j,hj,_,e⟩:=Ic h hb hO hi
 rw[e]
 have hz:=KH h hb hj
 refine ⟨?_,λp hp=>?_⟩
 ·unfold List.Nodup
  rw[List.pairwise_flatten]
  refine ⟨λl hl=>?_,?_⟩
  ·obtain ⟨B,_,rfl⟩:=RB.mp hl
   exact WS Wy Ur
  ·rw[UA]
   refine ((Gp h hb hO hj).pairwise_iff (λh x hx y hy e=>h y hy x hx e.symm)).mpr ?_
   unfold thrK
   rw[UA]
   refine (YT _ (RR.mp Ur)).imp_of_mem λ{x y} hx hy hne u hu v hv euv=>?_
   obtain ⟨x1,x2⟩:=RZ.mp hx
   obtain ⟨y1,y2⟩:=RZ.mp hy
   rw[RL,decide_eq_true_eq,decide_eq_true_eq]at x2 y2
   subst euv
   have u1:=tr_mem.mp hu
   have u2:=tr_mem.mp hv
   have pa:=Jf h hb hO u1.1
   exact hne (h.uni pa.1 hz.2 (λz=>pa.2 (z▸hz.1)) (Ra.mp x1) (Ra.mp y1) u1.2 x2.2 u2.2 y2.2)
 ·have pa:=Jf h hb hO hp
  obtain ⟨i',hi',g1,g2⟩:=h.one pa.1 hz.2 (λz=>pa.2 (z▸hz.1))
  refine U5.mpr ⟨_,RB.mpr ⟨bs.getD i' [],(KI h hb hO hj).mpr ⟨i',hi',λz=>pa.2 (z▸g1),g2,rfl⟩,rfl⟩,tr_mem.mpr ⟨hp,g1⟩⟩
theorem off_inj (h:Pl q m bs) (hb:b < m) (hO:Ords ords) {i i':Nat} (hi:i < q + 1) (hi':i' < q + 1) (hne:i≠i'):Inj (q * q) (prt q (offL m bs ords b) i) (prt q (offL m bs ords b) i'):=by
 intro p p' hp hp' e1 e2
 have P1:=Ep h hb hO hi
 have P2:=Ep h hb hO hi'
 obtain ⟨j,hj,ej,e⟩:=Ic h hb hO hi
 obtain ⟨j',hj',ej',e'⟩:=Ic h hb hO hi'
 have hjj:j≠j':=λz=>by
  subst z
  have nd:=(Gq h hb hO).nodup_iff.mpr Ur
  exact hne (KG nd ej ej')
 have key:∀ {k j:Nat} (hk:k < q + 1),j < q + 1->prt q (offL m bs ords b) k=(clsO bs ords b j).map (λB=>trK (ptsL m bs ords b) B (q * q))->nmL (prt q (offL m bs ords b) k) p=nmL (prt q (offL m bs ords b) k) p'->∃ x,x < m/\x≠b/\(bs.getD b []).getD j 0∈bs.getD x []/\(ptsL m bs ords b).getD p 0∈bs.getD x []/\(ptsL m bs ords b).getD p' 0∈bs.getD x []:=λ{k j} hk hj e en=>by
  have P:=Ep h hb hO hk
  obtain ⟨B,hB,hpB⟩:=IX P hp
  obtain ⟨B',hB',hpB'⟩:=IX P hp'
  rw[<- en,hB]at hB'
  cases hB'
  rw[e]at hB
  obtain ⟨C,hC,rfl⟩:=RB.mp (Rf hB)
  obtain ⟨x,x1,x2,x3,rfl⟩:=(KI h hb hO hj).mp hC
  exact ⟨x,x1,x2,x3,(tr_mem.mp hpB).2,(tr_mem.mp hpB').2⟩
 obtain ⟨x,x1,x2,x3,x4,x5⟩:=key hi hj e e1
 obtain ⟨y,y1,y2,y3,y4,y5⟩:=key hi' hj' e' e2
 have pa:=Jf h hb hO hp
 have pa':=Jf h hb hO hp'
 refine R5 λhpp=>?_
 have hne':(ptsL m bs ords b).getD p 0≠(ptsL m bs ords b).getD p' 0:=λz=>hpp (pts_inj h hb hO hp hp' z)
 have hxy:=h.uni pa.1 pa'.1 hne' x1 y1 x4 x5 y4 y5
 subst hxy
 have hz:=KH h hb hj
 have hz':=KH h hb hj'
 have hzz:(bs.getD b []).getD j 0≠(bs.getD b []).getD j' 0:=λz=>by
  have hl:=h.line b hb
  have g1:=Fh (show j < (bs.getD b []).length by omega)
  rw[z]at g1
  exact hjj (KG hl.2.1 g1 (Fh (by omega)))
 exact x2 (h.uni hz.2 hz'.2 hzz x1 hb x3 y3 hz.1 hz'.1)
theorem off_back (h:Pl q m bs) (hb:b < m) (hO:Ords ords):Back q (q * q) (offL m bs ords b) (q + 1):=by
 refine ⟨rfl,?_,by have:=h.q2; omega,λi hi=>Ep h hb hO hi,λi j hji hi=>off_inj h hb hO hi (by omega) (by omega)⟩
 unfold offL
 rw[J0]
 exact KJ h hb hO
theorem off_lt {B:List Nat} (hB:B∈offL m bs ords b):∀ x∈B,x < (ptsL m bs ords b).length:=λx hx=>by
 obtain ⟨C,_,rfl⟩:=RB.mp hB
 exact (tr_mem.mp hx).1
end
section
variable {n m k:Nat} {bs:List (List Nat)}
def ptC (n m:Nat) (bs:List (List Nat)) (c:Nat):Nat:=ptf n m (prt n bs 0) (prt n bs 1) c
theorem Back.le (h:Back n m bs k) {i:Nat} (hi:i < k):i * n + n<=bs.length:=by
 rw[h.len]
 have:=R9 n (show i + 1<=k from hi)
 rwa [UP,Wz]at this
theorem Back.pl (h:Back n m bs k) {i:Nat} (hi:i < k):(prt n bs i).length=n:=Gf (h.le hi)
theorem Fj (h:Back n m bs k) {c:Nat} (hc:c < m):ptC n m bs c < m/\nmL (prt n bs 0) (ptC n m bs c)=c / n/\nmL (prt n bs 1) (ptC n m bs c)=c % n:=by
 have h0:0 < k:=by have:=h.two; omega
 have h1:1 < k:=by have:=h.two; omega
 have hI:Inj m (prt n bs 0) (prt n bs 1):=λp q hp hq e1 e2=>h.inj 1 0 (by decide) h1 p q hp hq e2 e1
 obtain ⟨p,hp,e⟩:=IW (λx hx=>Ja h.sq (h.part 0 h0) (h.part 1 h1) (h.pl h0) (h.pl h1) hx) (λx y hx hy e=>HW (h.part 1 h1) (h.pl h1) hI hx hy e) hc
 have e2:ptC n m bs c=p:=by
  unfold ptC
  rw[<- e]
  exact HX (h.part 1 h1) (h.pl h1) hI hp
 have hb:nmL (prt n bs 1) p < n:=by
  have:=Gg (h.part 1 h1) hp
  rwa [h.pl h1]at this
 obtain ⟨d1,d2⟩:=Fd (a:=nmL (prt n bs 0) p) hb
 unfold kap at e
 rw[e]at d1 d2
 rw[e2]
 exact ⟨hp,d1.symm,d2.symm⟩
theorem Jh (h:Back n m bs k) {c d i j:Nat} (hc:c < m) (hd:d < m) (hji:j < i) (hi:i < k) (e1:nmL (prt n bs i) (ptC n m bs c)=nmL (prt n bs i) (ptC n m bs d)) (e2:nmL (prt n bs j) (ptC n m bs c)=nmL (prt n bs j) (ptC n m bs d)):c=d:=by
 obtain ⟨a1,a2,a3⟩:=Fj h hc
 obtain ⟨b1,b2,b3⟩:=Fj h hd
 have e:=h.inj i j hji hi _ _ a1 b1 e1 e2
 rw[e,b2]at a2
 rw[e,b3]at a3
 rw[<- WY c n,<- WY d n,a2,a3]
def gC (n m:Nat) (bs:List (List Nat)) (j c:Nat):Nat:=nmL (prt n bs j) (ptC n m bs c)
theorem sqB_row (h:Back n m bs k) (j:Nat) {r:Nat} (hr:r < n):prt n ((J1 m).map λc=>nmL (prt n bs j) (ptf n m (prt n bs 0) (prt n bs 1) c)) r=(J1 n).map λc=>gC n m bs j (r * n + c):=by
 have hle:=IV hr
 rw[h.sq]at hle
 unfold prt
 apply Ua
 ·simp
  omega
 ·intro i h1 h2
  simp[gC,ptC,prt]
theorem LB (h:Back n m bs k) (j:Nat):sqB n m bs j=(J1 n).map λr=>(J1 n).map λc=>gC n m bs j (r * n + c):=by
 unfold sqB
 exact RG λr hr=>sqB_row h j (Ra.mp hr)
theorem cell_lt {n r c:Nat} (hr:r < n) (hc:c < n):r * n + c < n * n:=by
 have:=IV hr
 omega
theorem LC {f:Nat->Nat} {n:Nat} (h:∀ x y,x < n->y < n->f x=f y->x=y):((J1 n).map f).Nodup:=by
 rw[RR,UA]
 exact (RR.mp Ur).imp_of_mem λ{x y} hx hy hne e=>hne (h x y (Ra.mp hx) (Ra.mp hy) e)
theorem back_lat (h:Back n m bs k) {j:Nat} (h2:2<=j) (hj:j < k):Lat n (sqB n m bs j):=by
 have hm:=h.sq
 have hlt:∀ {r c},r < n->c < n->r * n + c < m:=λhr hc=>by rw[<- hm]; exact cell_lt hr hc
 rw[LB h]
 refine ⟨⟨by rw[J0,J5],λr hr=>?_⟩,λr hr=>?_,λc hc=>?_⟩
 ·obtain ⟨x,hx,rfl⟩:=RB.mp hr
  refine ⟨by rw[J0,J5],λy hy=>?_⟩
  obtain ⟨c,hc,rfl⟩:=RB.mp hy
  have:=Gg (h.part j hj) (Fj h (hlt (Ra.mp hx) (Ra.mp hc))).1
  rw[h.pl hj]at this
  exact this
 ·obtain ⟨x,hx,rfl⟩:=RB.mp hr
  have hx:=Ra.mp hx
  refine LC λc d hc hd e=>?_
  obtain ⟨_,a,_⟩:=Fj h (hlt hx hc)
  obtain ⟨_,b,_⟩:=Fj h (hlt hx hd)
  have:=Jh h (hlt hx hc) (hlt hx hd) (show 0 < j by omega) hj e (by rw[a,b,(Fd hc).1,(Fd hd).1])
  omega
 ·have e:colN ((J1 n).map λr=>(J1 n).map λc=>gC n m bs j (r * n + c)) c=(J1 n).map λr=>gC n m bs j (r * n + c):=by
   unfold colN
   rw[Uh]
   refine RG λr hr=>?_
   show ((J1 n).map λc=>gC n m bs j (r * n + c)).getD c 0=_
   rw[J9,Rm,RN hc]
   rfl
  rw[e]
  refine LC λr r' hr hr' e=>?_
  obtain ⟨_,_,a⟩:=Fj h (hlt hr hc)
  obtain ⟨_,_,b⟩:=Fj h (hlt hr' hc)
  have:=Jh h (hlt hr hc) (hlt hr' hc) (show 1 < j by omega) hj e (by rw[a,b,(Fd hc).2,(Fd hc).2])
  have h3:r * n=r' * n:=by omega
  exact W1 (by omega) h3
theorem Hk (h:Back n m bs k) (hn:0 < n) {j c:Nat} (hc:c < m):((sqB n m bs j).getD (c / n) []).getD (c % n) 0=gC n m bs j c:=by
 have hd:c / n < n:=Wk (by rw[h.sq]; exact hc)
 have hmd:=UT c hn
 rw[LB h,J9,J9,Rm,RN hd,Ja4,YH,Rm,RN hmd,Ja4,YH,R4,WY]
theorem back_ort (h:Back n m bs k) (hn:0 < n) {i j:Nat} (hij:i < j) (hj:j < k):Ort n (sqB n m bs i) (sqB n m bs j):=by
 intro c d hcd hd e
 rw[h.sq]at hd
 unfold Ee at e
 rw[Hk h hn (by omega),Hk h hn (by omega),Hk h hn hd,Hk h hn hd]at e
 injection e with e1 e
 injection e with e2 _
 have:=Jh h (by omega) hd hij hj e2 e1
 omega
theorem Id (h:Back n m bs k) {i x p:Nat} (hi:i < k) (hx:x < n) (hp:p < m):p∈bs.getD (i * n + x) []↔nmL (prt n bs i) p=x:=by
 have hle:=h.le hi
 have e:(prt n bs i)[x]?=some (bs.getD (i * n + x) []):=by
  unfold prt
  rw[UZ hx,YC,J9,J7 (by omega)]
  rfl
 constructor
 ·exact λhm=>nm_at (h.part i hi) e hm hp
 ·intro hm
  obtain ⟨b,hb,hpb⟩:=IX (h.part i hi) hp
  rw[hm,e]at hb
  cases hb
  exact hpb
theorem filt_one {m x:Nat} {P:Nat->Bool} (hx:x < m) (h:∀ y,y < m->(P y=true↔y=x)):(J1 m).filter P=[x]:=by
 have e:(J1 m).filter P=(J1 m).filter λy=>decide (y=x):=WH λy hy=>by
  have:=h y (Ra.mp hy)
  cases hP:P y
  ·exact (decide_eq_false λz=>by rw[this.mpr z]at hP; cases hP).symm
  ·exact (decide_eq_true (this.mp hP)).symm
 rw[e]
 have:∀ m,x < m->(J1 m).filter (λy=>decide (y=x))=[x]:=λm=>by
  induction m with
  | zero=>intro z; omega
  | succ m ih=>
   intro hx
   rw[Rs,R3,Us,WX]
   by_cases e:m=x
   ·subst e
    rw[decide_eq_true rfl,if_pos rfl,List.filter_eq_nil_iff.mpr λy hy=>by have:=Ra.mp hy; simp; omega]
    rfl
   ·rw[decide_eq_false e,if_neg (by decide),ih (by omega)]
    rfl
 exact this m hx
theorem fm_congr {f g:Nat->List Nat} {l:List Nat} (h:∀ x∈l,f x=g x):l.flatMap f=l.flatMap g:=by rw[Yg,Yg,RG h]
theorem cells_eq (h:Back n m bs k) (hn:0 < n):DD m n bs (n * n)=(J1 m).map (ptC n m bs):=by
 unfold DD
 rw[h.sq,List.map_eq_flatMap]
 have hk:=h.two
 refine fm_congr λc hc=>?_
 have hc:=Ra.mp hc
 obtain ⟨p1,p2,p3⟩:=Fj h hc
 have hd:c / n < n:=Wk (by rw[h.sq]; exact hc)
 have hmd:=UT c hn
 refine filt_one p1 λy hy=>?_
 have m1:=Id h (i:=0) (by omega) hd hy
 have m2:=Id h (i:=1) (by omega) hmd hy
 rw[WK,WL]at m1
 rw[Wz]at m2
 rw[RL,decide_eq_true_eq,decide_eq_true_eq,m1,m2,<- p2,<- p3]
 exact ⟨λz=>h.inj 1 0 (by decide) (by omega) y _ hy p1 z.2 z.1,λz=>by rw[z]; exact ⟨rfl,rfl⟩⟩
end
section
variable {n m k:Nat} {bs:List (List Nat)}
theorem Fk {f g:Nat->Nat} (h:∀ c,c < n * n->f c=g c):clsF n f=clsF n g:=by
 unfold clsF
 exact RG λx _=>WH λc hc=>by rw[h c (Ra.mp hc)]
theorem Gr (h:Back n m bs k) (hn:0 < n):netL n (Ed n m bs k)=(J1 k).flatMap λi=>clsF n (gC n m bs i):=by
 obtain ⟨k',rfl⟩:∃ k',k=2 + k':=⟨k - 2,by have:=h.two; omega⟩
 have hm:=h.sq
 rw[List.range_add,Wx]
 unfold netL Ed
 rw[show 2 + k' - 2=k' by omega]
 congr 1
 ·have e:J1 2=[0,1]:=rfl
  rw[e]
  simp only[Wf,YR,RJ]
  rw[Fk (f:=λc=>c / n) (g:=gC n m bs 0) λc hc=>(Fj h (hm▸hc)).2.1.symm,Fk (f:=λc=>c % n) (g:=gC n m bs 1) λc hc=>(Fj h (hm▸hc)).2.2.symm]
 ·rw[Jb6,Jb6]
  rw[Yg,Yg]
  congr 1
  refine RG λj _=>?_
  rw[show j + 2=2 + j by omega]
  exact Fk λc hc=>Hk h hn (hm▸hc)
theorem prt_get {α:Type} {L:List α} {n i x:Nat} (hx:x < n):(prt n L i)[x]?=L[i * n + x]?:=by
 unfold prt
 rw[UZ hx,YC]
theorem net_at (h:Back n m bs k) (hn:0 < n) {i x:Nat} (hi:i < k) (hx:x < n):(netL n (Ed n m bs k))[i * n + x]?=some ((J1 m).filter λc=>decide (gC n m bs i c=x)):=by
 rw[Gr h hn,<- prt_get hx,Gn (n:=n) (f:=λi=>clsF n (gC n m bs i)) (λj _=>Cw n _) (RN hi)]
 unfold clsF
 rw[Rm,RN hx,h.sq]
 rfl
theorem again_at (h:Back n m bs k) (hn:0 < n) (hlt:∀ b∈bs,∀ x∈b,x < m) (hso:∀ b∈bs,b.Pairwise (· < ·)) {t:Nat} {L:List Nat} (hL:(netL n (Ed n m bs k))[t]?=some L):∃ B,bs[t]?=some B/\(L.map (ptC n m bs)).Perm B/\B.Pairwise (·<=·)/\(∀ c∈L,c < m)/\L.length<=m:=by
 have hl:(netL n (Ed n m bs k)).length=k * n:=by
  rw[Gr h hn,DB λj _=>Cw n _,J5]
 have ht:t < k * n:=by
  have:=(J3.mp hL).1
  omega
 have hi:t / n < k:=Wk (by rw[R4]; exact ht)
 have hx:=UT t hn
 have et:t / n * n + t % n=t:=by rw[R4]; exact WY t n
 have hL':=net_at h hn hi hx
 rw[et,hL]at hL'
 cases hL'
 have hB:bs[t]?=some (bs.getD t []):=by
  rw[J9,J7 (by rw[h.len]; exact ht)]
  rfl
 have hBm:=Rf hB
 have mb:∀ p,p < m->(p∈bs.getD t []↔nmL (prt n bs (t / n)) p=t % n):=λp hp=>by
  have:=Id h hi hx hp
  rwa [et]at this
 have h1:1 < k:=by have:=h.two; omega
 have hI:Inj m (prt n bs 0) (prt n bs 1):=λp q hp hq e1 e2=>h.inj 1 0 (by decide) h1 p q hp hq e2 e1
 refine ⟨_,hB,?_,(hso _ hBm).imp λz=>WO z,λc hc=>Ra.mp (RZ.mp hc).1,J6 (R1 ..) (by rw[J5]; exact J8 _)⟩
 refine (Zd ?_ ((hso _ hBm).imp λz=>RC z)).mpr λp=>?_
 ·rw[RR,UA]
  refine (RR.mp (WS Wy Ur)).imp_of_mem λ{x y} hx hy hne e=>hne ?_
  have x1:=Ra.mp (RZ.mp hx).1
  have y1:=Ra.mp (RZ.mp hy).1
  exact Jh h x1 y1 (show 0 < 1 by decide) h1 (by rw[e]) (by rw[e])
 ·rw[RB]
  constructor
  ·rintro ⟨c,hc,rfl⟩
   obtain ⟨c1,c2⟩:=RZ.mp hc
   exact (mb _ (Fj h (Ra.mp c1)).1).mpr (of_decide_eq_true c2)
  ·intro hp
   have hpm:=hlt _ hBm p hp
   have e:ptC n m bs (kap n (prt n bs 0) (prt n bs 1) p)=p:=HX (h.part 1 h1) (h.pl h1) hI hpm
   refine ⟨kap n (prt n bs 0) (prt n bs 1) p,RZ.mpr ⟨Ra.mpr (Ja h.sq (h.part 0 (by omega)) (h.part 1 h1) (h.pl (by omega)) (h.pl h1) hpm),decide_eq_true ?_⟩,e⟩
   unfold gC
   rw[e]
   exact (mb p hpm).mp hp
end
theorem off_st {m b:Nat} {bs ords:List (List Nat)} {B:List Nat} (hB:B∈offL m bs ords b):B.Pairwise (· < ·):=by
 obtain ⟨C,_,rfl⟩:=RB.mp hB
 exact YT _ ZC
def latB (n:Nat) (rs:List (List Nat)):Bool:=decide (rs.length=n) && rs.all (λr=>decide (r.length=n) && decide r.Nodup && r.all λx=>decide (x < n)) && (J1 n).all λc=>decide (colN rs c).Nodup
theorem lat_of {n:Nat} {rs:List (List Nat)} (h:latB n rs=true):Lat n rs:=by
 unfold latB at h
 simp only[RL,decide_eq_true_eq,Ue,Ra]at h
 obtain ⟨⟨h1,h2⟩,h3⟩:=h
 exact ⟨⟨h1,λr hr=>⟨(h2 r hr).1.1,(h2 r hr).2⟩⟩,λr hr=>(h2 r hr).1.2,h3⟩
def ortB (n:Nat) (rs qs:List (List Nat)):Bool:=(J1 (n * n)).all λk=>(J1 k).all λi=>!decide (Ee n rs qs i=Ee n rs qs k)
theorem ort_of {n:Nat} {rs qs:List (List Nat)} (h:ortB n rs qs=true):Ort n rs qs:=λi k hik hk e=>by
 unfold ortB at h
 have:=Ue.mp (Ue.mp h k (Ra.mpr hk)) i (Ra.mpr hik)
 rw[decide_eq_true e]at this
 cases this
def sqsB (n:Nat) (sqs:List (List (List Nat))):Bool:=decide (sqs.length + 1=n) && sqs.all (latB n) && (J1 sqs.length).all λj=>(J1 j).all λi=>ortB n (sqs.getD i []) (sqs.getD j [])
theorem sqs_all:∀ x∈fldL,sqsB (nF x.1 x.2) (slS x.1 x.2)=true:=by decide +kernel
theorem sqs_of {n:Nat} {sqs:List (List (List Nat))} (h:sqsB n sqs=true):sqs.length + 1=n/\(∀ rs∈sqs,Lat n rs)/\∀ (i j:Nat) (rs qs:List (List Nat)),i < j->sqs[i]?=some rs->sqs[j]?=some qs->Ort n rs qs:=by
 unfold sqsB at h
 rw[RL,RL]at h
 refine ⟨of_decide_eq_true h.1.1,λrs hrs=>lat_of (Ue.mp h.1.2 rs hrs),λi j rs qs hij hi hj=>?_⟩
 have hjl:=(J3.mp hj).1
 have:=Ue.mp (Ue.mp h.2 j (Ra.mpr hjl)) i (Ra.mpr hij)
 rw[Bg hi,Bg hj]at this
 exact ort_of this
def netF (x:Nat×List Nat):List (List Nat):=netL (nF x.1 x.2) (slS x.1 x.2)
def netB (q:Nat) (bs:List (List Nat)):Bool:=
 let cs:=CU (q * q) q bs
 decide (bs.length=q * (q + 1)) && bs.all (λb=>decide (b.length=q) && decide b.Nodup && b.all λx=>decide (x < q * q)) && (J1 (q * q)).all (λx=>(J1 x).all λy=>decide (cnt bs [y,x]=1)) &&
 (decide (cs.length=q * q + q + 1) && cs.all (λb=>decide (b.length=q + 1) && decide b.Nodup && b.all λx=>decide (x < q * q + q + 1)) && (J1 (q * q + q + 1)).all (λx=>(J1 x).all λy=>decide (cnt cs [y,x]=1) && decide (shI cs y x=1)))
theorem net_all:∀ x∈fldL,netB (nF x.1 x.2) (netF x)=true:=by decide +kernel
def sameB:Ans->Bool
 | .same c=>decide (c=1)
 | _=>false
def netC (q:Nat) (bs:List (List Nat)):Bool:=sameB (told (zof (cnt bs) (prs (q * q) (q * q)))) && decide (¬((CU (q * q) q bs).filter λb=>decide (2 < b.length)).length < 2) && decide (bs.length / q=q + 1)
theorem netc_all:∀ x∈fldL,netC (nF x.1 x.2) (netF x)=true:=by decide +kernel
structure NetF (q:Nat) (bs:List (List Nat)):Prop where
 len:bs.length=q * (q + 1)
 blk:∀ b∈bs,b.length=q/\Blk (q * q) b
 tld:told (zof (cnt bs) (prs (q * q) (q * q)))=.same 1
 div:bs.length / q=q + 1
 cl:(CU (q * q) q bs).length=q * q + q + 1
 cb:∀ b∈CU (q * q) q bs,b.length=q + 1/\Blk (q * q + (q + 1)) b
 cp:∀ i j,i < j->j < q * q + (q + 1)->cnt (CU (q * q) q bs) [i,j]=1/\shI (CU (q * q) q bs) i j=1
 few:¬((CU (q * q) q bs).filter λb=>decide (2 < b.length)).length < 2
theorem netf_of {q:Nat} {bs:List (List Nat)} (h:netB q bs=true) (h':netC q bs=true):NetF q bs:=by
 unfold netB at h
 unfold netC at h'
 simp only[RL,decide_eq_true_eq,Ue,Ra]at h h'
 obtain ⟨⟨⟨h1,h2⟩,h3⟩,⟨h4,h5⟩,h6⟩:=h
 obtain ⟨⟨g1,g2⟩,g3⟩:=h'
 refine ⟨h1,λb hb=>⟨(h2 b hb).1.1,(h2 b hb).1.2,(h2 b hb).2⟩,?_,g3,h4,λb hb=>⟨(h5 b hb).1.1,(h5 b hb).1.2,λx hx=>by have:=(h5 b hb).2 x hx; omega⟩,λi j hij hj=>h6 j (by omega) i hij,g2⟩
 cases e:told (zof (cnt bs) (prs (q * q) (q * q))) with
 | none=>rw[e]at g1; cases g1
 | same c=>rw[e]at g1; rw[of_decide_eq_true g1]
 | unlike a b c d=>rw[e]at g1; cases g1
def dWI (x:Str) (i:Int):Q0:=.tuple [.str x,.int i]
theorem Ji {K:J4} {H:Hp} {t:Addr} {x:Str} {i:Int} (h:H t=some (.tup [.str x,.int i])):IsD K H (dWI x i) (.ref t):=by
 simp only[dWI,IsD]
 refine ⟨t,_,rfl,SqT.of h,?_⟩
 simp only[IsDs,IsD]
 exact ⟨_,_,rfl,rfl,_,_,rfl,rfl,rfl⟩
theorem DC {x:Str} (i:Int) (h:PyData.strOk x=true):R7 (dWI x i)=true:=by simp[dWI,R7,PyData.canLay0,PyData.canLayAll0,PyData.depth,PyData.depthAll,h]
theorem LD (x:Str) (i:Int):PyData.eqv (dWI x i) (dWI x i)=true:=by simp[dWI,PyData.eqv,PyData.eqvAll]
theorem Hl:PyData.strOk "same"=true:=by decide +kernel
theorem FC:PyData.strOk "plane"=true:=by decide +kernel
def Fl (bs:List (List Nat)):Q0:=.list (bs.map dTup)
theorem Jj {K:J4} {H:Hp} {a:Addr} {ws:List V} {bs:List (List Nat)} (h:H a=some (.lst ws)) (hT:TpAt H ws bs):IsD K H (Fl bs) (.ref a):=by
 simp only[Fl,IsD]
 exact ⟨a,ws,rfl,SqL.of h,JI hT⟩
theorem Fm (bs:List (List Nat)):R7 (Fl bs)=true:=by
 unfold R7 Fl
 rw[RL]
 have h1:=JJ bs
 have h2:=GL bs
 refine ⟨by simp[PyData.canLay0,h1],decide_eq_true ?_⟩
 simp only[PyData.depth]
 omega
theorem tpsL_eqv (bs:List (List Nat)):PyData.eqv (Fl bs) (Fl bs)=true:=by simp[Fl,PyData.eqv,Iv bs]
section
variable {CF:Addr}
theorem scLaw:FnScope ["_law_script", "_law_xs", "_law_field_here", "_law_size", "_law_plane", "_law_orders", "_law_layout", "_law_squares", "_law_cells_here", "_law_again", "_law_told", "_law_net"] ["_law_script"] (Ae sLaw):=⟨rfl,rfl,rfl,by decide +kernel,rfl,by decide +kernel,by decide +kernel⟩
theorem ok_law {f:Addr} {fd:Qh} (F:Fun K "law" "law" sLaw f fd) (T:TxtB mg) (Z:FieldK K CF) (pCell:Pm P w K mg base CX0 1 "_law_cell" ["_law_script", "_law_k"] (HF K)) (pLNumbers:Pm P w K mg base CX0 1 "_law_numbers" ["_law_cell_here", "_law_many"] JZ) (pLField:Pm P w K mg base CX0 1 "_law_field" ["_law_x"] HZ) (pField:Mkp P w K mg base CX0 7 "Field" CF ["self", "p", "row"] (Kn CF)) (pSizeM:Mp P w K mg base CX0 1 CF "size" ["self"] (Dh CF))
  (pPlaneOf:Pm P w K mg base CX0 7 "plane_of" ["field"] (Fc CF)) (pLRow:Pm P w K mg base CX0 1 "_law_row" ["_law_xs", "_law_many"] (LK K)) (pLOff:Pm P w K mg base CX0 2 "_law_off" ["_law_plane", "_law_b", "_law_orders"] LZ) (pSquaresBack:Pm P w K mg base CX0 5 "squares_back" ["M"] Ky) (pLSquaresRight:Pm P w K mg base CX0 3 "_law_squares_right" ["_law_squares", "_law_size"] spSR) (pLCells:Pm P w K mg base CX0 1 "_law_cells" ["_law_layout", "_law_size"] Ia)
  (pNetOf:Pm P w K mg base CX0 3 "net_of" ["squares"] LS) (pSquaresOf:Pm P w K mg base CX0 7 "squares_of" ["field"] (LY CF)) (pPairsTold:Pm P w K mg base CX0 3 "pairs_told" ["M"] HQ) (pPlaneTold:Pm P w K mg base CX0 2 "plane_told" ["M"] spPT) (pLClosed:Pm P w K mg base CX0 1 "_law_closed" ["_law_layout", "_law_size"] Gk):FnOk P w K mg base CX0 12 f fd ["_law_script"] (KN K):=by
 refine F.okQ scLaw (λvs H Q E h=>?_) (λcdv A outer s H vs Q E hr h=>?_)
 ·obtain ⟨a,ns,rfl,_⟩:=h
  rfl
 ·obtain ⟨a,ns,rfl,hS,hlen,k⟩:=h
  have hr1:Room 1 _:=hr.mono (by decide)
  have hr2:Room 2 _:=hr.mono (by decide)
  have hr3:Room 3 _:=hr.mono (by decide)
  have hr5:Room 5 _:=hr.mono (by decide)
  have hr7:Room 7 _:=hr.mono (by decide)
  have hr8:Room 8 _:=hr.mono (by decide)
  have hu:=hr.units
  refine ⟨_,(Ad (An (i:=1) scLaw.nd rfl (Ro rfl) (Aj pLNumbers hr1 rfl Av (qac (Aj pCell hr1 rfl Av (qac (qv 0) (qac Af Ab))) (qac Af Ab))))
   (Ad (An (i:=2) scLaw.nd rfl (Ro rfl) (qe_makeP pField hr8 rfl Av (qac (Au Aw (Aj pLField hr1 rfl Av (qac (Au AF (qv 1) Af (λ_ _=>rfl)) Ab)) Af (λ_ _=>rfl)) (qac (Au Aw (Aj pLField hr1 rfl Av (qac (Au AF (qv 1) Af (λ_ _=>rfl)) Ab)) Af (λ_ _=>rfl)) Ab))))
   (Ad (An (i:=3) scLaw.nd rfl (Ro rfl) (CJ pSizeM Z.cl hr1 (qv 2) Av))
   (Ad (An (i:=4) scLaw.nd rfl (Ro rfl) (Aj pPlaneOf hr7 rfl Av (qac (qv 2) Ab)))
   (Ad (Ce (i:=5) (g:=AR 0) (N:=["_law_k", "_law_script"]) (src:=[none,some 0]) rfl (Al (Ae sLaw) ["_law_script", "_law_xs", "_law_field_here", "_law_size", "_law_plane", "_law_orders", "_law_layout", "_law_squares", "_law_cells_here", "_law_again", "_law_told", "_law_net"] rfl rfl (by decide +kernel) rfl) (Ar rfl T.range (qac Af Ab)) (λ_ _ _ _ _=>(Ai (i:=0) (show (["_law_k", "_law_script"]:List Str).Nodup by decide +kernel) rfl (Ro rfl) (R8 rfl))) (λ_ _ _ _ _=>AQ) (λ_ _ _ _ _=>(Aj pLRow hr1 rfl Av (qac (Aj pLNumbers hr1 rfl Av (qac (Aj pCell hr1 rfl Av (qac (qv 1) (qac (Aq AZ Af (qv 0)) Ab))) (qac Af Ab))) (qac Af Ab)))) (Ai (i:=5) scLaw.nd rfl (Ro rfl)))
   (Ad (An (i:=6) scLaw.nd rfl (Ro rfl) (Aj pLOff hr2 rfl Av (qac (qv 4) (qac (Aq Bv (Au AF (qv 1) Af (λ_ _=>rfl)) (Am Ak (by rfl) T.len Rr (qac (Au Aw (qv 4) Af (λ_ _=>rfl)) Ab))) (qac (qv 5) Ab)))))
   (Ad (An (i:=7) scLaw.nd rfl (Ro rfl) (Aj pSquaresBack hr5 rfl Av (qac (qv 6) Ab)))
   (Ad (Bb (CD (CA (Aj pLSquaresRight hr3 rfl Av (qac (qv 7) (qac (qv 3) Ab))))) AT AA)
   (Ad (An (i:=8) scLaw.nd rfl (R8 rfl) (Aj pLCells hr1 rfl Av (qac (qv 6) (qac (qv 3) Ab))))
   (Ad (Ce (i:=9) (g:=AR 0) (N:=["_law_block", "_law_cells_here"]) (src:=[none,some 8]) rfl (Al (Ae sLaw) ["_law_script", "_law_xs", "_law_field_here", "_law_size", "_law_plane", "_law_orders", "_law_layout", "_law_squares", "_law_cells_here", "_law_again", "_law_told", "_law_net"] rfl rfl (by decide +kernel) rfl) (DV (Au Aw (Aj pNetOf hr3 rfl Av (qac (qv 7) Ab)) Af (λ_ _=>rfl))) (λ_ _ _ _ _=>(Ai (i:=0) (show (["_law_block", "_law_cells_here"]:List Str).Nodup by decide +kernel) rfl (Ro rfl) (R8 rfl))) (λ_ _ _ _ _=>AQ) (λ_ _ _ _ _=>(AD (show Bx _ _ (LG K) from GJ) (by rfl) T.tup (by decide +kernel) (qac (Am (show Bx _ (.builtin "sorted") (Le K) from call_sortI) (by rfl) T.sor (by decide +kernel) (qac (AH (g:=AR 0) (N:=["_law_point", "_law_cells_here"]) (src:=[none,some 1]) rfl (Ey ["_law_block", "_law_cells_here"] rfl rfl rfl) (show QI _ _ _ (iTup K _) from DV (qv 0)) (λ_ _ _ _ _=>(Ai (i:=0) (show (["_law_point", "_law_cells_here"]:List Str).Nodup by decide +kernel) rfl (Ro rfl) (R8 rfl))) (λ_ _ _ _ _=>AQ) (λ_ _ _ _ _=>(Au (show IxR _ (rIxL K) from AF) (qv 1) (qv 0) (λ_ _=>rfl)))) Ab)) Ab))) (Ai (i:=9) scLaw.nd rfl (Ro rfl)))
   (Ad (Bb (Ap (Lc hu) (qv 9) (AD DT (by rfl) T.lst (by decide +kernel) (qac (Au Aw (qv 6) Af (λ_ _=>rfl)) Ab)) (Az _)) AT AA)
   (Ad (An (i:=10) scLaw.nd rfl (Ro rfl) (Aj pSquaresOf hr7 rfl Av (qac (qv 2) Ab)))
   (Ad (Bb (CD (CA (Aj pLSquaresRight hr3 rfl Av (qac (qv 10) (qac (qv 3) Ab))))) AT AA)
   (Ad (An (i:=11) scLaw.nd rfl (Ro rfl) (Aj pNetOf hr3 rfl Av (qac (qv 10) Ab)))
   (Ah (Ax (Io (DI (GD hu) (Aj pPairsTold hr3 rfl Av (qac (qv 11) Ab)) (AI (qac Dd (qac Af Ab))) (Az _)) (Im (DI (GD hu) (Aj pPlaneTold hr2 rfl Av (qac (Aj pLClosed hr1 rfl Av (qac (qv 11) (qac (qv 3) Ab))) Ab)) (AI (qac Dd (qac (qv 3) Ab))) (Az _)))))))))))))))))))),?_⟩
  refine ⟨_,rfl,a,ns,0,rfl,hS,by decide,λz0 H1 s1=>⟨z0,2,rfl,by decide,λlx xs H2 hlx s2 hx2 hxl hxs=>?_⟩⟩
  obtain ⟨y0,e0,_⟩:=LJ (ns:=xs) (i:=0) (by omega)
  obtain ⟨y1,e1,_⟩:=LJ (ns:=xs) (i:=1) (by omega)
  have s02:=s1.trans s2
  refine ⟨_,rfl,lx,_,0,.int y0,rfl,rfl,SqL.of hx2,e0,y0,rfl,λt3 r3 p row H3 s3 ef ht3 hr3=>⟨t3,_,0,.int ((p:Nat):Int),rfl,rfl,SqT.of ht3,rfl,?_⟩⟩
  refine ⟨_,rfl,lx,_,0,.int y0,rfl,rfl,SqL.of (s3 _ _ hx2),e0,y0,rfl,λt4 r4 p4 row4 H4 s4 ef4 ht4 hr4=>⟨t4,_,1,.ref r4,rfl,rfl,SqT.of ht4,rfl,?_⟩⟩
  rw[ef]at ef4
  cases ef4
  have hmem:=Rf ef
  have O:=fld_ok _ hmem
  have PL:=pl_of (pl_all _ hmem)
  obtain ⟨sq1,sq2,sq3⟩:=sqs_of (sqs_all _ hmem)
  have NF:=netf_of (net_all _ hmem) (netc_all _ hmem)
  dsimp only at O PL sq1 sq2 sq3 NF
  have s04:=s02.trans (s3.trans s4)
  have hx4:=(s3.trans s4) _ _ hx2
  refine λx dx hx' hdx hne=>?_
  refine ⟨x,dx,r4,p,row,upd H4 dx (.own x),rfl,(by rw[As (UQ hne)]; exact hx'),rfl,(Ac hdx) _ _ hr4,O,λH5 s5 hF=>⟨rfl,?_⟩⟩
  have s45:=(Ac (o:=.own x) hdx).trans s5
  have s05:=s04.trans s45
  have hx5:=s45 _ _ hx4
  obtain ⟨dx',r',hf,hr'⟩:=id hF
  refine ⟨_,rfl,x,dx',_,rfl,hf,Co _ _ _ (by decide +kernel) (by decide +kernel) (by decide +kernel),x,p,row,rfl,hF,?_⟩
  obtain ⟨q,hq⟩:∃ q,nF p row=q:=⟨_,rfl⟩
  have hq':p ^ (row.length - 1)=q:=hq
  rw[hq]at PL sq1 sq2 sq3 NF
  rw[hq']
  have q2:=PL.q2
  have q5:=PL.q5
  have hqq:q * q<=25:=R6 q5 q5
  refine ⟨_,rfl,x,p,row,rfl,hF,O,λt6 l6 w6 H6 s6 ht6 hl6 hT6=>?_⟩
  rw[hq]at ht6
  have s06:=s05.trans s6
  have hx6:=s6 _ _ hx5
  generalize Kq p row=pbs at PL hT6
  obtain ⟨m0,hm0⟩:∃ m0,nT q=m0:=⟨_,rfl⟩
  rw[hm0]at PL ht6
  have hL6:LayA H6 t6 m0 pbs:=⟨l6,w6,ht6,hl6,hT6,by have:=PL.len; have:=PL.m60; omega⟩
  refine ⟨(8:Int),rfl,by decide,by decide,?_⟩
  refine AX (lo:=0) (n:=8) (λi zs H7=>Same H6 H7/\∃ os,BlAt H7 zs os/\os.length=i/\∀ o∈os,o.Perm (J1 25)) ⟨Same.refl _,[],trivial,rfl,nofun⟩ ?_ ?_
  ·rintro i zs H7 N hi ⟨s7,os,hB,hol,hop⟩ nx
   refine ⟨Weak.set (by intro v z; cases z),⟨_,rfl,_,rfl,_,_,rfl,rfl,a,ns,1 + i,by rw[RI,Wd]; rfl,(s06.trans s7).seq hS,by omega,λz H8 s8=>?_⟩⟩
   refine ⟨z,25,rfl,by decide,λl9 ms H9 hl9 s9 hm9 hml _=>?_⟩
   refine ⟨l9,ms,25,rfl,SqL.of hm9,by omega,by decide,λl10 r10 H10 hl10 s10 hr10 hp10=>⟨?_,nx _ _ ⟨s7.trans (s8.trans (s9.trans s10)),os++[r10],(((hB.same s8).same s9).same s10).snoc hr10,by rw[Rk,hol]; rfl,λo ho=>?_⟩⟩⟩
   ·rw[hB.len,hol]
    exact Rb hi (by decide)
   ·rcases RU.mp ho with ho | ho
    ·exact hop o ho
    ·rw[Rh.mp ho]
     exact hp10
  rintro zs H7 ⟨s7,ords,hB7,hol,hop⟩
  have hO:Ords ords:=⟨hol,hop⟩
  refine ⟨by rw[hB7.len,hol]; decide,λc8 hc8=>?_⟩
  have w8:=Ac (o:=.lst zs) hc8
  have s68:=s7.trans w8
  have hc8':upd H7 c8 (.lst zs) c8=some (.lst zs):=Aa
  have hB8:=hB7.same w8
  dsimp only[AR]
  generalize upd H7 c8 (.lst zs)=H8 at s68 hc8' hB8 ⊢
  have s08:=s06.trans s68
  have hL8:=hL6.sm s68
  obtain ⟨l8,v8,ht8,hl8,hT8,_⟩:=id hL8
  have hx8:=s68 _ _ hx6
  have hplen:0 < pbs.length:=by
   have h1:=PL.len
   have h2:m0=1 + q + q * q:=hm0.symm
   omega
  have hv8:=hT8.len
  obtain ⟨b,hb,hbl⟩:∃ b:Nat,y1 % (((v8.length:Nat)):Int)=((b:Nat):Int)/\b < m0:=by
   have h0:=Ux y1 (show (((v8.length:Nat)):Int)≠0 by omega)
   have h1:=Ug y1 (show (0:Int) < ((v8.length:Nat):Int) by omega)
   have h2:=PL.len
   exact ⟨(y1 % ((v8.length:Nat):Int)).toNat,by omega,by omega⟩
  have hqm:(q + 1) * q<=30:=R6 (show q + 1<=6 by omega) q5
  refine ⟨_,rfl,_,rfl,lx,_,1,.int y1,rfl,rfl,SqL.of hx8,e1,_,rfl,t6,_,1,.ref l8,rfl,rfl,SqT.of ht8,rfl,l8,v8,rfl,.inr (SqT.of hl8),_,_,rfl,rfl,by show (0:Int) < ((v8.length:Nat):Int); omega,_,rfl,t6,c8,m0,b,zs,pbs,ords,(by show [V.ref t6,V.int (y1 % ((v8.length:Nat):Int)),V.ref c8]=_; rw[hb]),hL8,PL.m60,by rw[PL.len]; exact hbl,hc8',hB8,λo ho=>by rw[(hop o ho).length_eq,J5]; exact J8 _,by rw[(PL.line b hbl).1,hol]; omega,by rw[KJ PL hbl hO]; omega,λu9 H9 s9 hL9=>?_⟩
  have HB:=off_back PL hbl hO
  have hlt9:∀ B∈offL m0 pbs ords b,∀ y∈B,y < q * q:=λB hB y hy=>by
   have:=off_lt hB y hy
   rwa [Fi PL hbl hO]at this
  have hso9:∀ B∈offL m0 pbs ords b,B.Pairwise (· < ·):=λB hB=>off_st hB
  rw[Fi PL hbl hO]at hL9
  generalize offL m0 pbs ords b=bs9 at hL9 HB hlt9 hso9
  have hbl9:bs9.length=(q + 1) * q:=HB.len
  obtain ⟨l9,w9,ht9,hl9,hT9,_⟩:=id hL9
  have s09:=s08.trans s9
  have hqp:0 < q:=by omega
  have hqq1:1<=q * q:=Z5 hqp hqp
  refine ⟨_,rfl,u9,l9,q * q,w9,bs9,rfl,ht9,hl9,hT9,hlt9,hqq1,by omega,by omega,q,q + 1,HB,λg10 us10 H10 hg10 s10 hg10' hS10=>?_⟩
  have hbk:∀ rs∈Ed q (q * q) bs9 (q + 1),Lat q rs:=λrs hrs=>by
   obtain ⟨j,hj,rfl⟩:=RB.mp hrs
   have:=Ra.mp hj
   exact back_lat HB (by omega) (by omega)
  have hbo:∀ (i j:Nat) (rs qs:List (List Nat)),i < j->(Ed q (q * q) bs9 (q + 1))[i]?=some rs->(Ed q (q * q) bs9 (q + 1))[j]?=some qs->Ort q rs qs:=λi j rs qs hij hi hj=>by
   have hjl:=(J3.mp hj).1
   unfold Ed at hi hj hjl
   rw[J0,J5]at hjl
   rw[Rm,RN (by omega)]at hi hj
   cases hi
   cases hj
   exact back_ort HB hqp (by omega) (by omega)
  have hbkl:(Ed q (q * q) bs9 (q + 1)).length + 1=q:=by
   unfold Ed
   rw[J0,J5]
   omega
  refine ⟨_,rfl,_,rfl,g10,q,us10,_,rfl,hg10',hS10,hbkl,by omega,hbk,hbo,λH11 s11=>⟨true,rfl,iteF ?_⟩⟩
  have s911:=s10.trans s11
  have hL11:=hL9.sm s911
  refine ⟨_,rfl,_,rfl,u9,q * q,q,bs9,rfl,hL11,by omega,by omega,by omega,by rw[hbl9]; exact R9 q (by omega),λu12 H12 s12 hu12=>?_⟩
  rw[cells_eq HB hqp]at hu12
  have s1012:=s11.trans s12
  have hS12:=hS10.sm s1012
  refine ⟨_,rfl,g10,q,us10,_,rfl,s1012 _ _ hg10',hS12,by omega,q5,by omega,by omega,λrs hrs=>(hbk rs hrs).sq,λt13 u13 us13 H13 ht13 s13 ht13' hu13 hT13=>?_⟩
  have hu12':=s13 _ _ hu12
  refine ⟨t13,_,1,.ref u13,rfl,rfl,SqT.of ht13',rfl,u13,rfl,⟨_,SqT.of hu13⟩,Dc (K:=K) (xs:=us13) (λi vs H14=>Same H13 H14/\TpAt H14 vs (bs9.take i)) ⟨Same.refl _,trivial⟩ (λi vs H14 _ ⟨e,_⟩=>SqT.of (e _ _ hu13)) ?_ ?_⟩
  ·rintro i v vs H14 N hi ⟨s14,hV⟩ nx
   obtain ⟨ab,L,rfl,hLn,hab⟩:=(hT13.sm s14).get hi
   obtain ⟨B,hBi,hBp,hBs,hLm,hLl⟩:=again_at HB hqp hlt9 hso9 hLn
   have hu14:=s14 _ _ hu12'
   refine ⟨Weak.set (by intro v z; cases z),?_⟩
   refine ⟨_,rfl,ab,rfl,⟨_,SqT.of hab⟩,Dc (K:=K) (xs:=nats L) (λj ys H15=>H15=H14/\ys=nats ((L.take j).map (ptC q (q * q) bs9))) ⟨rfl,rfl⟩ (λj ys H15 _ ⟨e,_⟩=>SqT.of (e▸hab)) ?_ ?_⟩
   ·rintro j v ys H15 N15 hj ⟨rfl,rfl⟩ nx15
    obtain ⟨c,hc,rfl⟩:=L2.AW hj
    have hjl:=(J3.mp hc).1
    have hcm:=hLm c (Rf hc)
    have gc:(nats ((J1 (q * q)).map (ptC q (q * q) bs9)))[c]?=some (.int ((ptC q (q * q) bs9 c:Nat):Int)):=by
     unfold nats
     rw[Rm,Rm,RN hcm]
     rfl
    refine ⟨Weak.set (by intro v z; cases z),⟨_,rfl,_,rfl,u12,_,_,_,rfl,rfl,SqL.of hu14,AB gc,?_,nx15 _ _ ⟨rfl,?_⟩⟩⟩
    ·rw[Ag,J0,RA]
     exact Rn (show _<=25 by omega) (by decide)
    ·rw[RO,hc,RM,Rp,Rt,Uf,AE]
   rintro ys H15 ⟨rfl,rfl⟩
   rw[show L.take (nats L).length=L by rw[Ag,RE]]
   refine ⟨by rw[Ag,J0]; exact J6 (show _<=25 by omega) (by decide),λe he=>?_⟩
   have w15:=Ac (o:=.lst (nats (L.map (ptC q (q * q) bs9)))) he
   refine ⟨e,(L.map (ptC q (q * q) bs9)).map λp=>((p:Nat):Int),rfl,SqL.of (by rw[Aa,Dp]),by rw[J0,J0]; omega,λl16 ns' hl16 hpm hso=>?_⟩
   obtain ⟨b',e16,hp16,hs16⟩:=back_nats hpm hso
   rw[e16]
   have eB:b'=B:=(hp16.trans hBp).eq_of_pairwise (λx y _ _ h1 h2=>Nat.le_antisymm h1 h2) hs16 hBs
   rw[eB]
   have w16:=Ac (o:=.lst (nats B)) hl16
   refine ⟨l16,_,rfl,.inl ⟨SqL.of Aa,λt17 ht17=>⟨?_,nx _ _ ⟨s14.trans (w15.trans (w16.trans (Ac ht17))),?_⟩⟩⟩⟩
   ·rw[hV.len,RA]
    exact Rn (show _<=30 by omega) (by decide)
   ·rw[RO,hBi,RM]
    exact TpAt.snoc Aa (hV.sm (w15.trans (w16.trans (Ac ht17))))
  rintro vs H14 ⟨s14,hV⟩
  have hnl:us13.length=bs9.length:=by
   rw[hT13.len,Gr HB hqp,DB λj _=>Cw q _,J5,hbl9]
  rw[hnl,RE]at hV
  refine ⟨by rw[hV.len]; exact J6 (show _<=30 by omega) (by decide),λc15 hc15=>?_⟩
  have w15:=Ac (o:=.lst vs) hc15
  have hc15':upd H14 c15 (.lst vs) c15=some (.lst vs):=Aa
  have hV15:=hV.sm w15
  have s1115:=s12.trans (s13.trans (s14.trans w15))
  dsimp only[AR]
  generalize upd H14 c15 (.lst vs)=H15 at hc15' hV15 s1115 ⊢
  have s915:=s911.trans s1115
  refine ⟨_,rfl,_,rfl,u9,_,1,.ref l9,rfl,rfl,SqT.of (s915 _ _ ht9),rfl,l9,w9,rfl,.inr (SqT.of (s915 _ _ hl9)),λl16 hl16=>?_⟩
  have w16:=Ac (o:=.lst w9) hl16
  refine ⟨Fl bs9,Fl bs9,Jj (w16 _ _ hc15') (hV15.sm w16),Jj Aa ((hT9.sm s915).sm w16),Fm _,Fm _,_,rfl,?_⟩
  show if (!PyData.eqv (Fl bs9) (Fl bs9))=true then _ else _
  rw[tpsL_eqv]
  have s016:=s68.trans (s9.trans (s915.trans w16))
  have s516:=s6.trans s016
  generalize upd H15 l16 (.lst w9)=H16 at s016 s516 ⊢
  refine iteF ⟨_,rfl,x,p,row,rfl,hF.sm s516,O,λl17 w17 H17 s17 hl17 hS17=>?_⟩
  refine ⟨_,rfl,_,rfl,l17,q,w17,_,rfl,hl17,hS17,sq1,by omega,sq2,sq3,λH18 s18=>⟨true,rfl,iteF ?_⟩⟩
  refine ⟨_,rfl,l17,q,w17,_,rfl,s18 _ _ hl17,hS17.sm s18,by omega,q5,by omega,by omega,λrs hrs=>(sq2 rs hrs).sq,λt19 u19 us19 H19 ht19 s19 ht19' hu19 hT19=>?_⟩
  have eN:netL q (slS p row)=netF (p,row):=by rw[<- hq]; rfl
  rw[eN]at hT19
  generalize netF (p,row)=nb at NF hT19
  have hnb:=NF.len
  have hnq:q * (q + 1)<=30:=by rw[R4]; exact hqm
  have hL19:LayA H19 t19 (q * q) nb:=⟨u19,us19,ht19',hu19,hT19,by omega⟩
  refine ⟨_,rfl,t19,q * q,nb,rfl,hL19,by omega,λb hb=>(NF.blk b hb).2,λv20 H20 s20 hA=>?_⟩
  rw[NF.tld]at hA
  obtain ⟨t20,rfl,ht20⟩:=hA
  refine ⟨by show 2<=Qe; decide,λt21 ht21=>?_⟩
  have w21:=Ac (o:=.tup [.str "same",.int 1]) ht21
  refine ⟨dWI "same" 1,dWI "same" 1,Ji (w21 _ _ ht20),Ji Aa,DC 1 Hl,DC 1 Hl,true,congrArg V.bl (LD "same" 1),iteT ?_⟩
  have hnb1:1<=nb.length:=by rw[hnb]; exact Z5 hqp (by omega)
  refine ⟨_,rfl,_,rfl,t19,q * q,q,nb,rfl,hL19.sm (s20.trans w21),by omega,by omega,by omega,hnb1,by omega,λb hb=>⟨λz=>by have:=(NF.blk b hb).1; rw[z]at this; simp at this; omega,by rw[(NF.blk b hb).1]; omega⟩,λu22 H22 s22 hL22=>?_⟩
  rw[NF.div]at hL22
  have hcl:=NF.cl
  refine ⟨u22,q * q + (q + 1),_,rfl,hL22,by omega,λb hb=>(NF.cb b hb).2,λi j hij hj=>(NF.cp i j hij hj).1,λi j hij hj=>(NF.cp i j hij (by omega)).2,NF.few,λe23 H23 s23 he23=>?_⟩
  refine ⟨_,rfl,by show 2<=Qe; decide,λt24 ht24=>?_⟩
  have w24:=Ac (o:=.tup [.str "plane",.int ((q:Nat):Int)]) ht24
  have e0l:((((CU (q * q) q nb).getD 0 []).length:Nat):Int) - 1=((q:Nat):Int):=by
   have:=(NF.cb _ (Gj (show 0 < (CU (q * q) q nb).length by omega))).1
   omega
  rw[e0l]at he23
  refine ⟨dWI "plane" ((q:Nat):Int),dWI "plane" ((q:Nat):Int),Ji (w24 _ _ he23),Ji Aa,DC _ FC,DC _ FC,?_⟩
  show Q (.bl (PyData.eqv _ _)) _
  rw[LD]
  exact k _
end
structure FieldC (K:J4) (C:Addr):Prop where
 nC:Ru K Qi "Field"=some (some (.ref C))
 Z:FieldK K C
 mkc:Yb K C=true
 kc:Ud K (.ref C)=true
 nR:Ru K Qi "reversed"=some none
 iInit:∃ (f:Addr) (fd:Qh),Meth K C "__init__" f/\Fun K "__init__" "Field.__init__" Fu f fd
 iSize:∃ (f:Addr) (fd:Qh),Meth K C "size" f/\Fun K "size" "Field.size" Fv f fd
 iPlus:∃ (f:Addr) (fd:Qh),Meth K C "plus" f/\Fun K "plus" "Field.plus" Fw f fd
 iTimes:∃ (f:Addr) (fd:Qh),Meth K C "times" f/\Fun K "times" "Field.times" DM f fd
 iMustHave:∃ (f:Addr) (fd:Qh),Meth K C "must_have" f/\Fun K "must_have" "Field.must_have" BN f fd
theorem field_mk {K:J4} {C f0 f1 f2 f3 f4:Addr} {oc0 kV0 dc0 pm0 cd0 ct0:Qb} {od0 an0:Option Addr} {sl0:Array (Option Qb)} {oc1 kV1 dc1 pm1 cd1 ct1:Qb} {od1 an1:Option Addr} {sl1:Array (Option Qb)} {oc2 kV2 dc2 pm2 cd2 ct2:Qb} {od2 an2:Option Addr} {sl2:Array (Option Qb)} {oc3 kV3 dc3 pm3 cd3 ct3:Qb} {od3 an3:Option Addr} {sl3:Array (Option Qb)} {oc4 kV4 dc4 pm4 cd4 ct4:Qb} {od4 an4:Option Addr} {sl4:Array (Option Qb)}
  (nC:Ru K Qi "Field"=some (some (.ref C))) (pg:WI K C Str.empty=true) (hd:W0 K C=true) (po:Yy K C=true) (sa:R0 K (.ref C) "__setattr__"=some (some (.builtin "object.__setattr__"))) (mk:Yb K C=true) (kc:Ud K (.ref C)=true) (n0:R0 K (.ref C) "many"=some none) (n1:R0 K (.ref C) "prime"=some none) (n2:R0 K (.ref C) "row"=some none) (nR:Ru K Qi "reversed"=some none)
  (a0:R0 K (.ref C) "__init__"=some (some (.ref f0))) (i0:Wl K (.ref f0)=true) (l0:K.lookup f0=some ⟨oc0,od0,.func (UI "__init__" "Field.__init__" (Ca Fu) (BH Fu) (Ae Fu) .none kV0 dc0 pm0 an0 cd0 ct0),sl0⟩) (c0:UR K cd0 "Field.__init__"=true) (k0:Ud K (.ref f0)=true)
  (a1:R0 K (.ref C) "size"=some (some (.ref f1))) (i1:Wl K (.ref f1)=true) (l1:K.lookup f1=some ⟨oc1,od1,.func (UI "size" "Field.size" (Ca Fv) (BH Fv) (Ae Fv) .none kV1 dc1 pm1 an1 cd1 ct1),sl1⟩) (c1:UR K cd1 "Field.size"=true) (k1:Ud K (.ref f1)=true)
  (a2:R0 K (.ref C) "plus"=some (some (.ref f2))) (i2:Wl K (.ref f2)=true) (l2:K.lookup f2=some ⟨oc2,od2,.func (UI "plus" "Field.plus" (Ca Fw) (BH Fw) (Ae Fw) .none kV2 dc2 pm2 an2 cd2 ct2),sl2⟩) (c2:UR K cd2 "Field.plus"=true) (k2:Ud K (.ref f2)=true)
  (a3:R0 K (.ref C) "times"=some (some (.ref f3))) (i3:Wl K (.ref f3)=true) (l3:K.lookup f3=some ⟨oc3,od3,.func (UI "times" "Field.times" (Ca DM) (BH DM) (Ae DM) .none kV3 dc3 pm3 an3 cd3 ct3),sl3⟩) (c3:UR K cd3 "Field.times"=true) (k3:Ud K (.ref f3)=true)
  (a4:R0 K (.ref C) "must_have"=some (some (.ref f4))) (i4:Wl K (.ref f4)=true) (l4:K.lookup f4=some ⟨oc4,od4,.func (UI "must_have" "Field.must_have" (Ca BN) (BH BN) (Ae BN) .none kV4 dc4 pm4 an4 cd4 ct4),sl4⟩) (c4:UR K cd4 "Field.must_have"=true) (k4:Ud K (.ref f4)=true)
 :∃ C:Addr,FieldC K C:=⟨C,nC,⟨⟨pg,hd,po,sa⟩,n0,n1,n2⟩,mk,kc,nR,⟨f0,_,⟨a0,i0,k0⟩,Fs l0 c0 k0⟩,⟨f1,_,⟨a1,i1,k1⟩,Fs l1 c1 k1⟩,⟨f2,_,⟨a2,i2,k2⟩,Fs l2 c2 k2⟩,⟨f3,_,⟨a3,i3,k3⟩,Fs l3 c3 k3⟩,⟨f4,_,⟨a4,i4,k4⟩,Fs l4 c4 k4⟩⟩
end
end E1
namespace E1
open PySem L2
theorem all_mk {l:YL} {w:Qk} {K:J4} {h:Heap} {mg:Str->Option Qb} {fa:Addr} (X:K.In h) (G:h.Ns Qi mg) (hfa:mg "law"=some (.ref fa))
  (N:Ru K Qi "isinstance"=some none/\Ru K Qi "int"=some none/\Ru K Qi "bool"=some none/\Ru K Qi "abs"=some none/\Ru K Qi "len"=some none/\Ru K Qi "range"=some none/\Ru K Qi "tuple"=some none/\Ru K Qi "list"=some none/\Ru K Qi "sorted"=some none/\Ru K Qi "all"=some none/\Ru K Qi "set"=some none/\Ru K Qi "zip"=some none/\Ru K Qi "enumerate"=some none/\Ru K Qi "any"=some none/\Ru K Qi "max"=some none/\Ru K Qi "min"=some none/\Ru K Qi "str"=some none/\Ru K Qi "sum"=some none)
  (Zc:∃ C:Addr,FieldC K C)
  (CMostNumbers:∃ t,Ru K Qi "MOST_NUMBERS"=some (some (.int 32 t)))
  (AWhole:At K "is_whole" IG) (AIsBelow:At K "is_below" Eg) (AMust:At K "must_be_whole" JY) (AFrom:At K "must_be_from" Jm) (APrimes:At K "primes_of" FU) (AIsPrime:At K "is_prime" Eh) (ARoot:At K "root_of" KP) (ASquareTold:At K "square_told" BR) (AColumnOf:At K "column_of" CL) (AFirstTwice:At K "first_twice" BS) (AOverTold:At K "over_told" Du) (ASquaresOf:At K "squares_of" Cf) (ASlopedSquare:At K "sloped_square" Br) (ASlopedRow:At K "sloped_row" Ch) (ANetOf:At K "net_of" ES) (ABlocksByNumber:At K "blocks_by_number" Bf) (ACellsWith:At K "cells_with" Ci) (ASquaresBack:At K "squares_back" Bp) (ANumbersByClass:At K "numbers_by_class" Bs) (AMustCross:At K "must_cross" Cj) (ASquareBack:At K "square_back" BT) (APairsTold:At K "pairs_told" CZ) (AToldOf:At K "told_of" FV) (AMarkedBlocks:At K "marked_blocks" Bt) (AMarksOf:At K "marks_of" Ei) (ARowsWith:At K "rows_with" CM) (ARowTimes:At K "row_times" CN) (ARowRest:At K "row_rest" Ej) (ARowFactor:At K "row_factor" Da) (ATrimmed:At K "trimmed" Ek) (ADigitsOf:At K "digits_of" CO) (ANumberOf:At K "number_of" Dw) (AMustBeRow:At K "must_be_row" Ck) (ASizeWithin:At K "size_within" Ct) (AMustBePrime:At K "must_be_prime" BY) (AMustBeNoProduct:At K "must_be_no_product" Bl) (AJoined:At K "joined" FW) (ANumbersOfBlocksWith:At K "numbers_of_blocks_with" AS) (APlaneOf:At K "plane_of" Dx) (ATriplesOf:At K "triples_of" Db) (APointsAcross:At K "points_across" Bu) (AAddedProducts:At K "added_products" BC) (APlaneTold:At K "plane_told" BM) (AFirstUneven:At K "first_uneven" BZ) (ACell:At K "_law_cell" KQ) (ALNumbers:At K "_law_numbers" Dy) (ALRow:At K "_law_row" Jn) (ALField:At K "_law_field" FX) (ALClass:At K "_law_class" DL) (ALOff:At K "_law_off" HE) (ALSquaresRight:At K "_law_squares_right" Bj) (ALCells:At K "_law_cells" ET) (ALClosed:At K "_law_closed" Dz) (ALaw:At K "law" sLaw) :
  ∃ fd:Qh,(∀ (s:Qc) (v:Qb),BindsTo s fd ⟨[v],[]⟩ [("_law_script",v)])/\∀ base:Heap,K.In base->base.Ns Qi mg->FnOk l.prog w K mg base CX0 12 fa fd ["_law_script"] (KN K):=by
 obtain ⟨n0,n1,n2,n3,n4,n5,n6,n7,n8,n9,n10,n11,n12,n13,n14,n15,n16,n17⟩:=N
 have T:TxtB mg:=⟨RF X G n0,RF X G n1,RF X G n2,RF X G n3,RF X G n4,RF X G n5,RF X G n6,RF X G n7,RF X G n8,RF X G n9,RF X G n10,RF X G n11,RF X G n12,RF X G n13,RF X G n14,RF X G n15,RF X G n16,RF X G n17⟩
 obtain ⟨C,Zc⟩:=Zc
 have mF:=Rl X G Zc.nC
 have mR:=RF X G Zc.nR
 obtain ⟨fMInit,fdMInit,eMInit,FMInit⟩:=Zc.iInit
 have bMInit:=FMInit.binds (ps:=["self", "p", "row"]) λ_ _ _ _ _ _ us hl=>match us,hl with | [_,_,_],_=>rfl
 obtain ⟨fMSize,fdMSize,eMSize,FMSize⟩:=Zc.iSize
 have bMSize:=FMSize.binds (ps:=["self"]) λ_ _ _ _ _ _ us hl=>match us,hl with | [_],_=>rfl
 obtain ⟨fMPlus,fdMPlus,eMPlus,FMPlus⟩:=Zc.iPlus
 have bMPlus:=FMPlus.binds (ps:=["self", "a", "b"]) λ_ _ _ _ _ _ us hl=>match us,hl with | [_,_,_],_=>rfl
 obtain ⟨fMTimes,fdMTimes,eMTimes,FMTimes⟩:=Zc.iTimes
 have bMTimes:=FMTimes.binds (ps:=["self", "a", "b"]) λ_ _ _ _ _ _ us hl=>match us,hl with | [_,_,_],_=>rfl
 obtain ⟨fMMustHave,fdMMustHave,eMMustHave,FMMustHave⟩:=Zc.iMustHave
 have bMMustHave:=FMMustHave.binds (ps:=["self", "thing"]) λ_ _ _ _ _ _ us hl=>match us,hl with | [_,_],_=>rfl
 obtain ⟨tMostNumbers,cMostNumbers⟩:=CMostNumbers
 have mMostNumbers:=Rl X G cMostNumbers
 obtain ⟨fWhole,fdWhole,aWhole,FWhole⟩:=AWhole
 obtain ⟨fIsBelow,fdIsBelow,aIsBelow,FIsBelow⟩:=AIsBelow
 obtain ⟨fMust,fdMust,aMust,FMust⟩:=AMust
 obtain ⟨fFrom,fdFrom,aFrom,FFrom⟩:=AFrom
 obtain ⟨fPrimes,fdPrimes,aPrimes,FPrimes⟩:=APrimes
 obtain ⟨fIsPrime,fdIsPrime,aIsPrime,FIsPrime⟩:=AIsPrime
 obtain ⟨fRoot,fdRoot,aRoot,FRoot⟩:=ARoot
 obtain ⟨fSquareTold,fdSquareTold,aSquareTold,FSquareTold⟩:=ASquareTold
 obtain ⟨fColumnOf,fdColumnOf,aColumnOf,FColumnOf⟩:=AColumnOf
 obtain ⟨fFirstTwice,fdFirstTwice,aFirstTwice,FFirstTwice⟩:=AFirstTwice
 obtain ⟨fOverTold,fdOverTold,aOverTold,FOverTold⟩:=AOverTold
 obtain ⟨fSquaresOf,fdSquaresOf,aSquaresOf,FSquaresOf⟩:=ASquaresOf
 obtain ⟨fSlopedSquare,fdSlopedSquare,aSlopedSquare,FSlopedSquare⟩:=ASlopedSquare
 obtain ⟨fSlopedRow,fdSlopedRow,aSlopedRow,FSlopedRow⟩:=ASlopedRow
 obtain ⟨fNetOf,fdNetOf,aNetOf,FNetOf⟩:=ANetOf
 obtain ⟨fBlocksByNumber,fdBlocksByNumber,aBlocksByNumber,FBlocksByNumber⟩:=ABlocksByNumber
 obtain ⟨fCellsWith,fdCellsWith,aCellsWith,FCellsWith⟩:=ACellsWith
 obtain ⟨fSquaresBack,fdSquaresBack,aSquaresBack,FSquaresBack⟩:=ASquaresBack
 obtain ⟨fNumbersByClass,fdNumbersByClass,aNumbersByClass,FNumbersByClass⟩:=ANumbersByClass
 obtain ⟨fMustCross,fdMustCross,aMustCross,FMustCross⟩:=AMustCross
 obtain ⟨fSquareBack,fdSquareBack,aSquareBack,FSquareBack⟩:=ASquareBack
 obtain ⟨fPairsTold,fdPairsTold,aPairsTold,FPairsTold⟩:=APairsTold
 obtain ⟨fToldOf,fdToldOf,aToldOf,FToldOf⟩:=AToldOf
 obtain ⟨fMarkedBlocks,fdMarkedBlocks,aMarkedBlocks,FMarkedBlocks⟩:=AMarkedBlocks
 obtain ⟨fMarksOf,fdMarksOf,aMarksOf,FMarksOf⟩:=AMarksOf
 obtain ⟨fRowsWith,fdRowsWith,aRowsWith,FRowsWith⟩:=ARowsWith
 obtain ⟨fRowTimes,fdRowTimes,aRowTimes,FRowTimes⟩:=ARowTimes
 obtain ⟨fRowRest,fdRowRest,aRowRest,FRowRest⟩:=ARowRest
 obtain ⟨fRowFactor,fdRowFactor,aRowFactor,FRowFactor⟩:=ARowFactor
 obtain ⟨fTrimmed,fdTrimmed,aTrimmed,FTrimmed⟩:=ATrimmed
 obtain ⟨fDigitsOf,fdDigitsOf,aDigitsOf,FDigitsOf⟩:=ADigitsOf
 obtain ⟨fNumberOf,fdNumberOf,aNumberOf,FNumberOf⟩:=ANumberOf
 obtain ⟨fMustBeRow,fdMustBeRow,aMustBeRow,FMustBeRow⟩:=AMustBeRow
 obtain ⟨fSizeWithin,fdSizeWithin,aSizeWithin,FSizeWithin⟩:=ASizeWithin
 obtain ⟨fMustBePrime,fdMustBePrime,aMustBePrime,FMustBePrime⟩:=AMustBePrime
 obtain ⟨fMustBeNoProduct,fdMustBeNoProduct,aMustBeNoProduct,FMustBeNoProduct⟩:=AMustBeNoProduct
 obtain ⟨fJoined,fdJoined,aJoined,FJoined⟩:=AJoined
 obtain ⟨fNumbersOfBlocksWith,fdNumbersOfBlocksWith,aNumbersOfBlocksWith,FNumbersOfBlocksWith⟩:=ANumbersOfBlocksWith
 obtain ⟨fPlaneOf,fdPlaneOf,aPlaneOf,FPlaneOf⟩:=APlaneOf
 obtain ⟨fTriplesOf,fdTriplesOf,aTriplesOf,FTriplesOf⟩:=ATriplesOf
 obtain ⟨fPointsAcross,fdPointsAcross,aPointsAcross,FPointsAcross⟩:=APointsAcross
 obtain ⟨fAddedProducts,fdAddedProducts,aAddedProducts,FAddedProducts⟩:=AAddedProducts
 obtain ⟨fPlaneTold,fdPlaneTold,aPlaneTold,FPlaneTold⟩:=APlaneTold
 obtain ⟨fFirstUneven,fdFirstUneven,aFirstUneven,FFirstUneven⟩:=AFirstUneven
 obtain ⟨fCell,fdCell,aCell,FCell⟩:=ACell
 obtain ⟨fLNumbers,fdLNumbers,aLNumbers,FLNumbers⟩:=ALNumbers
 obtain ⟨fLRow,fdLRow,aLRow,FLRow⟩:=ALRow
 obtain ⟨fLField,fdLField,aLField,FLField⟩:=ALField
 obtain ⟨fLClass,fdLClass,aLClass,FLClass⟩:=ALClass
 obtain ⟨fLOff,fdLOff,aLOff,FLOff⟩:=ALOff
 obtain ⟨fLSquaresRight,fdLSquaresRight,aLSquaresRight,FLSquaresRight⟩:=ALSquaresRight
 obtain ⟨fLCells,fdLCells,aLCells,FLCells⟩:=ALCells
 obtain ⟨fLClosed,fdLClosed,aLClosed,FLClosed⟩:=ALClosed
 obtain ⟨fLaw,fdLaw,aLaw,FLaw⟩:=ALaw
 have e:=hfa.symm.trans (Rl X G aLaw)
 cases e
 have bWhole:=FWhole.binds (ps:=["thing"]) λ_ _ _ _ _ _ us hl=>match us,hl with | [_],_=>rfl
 have mWhole:=Rl X G aWhole
 have bIsBelow:=FIsBelow.binds (ps:=["thing", "many"]) λ_ _ _ _ _ _ us hl=>match us,hl with | [_,_],_=>rfl
 have mIsBelow:=Rl X G aIsBelow
 have bMust:=FMust.binds (ps:=["thing"]) λ_ _ _ _ _ _ us hl=>match us,hl with | [_],_=>rfl
 have mMust:=Rl X G aMust
 have bFrom:=FFrom.binds (ps:=["least", "thing"]) λ_ _ _ _ _ _ us hl=>match us,hl with | [_,_],_=>rfl
 have mFrom:=Rl X G aFrom
 have bPrimes:=FPrimes.binds (ps:=["n"]) λ_ _ _ _ _ _ us hl=>match us,hl with | [_],_=>rfl
 have mPrimes:=Rl X G aPrimes
 have bIsPrime:=FIsPrime.binds (ps:=["p"]) λ_ _ _ _ _ _ us hl=>match us,hl with | [_],_=>rfl
 have mIsPrime:=Rl X G aIsPrime
 have bRoot:=FRoot.binds (ps:=["n"]) λ_ _ _ _ _ _ us hl=>match us,hl with | [_],_=>rfl
 have mRoot:=Rl X G aRoot
 have bSquareTold:=FSquareTold.binds (ps:=["rows"]) λ_ _ _ _ _ _ us hl=>match us,hl with | [_],_=>rfl
 have mSquareTold:=Rl X G aSquareTold
 have bColumnOf:=FColumnOf.binds (ps:=["rows", "c"]) λ_ _ _ _ _ _ us hl=>match us,hl with | [_,_],_=>rfl
 have mColumnOf:=Rl X G aColumnOf
 have bFirstTwice:=FFirstTwice.binds (ps:=["rows"]) λ_ _ _ _ _ _ us hl=>match us,hl with | [_],_=>rfl
 have mFirstTwice:=Rl X G aFirstTwice
 have bOverTold:=FOverTold.binds (ps:=["one", "other"]) λ_ _ _ _ _ _ us hl=>match us,hl with | [_,_],_=>rfl
 have mOverTold:=Rl X G aOverTold
 have bSquaresOf:=FSquaresOf.binds (ps:=["field"]) λ_ _ _ _ _ _ us hl=>match us,hl with | [_],_=>rfl
 have mSquaresOf:=Rl X G aSquaresOf
 have bSlopedSquare:=FSlopedSquare.binds (ps:=["field", "slope"]) λ_ _ _ _ _ _ us hl=>match us,hl with | [_,_],_=>rfl
 have mSlopedSquare:=Rl X G aSlopedSquare
 have bSlopedRow:=FSlopedRow.binds (ps:=["field", "start"]) λ_ _ _ _ _ _ us hl=>match us,hl with | [_,_],_=>rfl
 have mSlopedRow:=Rl X G aSlopedRow
 have bNetOf:=FNetOf.binds (ps:=["squares"]) λ_ _ _ _ _ _ us hl=>match us,hl with | [_],_=>rfl
 have mNetOf:=Rl X G aNetOf
 have bBlocksByNumber:=FBlocksByNumber.binds (ps:=["size", "numbers"]) λ_ _ _ _ _ _ us hl=>match us,hl with | [_,_],_=>rfl
 have mBlocksByNumber:=Rl X G aBlocksByNumber
 have bCellsWith:=FCellsWith.binds (ps:=["numbers", "number"]) λ_ _ _ _ _ _ us hl=>match us,hl with | [_,_],_=>rfl
 have mCellsWith:=Rl X G aCellsWith
 have bSquaresBack:=FSquaresBack.binds (ps:=["M"]) λ_ _ _ _ _ _ us hl=>match us,hl with | [_],_=>rfl
 have mSquaresBack:=Rl X G aSquaresBack
 have bNumbersByClass:=FNumbersByClass.binds (ps:=["points", "blocks"]) λ_ _ _ _ _ _ us hl=>match us,hl with | [_,_],_=>rfl
 have mNumbersByClass:=Rl X G aNumbersByClass
 have bMustCross:=FMustCross.binds (ps:=["numbers", "others"]) λ_ _ _ _ _ _ us hl=>match us,hl with | [_,_],_=>rfl
 have mMustCross:=Rl X G aMustCross
 have bSquareBack:=FSquareBack.binds (ps:=["size", "numbers"]) λ_ _ _ _ _ _ us hl=>match us,hl with | [_,_],_=>rfl
 have mSquareBack:=Rl X G aSquareBack
 have bPairsTold:=FPairsTold.binds (ps:=["M"]) λ_ _ _ _ _ _ us hl=>match us,hl with | [_],_=>rfl
 have mPairsTold:=Rl X G aPairsTold
 have bToldOf:=FToldOf.binds (ps:=["cases", "counts"]) λ_ _ _ _ _ _ us hl=>match us,hl with | [_,_],_=>rfl
 have mToldOf:=Rl X G aToldOf
 have bMarkedBlocks:=FMarkedBlocks.binds (ps:=["M"]) λ_ _ _ _ _ _ us hl=>match us,hl with | [_],_=>rfl
 have mMarkedBlocks:=Rl X G aMarkedBlocks
 have bMarksOf:=FMarksOf.binds (ps:=["points", "block"]) λ_ _ _ _ _ _ us hl=>match us,hl with | [_,_],_=>rfl
 have mMarksOf:=Rl X G aMarksOf
 have bRowsWith:=FRowsWith.binds (ps:=["rows", "point"]) λ_ _ _ _ _ _ us hl=>match us,hl with | [_,_],_=>rfl
 have mRowsWith:=Rl X G aRowsWith
 have bRowTimes:=FRowTimes.binds (ps:=["p", "one", "other"]) λ_ _ _ _ _ _ us hl=>match us,hl with | [_,_,_],_=>rfl
 have mRowTimes:=Rl X G aRowTimes
 have bRowRest:=FRowRest.binds (ps:=["p", "one", "by"]) λ_ _ _ _ _ _ us hl=>match us,hl with | [_,_,_],_=>rfl
 have mRowRest:=Rl X G aRowRest
 have bRowFactor:=FRowFactor.binds (ps:=["p", "row"]) λ_ _ _ _ _ _ us hl=>match us,hl with | [_,_],_=>rfl
 have mRowFactor:=Rl X G aRowFactor
 have bTrimmed:=FTrimmed.binds (ps:=["digits"]) λ_ _ _ _ _ _ us hl=>match us,hl with | [_],_=>rfl
 have mTrimmed:=Rl X G aTrimmed
 have bDigitsOf:=FDigitsOf.binds (ps:=["p", "number"]) λ_ _ _ _ _ _ us hl=>match us,hl with | [_,_],_=>rfl
 have mDigitsOf:=Rl X G aDigitsOf
 have bNumberOf:=FNumberOf.binds (ps:=["p", "digits"]) λ_ _ _ _ _ _ us hl=>match us,hl with | [_,_],_=>rfl
 have mNumberOf:=Rl X G aNumberOf
 have bMustBeRow:=FMustBeRow.binds (ps:=["p", "row"]) λ_ _ _ _ _ _ us hl=>match us,hl with | [_,_],_=>rfl
 have mMustBeRow:=Rl X G aMustBeRow
 have bSizeWithin:=FSizeWithin.binds (ps:=["p", "row"]) λ_ _ _ _ _ _ us hl=>match us,hl with | [_,_],_=>rfl
 have mSizeWithin:=Rl X G aSizeWithin
 have bMustBePrime:=FMustBePrime.binds (ps:=["p"]) λ_ _ _ _ _ _ us hl=>match us,hl with | [_],_=>rfl
 have mMustBePrime:=Rl X G aMustBePrime
 have bMustBeNoProduct:=FMustBeNoProduct.binds (ps:=["p", "row"]) λ_ _ _ _ _ _ us hl=>match us,hl with | [_,_],_=>rfl
 have mMustBeNoProduct:=Rl X G aMustBeNoProduct
 have bJoined:=FJoined.binds (ps:=["p", "a", "b", "sign"]) λ_ _ _ _ _ _ us hl=>match us,hl with | [_,_,_,_],_=>rfl
 have mJoined:=Rl X G aJoined
 have bNumbersOfBlocksWith:=FNumbersOfBlocksWith.binds (ps:=["M", "point"]) λ_ _ _ _ _ _ us hl=>match us,hl with | [_,_],_=>rfl
 have mNumbersOfBlocksWith:=Rl X G aNumbersOfBlocksWith
 have bPlaneOf:=FPlaneOf.binds (ps:=["field"]) λ_ _ _ _ _ _ us hl=>match us,hl with | [_],_=>rfl
 have mPlaneOf:=Rl X G aPlaneOf
 have bTriplesOf:=FTriplesOf.binds (ps:=["size"]) λ_ _ _ _ _ _ us hl=>match us,hl with | [_],_=>rfl
 have mTriplesOf:=Rl X G aTriplesOf
 have bPointsAcross:=FPointsAcross.binds (ps:=["field", "triple", "triples"]) λ_ _ _ _ _ _ us hl=>match us,hl with | [_,_,_],_=>rfl
 have mPointsAcross:=Rl X G aPointsAcross
 have bAddedProducts:=FAddedProducts.binds (ps:=["field", "one", "other"]) λ_ _ _ _ _ _ us hl=>match us,hl with | [_,_,_],_=>rfl
 have mAddedProducts:=Rl X G aAddedProducts
 have bPlaneTold:=FPlaneTold.binds (ps:=["M"]) λ_ _ _ _ _ _ us hl=>match us,hl with | [_],_=>rfl
 have mPlaneTold:=Rl X G aPlaneTold
 have bFirstUneven:=FFirstUneven.binds (ps:=["rows"]) λ_ _ _ _ _ _ us hl=>match us,hl with | [_],_=>rfl
 have mFirstUneven:=Rl X G aFirstUneven
 have bCell:=FCell.binds (ps:=["_law_script", "_law_k"]) λ_ _ _ _ _ _ us hl=>match us,hl with | [_,_],_=>rfl
 have mCell:=Rl X G aCell
 have bLNumbers:=FLNumbers.binds (ps:=["_law_cell_here", "_law_many"]) λ_ _ _ _ _ _ us hl=>match us,hl with | [_,_],_=>rfl
 have mLNumbers:=Rl X G aLNumbers
 have bLRow:=FLRow.binds (ps:=["_law_xs", "_law_many"]) λ_ _ _ _ _ _ us hl=>match us,hl with | [_,_],_=>rfl
 have mLRow:=Rl X G aLRow
 have bLField:=FLField.binds (ps:=["_law_x"]) λ_ _ _ _ _ _ us hl=>match us,hl with | [_],_=>rfl
 have mLField:=Rl X G aLField
 have bLClass:=FLClass.binds (ps:=["_law_plane", "_law_b", "_law_point", "_law_order"]) λ_ _ _ _ _ _ us hl=>match us,hl with | [_,_,_,_],_=>rfl
 have mLClass:=Rl X G aLClass
 have bLOff:=FLOff.binds (ps:=["_law_plane", "_law_b", "_law_orders"]) λ_ _ _ _ _ _ us hl=>match us,hl with | [_,_,_],_=>rfl
 have mLOff:=Rl X G aLOff
 have bLSquaresRight:=FLSquaresRight.binds (ps:=["_law_squares", "_law_size"]) λ_ _ _ _ _ _ us hl=>match us,hl with | [_,_],_=>rfl
 have mLSquaresRight:=Rl X G aLSquaresRight
 have bLCells:=FLCells.binds (ps:=["_law_layout", "_law_size"]) λ_ _ _ _ _ _ us hl=>match us,hl with | [_,_],_=>rfl
 have mLCells:=Rl X G aLCells
 have bLClosed:=FLClosed.binds (ps:=["_law_layout", "_law_size"]) λ_ _ _ _ _ _ us hl=>match us,hl with | [_,_],_=>rfl
 have mLClosed:=Rl X G aLClosed
 refine ⟨fdLaw,?_,λbase _ _=>?_⟩
 ·obtain ⟨oc,od,kV,doc,pm,an,cdv,ct,osl,rfl,lk,hcd⟩:=FLaw.ex
  exact λs v=>.of_eq rfl
 ·have pW:Pm l.prog w K mg base CX0 1 "is_whole" ["thing"] (DJ K):=⟨fWhole,fdWhole,mWhole,FWhole.kp,bWhole,ok_whole FWhole T⟩
  have pI:Pm l.prog w K mg base CX0 2 "is_below" ["thing", "many"] FY:=⟨fIsBelow,fdIsBelow,mIsBelow,FIsBelow.kp,bIsBelow,ok_below FIsBelow pW⟩
  have pMu:Pm l.prog w K mg base CX0 2 "must_be_whole" ["thing"] HN:=⟨fMust,fdMust,mMust,FMust.kp,bMust,ok_mustN FMust pW⟩
  have pPr:Pm l.prog w K mg base CX0 4 "primes_of" ["n"] EZ:=⟨fPrimes,fdPrimes,mPrimes,FPrimes.kp,bPrimes,ok_primes FPrimes FFrom bFrom mFrom (ok_fromN FFrom pMu)⟩
  have pIP:Pm l.prog w K mg base CX0 5 "is_prime" ["p"] ED:=⟨fIsPrime,fdIsPrime,mIsPrime,FIsPrime.kp,bIsPrime,ok_isprime FIsPrime pPr⟩
  have pTr:Pm l.prog w K mg base CX0 1 "trimmed" ["digits"] IJ:=⟨fTrimmed,fdTrimmed,mTrimmed,FTrimmed.kp,bTrimmed,ok_trimmed FTrimmed T⟩
  have pRT:Pm l.prog w K mg base CX0 2 "row_times" ["p", "one", "other"] Ke:=⟨fRowTimes,fdRowTimes,mRowTimes,FRowTimes.kp,bRowTimes,ok_times FRowTimes T pTr⟩
  have pRR:Pm l.prog w K mg base CX0 2 "row_rest" ["p", "one", "by"] IL:=⟨fRowRest,fdRowRest,mRowRest,FRowRest.kp,bRowRest,ok_rest FRowRest T pTr⟩
  have pDi:Pm l.prog w K mg base CX0 1 "digits_of" ["p", "number"] Gd:=⟨fDigitsOf,fdDigitsOf,mDigitsOf,FDigitsOf.kp,bDigitsOf,ok_digits FDigitsOf T⟩
  have pDG:Pm l.prog w K mg base CX0 1 "digits_of" ["p", "number"] Kj:=⟨fDigitsOf,fdDigitsOf,mDigitsOf,FDigitsOf.kp,bDigitsOf,ok_digG FDigitsOf T⟩
  have pRF:Pm l.prog w K mg base CX0 3 "row_factor" ["p", "row"] spDv:=⟨fRowFactor,fdRowFactor,mRowFactor,FRowFactor.kp,bRowFactor,ok_factor FRowFactor T pDi pRR⟩
  have pNu:Pm l.prog w K mg base CX0 1 "number_of" ["p", "digits"] LL:=⟨fNumberOf,fdNumberOf,mNumberOf,FNumberOf.kp,bNumberOf,ok_num FNumberOf mR⟩
  have pJo:Pm l.prog w K mg base CX0 1 "joined" ["p", "a", "b", "sign"] Kk:=⟨fJoined,fdJoined,mJoined,FJoined.kp,bJoined,ok_join FJoined⟩
  have pMR:Pm l.prog w K mg base CX0 3 "must_be_row" ["p", "row"] Kl:=⟨fMustBeRow,fdMustBeRow,mMustBeRow,FMustBeRow.kp,bMustBeRow,ok_mrow FMustBeRow T pW pI⟩
  have pSi:Pm l.prog w K mg base CX0 1 "size_within" ["p", "row"] Km:=⟨fSizeWithin,fdSizeWithin,mSizeWithin,FSizeWithin.kp,bSizeWithin,ok_size FSizeWithin mMostNumbers⟩
  have pMP:Pm l.prog w K mg base CX0 6 "must_be_prime" ["p"] spMP:=⟨fMustBePrime,fdMustBePrime,mMustBePrime,FMustBePrime.kp,bMustBePrime,ok_mp FMustBePrime pIP⟩
  have pMN:Pm l.prog w K mg base CX0 4 "must_be_no_product" ["p", "row"] LM:=⟨fMustBeNoProduct,fdMustBeNoProduct,mMustBeNoProduct,FMustBeNoProduct.kp,bMustBeNoProduct,ok_mno FMustBeNoProduct pRF⟩
  have pMk:Mkp l.prog w K mg base CX0 7 "Field" C ["self", "p", "row"] (Kn C):=⟨fMInit,fdMInit,mF,⟨Zc.mkc,eMInit.at_,eMInit.fn,Zc.kc⟩,bMInit,ok_init FMInit Zc.Z pMR pSi pMP pMN⟩
  have pHa:Mp l.prog w K mg base CX0 3 C "must_have" ["self", "thing"] (IR C):=⟨fMMustHave,fdMMustHave,eMMustHave,bMMustHave,ok_have FMMustHave Zc.Z pI⟩
  have pSz:Mp l.prog w K mg base CX0 1 C "size" ["self"] (Dh C):=⟨fMSize,fdMSize,eMSize,bMSize,ok_sizeM FMSize Zc.Z⟩
  have pPl:Mp l.prog w K mg base CX0 4 C "plus" ["self", "a", "b"] (Hf C plV):=⟨fMPlus,fdMPlus,eMPlus,bMPlus,ok_plus FMPlus Zc.Z pHa pJo⟩
  have pTi:Mp l.prog w K mg base CX0 4 C "times" ["self", "a", "b"] (Hf C tmV):=⟨fMTimes,fdMTimes,eMTimes,bMTimes,ok_timesM FMTimes Zc.Z pHa pDG pRT pRR pNu⟩
  have pN:Pm l.prog w K mg base CX0 1 "_law_numbers" ["_law_cell_here", "_law_many"] JZ:=⟨fLNumbers,fdLNumbers,mLNumbers,FLNumbers.kp,bLNumbers,ok_numbers FLNumbers T⟩
  have pC:Pm l.prog w K mg base CX0 1 "_law_cell" ["_law_script", "_law_k"] (HF K):=⟨fCell,fdCell,mCell,FCell.kp,bCell,ok_cell2 FCell T⟩
  have pAd:Pm l.prog w K mg base CX0 5 "added_products" ["field", "one", "other"] (LO C):=⟨fAddedProducts,fdAddedProducts,mAddedProducts,FAddedProducts.kp,bAddedProducts,ok_add FAddedProducts T Zc.Z pPl pTi⟩
  have pAc:Pm l.prog w K mg base CX0 6 "points_across" ["field", "triple", "triples"] (LP C):=⟨fPointsAcross,fdPointsAcross,mPointsAcross,FPointsAcross.kp,bPointsAcross,ok_acr FPointsAcross T pAd⟩
  have pT1:Pm l.prog w K mg base CX0 1 "triples_of" ["size"] LN:=⟨fTriplesOf,fdTriplesOf,mTriplesOf,FTriplesOf.kp,bTriplesOf,ok_tri FTriplesOf T⟩
  have pPO:Pm l.prog w K mg base CX0 7 "plane_of" ["field"] (Fc C):=⟨fPlaneOf,fdPlaneOf,mPlaneOf,FPlaneOf.kp,bPlaneOf,ok_planeof FPlaneOf T Zc.Z pSz pT1 pAc⟩
  have pM0:Pm l.prog w K mg base CX0 2 "must_be_whole" ["thing"] HR:=⟨fMust,fdMust,mMust,FMust.kp,bMust,ok_must0 FMust pW⟩
  have pF0:Pm l.prog w K mg base CX0 3 "must_be_from" ["least", "thing"] HS:=⟨fFrom,fdFrom,mFrom,FFrom.kp,bFrom,ok_from0 FFrom pM0⟩
  have pR0:Pm l.prog w K mg base CX0 4 "root_of" ["n"] HU:=⟨fRoot,fdRoot,mRoot,FRoot.kp,bRoot,ok_root0 FRoot pF0⟩
  have pCw:Pm l.prog w K mg base CX0 1 "cells_with" ["numbers", "number"] spCw:=⟨fCellsWith,fdCellsWith,mCellsWith,FCellsWith.kp,bCellsWith,ok_cw FCellsWith T⟩
  have pBn:Pm l.prog w K mg base CX0 2 "blocks_by_number" ["size", "numbers"] LR:=⟨fBlocksByNumber,fdBlocksByNumber,mBlocksByNumber,FBlocksByNumber.kp,bBlocksByNumber,ok_bbn FBlocksByNumber T pCw⟩
  have pNe:Pm l.prog w K mg base CX0 3 "net_of" ["squares"] LS:=⟨fNetOf,fdNetOf,mNetOf,FNetOf.kp,bNetOf,ok_net FNetOf T pBn⟩
  have pNc:Pm l.prog w K mg base CX0 1 "numbers_by_class" ["points", "blocks"] LT:=⟨fNumbersByClass,fdNumbersByClass,mNumbersByClass,FNumbersByClass.kp,bNumbersByClass,ok_nbc FNumbersByClass T⟩
  have pCr:Pm l.prog w K mg base CX0 1 "must_cross" ["numbers", "others"] HV:=⟨fMustCross,fdMustCross,mMustCross,FMustCross.kp,bMustCross,ok_cross FMustCross T⟩
  have pSb:Pm l.prog w K mg base CX0 1 "square_back" ["size", "numbers"] spSB:=⟨fSquareBack,fdSquareBack,mSquareBack,FSquareBack.kp,bSquareBack,ok_sb FSquareBack T⟩
  have pBk:Pm l.prog w K mg base CX0 5 "squares_back" ["M"] Ky:=⟨fSquaresBack,fdSquaresBack,mSquaresBack,FSquaresBack.kp,bSquaresBack,ok_back FSquaresBack T pR0 pNc pCr pSb⟩
  have pRo:Pm l.prog w K mg base CX0 1 "_law_row" ["_law_xs", "_law_many"] (LK K):=⟨fLRow,fdLRow,mLRow,FLRow.kp,bLRow,ok_row FLRow T⟩
  have pX:Pm l.prog w K mg base CX0 1 "marks_of" ["points", "block"] HG:=⟨fMarksOf,fdMarksOf,mMarksOf,FMarksOf.kp,bMarksOf,ok_marks FMarksOf T⟩
  have pMb:Pm l.prog w K mg base CX0 2 "marked_blocks" ["M"] FZ:=⟨fMarkedBlocks,fdMarkedBlocks,mMarkedBlocks,FMarkedBlocks.kp,bMarkedBlocks,ok_marked FMarkedBlocks T pX⟩
  have pRw:Pm l.prog w K mg base CX0 1 "rows_with" ["rows", "point"] DN:=⟨fRowsWith,fdRowsWith,mRowsWith,FRowsWith.kp,bRowsWith,ok_rowswith FRowsWith T⟩
  have pTo:Pm l.prog w K mg base CX0 1 "told_of" ["cases", "counts"] Kb:=⟨fToldOf,fdToldOf,mToldOf,FToldOf.kp,bToldOf,ok_told FToldOf T⟩
  have pPa:Pm l.prog w K mg base CX0 3 "pairs_told" ["M"] HQ:=⟨fPairsTold,fdPairsTold,mPairsTold,FPairsTold.kp,bPairsTold,ok_pairs FPairsTold T pMb pRw pTo⟩
  have pNb:Pm l.prog w K mg base CX0 1 "numbers_of_blocks_with" ["M", "point"] LQ:=⟨fNumbersOfBlocksWith,fdNumbersOfBlocksWith,mNumbersOfBlocksWith,FNumbersOfBlocksWith.kp,bNumbersOfBlocksWith,ok_nbw FNumbersOfBlocksWith T⟩
  have pFu:Pm l.prog w K mg base CX0 1 "first_uneven" ["rows"] spFU:=⟨fFirstUneven,fdFirstUneven,mFirstUneven,FFirstUneven.kp,bFirstUneven,ok_fu FFirstUneven T⟩
  have pPt:Pm l.prog w K mg base CX0 2 "plane_told" ["M"] spPT:=⟨fPlaneTold,fdPlaneTold,mPlaneTold,FPlaneTold.kp,bPlaneTold,ok_pt FPlaneTold T pFu pNb⟩
  have pFt:Pm l.prog w K mg base CX0 1 "first_twice" ["rows"] (λvs H Q E=>Gh vs H Q E\/Gi vs H Q E):=⟨fFirstTwice,fdFirstTwice,mFirstTwice,FFirstTwice.kp,bFirstTwice,(ok_firstT FFirstTwice T).or (ok_firstL FFirstTwice T)⟩
  have pCo:Pm l.prog w K mg base CX0 1 "column_of" ["rows", "c"] LU:=⟨fColumnOf,fdColumnOf,mColumnOf,FColumnOf.kp,bColumnOf,ok_col FColumnOf T⟩
  have pSt:Pm l.prog w K mg base CX0 2 "square_told" ["rows"] LV:=⟨fSquareTold,fdSquareTold,mSquareTold,FSquareTold.kp,bSquareTold,ok_sqt FSquareTold T pFt pCo⟩
  have pOv:Pm l.prog w K mg base CX0 1 "over_told" ["one", "other"] KA:=⟨fOverTold,fdOverTold,mOverTold,FOverTold.kp,bOverTold,ok_over FOverTold T⟩
  have pSR:Pm l.prog w K mg base CX0 3 "_law_squares_right" ["_law_squares", "_law_size"] spSR:=⟨fLSquaresRight,fdLSquaresRight,mLSquaresRight,FLSquaresRight.kp,bLSquaresRight,ok_sr FLSquaresRight T pSt pOv⟩
  have pS1:Pm l.prog w K mg base CX0 5 "sloped_row" ["field", "start"] (LW C):=⟨fSlopedRow,fdSlopedRow,mSlopedRow,FSlopedRow.kp,bSlopedRow,ok_slR FSlopedRow T Zc.Z pSz pPl⟩
  have pS2:Pm l.prog w K mg base CX0 6 "sloped_square" ["field", "slope"] (LX C):=⟨fSlopedSquare,fdSlopedSquare,mSlopedSquare,FSlopedSquare.kp,bSlopedSquare,ok_slQ FSlopedSquare T Zc.Z pSz pTi pS1⟩
  have pS3:Pm l.prog w K mg base CX0 7 "squares_of" ["field"] (LY C):=⟨fSquaresOf,fdSquaresOf,mSquaresOf,FSquaresOf.kp,bSquaresOf,ok_slS FSquaresOf T Zc.Z pSz pS2⟩
  have pLf:Pm l.prog w K mg base CX0 1 "_law_field" ["_law_x"] HZ:=⟨fLField,fdLField,mLField,FLField.kp,bLField,ok_field FLField⟩
  have pLc:Pm l.prog w K mg base CX0 1 "_law_class" ["_law_plane", "_law_b", "_law_point", "_law_order"] Ib:=⟨fLClass,fdLClass,mLClass,FLClass.kp,bLClass,ok_class FLClass T⟩
  have pLo:Pm l.prog w K mg base CX0 2 "_law_off" ["_law_plane", "_law_b", "_law_orders"] LZ:=⟨fLOff,fdLOff,mLOff,FLOff.kp,bLOff,ok_off FLOff T pLc⟩
  have pCe:Pm l.prog w K mg base CX0 1 "_law_cells" ["_law_layout", "_law_size"] Ia:=⟨fLCells,fdLCells,mLCells,FLCells.kp,bLCells,ok_cells FLCells T⟩
  have pCl:Pm l.prog w K mg base CX0 1 "_law_closed" ["_law_layout", "_law_size"] Gk:=⟨fLClosed,fdLClosed,mLClosed,FLClosed.kp,bLClosed,ok_closed FLClosed T⟩
  exact ok_law FLaw T Zc.Z pC pN pLf pMk pSz pPO pRo pLo pBk pSR pCe pNe pS3 pPa pPt pCl
end E1
open PySem PySem.W PyProof.Rows
set_option maxRecDepth 100000 in
set_option maxHeartbeats 0 in
theorem PySem.Challenge.cw_evenmeet_k34_whole_planes_and_squares_holds : PySem.Challenge.rw_evenmeet_k34_whole_planes_and_squares.Holds := by
 w_on; o_law; k_head; (case hw=>w_witness2)
 k_fill
 refine E1.walk (l:=Jc7) (k:=12) ⟨rfl,by decide,by decide,rfl⟩ rfl rfl (λw h Y=>PySem.W.kIn_of Y) ?F
 case F=>
  intro w mg fa h KX G hmg
  have N:Ru (L2.KOf KX) Qi "isinstance"=some none/\Ru (L2.KOf KX) Qi "int"=some none/\Ru (L2.KOf KX) Qi "bool"=some none/\Ru (L2.KOf KX) Qi "abs"=some none/\Ru (L2.KOf KX) Qi "len"=some none/\Ru (L2.KOf KX) Qi "range"=some none/\Ru (L2.KOf KX) Qi "tuple"=some none/\Ru (L2.KOf KX) Qi "list"=some none/\Ru (L2.KOf KX) Qi "sorted"=some none/\Ru (L2.KOf KX) Qi "all"=some none/\Ru (L2.KOf KX) Qi "set"=some none/\Ru (L2.KOf KX) Qi "zip"=some none/\Ru (L2.KOf KX) Qi "enumerate"=some none/\Ru (L2.KOf KX) Qi "any"=some none/\Ru (L2.KOf KX) Qi "max"=some none/\Ru (L2.KOf KX) Qi "min"=some none/\Ru (L2.KOf KX) Qi "str"=some none/\Ru (L2.KOf KX) Qi "sum"=some none:=by
   dsimp only[L2.KOf]
   refine' ⟨?z0,?z1,?z2,?z3,?z4,?z5,?z6,?z7,?z8,?z9,?z10,?z11,?z12,?z13,?z14,?z15,?z16,?z17⟩
   (case z0=>k_is)
   (case z1=>k_is)
   (case z2=>k_is)
   (case z3=>k_is)
   (case z4=>k_is)
   (case z5=>k_is)
   (case z6=>k_is)
   (case z7=>k_is)
   (case z8=>k_is)
   (case z9=>k_is)
   (case z10=>k_is)
   (case z11=>k_is)
   (case z12=>k_is)
   (case z13=>k_is)
   (case z14=>k_is)
   (case z15=>k_is)
   (case z16=>k_is)
   (case z17=>k_is)
  have CMostNumbers:∃ t,Ru (L2.KOf KX) Qi "MOST_NUMBERS"=some (some (.int 32 t)):=by
   dsimp only[L2.KOf]
   refine' E1.cint_mk ?a
   (case a=>k_is)
  have AWhole:E1.At (L2.KOf KX) "is_whole" E1.IG:=by
   dsimp only[L2.KOf]
   refine' E1.AL ?a ?l ?c ?k
   (case a=>k_is); (case l=>k_is); (case c=>k_is); (case k=>k_is)
  have AIsBelow:E1.At (L2.KOf KX) "is_below" E1.Eg:=by
   dsimp only[L2.KOf]
   refine' E1.AL ?a ?l ?c ?k
   (case a=>k_is); (case l=>k_is); (case c=>k_is); (case k=>k_is)
  have AMust:E1.At (L2.KOf KX) "must_be_whole" E1.JY:=by
   dsimp only[L2.KOf]
   refine' E1.AL ?a ?l ?c ?k
   (case a=>k_is); (case l=>k_is); (case c=>k_is); (case k=>k_is)
  have AFrom:E1.At (L2.KOf KX) "must_be_from" E1.Jm:=by
   dsimp only[L2.KOf]
   refine' E1.AL ?a ?l ?c ?k
   (case a=>k_is); (case l=>k_is); (case c=>k_is); (case k=>k_is)
  have APrimes:E1.At (L2.KOf KX) "primes_of" E1.FU:=by
   dsimp only[L2.KOf]
   refine' E1.AL ?a ?l ?c ?k
   (case a=>k_is); (case l=>k_is); (case c=>k_is); (case k=>k_is)
  have AIsPrime:E1.At (L2.KOf KX) "is_prime" E1.Eh:=by
   dsimp only[L2.KOf]
   refine' E1.AL ?a ?l ?c ?k
   (case a=>k_is); (case l=>k_is); (case c=>k_is); (case k=>k_is)
  have ARoot:E1.At (L2.KOf KX) "root_of" E1.KP:=by
   dsimp only[L2.KOf]
   refine' E1.AL ?a ?l ?c ?k
   (case a=>k_is); (case l=>k_is); (case c=>k_is); (case k=>k_is)
  have ASquareTold:E1.At (L2.KOf KX) "square_told" E1.BR:=by
   dsimp only[L2.KOf]
   refine' E1.AL ?a ?l ?c ?k
   (case a=>k_is); (case l=>k_is); (case c=>k_is); (case k=>k_is)
  have AColumnOf:E1.At (L2.KOf KX) "column_of" E1.CL:=by
   dsimp only[L2.KOf]
   refine' E1.AL ?a ?l ?c ?k
   (case a=>k_is); (case l=>k_is); (case c=>k_is); (case k=>k_is)
  have AFirstTwice:E1.At (L2.KOf KX) "first_twice" E1.BS:=by
   dsimp only[L2.KOf]
   refine' E1.AL ?a ?l ?c ?k
   (case a=>k_is); (case l=>k_is); (case c=>k_is); (case k=>k_is)
  have AOverTold:E1.At (L2.KOf KX) "over_told" E1.Du:=by
   dsimp only[L2.KOf]
   refine' E1.AL ?a ?l ?c ?k
   (case a=>k_is); (case l=>k_is); (case c=>k_is); (case k=>k_is)
  have ASquaresOf:E1.At (L2.KOf KX) "squares_of" E1.Cf:=by
   dsimp only[L2.KOf]
   refine' E1.AL ?a ?l ?c ?k
   (case a=>k_is); (case l=>k_is); (case c=>k_is); (case k=>k_is)
  have ASlopedSquare:E1.At (L2.KOf KX) "sloped_square" E1.Br:=by
   dsimp only[L2.KOf]
   refine' E1.AL ?a ?l ?c ?k
   (case a=>k_is); (case l=>k_is); (case c=>k_is); (case k=>k_is)
  have ASlopedRow:E1.At (L2.KOf KX) "sloped_row" E1.Ch:=by
   dsimp only[L2.KOf]
   refine' E1.AL ?a ?l ?c ?k
   (case a=>k_is); (case l=>k_is); (case c=>k_is); (case k=>k_is)
  have ANetOf:E1.At (L2.KOf KX) "net_of" E1.ES:=by
   dsimp only[L2.KOf]
   refine' E1.AL ?a ?l ?c ?k
   (case a=>k_is); (case l=>k_is); (case c=>k_is); (case k=>k_is)
  have ABlocksByNumber:E1.At (L2.KOf KX) "blocks_by_number" E1.Bf:=by
   dsimp only[L2.KOf]
   refine' E1.AL ?a ?l ?c ?k
   (case a=>k_is); (case l=>k_is); (case c=>k_is); (case k=>k_is)
  have ACellsWith:E1.At (L2.KOf KX) "cells_with" E1.Ci:=by
   dsimp only[L2.KOf]
   refine' E1.AL ?a ?l ?c ?k
   (case a=>k_is); (case l=>k_is); (case c=>k_is); (case k=>k_is)
  have ASquaresBack:E1.At (L2.KOf KX) "squares_back" E1.Bp:=by
   dsimp only[L2.KOf]
   refine' E1.AL ?a ?l ?c ?k
   (case a=>k_is); (case l=>k_is); (case c=>k_is); (case k=>k_is)
  have ANumbersByClass:E1.At (L2.KOf KX) "numbers_by_class" E1.Bs:=by
   dsimp only[L2.KOf]
   refine' E1.AL ?a ?l ?c ?k
   (case a=>k_is); (case l=>k_is); (case c=>k_is); (case k=>k_is)
  have AMustCross:E1.At (L2.KOf KX) "must_cross" E1.Cj:=by
   dsimp only[L2.KOf]
   refine' E1.AL ?a ?l ?c ?k
   (case a=>k_is); (case l=>k_is); (case c=>k_is); (case k=>k_is)
  have ASquareBack:E1.At (L2.KOf KX) "square_back" E1.BT:=by
   dsimp only[L2.KOf]
   refine' E1.AL ?a ?l ?c ?k
   (case a=>k_is); (case l=>k_is); (case c=>k_is); (case k=>k_is)
  have APairsTold:E1.At (L2.KOf KX) "pairs_told" E1.CZ:=by
   dsimp only[L2.KOf]
   refine' E1.AL ?a ?l ?c ?k
   (case a=>k_is); (case l=>k_is); (case c=>k_is); (case k=>k_is)
  have AToldOf:E1.At (L2.KOf KX) "told_of" E1.FV:=by
   dsimp only[L2.KOf]
   refine' E1.AL ?a ?l ?c ?k
   (case a=>k_is); (case l=>k_is); (case c=>k_is); (case k=>k_is)
  have AMarkedBlocks:E1.At (L2.KOf KX) "marked_blocks" E1.Bt:=by
   dsimp only[L2.KOf]
   refine' E1.AL ?a ?l ?c ?k
   (case a=>k_is); (case l=>k_is); (case c=>k_is); (case k=>k_is)
  have AMarksOf:E1.At (L2.KOf KX) "marks_of" E1.Ei:=by
   dsimp only[L2.KOf]
   refine' E1.AL ?a ?l ?c ?k
   (case a=>k_is); (case l=>k_is); (case c=>k_is); (case k=>k_is)
  have ARowsWith:E1.At (L2.KOf KX) "rows_with" E1.CM:=by
   dsimp only[L2.KOf]
   refine' E1.AL ?a ?l ?c ?k
   (case a=>k_is); (case l=>k_is); (case c=>k_is); (case k=>k_is)
  have ARowTimes:E1.At (L2.KOf KX) "row_times" E1.CN:=by
   dsimp only[L2.KOf]
   refine' E1.AL ?a ?l ?c ?k
   (case a=>k_is); (case l=>k_is); (case c=>k_is); (case k=>k_is)
  have ARowRest:E1.At (L2.KOf KX) "row_rest" E1.Ej:=by
   dsimp only[L2.KOf]
   refine' E1.AL ?a ?l ?c ?k
   (case a=>k_is); (case l=>k_is); (case c=>k_is); (case k=>k_is)
  have ARowFactor:E1.At (L2.KOf KX) "row_factor" E1.Da:=by
   dsimp only[L2.KOf]
   refine' E1.AL ?a ?l ?c ?k
   (case a=>k_is); (case l=>k_is); (case c=>k_is); (case k=>k_is)
  have ATrimmed:E1.At (L2.KOf KX) "trimmed" E1.Ek:=by
   dsimp only[L2.KOf]
   refine' E1.AL ?a ?l ?c ?k
   (case a=>k_is); (case l=>k_is); (case c=>k_is); (case k=>k_is)
  have ADigitsOf:E1.At (L2.KOf KX) "digits_of" E1.CO:=by
   dsimp only[L2.KOf]
   refine' E1.AL ?a ?l ?c ?k
   (case a=>k_is); (case l=>k_is); (case c=>k_is); (case k=>k_is)
  have ANumberOf:E1.At (L2.KOf KX) "number_of" E1.Dw:=by
   dsimp only[L2.KOf]
   refine' E1.AL ?a ?l ?c ?k
   (case a=>k_is); (case l=>k_is); (case c=>k_is); (case k=>k_is)
  have AMustBeRow:E1.At (L2.KOf KX) "must_be_row" E1.Ck:=by
   dsimp only[L2.KOf]
   refine' E1.AL ?a ?l ?c ?k
   (case a=>k_is); (case l=>k_is); (case c=>k_is); (case k=>k_is)
  have ASizeWithin:E1.At (L2.KOf KX) "size_within" E1.Ct:=by
   dsimp only[L2.KOf]
   refine' E1.AL ?a ?l ?c ?k
   (case a=>k_is); (case l=>k_is); (case c=>k_is); (case k=>k_is)
  have AMustBePrime:E1.At (L2.KOf KX) "must_be_prime" E1.BY:=by
   dsimp only[L2.KOf]
   refine' E1.AL ?a ?l ?c ?k
   (case a=>k_is); (case l=>k_is); (case c=>k_is); (case k=>k_is)
  have AMustBeNoProduct:E1.At (L2.KOf KX) "must_be_no_product" E1.Bl:=by
   dsimp only[L2.KOf]
   refine' E1.AL ?a ?l ?c ?k
   (case a=>k_is); (case l=>k_is); (case c=>k_is); (case k=>k_is)
  have AJoined:E1.At (L2.KOf KX) "joined" E1.FW:=by
   dsimp only[L2.KOf]
   refine' E1.AL ?a ?l ?c ?k
   (case a=>k_is); (case l=>k_is); (case c=>k_is); (case k=>k_is)
  have ANumbersOfBlocksWith:E1.At (L2.KOf KX) "numbers_of_blocks_with" E1.AS:=by
   dsimp only[L2.KOf]
   refine' E1.AL ?a ?l ?c ?k
   (case a=>k_is); (case l=>k_is); (case c=>k_is); (case k=>k_is)
  have APlaneOf:E1.At (L2.KOf KX) "plane_of" E1.Dx:=by
   dsimp only[L2.KOf]
   refine' E1.AL ?a ?l ?c ?k
   (case a=>k_is); (case l=>k_is); (case c=>k_is); (case k=>k_is)
  have ATriplesOf:E1.At (L2.KOf KX) "triples_of" E1.Db:=by
   dsimp only[L2.KOf]
   refine' E1.AL ?a ?l ?c ?k
   (case a=>k_is); (case l=>k_is); (case c=>k_is); (case k=>k_is)
  have APointsAcross:E1.At (L2.KOf KX) "points_across" E1.Bu:=by
   dsimp only[L2.KOf]
   refine' E1.AL ?a ?l ?c ?k
   (case a=>k_is); (case l=>k_is); (case c=>k_is); (case k=>k_is)
  have AAddedProducts:E1.At (L2.KOf KX) "added_products" E1.BC:=by
   dsimp only[L2.KOf]
   refine' E1.AL ?a ?l ?c ?k
   (case a=>k_is); (case l=>k_is); (case c=>k_is); (case k=>k_is)
  have APlaneTold:E1.At (L2.KOf KX) "plane_told" E1.BM:=by
   dsimp only[L2.KOf]
   refine' E1.AL ?a ?l ?c ?k
   (case a=>k_is); (case l=>k_is); (case c=>k_is); (case k=>k_is)
  have AFirstUneven:E1.At (L2.KOf KX) "first_uneven" E1.BZ:=by
   dsimp only[L2.KOf]
   refine' E1.AL ?a ?l ?c ?k
   (case a=>k_is); (case l=>k_is); (case c=>k_is); (case k=>k_is)
  have ACell:E1.At (L2.KOf KX) "_law_cell" E1.KQ:=by
   dsimp only[L2.KOf]
   refine' E1.AL ?a ?l ?c ?k
   (case a=>k_is); (case l=>k_is); (case c=>k_is); (case k=>k_is)
  have ALNumbers:E1.At (L2.KOf KX) "_law_numbers" E1.Dy:=by
   dsimp only[L2.KOf]
   refine' E1.AL ?a ?l ?c ?k
   (case a=>k_is); (case l=>k_is); (case c=>k_is); (case k=>k_is)
  have ALRow:E1.At (L2.KOf KX) "_law_row" E1.Jn:=by
   dsimp only[L2.KOf]
   refine' E1.AL ?a ?l ?c ?k
   (case a=>k_is); (case l=>k_is); (case c=>k_is); (case k=>k_is)
  have ALField:E1.At (L2.KOf KX) "_law_field" E1.FX:=by
   dsimp only[L2.KOf]
   refine' E1.AL ?a ?l ?c ?k
   (case a=>k_is); (case l=>k_is); (case c=>k_is); (case k=>k_is)
  have ALClass:E1.At (L2.KOf KX) "_law_class" E1.DL:=by
   dsimp only[L2.KOf]
   refine' E1.AL ?a ?l ?c ?k
   (case a=>k_is); (case l=>k_is); (case c=>k_is); (case k=>k_is)
  have ALOff:E1.At (L2.KOf KX) "_law_off" E1.HE:=by
   dsimp only[L2.KOf]
   refine' E1.AL ?a ?l ?c ?k
   (case a=>k_is); (case l=>k_is); (case c=>k_is); (case k=>k_is)
  have ALSquaresRight:E1.At (L2.KOf KX) "_law_squares_right" E1.Bj:=by
   dsimp only[L2.KOf]
   refine' E1.AL ?a ?l ?c ?k
   (case a=>k_is); (case l=>k_is); (case c=>k_is); (case k=>k_is)
  have ALCells:E1.At (L2.KOf KX) "_law_cells" E1.ET:=by
   dsimp only[L2.KOf]
   refine' E1.AL ?a ?l ?c ?k
   (case a=>k_is); (case l=>k_is); (case c=>k_is); (case k=>k_is)
  have ALClosed:E1.At (L2.KOf KX) "_law_closed" E1.Dz:=by
   dsimp only[L2.KOf]
   refine' E1.AL ?a ?l ?c ?k
   (case a=>k_is); (case l=>k_is); (case c=>k_is); (case k=>k_is)
  have ALaw:E1.At (L2.KOf KX) "law" E1.sLaw:=by
   dsimp only[L2.KOf]
   refine' E1.AL ?a ?l ?c ?k
   (case a=>k_is); (case l=>k_is); (case c=>k_is); (case k=>k_is)
  have Zc:∃ C:Addr,E1.FieldC (L2.KOf KX) C:=by
   dsimp only[L2.KOf]
   refine' E1.field_mk ?nC ?pg ?hd ?po ?sa ?mk ?kc ?n0 ?n1 ?n2 ?nR ?a0 ?i0 ?l0 ?c0 ?k0 ?a1 ?i1 ?l1 ?c1 ?k1 ?a2 ?i2 ?l2 ?c2 ?k2 ?a3 ?i3 ?l3 ?c3 ?k3 ?a4 ?i4 ?l4 ?c4 ?k4
   (case nC=>k_is)
   (case pg=>k_is)
   (case hd=>k_is)
   (case po=>k_is)
   (case sa=>k_is)
   (case mk=>k_is)
   (case kc=>k_is)
   (case n0=>k_is)
   (case n1=>k_is)
   (case n2=>k_is)
   (case nR=>k_is)
   (case a0=>k_is)
   (case i0=>k_is)
   (case l0=>k_is)
   (case c0=>k_is)
   (case k0=>k_is)
   (case a1=>k_is)
   (case i1=>k_is)
   (case l1=>k_is)
   (case c1=>k_is)
   (case k1=>k_is)
   (case a2=>k_is)
   (case i2=>k_is)
   (case l2=>k_is)
   (case c2=>k_is)
   (case k2=>k_is)
   (case a3=>k_is)
   (case i3=>k_is)
   (case l3=>k_is)
   (case c3=>k_is)
   (case k3=>k_is)
   (case a4=>k_is)
   (case i4=>k_is)
   (case l4=>k_is)
   (case c4=>k_is)
   (case k4=>k_is)
  exact E1.all_mk KX G hmg N Zc CMostNumbers AWhole AIsBelow AMust AFrom APrimes AIsPrime ARoot ASquareTold AColumnOf AFirstTwice AOverTold ASquaresOf ASlopedSquare ASlopedRow ANetOf ABlocksByNumber ACellsWith ASquaresBack ANumbersByClass AMustCross ASquareBack APairsTold AToldOf AMarkedBlocks AMarksOf ARowsWith ARowTimes ARowRest ARowFactor ATrimmed ADigitsOf ANumberOf AMustBeRow ASizeWithin AMustBePrime AMustBeNoProduct AJoined ANumbersOfBlocksWith APlaneOf ATriplesOf APointsAcross AAddedProducts APlaneTold AFirstUneven ACell ALNumbers ALRow ALField ALClass ALOff ALSquaresRight ALCells ALClosed ALaw
