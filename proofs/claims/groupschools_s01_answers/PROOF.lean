import PyProof.Rows.All
import Open.Tops
import PySem.Challenge.RW_groupschools_s01_answers
import KE.OsHead
import OpenK.KLine
import Wide.FinOn
import PyProof.EqAt
import PyProof.EqKinds
import PyProof.TupleCall
import KE.BitLaws
import Open.SpecLaws
import KE.KEqDict
import KE.KDictSum
import OpenK.KMore
import KE.KDictOf
import KE.KStateDown
import PyProof.Rows.SortShellAny
import KE.KDictList
import KE.KRevIter
import KE.KIntText
namespace PySem.W.Fast
def tw18345618711427604299:=0
def tw18335582637560713602:=0
def tw9947994028262158955:=0
def tw4076709836523594846:=0
def tw5709457670118508435:=0
def tw4963363759086605385:=0
def tw16506189032118510785:=0
def tw4510045175545396662:=0
def tw9750701318434732815:=0
def tw6385742666611472889:=0
def tw6562776099325002283:=0
def tw15091520298843992971:=0
def tw8022523674023728238:=0
def tw6939229412721679709:=0
def tw8362122796117527721:=0
def tw12456334291180108344:=0
def tw7501602808180597761:=0
def tw7972840903473627025:=0
def tw16425621757602349921:=0
def tw12611481412100543771:=0
def tw5593895137578771242:=0
def tw14069596534201191007:=0
def tw12312733512914237357:=0
def tw17648772903369923685:=0
def tw8224531364875056577:=0
def tw4878833961354424668:=0
def tw12621666755398157552:=0
def tw1253101208838083301:=0
def tw1764045636971914379:=0
def tw18033362433838210295:=0
def tw11206986490555595181:=0
def tw10495834496124428736:=0
def tw9156770257183857894:=0
def tw15435450573710468185:=0
def tw15283267615493537510:=0
def tw8699566875312644661:=0
def tw5028471280586609980:=0
def tw5336520067916901980:=0
def tw3523224317642843041:=0
def tw13199531480803618802:=0
def tw4214823711621494799:=0
def tw1306220639542143895:=0
def tw14976949543913333365:=0
def tw17131269894276477455:=0
def tw1791987680230681639:=0
def tw15949828504173327276:=0
def tw384061181140309375:=0
def tw15800564141840315459:=0
def tw5414808579944120806:=0
def tw18376321199547276272:=0
def tw2022933849006593960:=0
def tw17111401209102097027:=0
def tw6281204605516824714:=0
def tw17306150343355438829:=0
def tw7628368049307201927:=0
def tw8763287986527090606:=0
def tw2967756249073423653:=0
def tw4979244333336864633:=0
def tw8331224154883830250:=0
def tw8908191570963119163:=0
def tw6430196222599568694:=0
def tw9412087287817200767:=0
def tw6155450486747641570:=0
def tw2699356892019637218:=0
def tw11744541752208435626:=0
def tw1777934575178118965:=0
def tw15115132810147688625:=0
def tw4579612339105273637:=0
def tw11437946248074744510:=0
def tw13387570117680703774:=0
def tw13963741410247419388:=0
def tw1481202105461170926:=0
def tw11977996511560194117:=0
def tw2962060857859901952:=0
def tw8826079645722771606:=0
def tw13638480252544699278:=0
def tw6765385857144807048:=0
def tw18226728224196073678:=0
def tw11429791620274476192:=0
def tw7471852177976497819:=0
def tw18344792410732118060:=0
def tw3714266143110723143:=0
def tw4739496667118646034:=0
def tw9107043290356186042:=0
def tw1289107686168030398:=0
def tw8225414822213735179:=0
def tw6675472394643047431:=0
def tw8416954120879652526:=0
def tw10658839595309971054:=0
def tw3785607024006158509:=0
def tw4659106294071705866:=0
def tw2945771169142143335:=0
def tw13243235979405851401:=0
def tw17234328871645398674:=0
def tw13768901636457364146:=0
def tw6036397018799656485:=0
def tw7418765401275537355:=0
def tw4777106489390995005:=0
def tw2403584791179660276:=0
def tw9903905138835079214:=0
def tw6007619902463639860:=0
def tw13086747119617421699:=0
def tw18048322326677885639:=0
def tw347062467076174596:=0
def tw12268864233272677757:=0
def tw12149145168679577218:=0
def tw11253770210016324899:=0
def tw964778673949667196:=0
def tw4756610266885770581:=0
def tw2377140596563910100:=0
def tw4029434967557572728:=0
def tw6302952678007143504:=0
def tw9908603696829695579:=0
def tw13894374865364660331:=0
def tw1890256400235326724:=0
def tw2377233687078055005:=0
def tw830781894479441649:=0
def tw11294726057617156704:=0
def tw4110289704402922519:=0
def tw4228324582153113099:=0
def tw12500755797802927989:=0
def tw2151077205540421655:=0
def tw2068816900776764312:=0
def tw5815412286525654320:=0
def tw7988358595755169562:=0
def tw14581094078528455342:=0
def tw14256342636355728123:=0
def tw10057453622521328396:=0
def tw3287476445536343476:=0
def tw16043985463991236519:=0
def tw7998251128396978515:=0
def tw15970509571164413952:=0
def tw10880829784991440453:=0
def tw12146519021027390956:=0
def tw17693930077368781610:=0
def tw3138629210095217231:=0
def tw919380399027262273:=0
def tw6652963966150796981:=0
def tw17136588386051786874:=0
def tw7220449757593752127:=0
def tw444713991474001802:=0
def tw16588096717854929789:=0
def tw13091429257492068426:=0
def tw4900188043279520345:=0
def tw14258763095661657850:=0
def tw13327922941016963991:=0
def tw1370001939568323975:=0
def tw17128850169256841841:=0
def tw7268967156193637296:=0
def tw10382459886081789303:=0
def tw12682346460501760275:=0
def tw7386244174595450009:=0
def tw17006027319947130184:=0
def tw15704513068616735377:=0
def tw4916796347178071473:=0
def tw2235535547433637577:=0
def tw8269759027714022820:=0
def tw9375218070455933598:=0
def tw16869623228376709729:=0
def tw886644941114069179:=0
def tw6780213951498485093:=0
def tw7222310069500277803:=0
def tw14618262077961990993:=0
def tw11272511827646687969:=0
def tw16372338904067668905:=0
def tw11275111838762953671:=0
def tw4355639616695477042:=0
def tw16357104753938858612:=0
def tw2315955390102095992:=0
def tw2783069339316483066:=0
def tw17716188045459043200:=0
def tw1924238163116973497:=0
def tw5488627988437898193:=0
def tw7902510490726636594:=0
def tw5507235172905276290:=0
def tw2810289299984545260:=0
def tw7482322949194246905:=0
def tw958981417090435544:=0
def tw16512019444555276570:=0
def tw5272667424560219976:=0
def tw9934532820446622023:=0
def tw13105961210032653763:=0
def tw2295116626637930762:=0
def tw16246600705621630626:=0
def tw2858158978244487985:=0
def tw8365027397000456272:=0
def tw157346054526130739:=0
def tw3695762642395403091:=0
def tw6806307384033882626:=0
def tw7751223689127610632:=0
def tw10296683719350507635:=0
def tw7654492796746386615:=0
def tw5062878314960625064:=0
def tw2044717977168772610:=0
def tw2770443502591108724:=0
def tw15814869514167426074:=0
def tw12422654694051321678:=0
def tw2656063365393132827:=0
end PySem.W.Fast
section
set_option Elab.async false
set_option linter.all false
set_option maxRecDepth 100000
set_option maxHeartbeats 0
open PySem PySem.W PyProof.Rows
namespace GS
open_shared gsTop for PySem.Challenge.pw_groupschools_s01_answers leaving 0
noncomputable abbrev PW:Program:=PySem.Challenge.pw_groupschools_s01_answers
noncomputable abbrev cE:Code:=Code.body (behindTheImports PW) GS.gsTop.env_1
noncomputable abbrev B0:List Frame:=[topFrame ⟨0,0,0,0⟩]
noncomputable abbrev S0 (w:World) (os:OsState):Shared:=⟨boot_heap w.params,Array.mk [],boot_drawn,boot_toks,os⟩
noncomputable abbrev Sb (w:World) (os:OsState):Shared:=(⟨GS.gsTop.tree_4 w.params,15,{},Array.mk [],{},187,os⟩:SharedT).abs
noncomputable abbrev H1 (P:Params):Heap:=absHeap (GS.gsTop.tree_853 P) 818 {}
noncomputable abbrev Sf (w:World) (os:OsState):Shared:=(⟨GS.gsTop.tree_853 w.params,818,{},Array.mk [],{},1474,os⟩:SharedT).abs
theorem top_pre (w:World) (os:OsState):topGo treeTable PW w 11 (some (Value.ref 6)) 12 (S0 w os) (topStub PW)=some (Sb w os,⟨denote treeTable cE,cE,⟨0,0,0,0⟩,B0⟩):=by kernel_rfl
theorem top_blk (w:World) (os:OsState):segRun treeTable PW w 11 (some (Value.ref 6)) 1 1 (Sb w os) (blockOf (behindTheImports PW) GS.gsTop.env_1 cE ⟨0,0,0,0⟩ B0)=some (Flow.next,Sb w os,cE,⟨0,0,0,0⟩):=by kernel_rfl
theorem top_fin (w:World) (os:OsState):topRun treeTable PW w 11 (some (Value.ref 6)) 2 (Sf w os) (restOf [] GS.gsTop.env_1 cE ⟨751,0,759,16⟩ B0)=some (Sf w os):=by kernel_rfl
theorem top_run (w:World) (os:OsState):topRun treeTable PW w 11 (some (Value.ref 6)) 5246 (S0 w os) (topStub PW)=some (Sf w os):=
 go_top (n:=12) (N:=5234) (top_pre w os) (piece_block (n:=1) (N:=5233) (top_blk w os) (GS.gsTop.chain PW (behindTheImports PW) w os [] 2 _ (top_fin w os)))
theorem top_open (w:World):(fencedOpening treeTable PW w 10000).map (λs=>(s.heap,s.gens,s.drawn,s.toks))=some (boot_heap w.params,Array.mk [],boot_drawn,boot_toks):=
 boot_open (by kernel_rfl) (by decide) (λs=>by kernel_rfl) w
theorem top_size (w:World):((boot_heap w.params).isNs mainGlobals&&(Array.mk []:Array GenState).size==0,(boot_heap w.params).objs.size,(boot_heap w.params).nsMap mainGlobals "__annotations__")=(true,11,some (Value.ref 6)):=by kernel_rfl
noncomputable abbrev qv:Program:={PW with main:={PW.main with body:=[PW.main.body.getD 174 (.Pass ⟨0,0,0,0⟩)]}}
noncomputable abbrev lse:List Str:=PW.boundNames.filter λn=>n !="answers"
noncomputable abbrev Xt0:Shared->Bool:=λs=>xlAt qv [] s&&recOk [] s
theorem look2 (w:World) (os:OsState):seen ((recsOf qv).map (·.name)) (ownsOf qv) [] {Sf w os with gens:= #[]}=expectedOf qv:=by kernel_rfl
theorem look3 (w:World) (os:OsState):(Sf w os).heap.bltView=bltViewBooted:=by kernel_rfl
theorem look5 (w:World) (os:OsState):tabsOk qv (Sf w os)=true:=by kernel_rfl
theorem look6 (w:World) (os:OsState):pinSeenD qv (drecsOf qv) (Sf w os)=pinGoodD (drecsOf qv):=by kernel_rfl
theorem look7 (w:World) (os:OsState):plainSeenE qv (looseW qv lse) (Sf w os)=plainGoodE qv (looseW qv lse):=by kernel_rfl
theorem look8 (w:World) (os:OsState):plainSeenD qv lse (Sf w os)=plainGoodD qv lse:=by kernel_rfl
theorem look9 (w:World) (os:OsState):wideSeen qv (Sf w os)=wideGood qv:=by kernel_rfl
theorem look10 (w:World) (os:OsState):clsSeenW qv lse (Sf w os)=clsGoodW qv lse:=by kernel_rfl
theorem l4b (w:World) (os:OsState):(Sf w os).heap.accountedOkI (importedModules PW.main.body)=true:=by kernel_rfl
theorem l4c (w:World) (os:OsState):(Sf w os).heap.isNs mainGlobals=true:=by kernel_rfl
theorem l4d (w:World) (os:OsState):(Sf w os).heap.isNs builtinsNs=true:=by kernel_rfl
theorem l4e (w:World) (os:OsState):tablesOk qv (Sf w os).heap=true:=by kernel_rfl
theorem l4f (w:World) (os:OsState):Xt0 (Sf w os)=true:=by kernel_rfl
theorem l1a (w:World):staticsOk (importedModules PW.main.body) (boot_heap w.params) (H1 w.params)=true:=by kernel_rfl
theorem l1c (w:World) (os:OsState):gensDone (Sf w os)=true:=by kernel_rfl
theorem l1d (w:World):laidKept (boot_heap w.params) (H1 w.params)=true:=by kernel_rfl
theorem l1b (w:World):namesBound PW (H1 w.params)=true:=by kernel_rfl
theorem l4a (w:World) (os:OsState):(Sf w os).heap.keysOk (looseW qv lse) ((recsOf qv).map (·.name)) ((litsOf qv).map (·.1)) ((clssOf qv (looseW qv lse)).map (·.name))=true:=by kernel_rfl
theorem pr2 {α β:Type} {a a':α} {b b':β} (h:a=a') (k:b=b'):(a,b)=(a',b'):=by rw[h,k]
theorem an2 {a b:Bool} (h:a=true) (k:b=true):(a&&b)=true:=by rw[h,k];rfl
noncomputable abbrev RW:OpenSpec:=PySem.Challenge.rw_groupschools_s01_answers
theorem v1:sreFenced PW.main=true:=by kernel_rfl
theorem v2:((moduleNames PW.main.body).isEmpty||lookedIntoSs (moduleNames PW.main.body) PW.main.body)=true:=by kernel_rfl
theorem v3:namesResolve PW=true:=by kernel_rfl
theorem v4:PW.boundNames.all (λn=> !worldNames.contains n)=true:=by kernel_rfl
theorem v5:noRoadLSs {strict:= !(importedModules PW.main.body).all cThrough.contains,foot:=none,bare:=(["vars","dir","locals"]:List Str).filter (readsOut PW PW.main.body)} PW.main.body=true:=by kernel_rfl
theorem v6:namesMeet PW PW.main.body (λ_ n=>attrL n)=true:=by kernel_rfl
theorem v7:PW.boundNames.contains RW.name=true:=by kernel_rfl
theorem v8:(!startupNames.contains RW.name)=true:=by kernel_rfl
theorem v9:specDef PW RW.name RW.args.length=true:=by kernel_rfl
theorem v10:RW.args.all Codec.fits=true:=by kernel_rfl
theorem v11:RW.ret.ok=true:=by kernel_rfl
theorem lopen:looksOpen PW=true:=an2 (an2 (an2 (an2 (an2 v1 v2) v3) v4) v5) v6
theorem wsaid:RW.wellSaid=true:=an2 (an2 (an2 (an2 (an2 lopen v7) v8) v9) v10) v11
theorem opn:(chainsOk qv&&opensWell PW)=true:=an2 (by kernel_rfl) (by kernel_rfl)
theorem br:RW.prog.bare:=⟨rfl,rfl,rfl,rfl,rfl,by decide+kernel⟩
theorem wit:∃args,RW.pre args=true/\WData.layableAll args=true:=⟨[.list [.int 12,.int 1]],by decide+kernel,by decide+kernel⟩
end GS
end
open PySem.Value renaming isInt->ZK,isStrOf->ZL,int->xT,str->N5,isInt_shape->ZM,none->Ar,ref->fQ,type->qb
open Sum renaming inl->bI,inr->uV
open PySem.SeqAt.EqAt renaming int_str->ZP,str_int->ZQ,same->agU,none_bool->agV,none_int->agW,none_str->agX,bool_none->agY,bool_bool->agZ,bool_int->ag0,bool_str->ag1,int_none->ag2,int_bool->ag3,int_int->ZR,str_none->ag4,str_bool->ag5,str_str->ag6
open PySem.Paired renaming length->uW,snoc->ZS
open Option.some renaming inj->jV,injEq->FP
open PySem.W renaming instObj->sZ,Frag->aW,lookIn->FQ,plainGet->FT,hasDictIn->N6,findIn->pC,handedIn->ZV,plainGet_of->N7,isFn->FW,plainOver->ZW,takerIn->N8,makesIn->N_,emptyDict->tD,keepIn->qd,callWith_K->Oa,callWith_K0->Ob,methodCall_KW->ZX,cellsFrom_some->Z0,fnOf->tE,codeIn->Av,WRecords->Z1,length_le_weightAllW->Z2,WalkOS->Z4,nsIn->xU,mg_of->Aw,boot_heap->Ax
open PySem renaming Within->Oc,wpAny_mono->kW,wpAny_Name->Od,wpAny_loadName_local->Z5,wpAny_loadName_cell->Z6,wpAny_Compare1->Z7,wpAny_isTrue_Compare1->Z8,wpAny_truthy_bool->tG,wpAny_execs_nil->FZ,wpAny_execs_cons->Z9,wpAny_passesOwn->uY,wpAny_pure->bJ,wpAny_bind->aP,intBits_le_64->Z_,sizeLine_eq->Ay,wpAny_call->Oe,codeAny_mono->Gd,wpAny_Call_Name_kw->tH,mem_of_lookup->kY,evalPart_none->aac,call_meets->Ge,nums_intItems->aad,pushCells_keeps->Gf,wpAny_newObj_type->Az,tupleKind_room_in1->A_,call_meetsIn->Ba,wpAny_specialOf->Og,wpAny_Dict_empty->aae,wpAny_Call_method->aaf,wpAny_pyIter_slot->aag,wpAny_call_entry->Bb,wpAny_dictEntries->Gg,wpAny_dictEpoch->Oh,wpAny_attempt->aah,wpAny_callSpecial?_slot->aai,wpAny_typeNameOfWhole_keyiter->Gh,wpAny_typeNameOf_keyiter->Gi,wpAny_fieldsOf->aaj,wpAny_isOneOf_keyiter->aak,wpAny_setField->aal,wpAny_holding->uZ,wpAny_of_eq->Oi,wpAny_isInstance->Gj,size_of_entries->aam,call->aan,typeLookup_type->aao,builtinLookup_eq_fast->aap,wpAny_ite_split->jz,isSubtype_type->Oj,plainId_quiet->Bc,wpAny_seqItems->Gk,wpAny_updateSeq->Gm,wpAny_letGo->Bd,wpAny_setEntries_of->Ol,wpAny_setState_of->Om,wpAny_askSetting->Oo,wpAny_setEpoch_of->aaq,codeAny_builtin->Oq,wpAny_tryCatch->Bf,boot_len->dF
open PySem.Heap renaming lt_size->dR,SameBut->pD,get?_push_of_some->fJ,get?_push_size->iC,size_push->nY,get?_update_other->u0,get?_update_self->Gn
open Nat renaming lt_of_lt_of_le->jW,lt_irrefl->lQ,ne_of_lt->fZ,le_trans->cI,le_of_lt->Gp,ne_of_gt->Ot,le_refl->bW,zero_le->fU,le_of_eq->Gq,lt_succ_self->Ou,le_succ->qe,le_of_succ_le->Gs,lt_succ_of_lt->Gu,lt_trans->rA,lt_of_le_of_lt->gD,add_le_add_left->aar,lt_of_not_le->Gv,mul_comm->aas,mul_le_mul_right->Gw,pow_pos->aat,le_mul_of_pos_right->aau,lt_trichotomy->Ov,add_mul->Ow,length_repr_le_iff->aav,toList_repr->aaw,succ_pos->aax,sub_self->aay,min_eq_left->aaz,min_eq_right->aaA,le_succ_of_le->Ox,lt_of_le_of_ne->aaB
open List renaming range->Oz,mem_filter->cC,filterMap_cons->OD,mem_cons_self->cU,mem_cons_of_mem->cO,mem_cons->cD,mem_append->dO,mem_append_left->qg,getElem?_eq_some_iff->jX,getElem_inj->Bg,getElem?_set_self->xV,getElem?_set_ne->Gx,mem_filterMap->aaC,mem_append_right->pF,length_cons->bR,lookup->tK,map_cons->bT,length_map->aJ,append_nil->gH,nodup_cons->je,of_mem_zip->OJ,length->iR,length_take->fD,getElem?_append_right->O1,getElem?_map->dM,take_sublist->aaD,mem_of_getElem?->gq,length_append->cV,length_drop->rB,size_toArray->gF,all_cons->Gy,any_cons->u5,eraseIdxIfInBounds_toArray->aaE,map_nil->xW,take_of_length_le->qj,forIn_nil->aaF,lookup_cons->u6,length_set->aaG,getElem?_eq_none->aaH,mem_map->aQ,all_eq_true->m5,find?_cons->kZ,cons_append->O2,length_nil->jY,filter_cons->pG,length_filter_le->fG,nodup_nil->k_,getElem?_cons_zero->O4,getElem?_cons_succ->aaI,getElem?_eq_getElem->ql,toList_toArray->aaJ,map_congr_left->gJ,map_map->bC,nodup_append->nZ,filter_sublist->jf,pairwise_map->jZ,perm_ext_iff_of_nodup->tL,pairwise_cons->Gz,filter_map->j4,filter_congr->j5,any_map->GC,filter->O5,any_eq_true->n6,getElem_of_mem->pH,map_eq_nil_iff->O6,contains_iff_mem->n8,foldl_cons->u9,takeWhile_cons->GD,drop_succ_cons->aaK,length_pos_iff->aaL,length_tail->dW,mem_singleton->dX,map_flatMap->tM,map_id'->O7,drop_drop->u_,length_eq_zero_iff->qm,filter_cons_of_pos->xX,filter_cons_of_neg->xY,mem_eraseDups->aaM,find?_some->GF,mem_of_find?_eq_some->O8,getD_eq_getElem?_getD->O9,getElem_mem->O_,sum_cons->lu,filter_nil->vf,sum_nil->aaN,filter_filter->Pa,mem_erase_of_ne->Pb,length_erase_of_mem->aaO,map_append->dw,reverse_cons->vg,length_reverse->lA,eq_nil_of_length_eq_zero->Pg,append_assoc->lU,take_add_one->j6,take_length->fM,set_set->qp,filter_append->xZ,map_id->Ph,all_map->aaP,foldl_append->Pj,length_pos_of_mem->Pk,take_append_drop->Pn,drop_eq_getElem_cons->aaQ,getElem_take->aaR,set->eZ,mem_of_mem_take->GJ,getElem?_drop->aaS,drop_eq_nil_of_le->aaT,dropLast_concat->aaU,flatMap_append->Bh,filter_eq_self->Bj,nil_append->Pq,map_take->Pr,drop_of_length_le->aaV,length_range->aaW,map->aaX,not_mem_nil->lV,map_reverse->Pu,flatMap_cons->GK,flatMap_map->Bk,mem_reverse->aaY,find?_eq_none->aaZ
open Ne renaming symm->lB
open PySem.Calls renaming Name_function_global->aa0,spliced_nil->vh,spliced_cons->tO,callWith_builtin->Bl,evalArgs_plain->GP,call_function_entry->ag7
open Array renaming length_toList->pI,toList->aa1,getElem?_toList->Bm,getElem?_eq_none->Px,getElem?_eq_getElem->aa2,mk->Bo
open False renaming elim->jP
open Or renaming inl->vm
open Bool renaming false_ne_true->gG,false_and->GQ,eq_iff_iff->jA,and_eq_true->dY,and_false->Py,false_eq_true->Bp,or_eq_true->m6,false_or->Bq,noConfusion->m7,and_eq_true_iff->j7,decide_and->lW,true_and->rC,not_eq_true->GR,not_eq_true'->Pz,beq_eq_decide_eq->PB,or_eq_true_iff->aa3,or_false->aa4,decide_or->yc,not_not->aa5,or_eq_false_iff->tQ,not_inj_iff->aa6
open PySem.EqNone renaming eq_none_none->ag8,eq_none_bool->ag9,eq_none_int->aha,eq_none_str->ahb,eq_bool_none->ahc,eq_int_none->ahd,eq_str_none->ahe,ne_none_none->ahf,ne_none_bool->ahg,ne_none_int->ahh,ne_none_str->ahi,ne_bool_none->ahj,ne_int_none->ahk,ne_str_none->ahl
open PySem.EqMixed renaming eq_bool_str->ahm,eq_int_str->ahn,eq_str_bool->aho,eq_str_int->ahp,ne_bool_str->ahq,ne_int_str->ahr,ne_str_bool->ahs,ne_str_int->aht
open PySem.DictEntry renaming refKey->ahu
open PySem.W.Looks renaming here->ahv
open PySem.Within renaming cons->ahw
open True renaming intro->gK
open PySem.Around renaming under->PJ,under_plainId->PK
open PySem.Code renaming frames->aa7,isFrame->PL
open Option renaming isSome_iff_exists->gj,getD_none->aa8,isSome_some->aa9,map_some->tR,isSome_map->pJ,map_eq_some_iff->iT,none->GX,isNone_iff_eq_none->vo,map->aa_,or_none->yd
open PyProof.Rows renaming callWith_builtin1->ahx,callWith_type1->GZ,Subscript_->PN,subscriptTail_builtinR->abb,join_list->ahy,join_tuple->ahz,step_dedup->rD,sorted_intsAny->ahA,sortedAll_at->ahB,sortedAll_old->ahC,sortedHeap_at->ahD,sortedHeap_old->ahE,boot_list->ahF,boot_max->ahG,callWith_kw->ahH,kws_cons->ahI,kws_nil->ahJ
open Int renaming toNat_natCast->jg,lt_or_le->Br,le_refl->Bs
open PySem.Heap.IsSliceOf renaming new->ahK
open PySem.SeqAt renaming EqAt->abd
open PySem.Obj renaming mapSeq->G3,mapFields->abe,data_mapFields->abf
open PySem.IsL renaming update->ahL
open PySem.Builtin.List renaming listTooLong->abg,listLengthHint->ahM,listExtendWith->ahN,listSameRef->abh
open PySem.F renaming slot_list_append->m8,slot_list_extend->vp,slot_list_pop->Bt,entry_list_pop->abj,slot_dict_pop->abk,slot_dict_get->PX,entry_dict_get->abl,args_dict_get_3->abm,plainAttrs_dict->abn,slot_dict_iter->abo,slot_dict_keyiterator_next->G4,entry_dict_keyiterator_next->abp,args_dict_keyiterator_next_1->abq,slot_dict_keyiterator_iter->abr,slot_dict_len->abt,slot_set_and->abu,entry_max_loop->P0,plain_max_loop->vq,plainAttrs_list->iD,type_list_append->n_,type_list_pop->P_,type_list_extend->yg
open PySem.NameKind renaming free->yh,cell->Qa
open ForInStep renaming yield->yj
open PySem.Heap.DictOf renaming new->ahO
open PySem.Builtin.Range renaming small->abv,rangeSize->G5,rangeFitsLong->abw
open PySem.Builtin.Dict renaming showsAll->abx,pendingCount->ahP
open PySem.Builtin.Dict_items renaming ownsTuple->aby
open PySem.Heap.SameBut renaming update->Qc,refl->ahQ
open PySem.Txt renaming join->Bu
open PySem.W.WData renaming int->abz,weightAll->Qe
open PySem.W.ReadsAllW renaming nil->ahR,cons->ahS
open PySem.W.Codec renaming encAll->yp,withinAll->abA,app->G6
open PySem.Value.type renaming inj->abB
open List.Pairwise renaming map->tU,imp->ahT,imp_of_mem->abC
open Vbnlah renaming put->oh,Tree->b_,edited->jB,consensus->abD,digit->yq,KEY->Qg,readNumber->Qh,RANKS->abE,Rows->vA,Group->Qi,bytes->rE,within->jh,TEXT->abF,readRows->Qj,readTree->vB,falling->yr,treeOf->ou,small->Bv,State->lY,answer->yt,Change->G7,present->Qk,subject->rF,closed->abG,Desk->G8,Version->vC,desk->iG,bare->G9,start->abH,setDesk->G_,treeBy->ji,SCHOOLS->qt,DAY->Bw,versionBy->Ql,step->jj,publish->abI,counting->tV,keyed->Bx,groupAt->tX,homeOf->m9,up->vD,holds->iU,path->qu,rankOf->Hf,topmost->Hg,keys->BJ,common->Hh,nats->Qm,closer->Qn,level->BK,sets->yu,rowsOf->Qo,diff->BL,clashes->Hi,meets->Qp,more->Hj,decimal->m_,between->qw,show_->yw,Edit->abJ,withTree->Hl,withTrees->Qq,Ask->abK
open Function renaming comp->Qs
open Iff renaming rfl->lZ
open Decidable renaming not_not->rG
open Classical renaming byContradiction->jk,not_forall->ahU,not_imp->ahV,propDecidable->Qt,not_not->BP,em->BR
open Eq renaming trans->Qu
open Prod.mk renaming injEq->Qv
open List.cons renaming injEq->ahW
open Prod renaming mk->yx
open Int.ofNat renaming inj->yC
open PyFlat renaming calls->rH,rows->pK,call->abL,told->Ho,played->Hq
open List.Perm renaming eq_of_pairwise->ahX,append_left->ahY,swap->ahZ,trans->ah0,of_eq->ah1
open String renaming length_toList->abM
open Except renaming ok->abN
open PySem.pickOrder renaming go->abO
open PySem.MeetsSeq2 renaming wpAny_forIn_array->abP
open PySem.Builtin.Frozenset renaming isAnySet->ah2,unchanged->Qw,intersection->ah3,addrOf->ah4
open PUnit renaming unit->Hr
open PySem.PassesOwn renaming never->dG
open List.Nodup renaming sublist->ah5
open PySem.Str renaming ofString->vG
open PySem.W.KIN renaming signs_num->ah6
open PySem.Builtin.Str renaming glued->ah7
open PyVbnlah renaming shape->qx,whole->mj,answers_asked->Qx,answers->BW,calls->abQ
open VbnlahNeutral renaming natural->abR,asked1->qy,callOf->abS,step->tY,start->ah8
def cY:=@decide_eq_false
def qz:=@beq_eq_false_iff_ne
def aB:=@if_pos
def au:=@if_neg
def cF:=@decide_eq_true
def iu:=@decide_eq_false_iff_not
def cH:=@decide_eq_true_iff
def dz:=@of_decide_eq_true
def qC:=@and_congr_right
def oE:=@not_not_intro
def iw:=@of_decide_eq_false
section
set_option Elab.async false
set_option linter.all false
set_option maxRecDepth 100000
namespace L2
open PySem PySem.Spec PyProof.Rows
abbrev Key:=Sum Int Str
def vH:Key->Value->Bool
 | .inl k,v=>ZK k v
 | .inr x,v=>ZL x v
def ah9 (w:World):Key->Int
 | .inl k=>hashInt k
 | .inr x=>hashStr w x
theorem oF:∀{k:Key} {v:Value},vH k v=true->(∃i t,k=bI i/\v=xT i t)\/(∃x t,k=uV x/\v=N5 x t)
 | .inl i,v,h=>by obtain⟨t,e⟩:=ZM h;exact .inl ⟨i,t,rfl,e⟩
 | .inr x,v,h=>by obtain⟨t,e⟩:=Value.isStrOf_shape h;exact .inr ⟨x,t,rfl,e⟩
theorem ah_ (i:Int) (t:Tok):vH (.inl i) (.int i t)=true:=by simp[vH,ZK]
theorem aia (x:Str) (t:Tok):vH (.inr x) (.str x t)=true:=by simp[vH,ZL]
theorem aib (a b:Int):decide ((bI a:Key)=bI b)=(a==b):=by
 by_cases e:a=b;.subst e;simp
 .have h:¬(bI a:Key)=bI b:=λq=>e (Sum.inl.inj q);rw[cY h];exact(qz.mpr e).symm
theorem aic (a b:Str):decide ((uV a:Key)=uV b)=decide (a=b):=by
 by_cases e:a=b;.subst e;simp
 .have h:¬(uV a:Key)=uV b:=λq=>e (Sum.inr.inj q);rw[cY h,cY e]
theorem aie (a:Int) (b:Str):decide ((bI a:Key)=uV b)=false:=cY (λq=>nomatch q)
theorem aif (a:Str) (b:Int):decide ((uV a:Key)=bI b)=false:=cY (λq=>nomatch q)
def iV (prog:Program) (w:World):PySem.KeyKind prog w Key where
 is:=vH
 hash:=ah9 w
 inj:=λv a b g f=>by
  rcases oF g with ⟨i,t,rfl,rfl⟩ | ⟨x,t,rfl,rfl⟩
  .rcases oF f with ⟨j,u,rfl,e⟩ | ⟨y,u,rfl,e⟩;.injection e with c _;rw[c]
   .exact nomatch e
  .rcases oF f with ⟨j,u,rfl,e⟩ | ⟨y,u,rfl,e⟩;.exact nomatch e
   .injection e with c _;rw[c]
 byValue:=λk v h=>by rcases oF h with ⟨i,t,rfl,rfl⟩ | ⟨x,t,rfl,rfl⟩ <;> rfl
 pyHash:=λd h=>by
  rcases oF d with ⟨i,t,rfl,rfl⟩ | ⟨x,t,rfl,rfl⟩;.exact wpAny_pyHash_int h
  .exact wpAny_pyHash_str h
 eqBool:=λl d h=>by
  rcases oF l with ⟨i,t,rfl,rfl⟩ | ⟨x,t,rfl,rfl⟩
  .rcases oF d with ⟨j,u,rfl,rfl⟩ | ⟨y,u,rfl,rfl⟩;.rw[aib]at h;exact wpAny_eqBool_int h
   .rw[aie]at h;exact ZP i t y u _ _ _ _ h
  .rcases oF d with ⟨j,u,rfl,rfl⟩ | ⟨y,u,rfl,rfl⟩;.rw[aif]at h;exact ZQ x t j u _ _ _ _ h
   .rw[aic]at h;exact wpAny_eqBool_str h
 «strs»:=λk x t v h=>by
  rcases oF h with ⟨i,u,rfl,e⟩ | ⟨y,u,rfl,e⟩;.exact nomatch e
  .injection e with c _;subst c;cases v <;> rfl
theorem aii (prog:Program) (w:World) (i:Int) (t:Tok):(iV prog w).is (.inl i) (.int i t)=true:=ah_ i t
theorem aij (prog:Program) (w:World) (x:Str) (t:Tok):(iV prog w).is (.inr x) (.str x t)=true:=aia x t
inductive V where
 | non | bl (b:Bool) | int (i:Int) | str (x:Str) | byt (b:Array UInt8) | flt (b:UInt64) | ref (a:Addr) | ty (n:String)
 deriving DecidableEq
def RelV:V->Value->Prop
 | .non,u=>u=Ar
 | .bl b,u=>u=Value.bool b
 | .int i,u=>∃t,u=xT i t
 | .str x,u=>∃t,u=N5 x t
 | .byt b,u=>∃t,u=Value.bytes b t
 | .flt b,u=>∃t,u=Value.float b t
 | .ref a,u=>u=fQ a
 | .ty n,u=>u=qb n
abbrev Vals:List V->List Value->Prop:=Paired RelV
theorem Vals.length (r:Vals xs us):xs.length=us.length:=uW r
theorem Vals.get:∀{xs:List V} {a:List Value} {i:Nat} {x:V},Vals xs a->xs[i]? =some x->∃u,a[i]? =some u/\RelV x u
 | _,_,_,_,.nil,e=>by simp at e
 | _,_,0,_,.cons r _,e=>by simp at e;subst e;exact⟨_,rfl,r⟩
 | _,_,i+1,x,.cons _ t,e=>by obtain⟨u,b,c⟩:=Vals.get t (by simpa using e);exact⟨u,by simpa using b,c⟩
theorem Vals.set (r:RelV x u):∀{xs:List V} {a:List Value} (i:Nat),Vals xs a->Vals (xs.set i x) (a.set i u)
 | _,_,_,.nil=> .nil
 | _,_,0,.cons _ t=> .cons r t
 | _,_,i+1,.cons q t=> .cons q (Vals.set r i t)
theorem Vals.append:∀{xs ys:List V} {a b:List Value},Vals xs a->Vals ys b->Vals (xs++ys) (a++b)
 | _,_,_,_,.nil,s=>s
 | _,_,_,_,.cons r t,s=> .cons r (Vals.append t s)
theorem Vals.take:∀{xs:List V} {a:List Value} (n:Nat),Vals xs a->Vals (xs.take n) (a.take n)
 | _,_,0,_=> .nil
 | _,_,_+1,.nil=> .nil
 | _,_,n+1,.cons r t=> .cons r (Vals.take n t)
theorem Vals.drop:∀{xs:List V} {a:List Value} (n:Nat),Vals xs a->Vals (xs.drop n) (a.drop n)
 | _,_,0,r=>r
 | _,_,_+1,.nil=> .nil
 | _,_,n+1,.cons _ t=>Vals.drop n t
def iH:Option V->Option Value->Prop
 | some v,some u=>RelV v u
 | none,none=>True
 | _,_=>False
def KV {κ:Type}:List (κ×V)->List (κ×Value)->Prop:=Paired λp q=>p.1=q.1/\RelV p.2 q.2
def kV:Key->V
 | .inl i=> .int i
 | .inr x=> .str x
inductive HO where
 | lst (xs:List V)
 | tup (xs:List V)
 | dK (kvs:List (Key×V)) | dT (kvs:List (List Key×V))
 | set (S:Int->Bool) (n:Nat)
 | ins (C dx:Addr) (fs:List (Str×V))
 | own (x:Addr)
 | xd (fs:List (Str×V))
 | met (f x:Addr)
 | rng (lo hi:Int)
 | frz (o:Obj) (u:HO)
 | tbl (ps:Array Value)
 | ext (φ:Heap->Prop)
abbrev Hp:=Addr->Option HO
def upd (H:Hp) (a:Addr) (o:HO):Hp:=λb=>if b=a then some o else H b
theorem aH:upd H a o a=some o:=by unfold upd;rw[aB rfl]
theorem aC (h:b≠a):upd H a o b=H b:=by unfold upd;rw[au h]
theorem mq:upd (upd H a o) a u=upd H a u:=by funext b;unfold upd;split <;> rfl
theorem cJ {H:Hp} {a b:Addr} {o u:HO} (h:H a=some o) (c:H b=some u) (d:o≠u):a≠b:=by intro e;subst e;rw[h]at c;exact d (jV c)
theorem aX {H:Hp} {a b:Addr} {o:HO} (h:H a=some o) (c:H b=none):a≠b:=by intro e;subst e;rw[h]at c;cases c
section
variable (P:Program) (w:World)
def iW (H:Hp) (h:Heap) (a:Addr):HO->Prop
 | .lst d=>d.length<=sizeLine/\∃b n,Vals d b/\h.get? a=some {cls:= .type "list",data:= .seq b.toArray n}
 | .tup d=>d.length<=sizeLine/\∃b:List Value,Vals d b/\IsTup h a b.toArray
 | .dK c=>c.length<=sizeLine/\(a==sysModules)=false/\∃m,KV c m/\h.DictOf (iV P w) a m
 | .dT c=>c.length<=sizeLine/\(a==sysModules)=false/\∃d:List (List Key×Addr×Value),
   Paired (λp q=>p.1=q.1/\H q.2.1=some (.tup (p.1.map kV))/\RelV p.2 q.2.2) c d/\
   ∃o i s,h.get? a=some o/\o.ExactDict/\o.data= .dict i s/\i.toList=d.map (entryOfKey (tupleKind (iV P w)))/\(d.map (·.1)).Nodup
 | .set S n=>h.SetOf (intKind P w) a S n
 | .ins C g fs=>H g=some (.own a)/\fs.length<=1000/\g≠a/\h.get? a=some (sZ C g)/\
   ∃e,h.Ns1 g e/\(∀f,iH (fs.lookup f) (e f))/\Oc e (fs.map (·.1))
 | .own _=>∃o,h.get? a=some o
 | .xd fs=>∃e,h.Ns1 a e/\∀f,iH (fs.lookup f) (e f)
 | .rng lo y=>∃t u v,h.get? a=some {cls:= .type "range",data:= .fields #[.int lo t,.int y u,.int 1 v]}
 | .frz o u=>h.get? a=some o/\iW H h a u
 | .tbl z=>h.get? a=some {cls:= .none,data:= .fields z}
 | .met f x=>h.get? a=some (PySem.W.methodObj (.ref f) (.ref x))
 | .ext φ=>φ h/\(∃o,h.get? a=some o)/\∀j l:Heap,φ j->(∀o,j.get? a=some o->l.get? a=some o)->φ l
def HOk (H:Hp) (h:Heap):Prop:=∀a o,H a=some o->iW P w H h a o
end
section
variable {P:Program} {w:World} {H H':Hp} {h h':Heap} {a:Addr} {o:HO}
theorem iW.lt (x:iW P w H h a o):a < h.objs.size:=by
 cases o with
 | lst c=>obtain⟨_,_,_,_,e⟩:=x;exact dR e
 | tup c=>obtain⟨_,_,_,p⟩:=x;exact p.lt
 | dK b=>obtain⟨_,_,_,_,o,_,_,e,_⟩:=x;exact dR e
 | dT b=>obtain⟨_,_,_,_,o,_,_,e,_⟩:=x;exact dR e
 | set S n=>obtain⟨o,_,_,_,e,_⟩:=x;exact dR e
 | ins C d fs=>obtain⟨_,_,_,e,_⟩:=x;exact dR e
 | own y=>obtain⟨_,e⟩:=x;exact dR e
 | xd fs=>obtain⟨_,⟨_,_,_,e,_⟩,_⟩:=x;exact dR e
 | rng lo g=>obtain⟨_,_,_,e⟩:=x;exact dR e
 | frz i u=>obtain⟨e,_⟩:=x;exact dR e
 | tbl j=>exact dR (x)
 | met f y=>exact dR (x)
 | ext φ=>obtain⟨_,⟨_,e⟩,_⟩:=x;exact dR e
theorem Paired.Qy {α β:Type} {F G:α->β->Prop}:∀{c:List α} {d:List β},Paired F c d->(∀a b,F a b->G a b)->Paired G c d
 | _,_,.nil,_=> .nil
 | _,_,.cons r t,f=> .cons (f _ _ r) (Paired.Qy t f)
theorem iW.stay (x:iW P w H h a o) (k:∀b u,(b=a\/H b=some (.own a))->h.get? b=some u->h'.get? b=some u)
  (E:∀b,H b=some (.own a)->H' b=some (.own a)) (F:∀b xs,H b=some (.tup xs)->H' b=some (.tup xs)):iW P w H' h' a o:=by
 induction o with
 | lst xs=>obtain⟨z,l,n,r,e⟩:=x;exact⟨z,l,n,r,k _ _ (.inl rfl) e⟩
 | tup xs=>obtain⟨z,l,r,g,e,c⟩:=x;exact⟨z,l,r,g,k _ _ (.inl rfl) e,c⟩
 | dK m=>obtain⟨z,y,J,r,g,j,i,e,c⟩:=x;exact⟨z,y,J,r,g,j,i,k _ _ (.inl rfl) e,c⟩
 | dT m=>obtain⟨z,y,xs,r,g,j,i,e,c⟩:=x;exact⟨z,y,xs,Paired.Qy r λp q z=>⟨z.1,F _ _ z.2.1,z.2.2⟩,g,j,i,k _ _ (.inl rfl) e,c⟩
 | set S n=>obtain⟨g,j,i,t,e,c⟩:=x;exact⟨g,j,i,t,k _ _ (.inl rfl) e,c⟩
 | ins C L fs=>obtain⟨d,z,I,e,s,⟨A,j,i,B,c⟩,r⟩:=x;exact⟨E _ d,z,I,k _ _ (.inl rfl) e,s,⟨A,j,i,k _ _ (.inr d) B,c⟩,r⟩
 | own y=>obtain⟨g,e⟩:=x;exact⟨g,k _ _ (.inl rfl) e⟩
 | xd fs=>obtain⟨s,⟨A,j,i,e,c⟩,r⟩:=x;exact⟨s,⟨A,j,i,k _ _ (.inl rfl) e,c⟩,r⟩
 | rng lo N=>obtain⟨t,u,v,e⟩:=x;exact⟨t,u,v,k _ _ (.inl rfl) e⟩
 | frz g u G=>obtain⟨e,q⟩:=x;exact⟨k _ _ (.inl rfl) e,G q⟩
 | tbl O=>have e:=x;exact k a _ (.inl rfl) e
 | met f y=>have e:=x;exact k a _ (.inl rfl) e
 | ext φ=>obtain⟨p,⟨o,e⟩,st⟩:=x;exact⟨st _ _ p λo q=>k _ _ (.inl rfl) q,⟨o,k _ _ (.inl rfl) e⟩,st⟩
theorem HOk.lt (x:HOk P w H h) (e:H a=some o):a < h.objs.size:=(x a o e).lt
theorem HOk.fresh (x:HOk P w H h) (e:h.objs.size<=a):H a=none:=by
 cases q:H a with
 | none=>rfl
 | some u=>exact absurd (jW (x.lt q) e) (lQ _)
theorem HOk.kept (x:HOk P w H h) (k:∀b u,h.get? b=some u->h'.get? b=some u):HOk P w H h':=λa o e=>
 (x a o e).stay (λb u _ q=>k b u q) (λ_ q=>q) λ_ _ q=>q
theorem HOk.laid (x:HOk P w H h) (k:∀b u,h.get? b=some u->h'.get? b=some u) (i:h.objs.size<=a) (d:iW P w (upd H a o) h' a o):HOk P w (upd H a o) h':=λb u e=>by
 have g:=x.fresh i;by_cases f:b=a;.subst f;rw[aH]at e;cases e;exact d
 .rw[aC f]at e;exact(x b u e).stay (λc v _ q=>k c v q) (λc q=>by rw[aC (aX q g)];exact q) λc j q=>by rw[aC (aX q g)];exact q
end
def Rd (H:Hp) (a:Addr) (u:HO):Prop:=H a=some u\/∃o,H a=some (.frz o u)
theorem Rd.ok {P:Program} {w:World} {H:Hp} {h:Heap} {a:Addr} {u:HO} (r:Rd H a u) (x:HOk P w H h):iW P w H h a u:=by
 rcases r with r | ⟨o,r⟩;.exact x a u r
 .obtain⟨_,q⟩:=x a _ r;exact q
def Mut:Option HO->Prop
 | some (.lst _)=>True
 | some (.dK _)=>True
 | some (.dT _)=>True
 | some (.set _ _)=>True
 | some (.ins _ _ _)=>True
 | some (.ext _)=>True
 | _=>False
section
variable {P:Program} {w:World} {H:Hp} {h h':Heap} {x e:Addr} {o':HO}
theorem HOk.write (ok:HOk P w H h) (i:Mut (H x)) (o:e=x\/H e=some (.own x)) (k:∀b u,b≠e->h.get? b=some u->h'.get? b=some u) (m:∃u,h'.get? e=some u)
  (n:iW P w (upd H x o') h' x o'):HOk P w (upd H x o') h':=λb u q=>by
 have d:∀c y,H c=some (.own y)->c≠x:=λc y r z=>by subst z;rw[r]at i;exact i
 have l:∀c j,H c=some (.tup j)->c≠x:=λc j r z=>by subst z;rw[r]at i;exact i
 by_cases f:b=x;.subst f;rw[aH]at q;cases q;exact n
 .rw[aC f]at q;by_cases a:b=e
  .have p:H b=some (.own x):=by
    rcases o with z | z;.exact absurd (a.trans z) f
    .rw[a];exact z
   rw[q]at p;cases p;obtain⟨v,s⟩:=m;exact⟨v,by rw[a];exact s⟩
  .refine(ok b u q).stay (λc v g r=>k c v ?_ r) (λc r=>by rw[aC (d c b r)];exact r) λc j r=>by rw[aC (l c j r)];exact r
   rcases g with rfl | g;.exact a
   .rintro rfl;rcases o with z | z;.exact d c b g z
    .rw[g]at z;cases z;exact f rfl
end
structure Un (fs ex:List Addr) (H H':Hp) (h h':Heap):Prop where
 keep:∀b o,h.get? b=some o->H b=none->b∉fs->b∉ex->h'.get? b=some o
 slot:∀b o,h.get? b=some o->H b=none->b∈fs->b∉ex->∃sl,h'.get? b=some {o with slots:=sl}
 free:∀b o,h.get? b=some o->H b=none->b∉ex->H' b=none
 there:∀b o,h.get? b=some o->b∉ex->∃o',h'.get? b=some o'
 tups:∀b xs,H b=some (.tup xs)->H' b=some (.tup xs)
 pL:∀b o u,H b=some (.frz o u)->H' b=some (.frz o u)
 rJ:∀b ps,H b=some (.tbl ps)->∃more,H' b=some (.tbl (ps++more))
section
variable {fs fs' ex ex':List Addr} {H H1 H2:Hp} {h h1 h2 h':Heap} {a x e:Addr} {o:HO}
theorem Un.any (u:Un fs ex H H1 h h1) (q:h.get? b=some ob) (n:H b=none) (c:b∉ex):∃d,h1.get? b=some {ob with slots:=d}:=by
 by_cases a:b∈fs;.exact u.slot b ob q n a c
 .exact⟨ob.slots,u.keep b ob q n a c⟩
theorem Un.kept (k:∀b u,h.get? b=some u->h'.get? b=some u):Un fs ex H H h h':=
 ⟨λb a q _ _ _=>k b a q,λb a q _ _ _=>⟨a.slots,k b a q⟩,λ_ _ _ n _=>n,λb a q _=>⟨a,k b a q⟩,λ_ _ q=>q,λ_ _ _ q=>q,λ_ c q=>⟨#[],by rw[q];simp⟩⟩
theorem Un.refl:Un fs ex H H h h:=Un.kept λ_ _ q=>q
theorem Un.laid (k:∀b u,h.get? b=some u->h'.get? b=some u) (d:h.objs.size<=a) (c:H a=none):Un fs ex H (upd H a o) h h' where
 keep:=λb u q _ _ _=>k b u q
 slot:=λb u q _ _ _=>⟨u.slots,k b u q⟩
 free:=λb u q n _=>by rw[aC (fZ (jW (dR q) d))];exact n
 there:=λb u q _=>⟨u,k b u q⟩
 tups:=λb e q=>by rw[aC (aX q c)];exact q
 pL:=λb u e q=>by rw[aC (aX q c)];exact q
 rJ:=λb f q=>⟨#[],by rw[aC (aX q c),q];simp⟩
theorem Un.write (c:Mut (H x)) (j:e=x\/H e=some (.own x)) (k:∀b u,b≠e->h.get? b=some u->h'.get? b=some u) (d:∃u,h'.get? e=some u):Un fs ex H (upd H x o) h h':=by
 have i:∀b,H b=none->b≠x:=λb n z=>by subst z;rw[n]at c;exact c
 have g:∀b,H b=none->b≠e:=λb n z=>by
  subst z;rcases j with r | r;.exact i b n r
  .rw[n]at r;cases r
 have f:∀b u,H b=some u->¬Mut (some u)->b≠x:=λb u q l z=>by subst z;rw[q]at c;exact l c
 refine⟨λb u q n _ _=>k b u (g b n) q,λb u q n _ _=>⟨u.slots,k b u (g b n) q⟩,λb u q n _=>by rw[aC (i b n)];exact n,λb u q _=> ?_,
  λb m q=>by rw[aC (f b _ q λz=>z)];exact q,λb u m q=>by rw[aC (f b _ q λz=>z)];exact q,λb p q=>⟨#[],by rw[aC (f b _ q λz=>z),q];simp⟩⟩
 by_cases a:b=e;.subst a;exact d
 .exact⟨u,k b u a q⟩
end
def trk (h:Heap) (H:Hp):List Addr:=(Oz h.objs.size).filter λa=>(H a).isSome
def rK (h:Heap) (H:Hp):Heap:=PySem.W.hideAll h (trk h H)
theorem ail (h:Heap) (H:Hp):(rK h H).objs.size=h.objs.size:=PySem.W.hideAll_size _ _
theorem ain (e:h.get? b=some o) (n:H b=none):(rK h H).get? b=some o:=
 PySem.W.hideAll_get _ e λa=>by have q:=(cC.mp a).2;rw[n]at q;simp at q
theorem aio (e:(rK h H).get? b=some o):h.get? b=some o/\H b=none:=by
 have a:=PySem.W.of_hideAll (trk h H) e;refine⟨a,?_⟩;cases q:H b with
 | none=>rfl
 | some x=>have c:b∈trk h H:=cC.mpr ⟨List.mem_range.mpr (dR a),by simp[q]⟩;have z:(rK h H).get? b=none:=PySem.W.hideAll_none (trk h H) c;rw[z]at e;cases e
structure Mod (K:aW) (mg:Str->Option Value) (base:Heap):Prop where
 kin:K.In base
 glob:base.Ns mainGlobals mg
 blt:∃mb,base.Ns builtinsNs mb/\∀x:Str,x≠"__name__" ->mb x=bootBuiltins x
 nolimit:base.NoLimit
structure Cx where
 prog:Program
 w:World
 K:aW
 mg:Str->Option Value
 base:Heap
 A:Around
 N:List Str
 s_0:Shared
 H_0:Hp
 env:Env
 outer:List Env
 stack:List Env
 ex:List Addr
 fn:Str->Bool
 calm:Bool
 pn:List (Addr×Obj)
 xe:Value->Shared->Prop
def frs (l:List Env):List Addr:=l.filterMap (·.frame)
abbrev Cx.fs (X:Cx):List Addr:=frs X.outer
def Vis (a:Scope) (x:Str):Prop:=a.names.lookup x=some .local\/a.names.lookup x=some .cell\/a.names.lookup x=some .free
def Loc (a:Scope) (x:Str):Prop:=a.names.lookup x=some .local\/a.names.lookup x=some .cell
def Look (env:Env) (h:Heap) (m:Str->Option Value) (x:Str) (u:Value):Prop:=
 (env.kindOf x=some .local/\m x=some u)\/((env.kindOf x=some .cell\/env.kindOf x=some .free)/\∃c,env.cells.lookup x=some c/\h.IsCell c (some u))
structure Cx.Ok (X:Cx):Prop where
 mod:Mod X.K X.mg X.base
 kind:X.env.scope.kind= .function
 glob:X.env.globals=mainGlobals
 blt:X.env.builtins=builtinsNs
 above:X.s_0.heap.objs.size<=X.env.locals
 inj:∀x y c,X.env.cells.lookup x=some c->X.env.cells.lookup y=some c->x=y
 has:∀x,(X.env.kindOf x=some .cell\/X.env.kindOf x=some .free)->∃c,X.env.cells.lookup x=some c
 cab:∀x c,X.fn x=true->X.env.cells.lookup x=some c->X.s_0.heap.objs.size<=c
 hd:X.calm=true->X.A.handled=none
 frames:X.A.frames=some X.stack
 stk:X.stack=X.outer\/(X.stack=X.env::X.outer/\X.env.frame=some X.env.locals)
 exf:∀b∈X.ex,b≠X.env.locals/\∀x c,X.env.cells.lookup x=some c->c≠b
 bs:∀b o,X.base.get? b=some o->X.s_0.heap.get? b=some o/\X.H_0 b=none
 bsz:X.base.objs.size<=X.s_0.heap.objs.size
 BX:∀b o,X.base.get? b=some o->b∉X.ex
 BZ:∀b∈X.ex,b∉X.fs
 oG:X.s_0.heap.FunFrames X.base X.outer
 frf:∀b∈X.fs,X.H_0 b=none
structure Inv (X:Cx) (pins:List (Addr×Obj)) (σ:List (Option V)) (H:Hp) (s:Shared):Prop where
 ok:X.Ok
 os:s.os=X.s_0.os
 bare:AllBare s.gens
 base:Un X.fs X.ex X.H_0 H X.s_0.heap s.heap
 loc:∃m,s.heap.Ns X.env.locals m/\∀(i:Nat) (x:Str) (v:V),X.N[i]? =some x->σ[i]? =some (some v)->Vis X.env.scope x->∃u,RelV v u/\Look X.env s.heap m x u
 cell:∀x c,X.env.cells.lookup x=some c->∃v,s.heap.IsCell c v
 free:H X.env.locals=none
 nj:∀x c,X.env.cells.lookup x=some c->H c=none
 pin:∀p∈X.pn++pins,s.heap.get? p.1=some p.2/\H p.1=none/\p.1≠X.env.locals/\p.1∉X.fs/\∀v,p.2.data≠ .cell v
 hok:HOk X.prog X.w H s.heap
 len:σ.length=X.N.length
section
variable {X:Cx} {pins:List (Addr×Obj)} {σ:List (Option V)} {H H':Hp} {s:Shared} {h':Heap}
theorem Cx.Ok.aip (ok:X.Ok) (e:X.base.get? b=some o):b∉X.fs:=λa=>by have:=(ok.oG.mem a).1;rw[e]at this;cases this
theorem Inv.bs (I:Inv X pins σ H s):∀b o,X.base.get? b=some o->s.heap.get? b=some o/\H b=none:=λb o e=>
 ⟨I.base.keep b o (I.ok.bs b o e).1 (I.ok.bs b o e).2 (I.ok.aip e) (I.ok.BX b o e),I.base.free b o (I.ok.bs b o e).1 (I.ok.bs b o e).2 (I.ok.BX b o e)⟩
theorem Inv.bk (I:Inv X pins σ H s):∀b o,X.base.get? b=some o->s.heap.get? b=some o:=λb o e=>(I.bs b o e).1
theorem Inv.mod (I:Inv X pins σ H s):Mod X.K X.mg X.base:=I.ok.mod
theorem Inv.kIn (I:Inv X pins σ H s):X.K.In s.heap:=I.ok.mod.kin.keeps I.bk
theorem Inv.fr (I:Inv X pins σ H s):∃m,Fr X.base X.env.locals s.heap m:=
 let ⟨m,hn,_⟩:=I.loc
 ⟨m,hn,I.bk,cI I.ok.bsz I.ok.above⟩
theorem Inv.lt (I:Inv X pins σ H s):X.env.locals < s.heap.objs.size:=let ⟨_,hn,_⟩:=I.loc;hn.lt
theorem Inv.sz (I:Inv X pins σ H s):X.s_0.heap.objs.size<=s.heap.objs.size:=cI I.ok.above (Gp I.lt)
theorem Inv.aiq (I:Inv X pins σ H s) {a:Addr} (h:s.heap.objs.size<=a):a∉X.fs:=λb=>by obtain⟨_,o,c,_⟩:=I.ok.oG.mem b;exact absurd (jW (dR c) (cI I.sz h)) (lQ _)
theorem Inv.cne (I:Inv X pins σ H s):∀x c,X.env.cells.lookup x=some c->c≠X.env.locals:=λx c e z=>by obtain⟨v,o,f,d⟩:=I.cell x c e;obtain⟨m,⟨i,h,g,b,a,_⟩,_⟩:=I.loc;rw[z,b]at f;cases f;rw[a]at d;cases d
theorem Inv.oG (I:Inv X pins σ H s):s.heap.FunFrames X.base X.outer:=by
 have all:∀(l:List Env),(∀b∈frs l,b∈X.fs)->X.s_0.heap.FunFrames X.base l->s.heap.FunFrames X.base l:=by
  intro l
  induction l with
  | nil=>intro _ _;trivial
  | cons g r q=>intro f j;obtain⟨i,⟨L,o,d,m,n,h⟩,p⟩:=j;have a:=f L (by unfold frs;rw[OD,d];exact cU);obtain⟨t,e⟩:=I.base.slot L o n (I.ok.frf L a) a λz=>I.ok.BZ L z a;exact⟨i,⟨L,_,d,m,e,h⟩,q (λb c=>f b (by unfold frs;rw[OD,d];exact cO _ c)) p⟩
 exact all X.outer (λ_ c=>c) I.ok.oG
theorem Inv.stack (I:Inv X pins σ H s):s.heap.FunFrames X.base X.stack:=by
 rcases I.ok.stk with e | ⟨e,a⟩;.rw[e];exact I.oG
 .rw[e];obtain⟨m,b,_⟩:=I.loc;refine .cons (by rw[I.ok.kind];decide) a b ?_ I.oG;exact Heap.get?_none_of_le (cI I.ok.bsz I.ok.above)
theorem Inv.Qz (I:Inv X pins σ H s):∀b∈frs X.stack,b∈X.env.locals::X.fs:=λb a=>by
 rcases I.ok.stk with e | ⟨e,c⟩;.rw[e]at a;exact cO _ a
 .rw[e]at a;unfold frs at a;rw[OD,c]at a;exact a
theorem Inv.abU (I:Inv X pins σ H s):∀b∈frs X.stack,H b=none:=λb a=>by
 rcases cD.mp (I.Qz b a)with e | a;.rw[e];exact I.free
 .obtain⟨_,o,c,_⟩:=I.ok.oG.mem a;exact I.base.free b o c (I.ok.frf b a) λz=>I.ok.BZ b z a
theorem Inv.step {N:Array GenState} {t':Nat} {S:Drawn} {ch:List Addr} (I:Inv X pins σ H s)
  (g:∀b∈ch,(b∈X.ex\/X.s_0.heap.objs.size<=b)/\b≠X.env.locals/\(∀x c,X.env.cells.lookup x=some c->c≠b)/\∀p∈X.pn++pins,p.1≠b)
  (keep:∀b o,b≠X.env.locals->b∉X.fs->b∉ch->s.heap.get? b=some o->H b=none->h'.get? b=some o)
  (slot:∀b o,b≠X.env.locals->b∈X.fs->b∉ch->s.heap.get? b=some o->H b=none->∃J,h'.get? b=some {o with slots:=J}) (free:∀b o,b∉ch->s.heap.get? b=some o->H b=none->H' b=none)
  (there:∀b o,b∉ch->s.heap.get? b=some o->∃E,h'.get? b=some E)
  (tups:∀b xs,H b=some (.tup xs)->H' b=some (.tup xs)) (pL:∀b o u,H b=some (.frz o u)->H' b=some (.frz o u)) (rJ:∀b ps,H b=some (.tbl ps)->∃more,H' b=some (.tbl (ps++more)))
  (ns:∀m,s.heap.Ns X.env.locals m->h'.Ns X.env.locals m) (G:HOk X.prog X.w H' h') (U:AllBare N):
  Inv X pins σ H' {s with heap:=h',gens:=N,drawn:=S,toks:=t'}:=by
 have C:∀b o,X.s_0.heap.get? b=some o->b≠X.env.locals:=λb o e=>fZ (jW (dR e) I.ok.above);have t:∀b o,X.s_0.heap.get? b=some o->b∉X.ex->b∉ch:=λb o e a y=>by
  rcases(g b y).1 with z | z;.exact a z
  .exact absurd (jW (dR e) z) (lQ _)
 have f:∀x c,X.env.cells.lookup x=some c->∀v,s.heap.IsCell c v->h'.IsCell c v:=λx c e v ⟨o,A,F⟩=>by
  have h:=λz=>(g c z).2.2.1 x c e rfl;by_cases O:c∈X.fs;.obtain⟨J,q⟩:=slot c o (I.cne x c e) O h A (I.nj x c e);exact⟨_,q,F⟩
  .exact⟨o,keep c o (I.cne x c e) O h A (I.nj x c e),F⟩
 refine⟨I.ok,I.os,U,⟨λb o e n y a=> ?_,λb o e n y a=> ?_,λb o e n a=> ?_,λb o e a=> ?_,λb xs e=>tups b xs (I.base.tups b xs e),λb o xs e=>pL b o xs (I.base.pL b o xs e),λb ps e=> ?_⟩,?_,λx c e=> ?_,?_,λx c e=> ?_,λp P=> ?_,G,I.len⟩;.exact keep b o (C b o e) y (t b o e a) (I.base.keep b o e n y a) (I.base.free b o e n a)
 .obtain⟨J,j⟩:=I.base.slot b o e n y a;obtain⟨L,B⟩:=slot b _ (C b o e) y (t b o e a) j (I.base.free b o e n a);exact⟨L,B⟩
 .obtain⟨E,j⟩:=I.base.there b o e a;exact free b E (t b o e a) j (I.base.free b o e n a)
 .obtain⟨E,j⟩:=I.base.there b o e a;exact there b E (t b o e a) j
 .obtain⟨Z,j⟩:=I.base.rJ b ps e;obtain⟨m2,B⟩:=rJ b _ j;exact⟨Z++m2,by rw[B,Array.append_assoc]⟩
 .obtain⟨m,Y,W⟩:=I.loc;refine⟨m,ns m Y,λi x v j B T=> ?_⟩;obtain⟨u,r,l⟩:=W i x v j B T;refine⟨u,r,?_⟩;rcases l with l | ⟨k,c,e,z⟩;.exact .inl l
  .exact .inr ⟨k,c,e,f x c e _ z⟩
 .obtain⟨v,z⟩:=I.cell x c e;exact⟨v,f x c e v z⟩
 .obtain⟨m,⟨o,_,_,A,_⟩,_⟩:=I.loc;exact free _ o (λz=>(g _ z).2.1 rfl) A I.free
 .obtain⟨v,o,A,F⟩:=I.cell x c e;exact free c o (λz=>(g c z).2.2.1 x c e rfl) A (I.nj x c e)
 .obtain⟨e,n,Q,R,d⟩:=I.pin p P;have h:=λz=>(g p.1 z).2.2.2 p P rfl;exact⟨keep p.1 p.2 Q R h e n,free p.1 p.2 h e n,Q,R,d⟩
theorem Inv.un {t':Nat} (I:Inv X pins σ H s) (u:Un X.fs [] H H' s.heap h') (g:HOk X.prog X.w H' h'):Inv X pins σ H' {s with heap:=h',toks:=t'}:=by obtain⟨m,⟨o,q,p,h,r⟩,_⟩:=id I.loc;obtain⟨x,i⟩:=u.any h I.free (by simp);exact I.step (ch:=[]) (λ_ z=>nomatch z) (λb o _ f _ e n=>u.keep b o e n f (by simp)) (λb o _ f _ e n=>u.slot b o e n f (by simp)) (λb o _ e n=>u.free b o e n (by simp)) (λb o _ e=>u.there b o e (by simp)) u.tups u.pL u.rJ (λt j=>by obtain⟨v,d,c,a,l⟩:=j;rw[h]at a;cases a;exact⟨_,d,c,i,l⟩) g I.bare
theorem Inv.call {l:Array GenState} {t':Nat} {t:Drawn} {ch:List Addr} (I:Inv X pins σ H s) (u:Un (frs X.stack) ch H H' s.heap h') (j:HOk X.prog X.w H' h') (y:AllBare l)
  (d:∀b∈ch,(b∈X.ex\/X.s_0.heap.objs.size<=b)/\b≠X.env.locals/\(∀x c,X.env.cells.lookup x=some c->c≠b)/\∀p∈X.pn++pins,p.1≠b):
  Inv X pins σ H' {s with heap:=h',gens:=l,drawn:=t,toks:=t'}:=by
 obtain⟨m,⟨o,E,C,q,r⟩,_⟩:=id I.loc;obtain⟨J,i⟩:=u.any q I.free λz=>(d _ z).2.1 rfl;exact I.step d (λb o i v a e n=>u.keep b o e n (λz=>(cD.mp (I.Qz b z)).elim i v) a) (λb o _ _ a e n=>u.any e n a) (λb o a e n=>u.free b o e n a) (λb o a e=>u.there b o e a) u.tups u.pL u.rJ (λF A=>by obtain⟨G,h,g,f,B⟩:=A;rw[q]at f;cases f;exact⟨_,h,g,i,B⟩) j y
theorem Inv.turned {t':Nat} {a:Addr} (I:Inv X pins σ H s) (k:∀b o,b≠a->s.heap.get? b=some o->h'.get? b=some o) (A:H a=none) (g:a≠X.env.locals)
  (j:a∈X.ex\/X.s_0.heap.objs.size<=a) (l:∀x c,X.env.cells.lookup x=some c->c≠a) (t:∀p∈X.pn++pins,p.1≠a):Inv X pins σ H {s with heap:=h',toks:=t'}:=by
 have f:∀b u,H b=some u->b≠a:=λb u e z=>by rw[z,A]at e;cases e
 refine I.step (ch:=[a]) (λb w=> ?_) (λb o _ _ d e _=>k b o (λz=>d (by simp[z])) e) (λb o _ _ d e _=>⟨o.slots,k b o (λz=>d (by simp[z])) e⟩) (λ_ _ _ _ n=>n)
  (λb o d e=>⟨o,k b o (λz=>d (by simp[z])) e⟩) (λ_ _ e=>e) (λ_ _ _ e=>e) (λb C e=>⟨#[],by rw[e];simp⟩) (λm y=> ?_) (λb u e=> ?_) I.bare
 .have e:b=a:=by simpa using w
  subst e;exact⟨j,g,l,t⟩
 .obtain⟨o,i,h,B,r⟩:=y;exact⟨o,i,h,k _ o (lB g) B,r⟩
 .refine(I.hok b u e).stay (λc v d q=>k c v ?_ q) (λ_ q=>q) λ_ _ q=>q;rcases d with z | z;.rw[z];exact f b u e
  .exact f c _ z
theorem Inv.tok (I:Inv X pins σ H s) (t:Nat):Inv X pins σ H {s with toks:=t}:=I.un Un.refl I.hok
theorem Inv.kept {t':Nat} (I:Inv X pins σ H s) (k:∀b u,s.heap.get? b=some u->h'.get? b=some u):Inv X pins σ H {s with heap:=h',toks:=t'}:=I.un (Un.kept k) (I.hok.kept k)
theorem Inv.laid {a:Addr} {o:HO} {t':Nat} (I:Inv X pins σ H s) (k:∀b u,s.heap.get? b=some u->h'.get? b=some u) (c:s.heap.objs.size<=a) (d:iW X.prog X.w (upd H a o) h' a o):
  Inv X pins σ (upd H a o) {s with heap:=h',toks:=t'}:=I.un (Un.laid k c (I.hok.fresh c)) (I.hok.laid k c d)
theorem Inv.write {x e:Addr} {o:HO} {t':Nat} (I:Inv X pins σ H s) (f:Mut (H x)) (d:e=x\/H e=some (.own x)) (k:∀b u,b≠e->s.heap.get? b=some u->h'.get? b=some u) (a:∃u,h'.get? e=some u)
  (c:iW X.prog X.w (upd H x o) h' x o):Inv X pins σ (upd H x o) {s with heap:=h',toks:=t'}:=I.un (Un.write f d k a) (I.hok.write f d k a c)
theorem Inv.weak {a:List (Option V)} (I:Inv X pins σ H s) (e:a.length=σ.length) (w:∀(i:Nat) v,a[i]? =some (some v)->σ[i]? =some (some v)):Inv X pins a H s:=
 ⟨I.ok,I.os,I.bare,I.base,let ⟨m,hn,hl'⟩:=I.loc;⟨m,hn,λi x v b c d=>hl' i x v b (w i v c) d⟩,I.cell,I.free,I.nj,I.pin,I.hok,e.trans I.len⟩
theorem Inv.abV {a:List (Addr×Obj)} (I:Inv X pins σ H s) (h:∀p∈a,s.heap.get? p.1=some p.2/\H p.1=none/\p.1≠X.env.locals/\p.1∉X.fs/\∀v,p.2.data≠ .cell v):Inv X a σ H s:=
 ⟨I.ok,I.os,I.bare,I.base,I.loc,I.cell,I.free,I.nj,λp b=>(dO.mp b).elim (λz=>I.pin p (qg _ z)) (h p),I.hok,I.len⟩
theorem QB {N:List Str} (e:N.Nodup) {i j:Nat} {x:Str} (a:N[i]? =some x) (b:N[j]? =some x):i=j:=by obtain⟨f,c⟩:=jX.mp a;obtain⟨g,d⟩:=jX.mp b;exact(Bg e).mp (c.trans d.symm)
theorem air {M:Model} {A:Around} {E:Value->Shared->Prop} {i:Nat} {x:Str} {v:V} {u:Value} {Q:Unit->Shared->Prop} (I:Inv X pins σ H s) (hN:X.N.Nodup) (T:X.N[i]? =some x) (B:Loc X.env.scope x) (r:RelV v u)
  (h:∀s',Inv X pins (σ.set i (some v)) H s'->(∃a,pD a s.heap s'.heap/\(a=X.env.locals\/X.env.cells.lookup x=some a))->Q () s') (hf:X.fn x=true\/X.env.scope.names.lookup x=some .local:=by first | exact .inl rfl | exact .inr rfl | assumption):wpAny M A (storeName X.env x u) Q E s:=by
 obtain⟨m,hn,hl⟩:=id I.loc;have S:(X.env.scope.kind== .class||(X.env.scope.kind== .module&&X.env.locals !=X.env.globals))=false:=by rw[I.ok.kind];rfl
 have U:i < σ.length:=by rw[I.len];exact(jX.mp T).1
 have cne:=I.cne;have l:∀{a:Addr} {h':Heap},(∃o,s.heap.get? a=some o/\H a=none)->pD a s.heap h'->HOk X.prog X.w H h':=λ{a h'} ha f b ob e=>by
  obtain⟨_,_,C⟩:=ha;refine(I.hok b ob e).stay (λc w' t q=>(f.2 c ?_).trans q) (λ_ q=>q) λ_ _ q=>q;rintro rfl;rcases t with rfl | t;.rw[C]at e;cases e
  .rw[C]at t;cases t
 rcases B with G | G
 .refine wpAny_storeName_local G hn (λh' hn' f=> ?_) S;obtain⟨oL,_,_,hoL,_⟩:=id hn;refine h _ ⟨I.ok,I.os,I.bare,⟨λb o e n J B=> ?_,λb o e n J B=> ?_,I.base.free,λb o e B=> ?_,I.base.tups,I.base.pL,I.base.rJ⟩,⟨_,hn',λj y v' g F e3=> ?_⟩,λy c e=> ?_,I.free,I.nj,λp hp=> ?_,l ⟨oL,hoL,I.free⟩ f,by simpa using I.len⟩ ⟨_,f,.inl rfl⟩;.exact(f.2 b (fZ (jW (dR e) I.ok.above))).trans (I.base.keep b o e n J B)
  .obtain⟨sl,g⟩:=I.base.slot b o e n J B;exact⟨sl,(f.2 b (fZ (jW (dR e) I.ok.above))).trans g⟩
  .obtain⟨o',g⟩:=I.base.there b o e B;exact⟨o',(f.2 b (fZ (jW (dR e) I.ok.above))).trans g⟩
  .by_cases O:j=i;.subst O;rw[T]at g;cases g;rw[xV U]at F;cases F;exact⟨u,r,.inl ⟨G,by simp⟩⟩
   .rw[Gx (lB O)]at F;obtain⟨u',r',q⟩:=hl j y v' g F e3;refine⟨u',r',?_⟩;rcases q with ⟨k,e⟩ | ⟨k,c,e,z⟩;.refine .inl ⟨k,?_⟩;have:y≠x:=λe=>O (QB hN g (e▸T));simp[this,e]
    .exact .inr ⟨k,c,e,z.sameBut f (cne y c e)⟩
  .obtain⟨w',z⟩:=I.cell y c e;exact⟨w',z.sameBut f (cne y c e)⟩
  .obtain⟨e,n,Z,nf,d⟩:=I.pin p hp;exact⟨(f.2 p.1 Z).trans e,n,Z,nf,d⟩
 .have L:X.fn x=true:=by
   rcases hf with z | z;.exact z
   .rw[z]at G;cases G
  obtain⟨c,t⟩:=I.ok.has x (.inl G);obtain⟨w',z⟩:=I.cell x c t;refine wpAny_storeName_cell I.ok.kind G t z (λh' P f=> ?_);obtain⟨oc,W,ais⟩:=id z;refine h {s with heap:=h'} ⟨I.ok,I.os,I.bare,⟨λb o e n J B=> ?_,λb o e n J B=> ?_,I.base.free,λb o e B=> ?_,I.base.tups,I.base.pL,I.base.rJ⟩,⟨m,hn.sameBut f (lB (cne x c t)),λj y v' g F e3=> ?_⟩,λy Y e=> ?_,I.free,I.nj,λp hp=> ?_,l ⟨oc,W,I.nj x c t⟩ f,by simpa using I.len⟩ ⟨c,f,.inr t⟩;.exact(f.2 b (fZ (jW (dR e) (I.ok.cab x c L t)))).trans (I.base.keep b o e n J B)
  .obtain⟨sl,g⟩:=I.base.slot b o e n J B;exact⟨sl,(f.2 b (fZ (jW (dR e) (I.ok.cab x c L t)))).trans g⟩
  .obtain⟨o',g⟩:=I.base.there b o e B;exact⟨o',(f.2 b (fZ (jW (dR e) (I.ok.cab x c L t)))).trans g⟩
  .by_cases O:j=i;.subst O;rw[T]at g;cases g;rw[xV U]at F;cases F;exact⟨u,r,.inr ⟨.inl G,c,t,P⟩⟩
   .rw[Gx (lB O)]at F;obtain⟨u',r',q⟩:=hl j y v' g F e3;refine⟨u',r',?_⟩;rcases q with q | ⟨k,Y,e,z'⟩;.exact .inl q
    .refine .inr ⟨k,Y,e,z'.sameBut f ?_⟩;rintro rfl;exact O (QB hN g (I.ok.inj _ _ _ e t▸T))
  .by_cases R:Y=c;.subst R;exact⟨_,P⟩
   .obtain⟨w2,z2⟩:=I.cell y Y e;exact⟨w2,z2.sameBut f R⟩
  .obtain⟨e,n,Z,nf,d⟩:=I.pin p hp;refine⟨(f.2 p.1 ?_).trans e,n,Z,nf,d⟩;intro q;rw[q,W]at e;have q':=jV e;exact d w' (by rw[<-q'];exact ais)
theorem QD {M:Model} {A:Around} {E:Value->Shared->Prop} {i:Nat} {x:Str} {v:V} {u:Value} {Q:Unit->Shared->Prop} (I:Inv X pins σ H s) (c:X.N.Nodup) (e:X.N[i]? =some x) (f:Loc X.env.scope x) (r:RelV v u)
  (h:∀a,Inv X pins (σ.set i (some v)) H a->Q () a) (d:X.fn x=true\/X.env.scope.names.lookup x=some .local:=by first | exact .inl rfl | exact .inr rfl | assumption):wpAny M A (storeName X.env x u) Q E s:=
 air I c e f r (λa b _=>h a b) d
theorem Inv.call' {a:Shared} {ch:List Addr} (I:Inv X pins σ H s) (h:a.os=s.os) (u:Un (frs X.stack) ch H H' s.heap a.heap) (f:HOk X.prog X.w H' a.heap) (g:AllBare a.gens)
  (d:∀b∈ch,(b∈X.ex\/X.s_0.heap.objs.size<=b)/\b≠X.env.locals/\(∀x c,X.env.cells.lookup x=some c->c≠b)/\∀p∈X.pn++pins,p.1≠b):Inv X pins σ H' a:=by
 obtain⟨h',j,i,m,l⟩:=a;have e:=h;subst e;exact I.call u f g d
end
abbrev XK:=Value->Option Addr->Hp->Prop
abbrev St:=List (Option V)
abbrev VK:=V->Hp->Prop
abbrev TE:=St->Hp->VK->Prop
abbrev TT:=St->Hp->(Bool->Hp->Prop)->Prop
abbrev TA:=St->Hp->(List V->Hp->Prop)->Prop
structure Ends where
 nx:St->Hp->Prop
 rt:VK
 bk:St->Hp->Prop:=λ_ _=>False
 ct:St->Hp->Prop:=λ_ _=>False
abbrev TS:=Ends->St->Hp->Prop
def EP (X:Cx) (pins:List (Addr×Obj)) (σ:St) (Q:VK) (u:Value) (b:Shared):Prop:=∃v a,Inv X pins σ a b/\RelV v u/\Q v a
def TP (X:Cx) (pins:List (Addr×Obj)) (σ:St) (Q:Bool->Hp->Prop) (b:Bool) (c:Shared):Prop:=∃a,Inv X pins σ a c/\Q b a
def AP (X:Cx) (pins:List (Addr×Obj)) (σ:St) (Q:List V->Hp->Prop) (d:List Value) (c:Shared):Prop:=∃b a,Inv X pins σ a c/\Vals b d/\Q b a
def SP (X:Cx) (pins:List (Addr×Obj)) (D:Ends) (f:Flow) (c:Shared):Prop:=
 match f with
 | .next=>∃b a,Inv X pins b a c/\D.nx b a
 | .brk=>∃b a,Inv X pins b a c/\D.bk b a
 | .cont=>∃b a,Inv X pins b a c/\D.ct b a
 | .ret u=>∃v b a,Inv X pins b a c/\RelV v u/\D.rt v a
def PE (X:Cx) (e:Expr) (t:TE):Prop:=
 ∀(a:List (Addr×Obj)) (s:Shared) (σ:St) (H:Hp) (Q:VK),Inv X a σ H s->t σ H Q->wpAny (model X.prog X.w) X.A (eval e X.env) (EP X a σ Q) X.xe s
def PT (X:Cx) (e:Expr) (t:TT):Prop:=
 ∀(a:List (Addr×Obj)) (s:Shared) (σ:St) (H:Hp) (Q:Bool->Hp->Prop),Inv X a σ H s->t σ H Q->wpAny (model X.prog X.w) X.A (isTrue e X.env (eval e X.env)) (TP X a σ Q) X.xe s
def PW (X:Cx) (e:Expr) (t:TT):Prop:=
 ∀(b:Sem Value) (a:List (Addr×Obj)) (s:Shared) (σ:St) (H:Hp) (Q:Bool->Hp->Prop),Inv X a σ H s->t σ H Q->wpAny (model X.prog X.w) X.A (isTrue e X.env b) (TP X a σ Q) X.xe s
theorem PW.pt (h:PW X e t):PT X e t:=h _
def PA (X:Cx) (c:List Expr) (t:TA):Prop:=
 ∀(b:Pos) (a:List (Addr×Obj)) (s:Shared) (σ:St) (H:Hp) (Q:List V->Hp->Prop),Inv X a σ H s->t σ H Q->wpAny (model X.prog X.w) X.A (spliced (backTo b (starEach c X.env))) (AP X a σ Q) X.xe s
def PS (X:Cx) (st:Stmt) (t:TS):Prop:=
 ∀a s σ H D,Inv X a σ H s->t D σ H->wpAny (model X.prog X.w) X.A (exec st X.env) (SP X a D) X.xe s
def PSs (X:Cx) (st:List Stmt) (t:TS):Prop:=
 ∀a s σ H D,Inv X a σ H s->t D σ H->wpAny (model X.prog X.w) X.A (execs st X.env) (SP X a D) X.xe s
theorem thn {α:Type} {t:Sem α} {Q b:α->Shared->Prop} {M:Model} {A:Around} {E:Value->Shared->Prop} {s:Shared} (h:wpAny M A t Q E s) (c:∀a s,Q a s->b a s):wpAny M A t b E s:=kW h c λ_ _ x=>x
theorem dN {α β:Type} {t:Sem α} {c:Hp->Shared->Prop} {d:α->β->Prop} {e:β->Hp->Prop} {f:α->Shared->Prop} {M:Model} {A:Around} {E:Value->Shared->Prop} {s:Shared} (h:wpAny M A t (λu j=>∃x b,c b j/\d u x/\e x b) E s) (g:∀a s x H,c H s->d a x->e x H->f a s):wpAny M A t f E s:=kW h (λa s ⟨x,H,i,r,q⟩=>g a s x H i r q) λ_ _ x=>x
section
variable {X:Cx}
def bA (i:Nat):TE:=λσ H Q=>∃v,σ[i]? =some (some v)/\Q v H
def tC (v:V):TE:=λ_ H Q=>Q v H
theorem ait (n:X.N[i]? =some x) (t:Vis X.env.scope x) (g:(x==("__debug__" :Str))=false:=by decide) (f:(x==("__classdict__" :Str))=false:=by decide):PE X (.Name x pos) (bA i):=by
 intro d s σ H Q I h;obtain⟨v,e,h⟩:=h;obtain⟨m,q,o⟩:=I.loc;obtain⟨u,r,l⟩:=o i x v n e t;have fin:EP X d σ Q u s:=⟨v,H,I,r,h⟩;rcases l with ⟨b,p⟩ | ⟨b,c,j,a⟩;.exact Od (Z5 I.ok.kind b q p fin) g
 .rcases b with b | b;.exact Od (Z6 I.ok.kind b j a fin) g
  .exact Od (wpAny_loadName_free I.ok.kind b j a fin f) g
theorem aM {i j pos}:PE X (.Constant (.int i) j pos) (tC (.int i)):=λ_ _ _ H _ I h=>wpAny_Constant_int ⟨.int i,H,I.tok _,⟨_,rfl⟩,h⟩
theorem fO {b j pos}:PE X (.Constant (.bool b) j pos) (tC (.bl b)):=λ_ _ _ H _ I h=>Constant_bool ⟨.bl b,H,I,rfl,h⟩
theorem vI {x j pos}:PE X (.Constant (.str x) j pos) (tC (.str x)):=λ_ _ _ H _ I h=>Calls.Constant_str ⟨.str x,H,I.tok _,⟨_,rfl⟩,h⟩
def Gl (X:Cx) (x:Str):Prop:=X.env.kindOf x=some .globalImplicit
theorem B_ (I:Inv X pins σ H s) (b:Gl X x) (c:X.mg x=some u) (h:Q u s)
  (a:(x==("__debug__" :Str))=false:=by decide):wpAny (model X.prog X.w) X.A (eval (.Name x pos) X.env) Q E s:=
 aa0 I.ok.kind b (Calls.loadGlobal_global (by rw[I.ok.glob];exact I.mod.glob.keeps I.bk) c h) a
theorem yD (I:Inv X pins σ H s) (d:Gl X x) (e:X.mg x=none) (g:bootBuiltins x=some u) (h:Q u s)
  (f:x≠"__name__" :=by decide) (c:(x==("__debug__" :Str))=false:=by decide):wpAny (model X.prog X.w) X.A (eval (.Name x pos) X.env) Q E s:=by
 obtain⟨i,a,b⟩:=I.mod.blt;exact aa0 I.ok.kind d (Calls.loadGlobal_builtin (by rw[I.ok.glob];exact I.mod.glob.keeps I.bk) e (by rw[I.ok.blt];exact a.keeps I.bk) ((b x f).trans g) h) c
theorem abX (b:Gl X x) (c:X.mg x=some u) (r:RelV v u) (a:(x==("__debug__" :Str))=false:=by decide):PE X (.Name x pos) (tC v):=
 λ_ _ _ H _ I h=>B_ I b c ⟨v,H,I,r,h⟩ a
variable {a b:Expr} {ta tb:TE} {pos:Pos}
def PC (X:Cx) (op:CmpOp) (a b:Expr) (t:TE):Prop:=
 ∀(c:List (Addr×Obj)) (s:Shared) (σ:St) (H:Hp) (Q:VK),Inv X c σ H s->t σ H Q->
  wpAny (model X.prog X.w) X.A (eval a X.env) (λv d=>wpAny (model X.prog X.w) X.A (eval b X.env) (λu e=>wpAny (model X.prog X.w) X.A (compareOp op v u) (EP X c σ Q) X.xe e) X.xe d) X.xe s
def tB (t:TE):TT:=λσ H Q=>t σ H λx a=>∃c,x= .bl c/\Q c a
theorem abY (h:PC X op a b t) (d:behindInMarks op b=false:=by first | exact aiu _ (by decide) (by decide) | rfl):PE X (.Compare a [op] [b] pos) t:=λc s σ H Q I e=>Z7 (h c s σ H Q I e) d
theorem gA {op:CmpOp} {t:TE} (h:PC X op a b t) (f:behindInMarks op b=false:=by first | exact aiu _ (by decide) (by decide) | rfl):PT X (.Compare a [op] [b] pos) (tB t):=by intro e s σ H Q I l;refine Z8 (thn (h e s σ H _ I l) λv p f=>thn f λu w j=>thn j λc y m=> ?_) f;obtain⟨x,g,i,o,n⟩:=m;obtain⟨d,rfl,q⟩:=n;cases o;exact tG ⟨g,i,q⟩
theorem bV {e:Expr} {t:TE} (h:PE X e t) (g:∀a,isTrue e X.env a=(do let v <-a;standAt e.pos;holding [v] (truthy v)):=by intro _;rfl):PT X e (tB t):=by intro b s σ H Q I i;refine isTrue_plain (dN (h b s σ H _ I i) λv m x c f l j=> ?_) (g _);obtain⟨d,rfl,q⟩:=j;cases l;exact tG ⟨c,f,q⟩
variable {tA tB':TT} {rest:List Expr}
def yE (t u:TT):TT:=λσ H Q=>t σ H λc a=>if c=true then u σ a Q else Q false a
def tOr (t u:TT):TT:=λσ H Q=>t σ H λc a=>if c=true then Q true a else u σ a Q
def Ca (t:TT):TT:=λσ H Q=>t σ H λc a=>Q (!c) a
theorem pN (d:PT X a tA):PW X (.BoolOp .And [a] pos) tA:=by
 intro g b s σ H Q I h;refine isTrue_and (thn (d b s σ H Q I h) λc f e=> ?_);cases c with
 | true=>exact isTrue_and_nil e
 | false=>exact e
theorem jm (d:PT X a tA):PW X (.BoolOp .Or [a] pos) tA:=by
 intro g b s σ H Q I h;refine isTrue_or (thn (d b s σ H Q I h) λc f e=> ?_);cases c with
 | false=>exact isTrue_or_nil e
 | true=>exact e
theorem pO (i:PT X a tA) (j:PW X (.BoolOp .And (b::rest) pos) tB'):PW X (.BoolOp .And (a::b::rest) pos) (yE tA tB'):=by
 intro n d s σ H Q I h;refine isTrue_and (thn (i d s σ H _ I h) λc m l=> ?_);obtain⟨e,f,g⟩:=l;cases c with
 | true=>exact j n d m σ e Q f g
 | false=>exact⟨e,f,g⟩
theorem gW (i:PT X a tA) (j:PW X (.BoolOp .Or (b::rest) pos) tB'):PW X (.BoolOp .Or (a::b::rest) pos) (tOr tA tB'):=by
 intro n d s σ H Q I h;refine isTrue_or (thn (i d s σ H _ I h) λc m l=> ?_);obtain⟨e,f,g⟩:=l;cases c with
 | true=>exact⟨e,f,g⟩
 | false=>exact j n d m σ e Q f g
theorem cN (e:PT X a tA):PT X (.UnaryOp .Not a pos) (Ca tA):=by intro b s σ H Q I h;exact isTrue_not (e b s σ H (λc d=>Q (!c) d) I h)
def Hs (ta tb:TE):TE:=λσ H Q=>ta σ H λx a=>∃c,x= .bl c/\if c=true then tb σ a Q else Q (.bl false) a
def abZ (ta tb:TE):TE:=λσ H Q=>ta σ H λx a=>∃c,x= .bl c/\if c=true then Q (.bl true) a else tb σ a Q
def QF (ta:TE):TE:=λσ H Q=>ta σ H λx a=>∃c,x= .bl c/\Q (.bl (!c)) a
theorem mz {op} (h:PE X a t):PE X (.BoolOp op [a] pos) t:=λb s σ H Q I c=>BoolOp_one (h b s σ H Q I c)
theorem oH (i:PE X a ta) (j:PE X (.BoolOp .And (b::rest) pos) tb):PE X (.BoolOp .And (a::b::rest) pos) (Hs ta tb):=by
 intro d s σ H Q I h;refine BoolOp_and (dN (i d s σ H _ I h) λv m x f g l e=> ?_);obtain⟨c,rfl,e⟩:=e;cases l;refine tG ?_;cases c with
 | true=>exact j d m σ f Q g e
 | false=>exact⟨.bl false,f,g,rfl,e⟩
theorem Cd (i:PE X a ta) (j:PE X (.BoolOp .Or (b::rest) pos) tb):PE X (.BoolOp .Or (a::b::rest) pos) (abZ ta tb):=by
 intro d s σ H Q I h;refine BoolOp_or (dN (i d s σ H _ I h) λv m x f g l e=> ?_);obtain⟨c,rfl,e⟩:=e;cases l;refine tG ?_;cases c with
 | false=>exact j d m σ f Q g e
 | true=>exact⟨.bl true,f,g,rfl,e⟩
theorem QG (g:PE X a ta):PE X (.UnaryOp .Not a pos) (QF ta):=by intro b s σ H Q I h;refine UnaryOp_ (dN (g b s σ H _ I h) λv j x e f i d=> ?_);obtain⟨c,rfl,d⟩:=d;cases i;exact not_of (tG ⟨.bl (!c),e,f,rfl,d⟩)
end
def SqL (K:aW) (H:Hp) (a:Addr) (xs:List V):Prop:=
 Rd H a (.lst xs)\/
  ∃o b n,K.lookup a=some o/\o.cls= .type "list" /\o.dict=none/\o.data= .seq b n/\b.size<=sizeLine/\Vals xs b.toList
def SqT (K:aW) (H:Hp) (a:Addr) (xs:List V):Prop:=
 Rd H a (.tup xs)\/
  ∃o b n,K.lookup a=some o/\o.cls= .type "tuple" /\o.data= .seq b n/\b.size<=sizeLine/\Vals xs b.toList
def aiv:Value->Option V
 | .none=>some .non
 | .bool b=>some (.bl b)
 | .int i _=>some (.int i)
 | .str x _=>some (.str x)
 | .bytes b _=>some (.byt b)
 | .float b _=>some (.flt b)
 | .ref a=>some (.ref a)
 | .type n=>some (.ty n)
 | _=>none
theorem RelV.abs (r:RelV x u):aiv u=some x:=by
 cases x with
 | non=>cases r;rfl
 | bl _=>cases r;rfl
 | int _=>obtain⟨t,rfl⟩:=r;rfl
 | str _=>obtain⟨t,rfl⟩:=r;rfl
 | byt _=>obtain⟨t,rfl⟩:=r;rfl
 | flt _=>obtain⟨t,rfl⟩:=r;rfl
 | ref _=>cases r;rfl
 | ty _=>cases r;rfl
theorem RelV.inj (r:RelV x u) (q:RelV y u):x=y:=jV (r.abs.symm.trans q.abs)
theorem Vals.inj:∀{xs ys:List V} {a:List Value},Vals xs a->Vals ys a->xs=ys
 | _,_,_,.nil,.nil=>rfl
 | _,_,_,.cons r t,.cons b c=>by rw[r.inj b,Vals.inj t c]
section
variable {X:Cx} {pins:List (Addr×Obj)} {σ:St} {H:Hp} {s:Shared} {a:Addr} {xs ys:List V}
theorem SqL.of {K:aW} (h:H a=some (.lst xs)):SqL K H a xs:= .inl (.inl h)
theorem SqT.of {K:aW} (h:H a=some (.tup xs)):SqT K H a xs:= .inl (.inl h)
theorem Inv.list (I:Inv X pins σ H s) (h:SqL X.K H a xs):∃b:List Value,Vals xs b/\PlainL s.heap a b.toArray/\xs.length<=sizeLine:=by
 rcases h with h | ⟨o,b,n,f,c,d,g,i,r⟩;.obtain⟨z,b,n,r,e⟩:=h.ok I.hok;exact⟨b,r,⟨_,n,e,rfl,rfl,rfl⟩,z⟩
 .refine⟨b.toList,r,⟨o,n,I.kIn a o f,c,d,by simpa using g⟩,?_⟩;have e:=r.length;simp only[pI]at e;omega
theorem Inv.tuple (I:Inv X pins σ H s) (h:SqT X.K H a xs):∃b:List Value,Vals xs b/\IsTup s.heap a b.toArray/\xs.length<=sizeLine:=by
 rcases h with h | ⟨o,b,n,d,c,f,g,r⟩;.obtain⟨z,b,r,p⟩:=h.ok I.hok;exact⟨b,r,p,z⟩
 .refine⟨b.toList,r,⟨o,I.kIn a o d,c,n,by simpa using f⟩,?_⟩;have e:=r.length;simp only[pI]at e;omega
theorem Inv.aiw (I:Inv X pins σ H s) (h:SqL X.K H a xs) (j:SqL X.K H a ys):xs=ys:=by
 obtain⟨c,r,⟨o,n,e,_,_,d⟩,_⟩:=I.list h;obtain⟨b,l,⟨p,m,g,_,_,f⟩,_⟩:=I.list j;rw[e]at g;cases g;rw[d]at f;injection f with i _;have:c=b:=by simpa using congrArg aa1 i
 subst this;exact r.inj l
end
abbrev Cx.wish (X:Cx) (E:Value->Shared->Prop):Cx:={X with xe:=E}
abbrev Cx.nox (X:Cx):Cx:=X.wish λ_ _=>False
theorem Cx.Ok.wish {X:Cx} (ok:X.Ok) (E:Value->Shared->Prop):(X.wish E).Ok:=
 ⟨ok.mod,ok.kind,ok.glob,ok.blt,ok.above,ok.inj,ok.has,ok.cab,ok.hd,ok.frames,ok.stk,ok.exf,ok.bs,ok.bsz,ok.BX,ok.BZ,ok.oG,ok.frf⟩
theorem Cx.Ok.tZ {X:Cx} {E:Value->Shared->Prop} (ok:(X.wish E).Ok):X.Ok:=
 ⟨ok.mod,ok.kind,ok.glob,ok.blt,ok.above,ok.inj,ok.has,ok.cab,ok.hd,ok.frames,ok.stk,ok.exf,ok.bs,ok.bsz,ok.BX,ok.BZ,ok.oG,ok.frf⟩
section
variable {X:Cx} {pins:List (Addr×Obj)} {σ:St} {H:Hp} {s:Shared} {E:Value->Shared->Prop}
theorem Inv.wish (I:Inv X pins σ H s) (E:Value->Shared->Prop):Inv (X.wish E) pins σ H s:=⟨I.ok.wish E,I.os,I.bare,I.base,I.loc,I.cell,I.free,I.nj,I.pin,I.hok,I.len⟩
theorem Inv.tZ (I:Inv (X.wish E) pins σ H s):Inv X pins σ H s:=⟨I.ok.tZ,I.os,I.bare,I.base,I.loc,I.cell,I.free,I.nj,I.pin,I.hok,I.len⟩
theorem SP.tZ {D:Ends} {f:Flow} {c:Shared} (h:SP (X.wish E) pins D f c):SP X pins D f c:=by
 cases f with
 | next=>obtain⟨b,a,I,q⟩:=h;exact⟨b,a,I.tZ,q⟩
 | brk=>obtain⟨b,a,I,q⟩:=h;exact⟨b,a,I.tZ,q⟩
 | cont=>obtain⟨b,a,I,q⟩:=h;exact⟨b,a,I.tZ,q⟩
 | ret u=>obtain⟨v,b,a,I,r,q⟩:=h;exact⟨v,b,a,I.tZ,r,q⟩
theorem PSs.nox {st:List Stmt} {t:TS} (h:PSs X.nox st t):PSs X st t:=λpins s σ H D I a=>
 kW (h pins s σ H D (I.wish _) a) (λ_ _ q=>q.tZ) λ_ _ z=>jP z
end
section
variable {X:Cx} {st:Stmt} {rest:List Stmt} {t u:TS} {e:Expr} {te:TE} {pos:Pos}
def t_:TS:=λD σ H=>D.nx σ H
def nu (t u:TS):TS:=λD σ H=>t {D with nx:=u D} σ H
theorem aV:PSs X [] t_:=λ_ _ σ H _ I h=>FZ ⟨σ,H,I,h⟩
theorem aF (d:PS X st t) (e:PSs X rest u):PSs X (st::rest) (nu t u):=by
 intro a s σ H D I h;refine Z9 (thn (d a s σ H {D with nx:=u D} I h) λf g q=> ?_);cases f with
 | next=>obtain⟨i,b,c,q⟩:=q;exact e a g i b D c q
 | ret v=>exact q
 | brk=>exact q
 | cont=>exact q
theorem aD (b:PS X st t):PSs X [st] t:=by
 intro a s σ H D I h;refine Z9 (thn (b a s σ H D I h) λf c q=> ?_);cases f with
 | next=>exact FZ q
 | ret v=>exact q
 | brk=>exact q
 | cont=>exact q
theorem Inv.quiet (I:Inv X pins σ H s):interactive X.env=false:=by simp[interactive,I.ok.kind]
def pP (te:TE):TS:=λD σ H=>te σ H λ_ a=>D.nx σ a
theorem eE (d:PE X e te) (f:swapsWith e none pos.line X.env=pure false:=by rfl):PS X (.Expr e pos) (pP te):=by intro a s σ H D I h;exact wpAny_Expr_any (dN (d a s σ H _ I h) λv j x b c i g=>⟨σ,b,c,g⟩) I.quiet f
def Ce (te:TE):TS:=λD σ H=>te σ H D.rt
theorem aK (d:PE X e te):PS X (.Return (some e) pos) (Ce te):=by intro a s σ H D I h;exact wpAny_Return_some (dN (d a s σ H _ I h) λv i x b c g f=>⟨x,σ,b,c,g,f⟩)
def oJ (c:TT) (t u:TS):TS:=λD σ H=>c σ H λb a=>if b=true then t D σ a else u D σ a
theorem aR (n:PT X c tc) (l:PSs X a t) (m:PSs X b u):PS X (.If c a b pos) (oJ tc t u):=by
 intro e s σ H D I h;refine wpAny_If (thn (n e s σ H _ I h) λd j o=> ?_);obtain⟨f,g,i⟩:=o;cases d with
 | true=>exact l e j σ f D g i
 | false=>exact m e j σ f D g i
end
abbrev TG:=V->St->Hp->(St->Hp->Prop)->Prop
def PG (X:Cx) (a:Expr) (t:TG):Prop:=
 ∀b s σ H v u Q,Inv X b σ H s->RelV v u->t v σ H Q->
  wpAny (model X.prog X.w) X.A (assign a X.env u) (λ_ e=>∃d c,Inv X b d c e/\Q d c) X.xe s
abbrev TIp:=V->V->Hp->VK->Prop
def PIp (X:Cx) (op:Operator) (t:TIp):Prop:=
 ∀a s σ H x y v u Q,Inv X a σ H s->RelV x v->RelV y u->t x y H Q->
  wpAny (model X.prog X.w) X.A (inplaceOp op v u) (EP X a σ Q) X.xe s
section
variable {X:Cx} {pos:Pos}
def jC (i:Nat):TG:=λv σ H Q=>Q (σ.set i (some v)) H
theorem cQ (c:X.N.Nodup) (e:X.N[i]? =some x:=by rfl) (f:Loc X.env.scope x:=by exact vm rfl) (d:X.fn x=true\/X.env.scope.names.lookup x=some .local:=by first | exact .inl rfl | exact .inr rfl | assumption):PG X (.Name x pos) (jC i):=by intro a s σ H v u Q I r h;exact wpAny_assign_Name (QD I c e f r (λg b=>⟨_,H,b,h⟩) d)
def Cg (b:TE) (g:TG):TS:=λD σ H=>b σ H λx a=>g x σ a D.nx
theorem bO (f:X.N.Nodup) (g:PE X e te) (l:X.N[i]? =some x:=by rfl) (n:Loc X.env.scope x:=by exact vm rfl) (m:swapsWith e (some (.Name x pos')) pos.line X.env=pure false:=by rfl) (j:X.fn x=true\/X.env.scope.names.lookup x=some .local:=by first | exact .inl rfl | exact .inr rfl | assumption):
  PS X (.Assign [.Name x pos'] e pos) (Cg te (jC i)):=by
 intro a s σ H D I h;refine wpAny_Assign_Name (dN (g a s σ H _ I h) λv q y b c p o=> ?_) m;exact QD c f l n p (λt d=>⟨_,b,d,o⟩) j
def ab0 (i:Nat) (c:TE) (d:TIp):TS:=λD σ H=>∃x,σ[i]? =some (some x)/\c σ H λy a=>d x y a λz b=>D.nx (σ.set i (some z)) b
theorem QH (E:X.N.Nodup) (n:X.N[i]? =some x) (f:Loc X.env.scope x) (G:PE X e te) (Q:PIp X op ti) (J:X.fn x=true\/X.env.scope.names.lookup x=some .local:=by first | exact .inl rfl | exact .inr rfl | assumption):
  PS X (.AugAssign (.Name x pos') op e pos) (ab0 i te ti):=by
 intro a s σ H D I h;obtain⟨v,C,h⟩:=h;obtain⟨m,P,L⟩:=I.loc;have g:Vis X.env.scope x:=by rcases f with k | k;exact .inl k;exact .inr (.inl k)
 obtain⟨u,r,l⟩:=L i x v n C g;refine wpAny_AugAssign_Name ?_;have j:wpAny (model X.prog X.w) X.A (eval e X.env) (λw Y=>wpAny (model X.prog X.w) X.A (inplaceOp op u w) (λr Z=>wpAny (model X.prog X.w) X.A (storeName X.env x r) (λ_=>SP X a D .next) X.xe Z) X.xe Y) X.xe s:=by refine dN (G a s σ H _ I h) λw W y o q T R=> ?_;refine dN (Q a W σ o v y u w _ q r T R) λz s2 zv p t U S=> ?_;exact QD t E n f U (λs3 B=>⟨_,p,B,S⟩) J
 rcases l with ⟨b,O⟩ | ⟨b,c,F,d⟩;.exact Z5 I.ok.kind b P O j
 .rcases b with b | b;.exact Z6 I.ok.kind b F d j
  .rcases f with k | k;.have:X.env.scope.names.lookup x=some .free:=b;rw[k]at this;cases this
   .have:X.env.scope.names.lookup x=some .free:=b;rw[k]at this;cases this
def ipI (f:Int->Int->Int):TIp:=λx y H Q=>∃i j,x= .int i/\y= .int j/\Q (.int (f i j)) H
theorem aix:PIp X .Add (ipI λi j=>i+j):=by intro a s σ H x y v u Q I d e h;obtain⟨i,j,b,c,q⟩:=h;subst b;subst c;obtain⟨t,rfl⟩:=d;obtain⟨f,rfl⟩:=e;exact iadd_int ⟨.int _,H,I.tok _,⟨_,rfl⟩,q⟩
end
section
variable {X:Cx} {pos:Pos}
def ab1 (c:TT) (g:TS):TS:=λD σ H=>∃W:Nat->St->Hp->Prop,(∃m,W m σ H)/\∀m σ H,W m σ H->
 c σ H λb d=>if b=true then ∃N:St->Hp->Prop,(∀f a,N f a->∃e,e < m/\W e f a)/\g {D with nx:=N,ct:=N,bk:=D.nx} σ d else D.nx σ d
theorem uc (B:PassesOwn (model X.prog X.w) X.A X.env X.xe) (G:PT X c tc) (F:PSs X body tb):PS X (.While c body [] pos) (ab1 tc tb):=by
 intro a s σ H D I h;obtain⟨W,⟨L,R⟩,turn⟩:=h;refine wpAny_While (codeAny_whileLoop (λn O=>∃C t,Inv X a C t O/\W n C t) ?_ L ⟨σ,H,I,R⟩);rintro n P ⟨j,u,E,S⟩;refine uY B (thn (G a P j u _ E (turn n j u S)) λb Q J=> ?_);obtain⟨x,y,g⟩:=J;cases b with
 | true=>
  obtain⟨N,z,g⟩:=g;rw[aB rfl];refine uY B (thn (F a Q j x _ y g) λf T i=> ?_);cases f with
  | next=>obtain⟨e,d,l,p⟩:=i;obtain⟨o,m,q⟩:=z e d p;exact⟨o,m,e,d,l,q⟩
  | cont=>obtain⟨e,d,l,p⟩:=i;obtain⟨o,m,q⟩:=z e d p;exact⟨o,m,e,d,l,q⟩
  | brk=>exact i
  | ret v=>exact i
 | false=>rw[au gG];exact FZ ⟨j,x,y,g⟩
end
structure It where
 go:Nat->Hp->Prop
 yld:Nat->Hp->V->Hp->Prop
 stop:Nat->Hp->Prop
def qD (X:Cx) (pins:List (Addr×Obj)) (H:Hp) (b:Addr):Prop:=
 H b=none/\b≠X.env.locals/\b∉X.fs/\(b∈X.ex\/X.s_0.heap.objs.size<=b)/\(∀x c,X.env.cells.lookup x=some c->c≠b)/\∀p∈X.pn++pins,p.1≠b
theorem Inv.QJ (I:Inv X pins σ H s) (a:s.heap.objs.size<=b) (d:H' b=none):qD X pins H' b:=by
 refine⟨d,Ot (jW I.lt a),I.aiq a,.inr (cI I.sz a),λx c e z=> ?_,λp f z=> ?_⟩;.obtain⟨v,q⟩:=I.cell x c e;exact absurd (jW q.lt (by rw[z];exact a)) (lQ _)
 .exact absurd (jW (dR (I.pin p f).1) (by rw[z];exact a)) (lQ _)
structure Turn (P:Program) (w:World) (K:aW) (tg:Expr) (J:It) (fp:List Addr) (it:Addr) (tn:Nat->Heap->Prop):Prop where
 mem:it∈fp
 obj:∀i h,tn i h->∀b∈fp,∃o,h.get? b=some o/\∀v,o.data≠ .cell v
 keep:∀i h h',tn i h->(∀b∈fp,∀o,h.get? b=some o->h'.get? b=some o)->tn i h'
 item:∀X,X.prog=P->X.w=w->X.K=K->X.calm=true->∀i pins s σ H E,Inv X pins σ H s->(∀b∈fp,qD X pins H b)->tn i s.heap->J.go i H->
  wpAny (model P w) X.A (pyNext (.ref it)) (λr s1=>∃u,r=some u/\
   wpAny (model P w) X.A (letOwnedTupleGo tg (.ref it) u) (λ_ s2=>∃x H',Inv X pins σ H' s2/\RelV x u/\J.yld i H x H'/\tn (i+1) s2.heap/\∀b∈fp,H' b=none) E s1) E s
 done:∀X,X.prog=P->X.w=w->X.K=K->X.calm=true->∀i pins s σ H E,Inv X pins σ H s->(∀b∈fp,qD X pins H b)->tn i s.heap->J.stop i H->
  wpAny (model P w) X.A (pyNext (.ref it)) (λr s1=>r=none/\Inv X pins σ H s1) E s
 self:∀A i s Q E,tn i s.heap->Q (.ref it) s->wpAny (model P w) A (pyIter (.ref it)) Q E s
abbrev TI:=St->Hp->(It->Hp->Prop)->Prop
def PIE (X:Cx) (pins:List (Addr×Obj)) (σ:St) (h:Expr) (R:It->Hp->Prop) (c:Value) (f:Shared):Prop:=
 ∃e d g J a,c= .ref e/\Inv X pins σ a f/\Turn X.prog X.w X.K h J d e g/\g 0 f.heap/\(∀b∈d,qD X pins a b)/\R J a
def PI (X:Cx) (c iter:Expr) (d:TI):Prop:=
 ∀a s σ H R,Inv X a σ H s->d σ H R->
  wpAny (model X.prog X.w) X.A (eval iter X.env) (λv b=>wpAny (model X.prog X.w) X.A (pyIter v) (PIE X a σ c R) X.xe b) X.xe s
theorem Ci (e:s.heap.get? it=some o) (b:o.cls= .type n) (c:o.data= .fields vs)
    (d:["enumerate","zip","dict_itemiterator","dict_reverseitemiterator","odict_iterator","itertools.zip_longest","itertools.pairwise"].contains n=false) (a:Q () s):wpAny M A (letOwnedTupleGo tg (.ref it) u) Q E s:=by
  cases tg <;> first
    | exact bJ a
    | (cases u <;> first
        | exact bJ a
        | (refine aP (wpAny_load e ?_)
           rw[b,c];show wpAny M A (if(["enumerate","zip","dict_itemiterator","dict_reverseitemiterator","odict_iterator","itertools.zip_longest","itertools.pairwise"].contains n&&vs[0]? ==some (rawInt _))=true then _ else _) Q E s;rw[au (by intro h;rw[d,GQ]at h;cases h)];exact bJ a))
def Itl (K:aW) (a:Addr):It:=
 ⟨λi H=>∃b x,SqL K H a b/\b[i]? =some x,λi H x c=>c=H/\∀b,SqL K H a b->b[i]? =some x,λi H=>∃b,SqL K H a b/\b.length<=i⟩
theorem aiy {P:Program} {w:World} {K:aW} {tg:Expr} (a g:Addr):Turn P w K tg (Itl K a) [g] g (λi h=>h.IsListIter g a i) where
 mem:=by simp
 obj:=λi h st b f=>by
  have e:b=g:=by simpa using f
  subst e;obtain⟨o,e,c,d⟩:=st;exact⟨o,e,λv z=>by rw[d]at z;cases z⟩
 keep:=λi h Q st k=>st.at λo e=>k g (by simp) o e
 item:=by intro X F J C R i j s σ H E I m st G;subst F J C;obtain⟨xs,x,n,L⟩:=G;obtain⟨N,O,p,Z⟩:=I.list n;obtain⟨u,W,ru⟩:=O.get L;obtain⟨q,t,U,y,A,B⟩:=m g (by simp);refine wpAny_pyNext_list_item st p.isList (by simpa using W) λQ l sb=> ?_;have S:=I.turned (t':=s.toks) (λb o f e=>(sb.2 b f).trans e) q t y A B;obtain⟨o,e,c,d⟩:=id l;exact⟨u,rfl,Ci e c d (by decide) ⟨x,H,S,ru,⟨rfl,λys Y=>by rw[I.aiw Y n];exact L⟩,l,λb f=>(m b f).1⟩⟩
 done:=by intro X F J C R i j s σ H E I m st G;subst F J C;obtain⟨xs,n,L⟩:=G;obtain⟨N,O,p,Z⟩:=I.list n;obtain⟨q,t,U,y,A,B⟩:=m g (by simp);have hl:=O.length;exact wpAny_pyNext_list_end (I.ok.hd R) st p.isList (by simp;omega) λQ T=>⟨rfl,I.turned (λb o f e=>T b o f e) q t y A B⟩
 self:=λ_ _ _ _ _ st h=>wpAny_pyIter_listiter st h
section
variable {X:Cx} {tg:Expr}
def vJ (K:aW) (c:TE):TI:=λσ H R=>c σ H λx b=>∃a,x= .ref a/\(∃d,SqL K b a d)/\R (Itl K a) b
theorem eV {l:Expr} {g:TE} (m:PE X l g):PI X tg l (vJ X.K g):=by
 intro c s σ H R I h;refine dN (m c s σ H _ I h) λv f x i d w u=> ?_;obtain⟨a,e,⟨A,n⟩,q⟩:=u;subst e;cases w;obtain⟨t,z,p,y⟩:=d.list n;refine wpAny_pyIter_list p.isList ?_;refine⟨f.heap.objs.size,[f.heap.objs.size],_,_,i,rfl,d.kept λb o e=>fJ _ e,aiy a _,⟨_,iC _ rfl,rfl,rfl⟩,λb j=> ?_,q⟩;have e:b=f.heap.objs.size:=by simpa using j
 subst e;exact d.QJ (bW _) (d.hok.fresh (bW _))
def ud (h:TI) (g:TG) (f:TS):TS:=λD σ H=>h σ H λJ d=>∃W:Nat->Nat->St->Hp->Prop,(∃m,W 0 m σ d)/\∀i m σ H,W i m σ H->
 (J.stop i H/\D.nx σ H)\/(J.go i H/\∃N:St->Hp->Prop,(∀c a,N c a->∃b,b < m/\W (i+1) b c a)/\∀x a,J.yld i H x a->g x σ a λj e=>f {D with nx:=N,ct:=N,bk:=D.nx} j e)
def Cj (a:List Addr) (h:Heap):List (Addr×Obj):=a.filterMap λb=>(h.get? b).map λo=>(b,o)
theorem QK (a:b∈fp) (e:h.get? b=some o):(b,o)∈Cj fp h:=aaC.mpr ⟨b,a,by rw[e];rfl⟩
theorem aiz (d:p∈Cj fp h):p.1∈fp/\h.get? p.1=some p.2:=by
 obtain⟨b,c,e⟩:=aaC.mp d;cases q:h.get? b with
 | none=>rw[q]at e;cases e
 | some o=>rw[q]at e;have a:=jV e;subst a;exact⟨c,q⟩
theorem Inv.pinned (I:Inv X pins σ H s) (i:∀b∈fp,qD X pins H b) (j:∀b∈fp,∃o,s.heap.get? b=some o/\∀v,o.data≠ .cell v):Inv X (pins++Cj fp s.heap) σ H s:=
 I.abV λp l=>(dO.mp l).elim (λz=>I.pin p (pF _ z)) λz=>by obtain⟨c,e⟩:=aiz z;obtain⟨f,g,h,_⟩:=i p.1 c;obtain⟨o,a,d⟩:=j p.1 c;rw[e]at a;cases a;exact⟨e,f,g,h,d⟩
theorem Inv.Ht (I:Inv X (pins++pl) σ H s):Inv X pins σ H s:=I.abV λp a=>I.pin p (pF _ (qg _ a))
theorem d7 (F:PassesOwn (model X.prog X.w) X.A X.env X.xe) (hc:X.calm=true) (hi:PI X tg iter wi) (hg:PG X tg g) (l:PSs X body tb)
  (hs:∀x,foldedSetIterable iter X.env x=pure x:=by intro _;rfl):PS X (.For tg iter body [] pos) (ud wi g tb):=by
 intro a s σ H D I h;refine wpAny_For (thn (hi a s σ H _ I h) λv s1 h1=>thn h1 λitv s2 h2=> ?_) hs;obtain⟨it,C,tn,J,H2,e,I2,T,Z,f2,W,⟨m0,w0⟩,turn⟩:=h2;subst e;have p:∀{t:Hp},(∀b∈C,t b=none)->∀b∈C,qD X a t b:=λhn b l=>⟨hn b l,(f2 b l).2⟩;refine codeAny_forLoop_any (λn s'=>∃i O t,Inv X a O t s'/\tn i s'.heap/\(∀b∈C,t b=none)/\W i n O t) ?_ m0 ⟨0,σ,H2,I2,Z,λb l=>(f2 b l).1,w0⟩;rintro n s3 ⟨i,P,Q,I3,L,E,w3⟩;rcases turn i n P Q w3 with ⟨stop,qn⟩ | ⟨go,N,hN,step⟩;.refine uY F (thn (T.done X rfl rfl rfl hc i a s3 P Q X.xe I3 (p E) L stop) λr s4 z=> ?_);obtain⟨U,I4⟩:=z;subst U;exact FZ ⟨P,Q,I4,qn⟩
 .refine uY F (thn (T.item X rfl rfl rfl hc i a s3 P Q X.xe I3 (p E) L go) λr s4 z=> ?_);obtain⟨u,U,h4⟩:=z;subst U;refine uY F (thn h4 λ_ s5 z=> ?_);obtain⟨x,H5,I5,r5,y5,B,S⟩:=z;have R:=I5.pinned (p S) (T.obj _ _ B);refine uY F (thn (hg _ s5 P H5 x u _ R r5 (step x H5 y5)) λ_ s6 z=> ?_);obtain⟨σ6,H6,I6,q6⟩:=z;refine uY F (thn (l _ s6 σ6 H6 _ I6 q6) λf Y y=> ?_);have again:∀{q:St} {c:Hp},Inv X (a++Cj C s5.heap) q c Y->N q c->∃m,m < n/\∃i O t,Inv X a O t Y/\tn i Y.heap/\(∀b∈C,t b=none)/\W i m O t:=λ{q c} j G=>by obtain⟨m',hm,w7⟩:=hN q c G;refine⟨m',hm,i+1,q,c,j.Ht,T.keep _ _ _ B λb l o e=>(j.pin (b,o) (pF _ (pF _ (QK l e)))).1,λb l=> ?_,w7⟩;obtain⟨o,e,d⟩:=T.obj _ _ B b l;exact(j.pin (b,o) (pF _ (pF _ (QK l e)))).2.1
  cases f with
  | next=>obtain⟨q,c,j,G⟩:=y;exact again j G
  | cont=>obtain⟨q,c,j,G⟩:=y;exact again j G
  | brk=>obtain⟨q,c,j,y⟩:=y;exact⟨q,c,j.Ht,y⟩
  | ret v=>obtain⟨x7,q,c,j,r7,y⟩:=y;exact⟨x7,q,c,j.Ht,r7,y⟩
end
theorem yF {K:aW} {a:Addr} {xs:List V} {g:TG} {n:TS} {D:Ends} {σ:St} {H:Hp} (b:Nat->St->Hp->Prop) (o:b 0 σ H) (u:∀i σ H,i<=xs.length->b i σ H->SqL K H a xs)
  (v:∀i x σ H,xs[i]? =some x->b i σ H->g x σ H λj f=>n {D with nx:=b (i+1),ct:=b (i+1),bk:=D.nx} j f) (s:∀σ H,b xs.length σ H->D.nx σ H):
  ∃W:Nat->Nat->St->Hp->Prop,(∃m,W 0 m σ H)/\∀i m σ H,W i m σ H->
   ((Itl K a).stop i H/\D.nx σ H)\/((Itl K a).go i H/\∃N:St->Hp->Prop,(∀h c,N h c->∃l,l < m/\W (i+1) l h c)/\∀x c,(Itl K a).yld i H x c->g x σ c λj f=>n {D with nx:=N,ct:=N,bk:=D.nx} j f):=by
 refine⟨λi m σ H=>m=xs.length-i/\i<=xs.length/\b i σ H,⟨xs.length,by simp,fU _,o⟩,?_⟩;rintro i m σ H ⟨rfl,t,p⟩;have q:=u i σ H t p;by_cases d:i < xs.length;.refine .inr ⟨⟨xs,xs[i],q,by simp[d]⟩,b (i+1),λh c w=>⟨xs.length- (i+1),by omega,rfl,d,w⟩,λx c y=> ?_⟩;obtain⟨e,y⟩:=y;subst e;exact v i x σ _ (y xs q) p
 .have e:i=xs.length:=by omega
  subst e;exact .inl ⟨⟨xs,q,bW _⟩,s σ H p⟩
theorem ab2 (f:St->Hp->Prop) (μ:St->Hp->Nat) (h:f σ H)
  (i:∀σ H,f σ H->c σ H λb d=>if b=true then tb {D with nx:=λe a=>f e a/\μ e a < μ σ H,ct:=λe a=>f e a/\μ e a < μ σ H,bk:=D.nx} σ d else D.nx σ d)
  (mono:∀σ H Q g,(∀b d,Q b d->g b d)->c σ H Q->c σ H g):ab1 c tb D σ H:=by
 refine⟨λm σ H=>m=μ σ H/\f σ H,⟨_,rfl,h⟩,?_⟩;rintro m σ H ⟨rfl,p⟩;refine mono σ H _ _ (λb d q=> ?_) (i σ H p);cases b with
 | true=>exact⟨_,λe a ⟨j,l⟩=>⟨_,l,rfl,j⟩,q⟩
 | false=>exact q
abbrev R2:=V->V->Hp->VK->Prop
def OpR (X:Cx) (f:Value->Value->Sem Value) (r:R2):Prop:=
 ∀a s σ H x y v u Q,Inv X a σ H s->RelV x v->RelV y u->r x y H Q->
  wpAny (model X.prog X.w) X.A (f v u) (EP X a σ Q) X.xe s
def UnR (X:Cx) (f:Value->Sem Value) (r:V->Hp->VK->Prop):Prop:=
 ∀a s σ H x v Q,Inv X a σ H s->RelV x v->r x H Q->
  wpAny (model X.prog X.w) X.A (f v) (EP X a σ Q) X.xe s
def lC (X:Cx) (f:Value) (r:List V->Hp->VK->Prop):Prop:=
 ∀a s σ H c b Q,Inv X a σ H s->Vals c b->r c H Q->
  wpAny (model X.prog X.w) X.A (call f b) (EP X a σ Q) X.xe s
def tOp (r:R2) (c d:TE):TE:=λσ H Q=>c σ H λx a=>d σ a λy b=>r x y b Q
def tUn (r:V->Hp->VK->Prop) (b:TE):TE:=λσ H Q=>b σ H λx a=>r x a Q
def rI (C:Int->Int->Prop) (g:Int->Int->V):R2:=λx y H Q=>∃i j,x= .int i/\y= .int j/\C i j/\Q (g i j) H
def rI0 (g:Int->Int->V):R2:=λx y H Q=>∃i j,x= .int i/\y= .int j/\Q (g i j) H
def rU (g:Int->V):V->Hp->VK->Prop:=λx H Q=>∃i,x= .int i/\Q (g i) H
section
variable {X:Cx} {a b c:Expr} {ta tb tc:TE} {pos:Pos}
theorem QL (j:PE X a ta) (l:PE X b tb) {pins:List (Addr×Obj)} {s:Shared} {σ:St} {H:Hp} {R:V->V->Hp->Prop} (I:Inv X pins σ H s)
  (h:ta σ H λx e=>tb σ e λy c=>R x y c) {Q:Value->Shared->Prop} {f:Value->Value->Sem Value}
  (m:∀v u d x y c,Inv X pins σ c d->RelV x v->RelV y u->R x y c->wpAny (model X.prog X.w) X.A (f v u) Q X.xe d):
  wpAny (model X.prog X.w) X.A (eval a X.env) (λv z=>wpAny (model X.prog X.w) X.A (eval b X.env) (λu B=>wpAny (model X.prog X.w) X.A (f v u) Q X.xe B) X.xe z) X.xe s:=by
 refine dN (j pins s σ H _ I h) λv t x e g p n=> ?_;refine dN (l pins t σ e _ g n) λu d y c i q o=> ?_;exact m v u d x y c i p q o
theorem jD {op:Operator} {r:R2} (i:OpR X (binaryOp op) r) (f:PE X a ta) (g:PE X b tb):PE X (.BinOp a op b pos) (tOp r ta tb):=by intro c s σ H Q I h;exact wpAny_BinOp (QL f g I h λv u m x y d e j l q=>i c m σ d x y v u Q e j l q)
theorem ab3 (f:UnR X (unaryOp op) r) (e:PE X a ta):PE X (.UnaryOp op a pos) (tUn r ta):=by intro b s σ H Q I h;exact UnaryOp_ (dN (e b s σ H _ I h) λv j x c d i g=>f b j σ c x v Q d i g)
theorem opI {f:Value->Value->Sem Value} {C:Int->Int->Prop} {g:Int->Int->Int}
  (rule:∀i j t u s Q E,C i j->Q (.int (g i j) s.toks) {s with toks:=s.toks+1}->wpAny (model X.prog X.w) X.A (f (.int i t) (.int j u)) Q E s):
  OpR X f (rI C λi j=> .int (g i j)):=by
 intro a s σ H x y v u Q I c d h;obtain⟨i,j,rfl,rfl,b,q⟩:=h;obtain⟨t,rfl⟩:=c;obtain⟨e,rfl⟩:=d;exact rule i j t e s _ _ b ⟨.int (g i j),H,I.tok _,⟨_,rfl⟩,q⟩
theorem ab4 {f:Value->Value->Sem Value} {g:Int->Int->Int}
  (rule:∀i j t u s Q E,Q (.int (g i j) s.toks) {s with toks:=s.toks+1}->wpAny (model X.prog X.w) X.A (f (.int i t) (.int j u)) Q E s):
  OpR X f (rI0 λi j=> .int (g i j)):=by
 intro a s σ H x y v u Q I b c h;obtain⟨i,j,rfl,rfl,q⟩:=h;obtain⟨t,rfl⟩:=b;obtain⟨d,rfl⟩:=c;exact rule i j t d s _ _ ⟨.int (g i j),H,I.tok _,⟨_,rfl⟩,q⟩
theorem Hu {f:Value->Value->Sem Value} {g:Int->Int->Bool}
  (rule:∀i j t u s Q E,Q (.bool (g i j)) s->wpAny (model X.prog X.w) X.A (f (.int i t) (.int j u)) Q E s):
  OpR X f (rI0 λi j=> .bl (g i j)):=by
 intro a s σ H x y v u Q I b c h;obtain⟨i,j,rfl,rfl,q⟩:=h;obtain⟨t,rfl⟩:=b;obtain⟨d,rfl⟩:=c;exact rule i j t d s _ _ ⟨.bl (g i j),H,I,rfl,q⟩
def Ck (i j:Int):Prop:=(-(2 ^ 64) < i/\i < 2 ^ 64)\/(-(2 ^ 64) < j/\j < 2 ^ 64)
theorem Ck.ok (h:Ck i j):IntMulOk i j:=by
 rcases h with ⟨a,b⟩ | ⟨a,b⟩;.exact .of_left (Z_ a b)
 .exact .of_right (Z_ a b)
theorem ab5:OpR X (binaryOp .Add) (rI0 λi j=> .int (i+j)):=ab4 λ_ _ _ _ _ _ _ q=>add_int q
theorem QM:OpR X (binaryOp .Sub) (rI0 λi j=> .int (i-j)):=ab4 λ_ _ _ _ _ _ _ q=>sub_int q
theorem aiA:OpR X (binaryOp .Mult) (rI Ck λi j=> .int (i * j)):=opI λ_ _ _ _ _ _ _ a q=>mul_int q a.ok
theorem unI {f:Value->Sem Value} {g:Int->Int}
  (rule:∀i t s Q E,Q (.int (g i) s.toks) {s with toks:=s.toks+1}->wpAny (model X.prog X.w) X.A (f (.int i t)) Q E s):
  UnR X f (rU λi=> .int (g i)):=by
 intro a s σ H x v Q I b h;obtain⟨i,rfl,q⟩:=h;obtain⟨t,rfl⟩:=b;exact rule i t s _ _ ⟨.int (g i),H,I.tok _,⟨_,rfl⟩,q⟩
theorem ab6:UnR X (unaryOp .USub) (rU λi=> .int (-i)):=unI λ_ _ _ _ _ q=>neg_int q
end
def ab7:V->V->Bool
 | .non,.non=>true | .non,.int _=>true | .int _,.non=>true | .non,.bl _=>true | .bl _,.non=>true | .non,.str _=>true | .str _,.non=>true
 | .int _,.int _=>true | .bl _,.bl _=>true | .str _,.str _=>true | .byt _,.byt _=>true
 | .int _,.str _=>true | .str _,.int _=>true | .bl _,.str _=>true | .str _,.bl _=>true
 | _,_=>false
def rEq:R2:=λx y H Q=>ab7 x y=true/\Q (.bl (decide (x=y))) H
def rNe:R2:=λx y H Q=>ab7 x y=true/\Q (.bl (!decide (x=y))) H
theorem ab8:decide (V.int i=V.int j)=(i==j):=by rw[jA];simp
theorem ab9:decide (V.bl i=V.bl j)=(i==j):=by rw[jA];simp
theorem ab_:decide (V.str i=V.str j)=(i==j):=by rw[jA];simp
theorem acd:decide (V.byt i=V.byt j)=(i.toList==j.toList):=by rw[jA];cases i;cases j;simp
section
variable {X:Cx} {a b c:Expr} {ta tb tc:TE} {pos:Pos}
theorem fV (I:Inv X pins σ H s) (q:Q (.bl k) H) (e:k=k'):EP X pins σ Q (.bool k') s:=by subst e;exact⟨.bl k,H,I,rfl,q⟩
theorem bU:OpR X (compareOp .Eq) rEq:=by
 intro e s σ H x y v u Q I d a h;obtain⟨c,q⟩:=h;cases x with
 | non=>
  cases d;cases y with
  | non=>cases a;exact ag8 (fV I q (by simp))
  | bl j=>cases a;exact ag9 (fV I q (by simp))
  | int j=>obtain⟨b,rfl⟩:=a;exact aha (fV I q (by simp))
  | str j=>obtain⟨b,rfl⟩:=a;exact ahb (fV I q (by simp))
  | _=>exact absurd (c) gG
 | bl i=>
  cases d;cases y with
  | non=>cases a;exact ahc (fV I q (by simp))
  | bl j=>cases a;exact eq_bool (fV I q ab9)
  | str j=>obtain⟨b,rfl⟩:=a;exact ahm (fV I q (by simp))
  | _=>exact absurd (c) gG
 | int i=>
  obtain⟨t,rfl⟩:=d;cases y with
  | non=>cases a;exact ahd (fV I q (by simp))
  | int j=>obtain⟨b,rfl⟩:=a;exact eq_int (fV I q ab8)
  | str j=>obtain⟨b,rfl⟩:=a;exact ahn (fV I q (by simp))
  | _=>exact absurd (c) gG
 | str i=>
  obtain⟨t,rfl⟩:=d;cases y with
  | non=>cases a;exact ahe (fV I q (by simp))
  | bl j=>cases a;exact aho (fV I q (by simp))
  | int j=>obtain⟨b,rfl⟩:=a;exact ahp (fV I q (by simp))
  | str j=>obtain⟨b,rfl⟩:=a;exact eq_str (fV I q ab_)
  | _=>exact absurd (c) gG
 | byt i=>
  obtain⟨t,rfl⟩:=d;cases y with
  | byt j=>obtain⟨b,rfl⟩:=a;exact PySem.W.eq_bytes (fV I q acd)
  | _=>exact absurd (c) gG
 | _=>cases y <;> exact absurd (c) gG
theorem jE:OpR X (compareOp .NotEq) rNe:=by
 intro e s σ H x y v u Q I d a h;obtain⟨c,q⟩:=h;cases x with
 | non=>
  cases d;cases y with
  | non=>cases a;exact ahf (fV I q (by simp))
  | bl j=>cases a;exact ahg (fV I q (by simp))
  | int j=>obtain⟨b,rfl⟩:=a;exact ahh (fV I q (by simp))
  | str j=>obtain⟨b,rfl⟩:=a;exact ahi (fV I q (by simp))
  | _=>exact absurd (c) gG
 | bl i=>
  cases d;cases y with
  | non=>cases a;exact ahj (fV I q (by simp))
  | bl j=>cases a;exact ne_bool (fV I q (congrArg not ab9))
  | str j=>obtain⟨b,rfl⟩:=a;exact ahq (fV I q (by simp))
  | _=>exact absurd (c) gG
 | int i=>
  obtain⟨t,rfl⟩:=d;cases y with
  | non=>cases a;exact ahk (fV I q (by simp))
  | int j=>obtain⟨b,rfl⟩:=a;exact ne_int (fV I q (congrArg not ab8))
  | str j=>obtain⟨b,rfl⟩:=a;exact ahr (fV I q (by simp))
  | _=>exact absurd (c) gG
 | str i=>
  obtain⟨t,rfl⟩:=d;cases y with
  | non=>cases a;exact ahl (fV I q (by simp))
  | bl j=>cases a;exact ahs (fV I q (by simp))
  | int j=>obtain⟨b,rfl⟩:=a;exact aht (fV I q (by simp))
  | str j=>obtain⟨b,rfl⟩:=a;exact ne_str (fV I q (congrArg not ab_))
  | _=>exact absurd (c) gG
 | byt i=>
  obtain⟨t,rfl⟩:=d;cases y with
  | byt j=>obtain⟨b,rfl⟩:=a;exact PySem.W.ne_bytes (fV I q (congrArg not acd))
  | _=>exact absurd (c) gG
 | _=>cases y <;> exact absurd (c) gG
theorem yG:OpR X (compareOp .Lt) (rI0 λi j=> .bl (decide (i < j))):=Hu λ_ _ _ _ _ _ _ q=>lt_int q
theorem mC:OpR X (compareOp .LtE) (rI0 λi j=> .bl (decide (i<=j))):=Hu λ_ _ _ _ _ _ _ q=>le_int q
theorem qF:OpR X (compareOp .Gt) (rI0 λi j=> .bl (decide (j < i))):=Hu λ_ _ _ _ _ _ _ q=>gt_int q
theorem Hv:OpR X (compareOp .GtE) (rI0 λi j=> .bl (decide (j<=i))):=Hu λ_ _ _ _ _ _ _ q=>ge_int q
theorem ace (b:Expr) (h:op≠ .In:=by decide) (d:op≠ .NotIn:=by decide):behindInMarks op b=false:=by
 have a:(op==CmpOp.In)=false:=by cases op <;> first | rfl | exact absurd rfl h
 have c:(op==CmpOp.NotIn)=false:=by cases op <;> first | rfl | exact absurd rfl d
 cases b <;> simp[behindInMarks,a,c]
theorem gY {op:CmpOp} {r:R2} (j:OpR X (compareOp op) r) (f:PE X a ta) (g:PE X b tb) (i:behindInMarks op b=false:=by exact ace _):PE X (.Compare a [op] [b] pos) (tOp r ta tb):=by intro c s σ H Q I h;exact Z7 (QL f g I h λv u n x y d e l m q=>j c n σ d x y v u Q e l m q) i
def mD (t:TE):TT:=λσ H Q=>t σ H λx a=>∃k,x= .bl k/\Q k a
theorem bF (q:OpR X (compareOp op) r) (n:PE X a ta) (o:PE X b tb) (p:behindInMarks op b=false:=by exact ace _):PT X (.Compare a [op] [b] pos) (mD (tOp r ta tb)):=by
 intro d s σ H Q I h;refine Z8 (dN (n d s σ H _ I h) λv G x f j C w=>dN (o d G σ f _ j w) λu J y g l E A=>
  thn (q d J σ g x y v u _ l C E A) λc L t=> ?_) p
 obtain⟨z,i,m,F,k,e,B⟩:=t;subst e;cases F;exact tG ⟨i,m,B⟩
def QS (r e:R2) (ta tb tc:TE):TE:=λσ H Q=>ta σ H λx b=>tb σ b λy c=>r x y c λz a=>∃k,z= .bl k/\
 (if k=true then tc σ a λf d=>e y f d Q else Q (.bl false) a)
theorem vK (F:OpR X (compareOp op) r) (g:OpR X (compareOp op') r') (A:PE X a ta) (B:PE X b tb) (C:PE X c tc)
  (E:lastMarks [op,op'] [b,c]=false:=by with_unfolding_all rfl):PE X (.Compare a [op,op'] [b,c] pos) (QS r r' ta tb tc):=by
 intro f s σ H Q I h;refine Compare_chain (dN (A f s σ H _ I h) λv S x n q O J=>chain_link (dN (B f S σ n _ q J) λu T y o t m L=>
  thn (F f T σ o x y v u _ t O m L) λd U G=> ?_)) E
 obtain⟨z,i,j,P,k,e,l⟩:=G;subst e;cases P;refine tG ?_;cases k with
 | false=>exact ite_ff ⟨.bl false,i,j,rfl,l⟩
 | true=>exact ite_tt (chain_last (dN (C f U σ i _ j l) λY W Z p w R N=>g f W σ p y Z u Y Q w m R N))
theorem QT:(sizeLine:Nat) < 2 ^ 63:=by rw[Ay];decide
theorem yH:OpR X (binaryOp .Add) (λx y H Q=>∃i j,x= .str i/\y= .str j/\i.length+j.length<=sizeLine/\Q (.str (i++j)) H):=by intro a s σ H x y v u Q I c d h;obtain⟨i,j,rfl,rfl,b,q⟩:=h;obtain⟨t,rfl⟩:=c;obtain⟨e,rfl⟩:=d;exact add_str (λe f=>⟨.str (i++j),H,I.tok _,⟨_,rfl⟩,q⟩) b
theorem acf:OpR X (inplaceOp .Add) (λx y H Q=>∃i j,x= .str i/\y= .str j/\i.length+j.length<=sizeLine/\Q (.str (i++j)) H):=by intro a s σ H x y v u Q I c d h;obtain⟨i,j,rfl,rfl,b,q⟩:=h;obtain⟨t,rfl⟩:=c;obtain⟨e,rfl⟩:=d;exact iadd_str (λe f=>⟨.str (i++j),H,I.tok _,⟨_,rfl⟩,q⟩) b
theorem vals1 (r:Vals [x] us):∃u,us=[u]/\RelV x u:=by
 cases r with
 | cons a b=>cases b;exact⟨_,rfl,a⟩
theorem QV:lC X (.type "str") (λxs H Q=>∃i,xs=[.int i]/\i.natAbs.log2 < 1920/\Q (.str (toString i)) H):=by intro a s σ H xs c Q I r h;obtain⟨i,rfl,b,q⟩:=h;obtain⟨u,rfl,t,rfl⟩:=vals1 r;exact PySem.P.str_of_int b ⟨.str _,H,I.tok _,⟨_,rfl⟩,q⟩
theorem aiB:lC X (.builtin "ord") (λxs H Q=>∃x,xs=[.str x]/\x.length=1/\Q (.int (x.cps.getD 0 0:Nat)) H):=by intro a s σ H xs c Q I r h;obtain⟨x,rfl,b,q⟩:=h;obtain⟨u,rfl,t,rfl⟩:=vals1 r;exact ord_of_one b ⟨.int _,H,I.tok _,⟨_,rfl⟩,q⟩
end
structure vL (h:Heap) (x dx C:Addr) (mA:Str->Option Value):Prop where
 obj:h.get? x=some (sZ C dx)
 ns:h.Ns1 dx mA
 ne:dx≠x
theorem aiC {h:Heap} {d:Addr} {g:Str->Option Value} (n:h.Ns1 d g):∃i,h.get? d=some i/\∀b,FQ b i=some (g b):=by
 obtain⟨o,f,v,s,l,m,_,p⟩:=n;refine⟨o,s,λb=> ?_⟩;have e:=p b;unfold nsFind findBy at e;rw[<-Array.find?_toList]at e;unfold FQ;rw[l];dsimp only;split;.rename_i y q;rw[q]at e;exact congrArg some e
 .rename_i q;rw[q]at e;have a:f.toList.any (·.refKey)=false:=by rw[List.any_eq_false];intro y u;obtain⟨z,t,c⟩:=m y (Array.mem_toList_iff.mp u);simp[ahu,c]
  have j:¬f.toList.any (·.refKey)=true:=by rw[a];exact gG
  rw[au j];exact congrArg some e
theorem vL.look {h:Heap} {x c C:Addr} {d:Str->Option Value} (I:vL h x c C d):∃b,PySem.W.InstAt h x (sZ C c) C (some b)/\∀a,FQ a b=some (d a):=
 let ⟨b,ho,hl⟩:=aiC I.ns
 ⟨b,⟨I.obj,rfl,rfl,ho⟩,hl⟩
section
variable {prog:Program} {w:World} {A:Around} {E:Value->Shared->Prop} {s:Shared} {K:aW} {x dx C f:Addr} {mA:Str->Option Value} {name:Str} {v:Value}
theorem get_map (X:K.In s.heap) (I:vL s.heap x dx C mA) (c:FT K C name=true) (d:N6 K C=true)
  (b:pC K (.ref C) name=some none) (f:mA name=some v) (a:ZV v=true) (h:Q v {s with toks:=s.toks+1}):
  wpAny (model prog w) A (getAttr (.ref x) name expr) Q E s:=by
 obtain⟨g,J,e⟩:=I.look;exact PySem.W.get_value X J (N7 c).1 (PySem.W.findObj_own d b rfl (by rw[e,f])) a h
theorem aiD (X:K.In s.heap) (I:vL s.heap x dx C mA) (a:FT K C name=true)
  (b:pC K (.ref C) name=some (some (.ref f))) (d:FW K (.ref f)=true) (e:mA name=none) (h:Q (.ref f,[.ref x]) s):
  wpAny (model prog w) A (getMethod (.ref x) name pl) Q E s:=by
 obtain⟨g,J,c⟩:=I.look;exact PySem.W.method_fn X J (N7 a).1 (N7 a).2 b (beq_iff_eq.mp d) (by show(FQ name g).map (·.isSome)=some false;rw[c,e];rfl) h
theorem aiE (X:K.In s.heap) (I:vL s.heap x dx C mA)
  (p:pC K (.ref C) "__setattr__" =some (some (.builtin "object.__setattr__"))) (o:ZW K C=true) (t:N8 K C name=some none) (n:N6 K C=true)
  (u:Oc mA ns) (q:ns.length<=sizeLine)
  (h:∀d,vL d x dx C (λy=>if y=name then some v else mA y)->pD dx s.heap d->Q () {s with heap:=d,toks:=s.toks+2}):
  wpAny (model prog w) A (setAttr (.ref x) name v) Q E s:=by
 obtain⟨H,J,F⟩:=I.look;refine PySem.W.set_plain X J p (PySem.W.osa_open X J o t λb=> ?_);obtain⟨B,m,f⟩:=PySem.W.any_some n;have z:=I.obj;refine aP (bJ (aP (aP (wpAny_loadPart z (aP (ahv (PySem.W.looks_clsIn X m) ?_))))));rw[f];refine bJ (aP (bJ (aP ?_)));refine wpAny_nsSet1 I.ns λd a c=> ?_;obtain⟨G,l,j,i,g,e⟩:=a.count (ahw name v u);refine aP (wpAny_lookBehind i (by rw[g];exact pastItsLine_dict (cI e (by rw[bR];omega))) ?_);exact bJ (h _ ⟨(c.2 _ (lB I.ne)).trans I.obj,a,I.ne⟩ c)
theorem aiF (X:K.In s.heap) (e:N_ K C=true)
  (c:pC K (.ref C) "__init__" =some (some (.ref f))) (b:PySem.W.typeIn K (.ref f)=some (.type "function"))
  (h:codeAny (model prog w) (A.under (.builtin "type.__call__" ⟨.ref C::vs,kw⟩)) (.call (.ref f) ⟨.ref (s.heap.objs.size+1)::vs,kw⟩) (PySem.W.InitBack (s.heap.objs.size+1) R)
   {s with heap:=(s.heap.push tD).push (sZ C s.heap.objs.size)}):
  codeAny (model prog w) A (.call (.ref C) ⟨vs,kw⟩) R s:=by
 obtain⟨i,g,d,t,os⟩:=s;exact PySem.W.make_core (PySem.W.makes_of X e) (PySem.W.looks_findIn X c) (λa=>PySem.W.bind_fn X a b) (.inl rfl) h
end
def fj (f:Str) (v:V):List (Str×V)->List (Str×V)
 | []=>[(f,v)]
 | (g,x)::r=>if g=f then(g,v)::r else(g,x)::fj f v r
theorem uf (f g:Str) (v:V):∀fs:List (Str×V),(fj f v fs).lookup g=if g=f then some v else fs.lookup g
 | []=>by
  show tK g [(f,v)]=_;by_cases h:g=f;.have a:=beq_iff_eq.mpr h;simp only[tK,a,aB h]
  .have a:=qz.mpr h;simp only[tK,a,au h]
 | (k,x)::r=>by
  have c:=uf f g v r;rw[show fj f v ((k,x)::r)=(if k=f then(k,v)::r else(k,x)::fj f v r)from rfl];by_cases b:k=f
  .rw[aB b];by_cases h:g=k;.have a:=beq_iff_eq.mpr h;simp only[tK,a,aB (h.trans b)]
   .have a:=qz.mpr h;simp only[tK,a,au (λe:g=f=>h (e.trans b.symm))]
  .rw[au b];by_cases h:g=k;.have a:=beq_iff_eq.mpr h;simp only[tK,a,au (λe:g=f=>b (h.symm.trans e))]
   .have a:=qz.mpr h;simp only[tK,a];exact c
theorem QW (f:Str) (v:V):∀fs:List (Str×V),f∈(fj f v fs).map (·.1)/\∀g,g∈fs.map (·.1)->g∈(fj f v fs).map (·.1)
 | []=>⟨by simp[fj],λg h=>by simp at h⟩
 | (k,x)::r=>by
  obtain⟨b,c⟩:=QW f v r;rw[show fj f v ((k,x)::r)=(if k=f then(k,v)::r else(k,x)::fj f v r)from rfl];by_cases a:k=f;.rw[aB a];subst a;exact⟨by simp,λg h=>by simpa using h⟩
  .rw[au a];refine⟨?_,λg h=> ?_⟩;.rw[bT];exact cO _ b
   .rw[bT]at h ⊢;rcases cD.mp h with e | e;.exact cD.mpr (.inl e)
    .exact cO _ (c g e)
theorem QX (f:Str) (v:V):∀fs:List (Str×V),(fj f v fs).length<=fs.length+1
 | []=>by simp[fj]
 | (k,x)::r=>by
  have b:=QX f v r;rw[show fj f v ((k,x)::r)=(if k=f then(k,v)::r else(k,x)::fj f v r)from rfl];by_cases a:k=f;.rw[aB a,bR,bR];omega
  .rw[au a,bR,bR];omega
theorem iH.some_of (r:iH (some v) o):∃u,o=some u/\RelV v u:=by
 cases o with
 | none=>exact(r).elim
 | some u=>exact⟨u,rfl,r⟩
theorem iH.none_of (r:iH none o):o=none:=by
 cases o with
 | none=>rfl
 | some u=>exact(r).elim
theorem aiG (r:RelV v u):ZV u=true:=by
 cases v with
 | non=>cases(r);rfl
 | bl b=>cases(r);rfl
 | int i=>obtain⟨t,e⟩:=(r);cases e;rfl
 | str x=>obtain⟨t,e⟩:=(r);cases e;rfl
 | byt b=>obtain⟨t,e⟩:=(r);cases e;rfl
 | flt b=>obtain⟨t,e⟩:=(r);cases e;rfl
 | ref a=>cases(r);rfl
 | ty n=>cases(r);rfl
section
variable {P:Program} {w:World} {H H':Hp} {h h':Heap} {a C dx:Addr} {fs fs':List (Str×V)}
theorem QZ (c:HOk P w H h) (e:H a=some (.ins C dx fs)):∃b,vL h a dx C b/\(∀f,iH (fs.lookup f) (b f))/\Oc b (fs.map (·.1))/\fs.length<=1000/\H dx=some (.own a):=by obtain⟨d,z,g,i,b,n,r,q⟩:=(c a _ e);exact⟨b,⟨i,n,g⟩,r,q,z,d⟩
end
structure Cls (K:aW) (C:Addr):Prop where
 pg:FT K C Str.empty=true
 hd:N6 K C=true
 po:ZW K C=true
 sa:pC K (.ref C) "__setattr__" =some (some (.builtin "object.__setattr__"))
theorem Cls.get {K:aW} {C:Addr} (c:Cls K C) (f:Str):FT K C f=true:=c.pg
def eY (K:aW) (C:Addr) (f:Str):Prop:=pC K (.ref C) f=some none
theorem eY.taker {K:aW} {C:Addr} {f:Str} (n:eY K C f):N8 K C f=some none:=by unfold N8;rw[show pC K (.ref C) f=some none from n];rfl
structure Meth (K:aW) (C:Addr) (m:Str) (f:Addr):Prop where
 at_:pC K (.ref C) m=some (some (.ref f))
 fn:FW K (.ref f)=true
 kp:qd K (.ref f)=true
section
variable {X:Cx} {pins:List (Addr×Obj)} {σ:St} {H:Hp} {s:Shared} {a C dx:Addr} {fs:List (Str×V)} {f:Str} {v:V} {A:Around} {E:Value->Shared->Prop}
theorem acg (I:Inv X pins σ H s) (e:H a=some (.ins C dx fs)) (c:Cls X.K C) (n:eY X.K C f) (l:fs.lookup f=some v)
  (h:∀u g,Inv X pins σ H g->RelV v u->Q u g):wpAny (model X.prog X.w) A (getAttr (.ref a) f b) Q E s:=by
 obtain⟨j,O,r,_,_,_⟩:=QZ I.hok e;obtain⟨u,i,d⟩:=iH.some_of (by rw[<-l];exact r f);exact get_map I.kIn O (c.get f) c.hd n i (aiG d) (h u _ (I.tok _) d)
theorem ach (I:Inv X pins σ H s) (e:H a=some (.ins C dx fs)) (c:Cls X.K C) (k:Meth X.K C m g) (l:fs.lookup m=none)
  (h:Q (.ref g,[.ref a]) s):wpAny (model X.prog X.w) A (getMethod (.ref a) m pl) Q E s:=by
 obtain⟨d,O,r,_,_,_⟩:=QZ I.hok e;have b:=iH.none_of (by rw[<-l];exact r m);exact aiD I.kIn O (c.get m) k.at_ k.fn b h
theorem aci (I:Inv X pins σ H s) (e:H a=some (.ins C dx fs)) (c:Cls X.K C) (n:eY X.K C f) (J:fs.length < 1000) (F:RelV y u)
  (h:∀l,Inv X pins σ (upd H a (.ins C dx (fj f y fs))) l->Q () l):wpAny (model X.prog X.w) A (setAttr (.ref a) f u) Q E s:=by
 obtain⟨j,O,r,m,_,i⟩:=QZ I.hok e;have B:(fs.map (·.1)).length<=sizeLine:=by rw[aJ,Ay];omega
 refine aiE I.kIn O c.sa c.po n.taker c.hd m B λp d G=>h _ ?_;have v:∃o,p.get? dx=some o:=let ⟨o,_,_,e',_⟩:=d.ns;⟨o,e'⟩;refine I.write (by rw[e];exact gK) (.inr i) (λb q t z=>(G.2 b t).trans z) v ?_;refine⟨by rw[aC O.ne];exact i,?_,O.ne,d.obj,_,d.ns,λg=> ?_,λg x=> ?_⟩;.have:=QX f y fs;omega
 .show iH ((fj f y fs).lookup g) (if g=f then some u else j g);rw[uf];by_cases q:g=f;.rw[aB q,aB q];exact F
  .rw[au q,au q];exact r g
 .by_cases q:g=f;.rw[q];exact(QW f y fs).1
  .refine(QW f y fs).2 g (m g λz=>x ?_);show(if g=f then some u else j g)=none;rw[au q];exact z
theorem Inv.made (I:Inv X pins σ H s):Inv X pins σ (upd (upd H s.heap.objs.size (.own (s.heap.objs.size+1))) (s.heap.objs.size+1) (.ins C s.heap.objs.size []))
  {s with heap:=(s.heap.push tD).push (sZ C s.heap.objs.size)}:=by
 have c:(s.heap.push tD).get? s.heap.objs.size=some tD:=iC s.heap rfl;have g:((s.heap.push tD).push (sZ C s.heap.objs.size)).get? (s.heap.objs.size+1)=some (sZ C s.heap.objs.size):=by
  have:=iC (s.heap.push tD) (o:=sZ C s.heap.objs.size) rfl
  rwa [nY]at this
 have h:(s.heap.push tD).Ns s.heap.objs.size (λ_=>none):=⟨tD,#[],_,c,rfl,(λe i=>absurd i (by simp)),λ_=>rfl⟩;have f:=I.laid (a:=s.heap.objs.size) (o:= .own (s.heap.objs.size+1)) (t':=s.toks) (λb u q=>fJ _ q) (bW _) ⟨_,c⟩;refine f.laid (a:=s.heap.objs.size+1) (t':=s.toks) (λb u q=>fJ _ q) (Gq (nY _ _)) ?_;have d:s.heap.objs.size≠s.heap.objs.size+1:=fZ (Ou _);refine⟨by rw[aC d,aH],fU _,d,g,λ_=>none,(Heap.Ns1.of_empty h).at λo q=>fJ _ q,λ_=>gK,λy j=>absurd rfl j⟩
theorem aiH {prog:Program} {w:World} {env:Env} {e:Expr} {f:Str} {a:Pos} {s:Shared} {Q:Value->Shared->Prop} (b:attributeBase e f env (eval e env)=eval e env)
  (h:wpAny (model prog w) A (eval e env) (λo c=>wpAny (model prog w) A (getAttr o f true) Q E c) E s):wpAny (model prog w) A (eval (.Attribute e f a) env) Q E s:=
 Attribute_any_ h (by rw[arm_eval_Attribute,b])
end
def dZ (K:aW) (d:TE) (f:Str):TE:=λσ H Q=>d σ H λx b=>∃a C c fs v,x= .ref a/\b a=some (.ins C c fs)/\Cls K C/\eY K C f/\fs.lookup f=some v/\Q v b
def Q0 (K:aW) (e g:TE) (f:Str):TS:=λD σ H=>g σ H λy d=>e σ d λx b=>∃a C c fs,x= .ref a/\b a=some (.ins C c fs)/\Cls K C/\eY K C f/\fs.length < 1000/\
 D.nx σ (upd b a (.ins C c (fj f y fs)))
def acj (X:Cx) (op:Operator) (rd:V->V->Hp->VK->Prop):Prop:=
 ∀a s σ H x y u v Q,Inv X a σ H s->RelV x u->RelV y v->rd x y H Q->wpAny (model X.prog X.w) X.A (inplaceOp op u v) (EP X a σ Q) X.xe s
def aiI (K:aW) (i j:TE) (rd:V->V->Hp->VK->Prop) (f:Str):TS:=λD σ H=>i σ H λx d=>∃a C h fs v,x= .ref a/\d a=some (.ins C h fs)/\Cls K C/\eY K C f/\fs.lookup f=some v/\
 j σ d λy g=>rd v y g λz e=>∃c b,e a=some (.ins C c b)/\b.length < 1000/\D.nx σ (upd e a (.ins C c (fj f z b)))
section
variable {X:Cx} {o e value:Expr} {f:Str} {pos pos' tpos:Pos} {ta tv:TE}
theorem aO (p:PE X e ta) (o:attributeBase e f X.env (eval e X.env)=eval e X.env):PE X (.Attribute e f pos) (dZ X.K ta f):=by intro b s σ H Q I h;refine aiH o (thn (p b s σ H _ I h) λu A t=> ?_);obtain⟨x,d,g,y,a,C,z,fs,v,m,j,c,n,l,q⟩:=t;subst m;obtain rfl:u=fQ a:=y;exact acg g j c n l λE B i w=>⟨v,d,i,w,q⟩
theorem jF (p:PE X o ta) (v:PE X value tv) (t:swapsWith value (some (.Attribute o f pos')) pos.line X.env=pure false):PS X (.Assign [.Attribute o f pos'] value pos) (Q0 X.K ta tv f):=by intro b s σ H D I h;refine plainObj_wpAny_Assign_Attribute (dN (v b s σ H _ I h) λu F y d e E q=>thn (p b F σ d _ e q) λz L w=> ?_) t;obtain⟨x,G,g,B,a,C,J,fs,m,j,c,n,l,A⟩:=w;subst m;obtain rfl:z=fQ a:=B;exact aci g j c n l E λN i=>⟨σ,_,i,A⟩
theorem Hw (J:PE X o ta) (L:PE X value tv) (e:acj X op rd):PS X (.AugAssign (.Attribute o f tpos) op value pos) (aiI X.K ta tv rd f):=by intro b s σ H D I h;refine wpAny_AugAssign_AttributeAny (thn (J b s σ H _ I h) λO s1 g=> ?_);obtain⟨x,i,m,S,a,C,dx,fs,v,F,E,c,n,l,q⟩:=g;subst F;obtain rfl:O=fQ a:=S;refine acg m E c n l λu W p R=>dN (L b W σ i _ p q) λZ Y y j t T P=>thn (e b Y σ j v y u Z _ t R T P) λw4 s4 g=> ?_;obtain⟨z,H3,w,U,B,G,d,N,Q⟩:=g;exact aci w d c n N U λs5 A=>⟨σ,_,A,Q⟩
def aiJ:V->V->Hp->VK->Prop:=λx y H Q=>∃i j,x= .int i/\y= .int j/\Q (.int (i+j)) H
theorem Hx:acj X .Add aiJ:=by rintro a s σ H x y u v Q I b c ⟨i,j,rfl,rfl,q⟩;obtain⟨t,rfl⟩:=(b);obtain⟨d,rfl⟩:=(c);exact PyProof.Rows.iadd_int ⟨.int (i+j),H,I.tok _,⟨_,rfl⟩,q⟩
end
structure eF (k:Nat) (A:Around):Prop where
 hd:A.handled=none
 dp:A.depth+3 * k+5 < recursionLimit
 un:A.units+16 * k+200 < cLine
theorem eF.mono (r:eF k A) (h:j<=k):eF j A:=⟨r.hd,by have:=r.dp;omega,by have:=r.un;omega⟩
theorem eF.deeper (r:eF (k+1) A) (env:Env):eF k (A.deeper env):=
 ⟨r.hd,by have:=r.dp;show A.depth+1+3 * k+5 < _;omega,by have:=r.un;show A.units+3+16 * k+200 < _;omega⟩
theorem aiK {A:Around} {C:Addr} {b:List Value} {a:List (Str×Value)}:(A.under (.builtin "type.__call__" ⟨.ref C::b,a⟩)).depth=A.depth+1:=by
 first | rfl | simp[PJ,Code.weight,Code.isCreation,Code.isGuard,Code.isCaller,aa7,PL,guardIds]
theorem aiL {A:Around} {C:Addr} {b:List Value} {a:List (Str×Value)}:(A.under (.builtin "type.__call__" ⟨.ref C::b,a⟩)).units=A.units+1:=by
 first | rfl | simp[PJ,Code.cUnits,aa7,PL]
theorem eF.make (r:eF (k+1) A) (C:Addr) (b:List Value) (a:List (Str×Value)):eF k (A.under (.builtin "type.__call__" ⟨.ref C::b,a⟩)):=
 ⟨r.hd,by have:=r.dp;rw[aiK];omega,by have:=r.un;rw[aiL];omega⟩
theorem eF.depth (r:eF k A):A.depth < recursionLimit:=by have:=r.dp;omega
theorem eF.units (r:eF k A):A.units+64 < cLine:=by have:=r.un;omega
def fW:TA:=λ_ H Q=>Q [] H
def gw (c:TE) (d:TA):TA:=λσ H Q=>c σ H λx a=>d σ a λe b=>Q (x::e) b
section
variable {X:Cx} {e:Expr} {es:List Expr} {te:TE} {t:TA} {pos:Pos}
theorem aA:PA X [] fW:=λ_ _ _ _ H Q I h=>vh ⟨[],H,I,.nil,h⟩
theorem ao (g:PE X e te) (i:PA X es t) (j:starEach (e::es) X.env=(false,eval e X.env)::starEach es X.env:=by rfl):PA X (e::es) (gw te t):=by intro pos a s σ H Q I h;rw[j];refine tO (dN (g a s σ H _ I h) λu p x b d n l=> ?_);exact dN (i pos a p σ b _ d l) λw v q c f o m=>⟨x::q,c,f,.cons n o,m⟩
def acn (t:TA):TE:=λσ H Q=>t σ H λb a=>b.length<=sizeLine/\∀p,a p=none->Q (.ref p) (upd a p (.tup b))
def ug (t:TA):TE:=λσ H Q=>t σ H λb a=>b.length<=sizeLine/\∀p,a p=none->Q (.ref p) (upd a p (.lst b))
theorem aco {x1} (h:PA X es t):PE X (.Tuple es x1 pos) (acn t):=by intro a s σ H Q I i;refine wpAny_Tuple_spliced (thn (h pos a s σ H _ I i) λj d ⟨l,f,c,r,z,q⟩=>⟨by rw[<-r.length];exact z,?_⟩);have g:=c.hok.fresh (bW _);refine⟨.ref d.heap.objs.size,upd f d.heap.objs.size (.tup l),c.laid (λb u e=>fJ _ e) (bW _) ?_,rfl,q _ g⟩;exact⟨z,j,r,⟨_,iC _ rfl,rfl,_,rfl⟩⟩
theorem cT (h:PA X es t):PE X (.List es pos) (ug t):=by intro a s σ H Q I i;refine wpAny_List_spliced (thn (h pos a s σ H _ I i) λj d ⟨l,f,c,r,z,q⟩=>⟨by rw[<-r.length];exact z,?_⟩);have g:=c.hok.fresh (bW _);refine⟨.ref d.heap.objs.size,upd f d.heap.objs.size (.lst l),c.laid (λb u e=>fJ _ e) (bW _) ?_,rfl,q _ g⟩;exact⟨z,j,0,r,iC _ rfl⟩
end
abbrev Sp:=List V->Hp->VK->XK->Prop
abbrev CXT:=List Env->Hp->Shared->XK->Value->Shared->Prop
structure vM (P:Program) (w:World) (K:aW) (mg:Str->Option Value) (base:Heap) (A:Around) (outer:List Env) (s:Shared) (H:Hp):Prop where
 frames:A.frames=some outer
 mod:Mod K mg base
 bs:∀b o,base.get? b=some o->s.heap.get? b=some o/\H b=none
 bsz:base.objs.size<=s.heap.objs.size
 oG:s.heap.FunFrames base outer
 frf:∀b∈frs outer,H b=none
 hok:HOk P w H s.heap
 bare:AllBare s.gens
def CE (outer:List Env) (P:Program) (w:World) (H:Hp) (s:Shared) (Q:VK) (u:Value) (a:Shared):Prop:=
 ∃v b,a.os=s.os/\AllBare a.gens/\Un (frs outer) [] H b s.heap a.heap/\HOk P w b a.heap/\RelV v u/\Q v b
def CR (CX:CXT) (outer:List Env) (P:Program) (w:World) (H:Hp) (s:Shared) (Q:VK) (E:XK) (r:Result) (a:Shared):Prop:=
 match r with
 | .ok (.ret u)=>CE outer P w H s Q u a
 | .ok _=>False
 | .error e=>CX outer H s E e a
structure aY (P:Program) (w:World) (K:aW) (mg:Str->Option Value) (base:Heap) (CX:CXT) (k:Nat) (f:Addr) (fd:FuncData) (ps:List Str) (sp:Sp):Prop where
 len:∀vs H Q E,sp vs H Q E->vs.length=ps.length
 run:∀A outer s H args us vs Q E,eF k A->vM P w K mg base A outer s H->BindsTo s fd args (ps.zip us)->Vals vs us->sp vs H Q E->
  codeAny (model P w) A (.call (.ref f) args) (CR CX outer P w H s Q E) s
theorem vM.make {P:Program} {w:World} {K:aW} {mg:Str->Option Value} {base:Heap} {A:Around} {outer:List Env} {s:Shared} {H:Hp} (e:vM P w K mg base A outer s H) (C:Addr) (b:List Value) (a:List (Str×Value)):
  vM P w K mg base (A.under (.builtin "type.__call__" ⟨.ref C::b,a⟩)) outer s H:=⟨by first | exact e.frames | (simpa [PJ,Code.envs,PL,pushEnvs]using e.frames),e.mod,e.bs,e.bsz,e.oG,e.frf,e.hok,e.bare⟩
section
variable {X:Cx} {pins:List (Addr×Obj)} {σ:St} {H:Hp} {s s':Shared}
theorem Inv.env0 (I:Inv X pins σ H s):vM X.prog X.w X.K X.mg X.base X.A X.stack s H:=
 ⟨I.ok.frames,I.ok.mod,I.bs,cI I.ok.bsz I.sz,I.stack,I.abU,I.hok,I.bare⟩
theorem Inv.after (I:Inv X pins σ H s) (h:CE X.stack X.prog X.w H s Q u s'):EP X pins σ Q u s':=by obtain⟨v,e,os,bare,un,a,r,q⟩:=h;obtain⟨f,g,d,t,c⟩:=s';obtain rfl:c=s.os:=os;exact⟨v,e,I.call un a bare (λb z=>absurd z (by simp)),r,q⟩
end
def lD (sp:Sp) (a:List V) (E:XK) (t:TA):TE:=λσ H Q=>t σ H λc b=>sp (c++a) b Q E
def rM (C:Addr) (m:Str) (sp:Sp) (b:List V) (E:XK) (f:TE) (t:TA):TE:=λσ H Q=>f σ H λx c=>∃a e fs,x= .ref a/\c a=some (.ins C e fs)/\fs.lookup m=none/\
 t σ c λg d=>sp (x::(g++b)) d Q E
def vN (C:Addr) (sp:Sp) (c:List V) (E:XK) (t:TA):TE:=λσ H Q=>t σ H λe b=>∀x a,b x=none->b a=none->a≠x->
 sp (.ref x::(e++c)) (upd (upd b a (.own x)) x (.ins C a [])) (λv d=>v= .non/\Q (.ref x) d) E
def Binds (K:aW) (c:FuncData) (ps:List Str) (b:List Value):Prop:=
 ∀s a,K.In s.heap->(a++b).length=ps.length->BindsTo s c ⟨a,[]⟩ (ps.zip (a++b))
theorem Binds.all {K:aW} {b:FuncData} {ps:List Str} (h:∀a:List Value,a.length=ps.length->bindArgs b ⟨a,[]⟩=pure (ps.zip a)):Binds K b ps []:=λs a _ c=>by rw[gH]at c ⊢;exact .of_eq (h a c)
def Passes (CX:CXT) (X:Cx) (E:XK):Prop:=∀a σ H s e b,Inv X a σ H s->CX X.stack H s E e b->X.xe e b
section
variable {X:Cx} {CX:CXT} {k:Nat} {f C:Addr} {fd:FuncData} {ps:List Str} {sp:Sp} {dvs:List V} {ds:List Value} {E:XK} {x m:Str} {p pos apos:Pos} {e o:Expr} {es:List Expr} {ta:TE} {t:TA}
theorem Hy (F:aY X.prog X.w X.K X.mg X.base CX k f fd ps sp) (j:eF k X.A) (d:Binds X.K fd ps ds) (g:Vals dvs ds) (l:Passes CX X E)
  (I:Inv X pins σ H s) (r:Vals vs us) (h:sp (vs++dvs) H Q E):wpAny (model X.prog X.w) X.A (call (.ref f) us) (EP X pins σ Q) X.xe s:=by
 have b:=r.append g;have i:(us++ds).length=ps.length:=by rw[<-b.length];exact F.len _ _ _ _ h
 refine Oe (Gd (F.run X.A X.stack s H ⟨us,[]⟩ (us++ds) (vs++dvs) Q E j I.env0 (d s us I.kIn i) b h) λr m a=> ?_);cases r with
 | error e=>exact l pins σ H s e m I a
 | ok c=>
  cases c with
  | ret u=>exact I.after a
  | next=>exact jP a
  | brk=>exact jP a
  | cont=>exact jP a
theorem aiM (F:aY X.prog X.w X.K X.mg X.base CX k f fd ps sp) (u:eF k X.A) (m:Gl X x) (o:X.mg x=some (.ref f)) (n:qd X.K (.ref f)=true) (i:Binds X.K fd ps ds) (j:Vals dvs ds) (v:Passes CX X E)
  (g:PA X (e::es) t) (b:(x==("__debug__" :Str))=false:=by decide) (l:starEach (e::es) X.env=(false,eval e X.env)::starEach es X.env:=by rfl) (c:(backTo pos (starEach es X.env)).any (·.1)=false:=by rfl):
  PE X (.Call (.Name x p) (e::es) [] pos) (lD sp dvs E t):=by
 intro a s σ H Q I h;refine tH (B_ I m o ?_ b);refine Oa I.ok.mod.kin n (dN (g pos a s σ H _ I h) λB z C y d r q=>⟨d.kIn,?_⟩) l c;exact Hy F u i j v d r q
theorem aiN (F:aY X.prog X.w X.K X.mg X.base CX k f fd ps sp) (j:eF k X.A) (e:Gl X x) (i:X.mg x=some (.ref f)) (g:qd X.K (.ref f)=true) (c:Binds X.K fd ps ds) (d:Vals dvs ds) (l:Passes CX X E)
  (a:(x==("__debug__" :Str))=false:=by decide):PE X (.Call (.Name x p) [] [] pos) (lD sp dvs E fW):=by
 intro b s σ H Q I h;refine tH (B_ I e i ?_ a);exact Ob I.kIn g (Hy F j c d l I .nil h)
theorem aiO (L:PE X o ta) (c:Cls X.K C) (n:Meth X.K C m f) (F:aY X.prog X.w X.K X.mg X.base CX k f fd ps sp) (N:eF k X.A) (G:Binds X.K fd ps ds) (J:Vals dvs ds) (P:Passes CX X E) (B:PA X (e::es) t)
  (g:starEach (e::es) X.env=(false,eval e X.env)::starEach es X.env:=by rfl) (d:(backTo pos (starEach es X.env)).any (·.1)=false:=by rfl)
  (O:eval (.Call (.Attribute o m apos) (e::es) [] pos) X.env=(do
   let ov <-eval o X.env
   standAt apos.atName
   let (f,first) <-holding [ov] (getMethod ov m pl)
   callWith pos f first (backTo pos (starEach (e::es) X.env)) (backToKw pos (keywordEach [] X.env))):=by rfl):
  PE X (.Call (.Attribute o m apos) (e::es) [] pos) (rM C m sp dvs E ta t):=by
 intro b s σ H Q I h;refine ZX (thn (L b s σ H _ I h) λu U R=> ?_) O;obtain⟨x,v,i,T,a,Y,fs,z,y,l,q⟩:=R;subst z;obtain rfl:u=fQ a:=T;refine ach i y c n l ?_;refine Oa I.ok.mod.kin n.kp (dN (B pos b U σ v _ i q) λus Z p W j r S=>⟨j.kIn,?_⟩) g d;exact Hy (vs:= .ref a::p) F N G J P j (.cons rfl r) S
theorem aiP (p:PE X o ta) (c:Cls X.K C) (e:Meth X.K C m f) (F:aY X.prog X.w X.K X.mg X.base CX k f fd ps sp) (t:eF k X.A) (j:Binds X.K fd ps ds) (n:Vals dvs ds) (y:Passes CX X E)
  (v:eval (.Call (.Attribute o m apos) [] [] pos) X.env=(do
   let ov <-eval o X.env
   standAt apos.atName
   let (f,first) <-holding [ov] (getMethod ov m pl)
   callWith pos f first (backTo pos (starEach [] X.env)) (backToKw pos (keywordEach [] X.env))):=by rfl):
  PE X (.Call (.Attribute o m apos) [] [] pos) (rM C m sp dvs E ta fW):=by
 intro b s σ H Q I h;refine ZX (thn (p b s σ H _ I h) λu L z=> ?_) v;obtain⟨x,G,d,B,a,J,fs,i,g,l,q⟩:=z;subst i;obtain rfl:u=fQ a:=B;refine ach d g c e l ?_;exact Ob d.kIn e.kp (Hy (vs:=[.ref a]) F t j n y d (.cons rfl .nil) q)
structure Mk (K:aW) (C f:Addr):Prop where
 makes:N_ K C=true
 init:pC K (.ref C) "__init__" =some (some (.ref f))
 fn:FW K (.ref f)=true
 kp:qd K (.ref C)=true
theorem acp (M:Mk X.K C f) (F:aY X.prog X.w X.K X.mg X.base CX k f fd ps sp) (t:eF (k+1) X.A) (o:Binds X.K fd ps ds) (p:Vals dvs ds)
  (y:Passes CX X E) (I:Inv X pins σ H s) (r:Vals vs us)
  (h:∀x c,H x=none->H c=none->c≠x->sp (.ref x::(vs++dvs)) (upd (upd H c (.own x)) x (.ins C c [])) (λv j=>v= .non/\Q (.ref x) j) E):
  wpAny (model X.prog X.w) X.A (call (.ref C) us) (EP X pins σ Q) X.xe s:=by
 have d:=h (s.heap.objs.size+1) s.heap.objs.size (I.hok.fresh (qe _)) (I.hok.fresh (bW _)) (fZ (Ou _));have b:=Inv.made (C:=C) I;have g:Vals (V.ref (s.heap.objs.size+1)::(vs++dvs)) (fQ (s.heap.objs.size+1)::(us++ds)):= .cons rfl (r.append p);have q:(fQ (s.heap.objs.size+1)::us++ds).length=ps.length:=by have e:=g.length;rw[F.len _ _ _ _ d]at e;exact e.symm
 refine Oe (aiF I.kIn M.makes M.init (beq_iff_eq.mp M.fn) (Gd (F.run _ X.stack _ _ ⟨fQ (s.heap.objs.size+1)::us,[]⟩ (fQ (s.heap.objs.size+1)::(us++ds)) _ _ E (t.make C us [])
  (b.env0.make C us []) (o _ (fQ (s.heap.objs.size+1)::us) b.kIn q) g d) λr G a=> ?_))
 cases r with
 | error e=>exact y pins σ _ _ e G b a
 | ok n=>
  cases n with
  | ret u=>obtain⟨v,i,l,B,m,z⟩:=b.after a;subst m;exact⟨B,⟨V.ref (s.heap.objs.size+1),i,l,rfl,z⟩⟩
  | next=>exact jP a
  | brk=>exact jP a
  | cont=>exact jP a
theorem acq (M:Mk X.K C f) (F:aY X.prog X.w X.K X.mg X.base CX k f fd ps sp) (o:eF (k+1) X.A) (m:Gl X x) (n:X.mg x=some (.ref C)) (i:Binds X.K fd ps ds) (j:Vals dvs ds) (u:Passes CX X E)
  (g:PA X (e::es) t) (b:(x==("__debug__" :Str))=false:=by decide) (l:starEach (e::es) X.env=(false,eval e X.env)::starEach es X.env:=by rfl) (c:(backTo pos (starEach es X.env)).any (·.1)=false:=by rfl):
  PE X (.Call (.Name x p) (e::es) [] pos) (vN C sp dvs E t):=by
 intro a s σ H Q I h;refine tH (B_ I m n ?_ b);refine Oa I.ok.mod.kin M.kp (dN (g pos a s σ H _ I h) λz y B v d r q=>⟨d.kIn,?_⟩) l c;exact acp M F o i j u d r q
theorem aiQ (M:Mk X.K C f) (F:aY X.prog X.w X.K X.mg X.base CX k f fd ps sp) (i:eF (k+1) X.A) (e:Gl X x) (g:X.mg x=some (.ref C)) (c:Binds X.K fd ps ds) (d:Vals dvs ds) (j:Passes CX X E)
  (a:(x==("__debug__" :Str))=false:=by decide):PE X (.Call (.Name x p) [] [] pos) (vN C sp dvs E fW):=by
 intro b s σ H Q I h;refine tH (B_ I e g ?_ a);exact Ob I.kIn M.kp (acp M F i c d j I .nil h)
end
structure bh (N P:List Str) (sc:Scope):Prop where
 kind:sc.kind= .function
 co:sc.isCoroutine=false
 gen:sc.isGenerator=false
 nd:N.Nodup
 pre:N.take P.length=P
 par:∀x∈P,sc.names.lookup x=some .local\/sc.names.lookup x=some .cell
 aiR:∀y∈sc.names,y.2≠ .free
theorem acr {kindOf:Str->Option NameKind} {x:Str}:∀{binds:List (Str×Value)} {m:Str->Option Value},(∀v,(x,v)∉binds)->bindL kindOf binds m x=m x
 | [],_,_=>rfl
 | (n,v)::r,m,h=>by
  unfold bindL;rw[acr λw a=>h w (cO _ a)];split
  .have:x≠n:=by rintro rfl;exact h v cU
   simp[this]
  .rfl
theorem acs {kindOf:Str->Option NameKind} {x:Str}:∀{binds:List (Str×Value)} {m:Str->Option Value},(∀v,(x,v)∉binds)->bindC kindOf binds m x=m x
 | [],_,_=>rfl
 | (n,v)::r,m,h=>by
  unfold bindC;rw[acs λw a=>h w (cO _ a)];split;.rfl
  .have:x≠n:=by rintro rfl;exact h v cU
   simp[this]
theorem acu {kindOf:Str->Option NameKind} {x:Str} {v:Value}:∀{P:List Str} {vs:List Value} {i:Nat} {m:Str->Option Value},P.Nodup->P[i]? =some x->vs[i]? =some v->kindOf x=some .local->
  bindL kindOf (P.zip vs) m x=some v
 | [],_,_,_,_,h,_,_=>by simp at h
 | _::_,[],_,_,_,_,h,_=>by simp at h
 | p::P,w::vs,0,m,d,a,b,c=>by simp at a b;subst a;subst b;show bindL kindOf ((p,w)::P.zip vs) m p=_;unfold bindL;rw[acr λv e=>(je.mp d).1 (OJ e).1,aB c];simp
 | p::P,w::vs,i+1,m,d,a,b,c=>by unfold bindL;exact acu (je.mp d).2 (by simpa using a) (by simpa using b) c
theorem acv {kindOf:Str->Option NameKind} {x:Str} {v:Value}:∀{P:List Str} {vs:List Value} {i:Nat} {m:Str->Option Value},P.Nodup->P[i]? =some x->vs[i]? =some v->kindOf x≠some .local->
  bindC kindOf (P.zip vs) m x=some v
 | [],_,_,_,_,h,_,_=>by simp at h
 | _::_,[],_,_,_,_,h,_=>by simp at h
 | p::P,w::vs,0,m,d,a,b,c=>by simp at a b;subst a;subst b;show bindC kindOf ((p,w)::P.zip vs) m p=_;unfold bindC;rw[acs λv e=>(je.mp d).1 (OJ e).1,au c];simp
 | p::P,w::vs,i+1,m,d,a,b,c=>by unfold bindC;exact acv (je.mp d).2 (by simpa using a) (by simpa using b) c
def start (N:List Str) (vs:List V):St:=vs.map some++List.replicate (N.length-vs.length) none
def yI (CX:CXT) (P:Program) (w:World) (K:aW) (mg:Str->Option Value) (base:Heap) (N:List Str) (b:Str) (a:Scope) (f:Addr) (d:Value) (A:Around) (outer:List Env) (s:Shared) (H:Hp) (E:XK):Cx where
 prog:=P
 w:=w
 K:=K
 mg:=mg
 base:=base
 A:=A.deeper (envOfC b a s.heap.objs.size f d)
 N:=N
 s_0:=s
 H_0:=H
 env:=envOfC b a s.heap.objs.size f d
 outer:=outer
 stack:=envOfC b a s.heap.objs.size f d::outer
 ex:=[]
 calm:=true
 fn:=λ_=>true
 pn:=[]
 xe:=λe h=>wpAny (model P w) (A.deeper (envOfC b a s.heap.objs.size f d)) («leaving» (envOfC b a s.heap.objs.size f d) e) (λ_ c=>CX outer H s E e c) (λg c=>CX outer H s E g c) h
theorem acw {a:Scope} {n:Nat} {x:Str} (h:a.names.lookup x=some .cell):∃c,(cellsFrom n a.names []).lookup x=some c:=by have q:=Z0 a.names n [] (.inl h);exact gj.mp q
theorem aiS {CX:CXT} {P:Program} {w:World} {K:aW} {mg:Str->Option Value} {base:Heap} {N ps:List Str} {g:Str} {d:Scope} {f:Addr} {t:Value} {A:Around} {outer:List Env} {s J:Shared} {H:Hp} {E:XK} {F:List Value} {vs:List V}
  (S:bh N ps d) (O:A.handled=none) (l:vM P w K mg base A outer s H) (U:vs.length=ps.length) (r:Vals vs F)
  (x:InCallC s s.heap.objs.size (bindL (envOfC g d s.heap.objs.size f t).kindOf (ps.zip F) λ_=>none) (cellsFrom (s.heap.objs.size+1) d.names []) (bindC (envOfC g d s.heap.objs.size f t).kindOf (ps.zip F) λ_=>none) J):
  Inv (yI CX P w K mg base N g d f t A outer s H E) [] (start N vs) H J:=by
 have Q:ps.length<=N.length:=by have:=congrArg iR S.pre;rw[fD]at this;omega
 obtain⟨B,W,rfl,G⟩:=x.done;have n:∀b:Addr,b∉(yI CX P w K mg base N g d f t A outer s H E).ex:=λb z=>absurd (show b∈([]:List Addr)from z) (by simp);refine⟨⟨l.mod,S.kind,rfl,rfl,bW _,λy z c B j=> ?_,λy m=> ?_,λy c _ h=> ?_,λ_=>O,Around.frames_deeper l.frames,.inr ⟨rfl,rfl⟩,λb z=>absurd z (n b),l.bs,l.bsz,λb _ _=>n b,λb z=>absurd z (n b),l.oG,l.frf⟩,
  rfl,l.bare,Un.kept G,⟨_,x.toInCall.ns,λi y v B j T=> ?_⟩,λy c h=>⟨_,x.cell y c h⟩,l.hok.fresh (bW _),λy c h=> ?_,λp o=>absurd (show p∈([]:List (Addr×Obj))from o) (by simp),l.hok.kept G,?_⟩
 .exact name_of_addr x.apart (kY B) (kY j)
 .have m:=m;rcases m with m | m;.exact acw m
  .exact absurd rfl (S.aiR _ (kY m))
 .exact Gp (x.above y c (kY h))
 .have C:i < vs.length:=by
   unfold start at j;by_cases C:i < vs.length;.exact C
   .rw[O1 (by simpa using C)]at j;rw[List.getElem?_replicate]at j;split at j <;> cases j
  have L:vs[i]? =some v:=by
   unfold start at j;rw[List.getElem?_append_left (by simpa using C),dM]at j;cases e:vs[i]? with
   | none=>rw[e]at j;cases j
   | some a=>rw[e]at j;cases j;rfl
  obtain⟨u,I,R⟩:=r.get L;have o:ps[i]? =some y:=by rw[<-S.pre,List.getElem?_take_of_lt (by omega)];exact B
  have ndP:ps.Nodup:=by rw[<-S.pre];exact S.nd.sublist (aaD _ _)
  refine⟨u,R,?_⟩;rcases S.par y (gq o)with k | k;.exact .inl ⟨k,acu ndP o I k⟩
  .obtain⟨c,e⟩:=acw k;refine .inr ⟨.inl k,c,e,?_⟩;have q:=x.cell y c e;rw[acv ndP o I (by show d.names.lookup y≠_;rw[k];decide)]at q;exact q
 .exact l.hok.fresh (Gp (x.above y c (kY h)))
 .unfold start;show _=N.length;rw[cV,aJ,List.length_replicate];omega
theorem aiT {CX:CXT} {P:Program} {w:World} {K:aW} {mg:Str->Option Value} {base:Heap} {k:Nat} {f:Addr} {j c:Str} {g:Arguments} {h:List Stmt} {a:Scope} {dV kV z pm d ct oc:Value} {Z od:Option Addr}
  {T:Array (Option Value)} {N ps:List Str} {sp:Sp} (lk:K.lookup f=some ⟨oc,od,.func (tE j c g h a dV kV z pm Z d ct),T⟩) (L:Av K d c=true) (S:bh N ps a)
  (F:∀vs H Q E,sp vs H Q E->vs.length=ps.length)
  (l:∀A outer s H vs Q E,eF k (A.deeper (envOfC c a s.heap.objs.size f d))->sp vs H Q E->
   ∃t,PSs (yI CX P w K mg base N c a f d A outer s H E) h t/\t {nx:=λ_ i=>Q .non i,rt:=Q} (start N vs) H):
  aY P w K mg base CX (k+1) f (tE j c g h a dV kV z pm Z d ct) ps sp:=by
 refine⟨F,λA outer s H args us vs Q E O B hb r C=> ?_⟩;have hl:=F _ _ _ _ C;have Y:=B.mod.kin.keeps λb o e=>(B.bs b o e).1;have R:=B.mod.nolimit.keeps λb o e=>(B.bs b o e).1;have m:∀y∈ps.zip us,a.names.lookup y.1=some .local\/(a.names.lookup y.1=some .cell/\((cellsFrom (s.heap.objs.size+1) a.names []).lookup y.1).isSome=true):=λ⟨n,v⟩ hy=>by
  rcases S.par n (OJ hy).1 with q | q;.exact .inl q
  .exact .inr ⟨q,Z0 _ _ _ (.inl q)⟩
 refine codeAny_call_function O.depth (Y _ _ lk) rfl S.co S.gen rfl (PySem.W.codeRec_of Y L) (hb _ _ _ _ ?_);refine wpAny_newFunctionEnv_cells S.kind m λenv he s1 x=> ?_;subst he;refine⟨R.keeps x.toInCall.keep,codeAny_func ?_⟩;obtain⟨t,ht,hq⟩:=l A outer s H vs Q E (O.deeper _) C;have I:Inv (yI CX P w K mg base N c a f d A outer s H E) [] (start N vs) H s1:=aiS S O.hd B hl r x;refine kW (ht [] s1 (start N vs) H _ I hq) (λfl X p=> ?_) λe X p=>p;have fin:∀{G:St} {i:Hp} {v:V} {u:Value},Inv (yI CX P w K mg base N c a f d A outer s H E) [] G i X->RelV v u->Q v i->CE outer P w H s Q u X:=
  λ{G i v u} J U q=>⟨v,i,J.os,J.bare,J.base,J.hok,U,q⟩
 cases fl with
 | ret u=>obtain⟨v,G,i,J,U,q⟩:=p;exact fin J U q
 | next=>obtain⟨G,i,J,q⟩:=p;exact fin (v:=V.non) J rfl q
 | brk=>obtain⟨_,_,_,q⟩:=p;exact jP q
 | cont=>obtain⟨_,_,_,q⟩:=p;exact jP q
section
variable {X:Cx} {x:Str} {p pos:Pos} {e:Expr} {es:List Expr} {t:TA} {id T:String} {r:List V->Hp->VK->Prop}
def tCB (r:List V->Hp->VK->Prop) (t:TA):TE:=λσ H Q=>t σ H λb a=>r b a Q
theorem cB (i:lC X (.builtin id) r) (l:Gl X x) (m:X.mg x=none) (o:bootBuiltins x=some (.builtin id)) (g:PA X (e::es) t) (n:x≠"__name__" :=by decide) (b:(x==("__debug__" :Str))=false:=by decide)
  (j:starEach (e::es) X.env=(false,eval e X.env)::starEach es X.env:=by rfl) (c:(backTo pos (starEach es X.env)).any (·.1)=false:=by rfl):PE X (.Call (.Name x p) (e::es) [] pos) (tCB r t):=by
 intro a s σ H Q I h;refine tH (yD I l m o ?_ n b);exact ahx (dN (g pos a s σ H _ I h) λw v y d f u q=>i a v σ d y w Q f u q) j c
theorem mF (i:lC X (.type T) r) (l:Gl X x) (m:X.mg x=none) (o:bootBuiltins x=some (.type T)) (g:PA X (e::es) t) (n:x≠"__name__" :=by decide) (b:(x==("__debug__" :Str))=false:=by decide)
  (j:starEach (e::es) X.env=(false,eval e X.env)::starEach es X.env:=by rfl) (c:(backTo pos (starEach es X.env)).any (·.1)=false:=by rfl):PE X (.Call (.Name x p) (e::es) [] pos) (tCB r t):=by
 intro a s σ H Q I h;refine tH (yD I l m o ?_ n b);exact GZ (dN (g pos a s σ H _ I h) λw v y d f u q=>i a v σ d y w Q f u q) j c
end
end L2
namespace HT
open PySem PyProof.Rows
section
variable {prog:Program} {w:World} {A:Around} {E:Value->Shared->Prop} {s:Shared}
def sIx (n d:Nat):Option Int->Nat
 | none=>d
 | some v=>if v < 0 then(v+(n:Int)).toNat else min v.toNat n
theorem acy (n d k:Nat):sIx n d (some (k:Int))=min k n:=by show(if(k:Int) < 0 then((k:Int)+(n:Int)).toNat else min (k:Int).toNat n)=min k n;rw[au (by omega),jg]
end
end HT
namespace L2
open PySem PySem.Spec PyProof.Rows
abbrev TO:=St->Hp->(Option Int->Hp->Prop)->Prop
def PO (X:Cx) (e:Option Expr) (t:TO):Prop:=
 ∀a s σ H Q,Inv X a σ H s->t σ H Q->
  wpAny (model X.prog X.w) X.A (evalPart e X.env) (λu c=>∃o b,Inv X a σ b c/\IsPart u o/\Q o b) X.xe s
def aiU:TO:=λ_ H Q=>Q none H
def aiV (t:TE):TO:=λσ H Q=>t σ H λx a=>∃i,x= .int i/\Q (some i) a
section
variable {X:Cx} {e:Expr} {te:TE} {lo hi:Option Expr} {tl th:TO} {pos p2:Pos}
theorem acz:PO X none aiU:=by intro a s σ H Q I h;rw[aac];exact bJ ⟨none,H,I,.none,h⟩
theorem yJ (h:PE X e te):PO X (some e) (aiV te):=by intro a s σ H Q I d;rw[evalPart_some];refine dN (h a s σ H _ I d) λu j x b c g f=> ?_;obtain⟨i,rfl,q⟩:=f;obtain⟨t,rfl⟩:=g;exact⟨some i,b,c,.int i t,q⟩
def SlR (X:Cx) (r:V->Option Int->Option Int->Hp->VK->Prop):Prop:=
 ∀a s σ H x v c d lo hi b Q,Inv X a σ H s->RelV x v->s.heap.IsSliceOf b c d .none->IsPart c lo->IsPart d hi->r x lo hi H Q->
  ∃T id,typeLookup (.type T) "__getitem__" =pure (some (.builtin id))/\s.TypeIs v T/\wpAny (model X.prog X.w) X.A (getItem v (.ref b)) (EP X a σ Q) X.xe s
def tSl (r:V->Option Int->Option Int->Hp->VK->Prop) (te:TE) (tl th:TO):TE:=λσ H Q=>te σ H λx a=>tl σ a λl b=>th σ b λu c=>r x l u c Q
theorem Hz (E:SlR X r) (A:PE X e te) (C:PO X lo tl) (G:PO X hi th):PE X (.Subscript e (.Slice lo hi none p2) pos) (tSl r te tl th):=by intro a s σ H Q I h;refine PN (dN (A a s σ H _ I h) λv S x n p R N=> ?_);refine wpAny_Slice (dN (C a S σ n _ p N) λi U l o t J O=>dN (G a U σ o _ t O) λj f u m w L P=> ?_);rw[aac];refine bJ ?_;have y:Inv X a σ m {f with heap:=f.heap.push {cls:= .type "slice",data:= .fields #[i,j,.none]}}:=w.kept λb W q=>fJ _ q;obtain⟨T,id,z,F,B⟩:=E a {f with heap:=f.heap.push {cls:= .type "slice",data:= .fields #[i,j,.none]}} σ m x v i j l u f.heap.objs.size Q y R (ahK ..) J L P;exact tail_any F z B (by with_unfolding_all rfl)
def yK (xs:List V) (lo hi:Option Int):List V:=(xs.drop (HT.sIx xs.length 0 lo)).take (HT.sIx xs.length xs.length hi-HT.sIx xs.length 0 lo)
theorem aiW (xs:List V) (lo hi:Option Int):(yK xs lo hi).length<=xs.length:=by unfold yK;rw[fD,rB];omega
end
def ixN (n:Nat) (i:Int):Option Nat:=if 0<=i then(if i < n then some i.toNat else none)else if-(n:Int)<=i then some (i+n).toNat else none
def atI {α:Type} (xs:List α) (i:Int):Option α:=(ixN xs.length i).bind λj=>xs[j]?
theorem acA (h:ixN n i=some j):seqIndex? i n=some j/\j < n/\ -(n:Int)<=i/\i < n:=by
 unfold ixN at h;by_cases b:0<=i
 .rw[aB b]at h;by_cases a:i < n;.rw[aB a]at h;have e:=jV h;exact⟨by rw[seqIndex_of b a,e],by omega,by omega,a⟩
  .rw[au a]at h;cases h
 .rw[au b]at h;by_cases a: -(n:Int)<=i;.rw[aB a]at h;have e:=jV h;exact⟨by rw[seqIndex_neg (by omega) a,e],by omega,a,by omega⟩
  .rw[au a]at h;cases h
theorem acB {α:Type} {xs:List α} {i:Int} {v:α} (h:atI xs i=some v):∃j,seqIndex? i xs.length=some j/\xs[j]? =some v/\j < xs.length/\ -(xs.length:Int)<=i/\i < xs.length:=by
 unfold atI at h;cases e:ixN xs.length i with
 | none=>rw[e]at h;cases h
 | some j=>rw[e]at h;obtain⟨a,b,c,d⟩:=acA e;exact⟨j,a,h,b,c,d⟩
theorem aiX {α:Type} {xs:List α} {j:Nat} {v:α} (h:xs[j]? =some v):atI xs (j:Int)=some v:=by
 have a:=(jX.mp h).1;have e:ixN xs.length (j:Int)=some j:=by unfold ixN;rw[aB (by omega),aB (by omega)];simp
 unfold atI;rw[e];exact h
theorem aiY {α:Type} (xs:List α) (v:α):atI (xs++[v]) (-1)=some v:=by
 have a:(xs++[v]).length=xs.length+1:=by simp
 have e:ixN (xs++[v]).length (-1)=some xs.length:=by
  unfold ixN;rw[a,au (by decide),aB (by omega)]
  congr 1
  omega
 unfold atI;rw[e];simp
def aiZ (b:Expr):Prop:=∀o i,subscripted b false o i=operate [o,i] (getItem o i)
def IxR (X:Cx) (r:R2):Prop:=
 ∀(c a:Expr) (b:List (Addr×Obj)) (s:Shared) (σ:St) (H:Hp) (x y:V) (v u:Value) (Q:VK),Inv X b σ H s->RelV x v->RelV y u->r x y H Q->
  subscripted a false v u=operate [v,u] (getItem v u)->wpAny (model X.prog X.w) X.A (subscriptTail c a v u) (EP X b σ Q) X.xe s
def MtR (X:Cx) (id:String) (r:V->List V->Hp->VK->Prop):Prop:=
 ∀a s σ H x c v b Q,Inv X a σ H s->RelV x v->Vals c b->r x c H Q->
  wpAny (model X.prog X.w) X.A (call (.builtin id) (v::b)) (EP X a σ Q) X.xe s
section
variable {X:Cx} {a b:Expr} {ta tb:TE} {pos:Pos}
theorem bB (i:IxR X r) (f:PE X a ta) (g:PE X b tb) (j:aiZ b):PE X (.Subscript a b pos) (tOp r ta tb):=by intro c s σ H Q I h;exact PN (QL f g I h λv u n x y d e l m q=>i a b c n σ d x y v u Q e l m q (j _ _))
def jG (K:aW):R2:=λx y H Q=>∃p a i v,x= .ref p/\y= .int i/\SqL K H p a/\atI a i=some v/\Q v H
def uh (K:aW):R2:=λx y H Q=>∃p a i v,x= .ref p/\y= .int i/\SqT K H p a/\atI a i=some v/\Q v H
theorem bH:IxR X (jG X.K):=by
 intro l g a s σ H x y v u Q I J L h o;obtain⟨p,R,i,z,rfl,rfl,G,E,q⟩:=h;cases J;obtain⟨t,rfl⟩:=L;obtain⟨d,r,e,P⟩:=I.list G;obtain⟨j,b,A,N,B,C⟩:=acB E;obtain⟨w,m,f⟩:=r.get A;have F:=r.length;have O:=QT;have fin:EP X a σ Q w s:=⟨z,H,I,f,q⟩;by_cases n:0<=i
 .have c:i.toNat=j:=by rw[seqIndex_of n C]at b;exact jV b
  exact item_listR e.isList n (by omega) (by rw[c];simpa using m) fin o
 .have c:(i+(d.toArray.size:Int)).toNat=j:=by rw[seqIndex_neg (by omega) B]at b;rw[gF,<-F];exact jV b
  exact abb e.isList.typeIs slot_list_getitem.lookup
   (wpAny_getItem_list_neg e.isList (by omega) (by rw[gF] <;> omega) (by omega) (by rw[c];simpa using m) ⟨rfl,fin⟩) o
theorem rN:IxR X (uh X.K):=by
 intro d c a s σ H x y v u Q I C E h A;obtain⟨p,O,i,z,rfl,rfl,o,m,q⟩:=h;cases C;obtain⟨t,rfl⟩:=E;obtain⟨B,r,e,N⟩:=I.tuple o;obtain⟨j,g,l,F,G,J⟩:=acB m;obtain⟨w,f,b⟩:=r.get l;have n:=r.length;have L:=QT;have fin:EP X a σ Q w s:=⟨z,H,I,b,q⟩;exact abb e.typeIs slot_tuple_getitem.lookup
  (getItem_tuple e (by omega) (by omega) (by rw[gF,<-n];exact g) (by simpa using f) ⟨rfl,fin⟩) A
theorem ai0 (lo a:Option Int) (n:Nat):(sliceBounds lo a none n).1=((HT.sIx n 0 lo:Nat):Int)/\(sliceBounds lo a none n).2.1=((HT.sIx n n a:Nat):Int)/\(sliceBounds lo a none n).2.2=1:=by
 refine⟨?_,?_,rfl⟩
 .cases lo with
  | none=>simp[sliceBounds,HT.sIx]
  | some i=>
   simp only[sliceBounds,HT.sIx,aa8,show(1:Int) > 0 by decide,if_true];by_cases h:i < 0;.simp only[h,if_true] <;> omega
   .simp only[h,if_false] <;> omega
 .cases a with
  | none=>simp[sliceBounds,HT.sIx]
  | some i=>
   simp only[sliceBounds,HT.sIx,aa8,show(1:Int) > 0 by decide,if_true];by_cases h:i < 0;.simp only[h,if_true] <;> omega
   .simp only[h,if_false] <;> omega
theorem ai1 (a:List Value) (lo b:Option Int):slicePick a.toArray lo b none=((a.drop (HT.sIx a.length 0 lo)).take (HT.sIx a.length a.length b-HT.sIx a.length 0 lo)).toArray:=by obtain⟨c,d,e⟩:=ai0 lo b a.toArray.size;unfold slicePick;rw[c,d,e];simp only[sliceRange_one,pick_run,gF] <;> rfl
def acC (K:aW):V->Option Int->Option Int->Hp->VK->Prop:=λx lo c H Q=>∃a b,x= .ref a/\SqL K H a b/\∀p,H p=none->Q (.ref p) (upd H p (.lst (yK b lo c)))
theorem HB:SlR X (acC X.K):=by intro g s σ H x v w y lo e u Q I p i n o h;obtain⟨a,d,rfl,j,q⟩:=h;cases p;obtain⟨m,r,f,l⟩:=I.list j;have c:=r.length;refine⟨"list",_,slot_list_getitem.lookup,f.isList.typeIs,?_⟩;refine wpAny_getItem_list_slice f.isList i n o .none (by simp) ?_ (by rw[gF] <;> omega);rw[ai1,<-c];refine⟨.ref s.heap.objs.size,_,I.laid (λb t q=>fJ _ q) (bW _) ?_,rfl,q _ (I.hok.fresh (bW _))⟩;exact⟨cI (aiW d lo e) l,_,0,(r.drop (HT.sIx d.length 0 lo)).take (HT.sIx d.length d.length e-HT.sIx d.length 0 lo),iC _ rfl⟩
def rO:V->Bool
 | .non=>true
 | .bl _=>true
 | .int _=>true
 | .str _=>true
 | _=>false
def eqV:V->V->Bool
 | .non,.non=>true
 | .bl a,.bl b=>a==b
 | .bl a,.int b=>(if a then 1 else 0)==b
 | .int a,.bl b=>a==(if b then 1 else 0)
 | .int a,.int b=>a==b
 | .str a,.str b=>a==b
 | _,_=>false
theorem ai2 (f:RelV y u) (c:RelV x v) (g:rO y=true) (e:rO x=true):abd A s u v (eqV y x):=by
 cases y with
 | non=>
  cases f;cases x with
  | non=>cases c;exact agU _
  | bl b=>cases c;exact agV b
  | int b=>obtain⟨t,rfl⟩:=c;exact agW b t
  | str b=>obtain⟨t,rfl⟩:=c;exact agX b t
  | _=>exact absurd (e) gG
 | bl a=>
  cases f;cases x with
  | non=>cases c;exact agY a
  | bl b=>cases c;exact agZ a b
  | int b=>obtain⟨t,rfl⟩:=c;exact ag0 a b t
  | str b=>obtain⟨t,rfl⟩:=c;exact ag1 a b t
  | _=>exact absurd (e) gG
 | int a=>
  obtain⟨d,rfl⟩:=f;cases x with
  | non=>cases c;exact ag2 a d
  | bl b=>cases c;exact ag3 a d b
  | int b=>obtain⟨t,rfl⟩:=c;exact ZR a d b t
  | str b=>obtain⟨t,rfl⟩:=c;exact ZP a d b t
  | _=>exact absurd (e) gG
 | str a=>
  obtain⟨d,rfl⟩:=f;cases x with
  | non=>cases c;exact ag4 a d
  | bl b=>cases c;exact ag5 a d b
  | int b=>obtain⟨t,rfl⟩:=c;exact ZQ a d b t
  | str b=>obtain⟨t,rfl⟩:=c;exact ag6 a d b t
  | _=>exact absurd (e) gG
 | _=>exact absurd (g) gG
def eqU (x:V) (u:Value):Bool:=match u with
 | .none=>eqV .non x
 | .bool b=>eqV (.bl b) x
 | .int i _=>eqV (.int i) x
 | .str z _=>eqV (.str z) x
 | _=>false
theorem acD (r:RelV y u) (f:rO y=true):eqU x u=eqV y x:=by
 cases y with
 | non=>cases r;rfl
 | bl b=>cases r;rfl
 | int i=>obtain⟨t,rfl⟩:=r;rfl
 | str z=>obtain⟨t,rfl⟩:=r;rfl
 | _=>exact absurd (f) gG
theorem Cm:∀{xs:List V} {a:List Value},Vals xs a->xs.all rO=true->a.any (eqU x)=xs.any λy=>eqV y x
 | _,_,.nil,_=>rfl
 | y::xs,u::a,.cons r t,f=>by rw[Gy,dY]at f;rw[u5,u5,acD r f.1,Cm t f.2]
theorem Cp (d:RelV x v) (c:rO x=true):∀{xs:List V} {b:List Value},Vals xs b->xs.all rO=true->∀u∈b,abd A s u v (eqU x u)
 | _,_,.nil,_=>λu a=>by cases a
 | y::xs,u::b,.cons r t,f=>λe a=>by
  rw[Gy,dY]at f;rcases cD.mp a with rfl | a;.rw[acD r f.1];exact ai2 r d f.1 c
  .exact Cp d c t f.2 e a
def inV (x:V) (xs:List V):Bool:=xs.any λy=>eqV y x
def rIn (K:aW) (neg:Bool):R2:=λx y H Q=>∃p a,y= .ref p/\(SqL K H p a\/SqT K H p a)/\rO x=true/\a.all rO=true/\Q (.bl (if neg then !inV x a else inV x a)) H
theorem ai3:OpR X (compareOp .In) (rIn X.K false):=by
 intro f s σ H x y v u Q I g j h;obtain⟨p,l,rfl,b,e,fs,q⟩:=h;cases j;rcases b with b | b;.obtain⟨a,r,d,i⟩:=I.list b;refine SeqAt.in_listAt (eqU x) d.isList (λw c=>Cp g e r fs w (by simpa using c)) ⟨.bl _,H,I,rfl,?_⟩;rw[show a.toArray.any (eqU x)=a.any (eqU x)by simp,Cm r fs];exact q
 .obtain⟨a,r,d,i⟩:=I.tuple b;refine SeqAt.in_tupleAt (eqU x) d (λw c=>Cp g e r fs w (by simpa using c)) ⟨.bl _,H,I,rfl,?_⟩;rw[show a.toArray.any (eqU x)=a.any (eqU x)by simp,Cm r fs];exact q
theorem acE:OpR X (compareOp .NotIn) (rIn X.K true):=by
 intro f s σ H x y v u Q I g j h;obtain⟨p,l,rfl,b,e,fs,q⟩:=h;cases j;rcases b with b | b;.obtain⟨a,r,d,i⟩:=I.list b;refine SeqAt.notIn_listAt (eqU x) d.isList (λw c=>Cp g e r fs w (by simpa using c)) ⟨.bl _,H,I,rfl,?_⟩;rw[show a.toArray.any (eqU x)=a.any (eqU x)by simp,Cm r fs];exact q
 .obtain⟨a,r,d,i⟩:=I.tuple b;refine SeqAt.notIn_tupleAt (eqU x) d (λw c=>Cp g e r fs w (by simpa using c)) ⟨.bl _,H,I,rfl,?_⟩;rw[show a.toArray.any (eqU x)=a.any (eqU x)by simp,Cm r fs];exact q
theorem fK:lC X (.builtin "len") (λxs H Q=>∃p ys,xs=[.ref p]/\(SqL X.K H p ys\/SqT X.K H p ys)/\Q (.int ys.length) H):=by
 intro f s σ H xs l Q I r h;obtain⟨p,ys,rfl,b,q⟩:=h;obtain⟨u,rfl,i⟩:=vals1 r;cases i;have j:=QT;rcases b with b | b;.obtain⟨c,e,d,g⟩:=I.list b;have a:=e.length;exact Calls.call_len_list d.isList (by simp only[gF] <;> omega) ⟨.int ys.length,H,I.tok _,⟨s.toks+1,by rw[gF,a]⟩,q⟩
 .obtain⟨c,e,d,g⟩:=I.tuple b;have a:=e.length;exact len_tuple d (by simp only[gF] <;> omega) ⟨.int ys.length,H,I.tok _,⟨s.toks+1,by rw[gF,a]⟩,q⟩
theorem acF:lC X (.type "tuple") (λxs H Q=>∃p ys,xs=[.ref p]/\((SqL X.K H p ys/\∀l,H l=none->Q (.ref l) (upd H l (.tup ys)))\/(SqT X.K H p ys/\Q (.ref p) H))):=by
 intro c s σ H xs z Q I r h;obtain⟨p,ys,rfl,h⟩:=h;obtain⟨u,rfl,y⟩:=vals1 r;cases y;rcases h with ⟨f,q⟩ | ⟨f,q⟩
 .obtain⟨a,i,g,v⟩:=I.list f;have t:=i.length;refine call_tuple_list g.isList (λd kp=> ?_) (by simp only[gF] <;> omega);have j:=I.kept (t':=s.toks) kp;have w:Inv X c σ (upd H d.objs.size (.tup ys)) {s with heap:=d.push {cls:= .type "tuple",data:= .seq a.toArray}}:=
   j.laid (λb o e=>fJ _ e) (bW _) (⟨v,a,i,IsTup.new _ _⟩)
  exact⟨.ref d.objs.size,_,w,rfl,q _ (j.hok.fresh (bW _))⟩
 .obtain⟨a,i,g,v⟩:=I.tuple f;exact call_tuple_same g ⟨.ref p,H,I,rfl,q⟩
def tyV (K:aW) (T:String) (x:V) (H:Hp):Prop:=match x with
 | .str _=>T="str"
 | .int _=>T="int"
 | .ref p=>(T="list" /\∃b,SqL K H p b)\/(T="tuple" /\∃o,K.lookup p=some o/\o.cls= .type "tuple" /\o.dict=none)\/
   (T="dict" /\((∃a,H p=some (.dK a))\/∃a,H p=some (.dT a)))\/(T="set" /\∃S n,H p=some (.set S n))
 | _=>False
theorem acG (I:Inv X pins σ H s) (r:RelV x v) (f:tyV X.K T x H):
  s.TypeIs v T/\∀a,v= .ref a->∃l,s.heap.get? a=some l/\l.dict=none:=by
 cases x with
 | str z=>obtain⟨t,rfl⟩:=r;cases(f);exact⟨typeIs_str s z t,λ_ e=>nomatch e⟩
 | int i=>obtain⟨t,rfl⟩:=r;cases(f);exact⟨typeIs_int s i t,λ_ e=>nomatch e⟩
 | ref p=>
  cases r;rcases f with ⟨rfl,y,u⟩ | ⟨rfl,o,b,q,h⟩ | ⟨rfl,b⟩ | ⟨rfl,S,n,b⟩;.obtain⟨w,_,m,_⟩:=I.list u;refine⟨m.isList.typeIs,λa e=> ?_⟩;cases e;obtain⟨o,n,e,c,h,_⟩:=m;exact⟨o,e,h⟩
  .refine⟨⟨o,I.kIn p o b,q⟩,λa e=> ?_⟩;cases e;exact⟨o,I.kIn _ o b,h⟩
  .have z:∃o,s.heap.get? p=some o/\o.ExactDict:=by
    rcases b with ⟨j,b⟩ | ⟨j,b⟩;.obtain⟨_,_,_,_,o,_,_,e,d,_⟩:=I.hok p _ b;exact⟨o,e,d⟩
    .obtain⟨_,_,_,_,o,_,_,e,d,_⟩:=I.hok p _ b;exact⟨o,e,d⟩
   obtain⟨o,e,d⟩:=z;refine⟨⟨o,e,d.1⟩,λa g=> ?_⟩;cases g;exact⟨o,e,d.2.1⟩
  .obtain⟨o,_,_,_,e,d,_⟩:=I.hok p _ b;refine⟨⟨o,e,d.1⟩,λa g=> ?_⟩;cases g;exact⟨o,e,d.2.1⟩
 | _=>exact jP f
def acH (K:aW) (T:String) (r:V->List V->Hp->VK->Prop) (b:TE):TE:=λσ H Q=>b σ H λx a=>tyV K T x a/\r x [] a Q
def tBM (K:aW) (T:String) (r:V->List V->Hp->VK->Prop) (c:TE) (t:TA):TE:=λσ H Q=>c σ H λx a=>tyV K T x a/\t σ a λd b=>r x d b Q
variable {o e:Expr} {es:List Expr} {to:TE} {t:TA} {name:Str} {apos cpos:Pos} {T id:String} {r:V->List V->Hp->VK->Prop}
theorem acI (p:PlainAttrs T) (slot:Slot T name id) (d:typeOf (.builtin id)=pure (.type "method_descriptor")) (l:MtR X id r) (m:PE X o to)
  (b:attributeBase o name X.env (eval o X.env)=eval o X.env:=by rfl) (c:(apos.endLine==cpos.line)=true:=by rfl):PE X (.Call (.Attribute o name apos) [] [] cpos) (acH X.K T r to):=by
 intro a s σ H Q I h;refine wpAny_Call_method0_late b c (thn (m a s σ H _ I h) λv t n=> ?_);obtain⟨x,g,e,f,u,q⟩:=n;obtain⟨i,j⟩:=acG e f u;exact⟨T,id,p,slot,d,i,j,Bl rfl (PySem.evalArgs_none (l a t σ g x [] v [] Q e f .nil q))⟩
theorem jo (C:PlainAttrs T) (slot:Slot T name id) (g:typeOf (.builtin id)=pure (.type "method_descriptor")) (y:MtR X id r) (z:PE X o to) (w:PA X (e::es) t)
  (c:attributeBase o name X.env (eval o X.env)=eval o X.env:=by rfl)
  (f:((backTo cpos (starEach (e::es) X.env)).all (λx=> !x.1)&&(backToKw cpos (keywordEach [] X.env)).all (λx=>x.1.isSome)
   &&decide ((e::es).length+([]:List Keyword).length+(if([]:List Keyword).isEmpty then 0 else 1) < 30))=true:=by rfl)
  (d:(apos.endLine==cpos.line)=true:=by rfl) (A:starEach (e::es) X.env=(false,eval e X.env)::starEach es X.env:=by rfl) (b:(backTo cpos (starEach es X.env)).any (·.1)=false:=by rfl):
  PE X (.Call (.Attribute o name apos) (e::es) [] cpos) (tBM X.K T r to t):=by
 intro a s σ H Q I h;refine wpAny_Call_method_late c f d rfl (thn (z a s σ H _ I h) λv J B=> ?_);obtain⟨x,m,i,l,N,E⟩:=B;obtain⟨q,u⟩:=acG i l N;refine⟨T,id,C,slot,g,q,u,?_⟩;have j:=w cpos a J σ m _ i E;rw[A]at j ⊢;refine Bl (by show(false||(backTo cpos (starEach es X.env)).any (·.1))=false;rw[b] <;> rfl) (GP ?_);exact thn j λO L ⟨P,n,p,G,F⟩=>y a L σ n x P v O Q p l G F
end
def MtM (X:Cx) (id:String) (r:V->List V->Hp->VK->Prop):Prop:=
 ∀a s σ H x c v b Q,Inv X a σ H s->RelV x v->Vals c b->r x c H Q->
  wpAny (model X.prog X.w) X.A (call (.builtin id) (v::b)) (EP X a σ Q) X.xe s
theorem Vals.one (h:Vals [x] us):∃u,us=[u]/\RelV x u:=by cases h with | cons r t=>cases t;exact⟨_,rfl,r⟩
theorem Vals.zero:∀{a:List Value},Vals [] a->a=[]
 | _,.nil=>rfl
theorem Vals.dropLast (h:Vals xs us):Vals xs.dropLast us.dropLast:=by
 induction h with
 | nil=>exact .nil
 | cons r t a=>
  cases t with
  | nil=>exact .nil
  | cons q b=>exact .cons r a
theorem Vals.eraseIdx:∀{xs:List V} {a:List Value} (i:Nat),Vals xs a->Vals (xs.eraseIdx i) (a.eraseIdx i)
 | _,_,_,.nil=> .nil
 | _,_,0,.cons _ t=>t
 | _,_,i+1,.cons r t=> .cons r (Vals.eraseIdx i t)
theorem ai4 {α:Type} (l:List α):l.eraseIdx (l.length-1)=l.dropLast:=by
 induction l with
 | nil=>rfl
 | cons a r c=>
  cases r with
  | nil=>rfl
  | cons b r=>
   have e:(a::b::r).length-1=((b::r).length-1)+1:=by have d:(a::b::r).length=r.length+2:=rfl;have f:(b::r).length=r.length+1:=rfl;omega
   rw[e,List.eraseIdx_cons_succ,c]
   all_goals rfl
theorem acJ {α:Type}:∀(l:List α) (i:Nat),(l.eraseIdx i).length<=l.length
 | [],_=>bW _
 | _::_,0=>qe _
 | _::r,i+1=>Nat.succ_le_succ (acJ r i)
section
variable {X:Cx} {pins:List (Addr×Obj)} {σ:St} {H:Hp} {s:Shared} {l b:Addr} {xs ys zs:List V}
theorem Inv.HD {b a:List Value} {n:Nat} {f:Array Value->Array Value} {t':Nat} (I:Inv X pins σ H s) (c:H l=some (.lst xs))
  (e:s.heap.get? l=some {cls:= .type "list",data:= .seq b.toArray n}) (g:f b.toArray=a.toArray) (i:Vals ys a) (j:ys.length<=sizeLine):
  Inv X pins σ (upd H l (.lst ys)) {s with heap:=s.heap.update l (G3 f),toks:=t'}:=by
 have q:=ahL e f;rw[g]at q;refine I.write (by rw[c];exact trivial) (.inl rfl) (λm u d h=>(u0 s.heap (G3 f) (lB d)).trans h) ⟨_,q⟩ ?_;exact⟨j,a,_,i,q⟩
theorem Inv.ai5 (I:Inv X pins σ H s) (b:Vals ys a) (c:ys.length<=sizeLine):
  Inv X pins σ (upd H s.heap.objs.size (.lst ys)) {s with heap:=s.heap.push {cls:= .type "list",data:= .seq a.toArray},toks:=t'}:=
 I.laid (λ_ _ q=>fJ _ q) (bW _) ⟨c,a,0,b,iC _ rfl⟩
theorem Inv.fresh (I:Inv X pins σ H s):H s.heap.objs.size=none:=I.hok.fresh (bW _)
theorem Inv.vO (I:Inv X pins σ H s) (b:H l=some (.lst xs)):xs.length<=sizeLine/\∃a n,Vals xs a/\xs.length=a.length/\s.heap.get? l=some {cls:= .type "list",data:= .seq a.toArray n}:=by obtain⟨z,a,n,r,e⟩:=I.hok l _ b;exact⟨z,a,n,r,r.length,e⟩
theorem ai6 (h:n<=sizeLine):abg n=false:=by exact cY (by omega)
end
section
variable {X:Cx}
def Q5:V->List V->Hp->VK->Prop:=λx b H Q=>∃l a y,x= .ref l/\b=[y]/\H l=some (.lst a)/\a.length < sizeLine/\Q .non (upd H l (.lst (a++[y])))
theorem oK:MtM X "list.append" Q5:=by intro c s σ H x o v m Q I g f h;obtain⟨l,p,y,rfl,rfl,b,j,q⟩:=h;cases g;obtain⟨u,rfl,d⟩:=f.one;obtain⟨z,a,n,r,i,e⟩:=I.vO b;refine Ge m8 ⟨_,e,rfl⟩ F.entry_list_append (F.args_list_append_2 _ _) (PySem.list_append l a.toArray n u (by rw[gF];omega)) ⟨e,?_⟩;refine⟨.non,_,I.HD b e (by simp) (r.append (.cons d .nil)) ?_,rfl,q⟩;rw[cV,List.length_singleton];omega
def Q6:V->List V->Hp->VK->Prop:=λx c H Q=>∃l b a zs,x= .ref l/\c=[.ref b]/\H l=some (.lst a)/\H b=some (.lst zs)/\a.length+zs.length<=sizeLine/\Q .non (upd H l (.lst (a++zs)))
theorem yL:MtM X "list.extend" Q6:=by
 intro i s σ H x G v E Q I A y h;obtain⟨l,b,J,zs,rfl,rfl,g,m,C,q⟩:=h;cases A;obtain⟨u,rfl,w⟩:=y.one;cases w;obtain⟨z,c,n,r,B,e⟩:=I.vO g;obtain⟨L,a,p,t,o,j⟩:=I.vO m;have f:c.toArray.size+a.toArray.size<=sizeLine:=by rw[gF,gF];omega
 have d:¬(!c.toArray.isEmpty&&abg (c.toArray.size+a.toArray.size))=true:=by rw[ai6 f,Py];exact gG
 refine Ge vp ⟨_,e,rfl⟩ F.entry_list_extend (F.args_list_extend_2 _ _)
  (AutoSeq1.list_extend_list_list_0 l c.toArray n b a.toArray p d (by rw[gF];omega) (by omega)) ⟨e,j,?_⟩
 refine⟨.non,_,I.HD g e (by simp) (r.append t) ?_,rfl,q⟩;rw[cV];omega
def acK:V->List V->Hp->VK->Prop:=λx b H Q=>∃l a y,x= .ref l/\b=[]/\H l=some (.lst a)/\a[a.length-1]? =some y/\Q y (upd H l (.lst a.dropLast))
theorem acL:MtM X "list.pop" acK:=by
 intro f s σ H x w v t Q I p o h;obtain⟨l,A,y,rfl,rfl,d,j,q⟩:=h;cases p;have b:=o.zero;subst b;obtain⟨z,a,n,r,g,e⟩:=I.vO d;obtain⟨u,i,m⟩:=r.get j;have c:a.toArray[a.toArray.size-1]? =some u:=by show a.toArray[a.length-1]? =some u;rw[<-Bm,<-g];exact i
 refine Ge Bt ⟨_,e,rfl⟩ abj (F.args_list_pop_1 _) (MeetsSeq.list_pop_last l a.toArray n u c (by rw[gF];omega)) ⟨e,?_⟩;refine⟨y,_,I.HD d e ?_ r.dropLast ?_,m,q⟩;.show a.toArray.eraseIdxIfInBounds (a.toArray.size-1)=a.dropLast.toArray;rw[gF,aaE,ai4]
 .rw[List.length_dropLast];omega
def acM:V->List V->Hp->VK->Prop:=λx b H Q=>∃l a i k y,x= .ref l/\b=[.int i]/\H l=some (.lst a)/\ -(2 ^ 63)<=i/\i < 2 ^ 63/\seqIndex? i a.length=some k/\a[k]? =some y/\Q y (upd H l (.lst (a.eraseIdx k)))
theorem ai8:MtM X "list.pop" acM:=by
 intro d s σ H x J v G Q I C B h;obtain⟨l,E,i,k,y,rfl,rfl,c,f,g,j,p,q⟩:=h;cases C;obtain⟨u,rfl,A⟩:=B.one;obtain⟨t,rfl⟩:=A;obtain⟨z,a,n,r,m,e⟩:=I.vO c;obtain⟨w,o,b⟩:=r.get p;refine Ge Bt ⟨_,e,rfl⟩ abj (F.args_list_pop_2 _ _)
  (MeetsSeq.list_pop_at l a.toArray n i t k w (fitsIndex_both f g) (by rw[gF,<-m];exact j) (by rw[<-Bm];exact o) (by rw[gF];omega)) ⟨e,?_⟩
 refine⟨y,_,I.HD c e ?_ (r.eraseIdx k) ?_,b,q⟩;.show a.toArray.eraseIdxIfInBounds k=(a.eraseIdx k).toArray;rw[aaE]
 .have:=acJ E k;omega
def acN:R2:=λx y H Q=>∃l b a zs,x= .ref l/\y= .ref b/\H l=some (.lst a)/\H b=some (.lst zs)/\a.length+zs.length<=sizeLine/\∀p,H p=none->Q (.ref p) (upd H p (.lst (a++zs)))
theorem Cq:OpR X (binaryOp .Add) acN:=by
 intro d s σ H x y v u Q I p t h;obtain⟨l,b,C,zs,rfl,rfl,j,i,A,q⟩:=h;cases p;cases t;obtain⟨z,c,n,r,w,e⟩:=I.vO j;obtain⟨E,a,B,o,m,f⟩:=I.vO i;refine PySem.P.add_list e f ?_ (by rw[gF,gF];omega);have g:c.toArray++a.toArray=(c++a).toArray:=by simp
 rw[g];exact⟨.ref _,_,I.ai5 (r.append o) (by rw[cV];omega),rfl,q _ I.fresh⟩
end
theorem Vals.ints:∀{ns:List Int} {a:List Value},Vals (ns.map V.int) a->IntsAre a ns
 | [],a,h=>by rw[xW]at h;cases h;exact IntsAre.nil
 | n::ns,a,h=>by
  rw[bT]at h;cases h with
  | cons r t=>obtain⟨k,rfl⟩:=r;exact IntsAre.cons n k (Vals.ints t)
theorem Q7:∀{a:List Value} {ns:List Int},IntsAre a ns->Vals (ns.map V.int) a
 | _,_,.nil=>by rw[xW];exact Paired.nil
 | _,_,.cons n t h=>by rw[bT];exact Paired.cons (⟨t,rfl⟩) (Q7 h)
theorem Vals.yM (r:Vals [V.ref a] us):us=[fQ a]:=by
 cases r with
 | cons r t=>cases t;cases r;rfl
section
variable {prog:Program} {w:World} {A:Around} {E:Value->Shared->Prop} {s:Shared} {l:Addr} {its:List Value} {ns:List Int} {Q:Value->Shared->Prop}
theorem ai9 (i:A.handled=none) (f:s.heap.IsList l its.toArray) (d:IntsAre its ns)
  (h:∀a c t',(∀b o,s.heap.get? b=some o->a.get? b=some o)->Q (.int ns.sum t') {s with heap:=a,toks:=c}):wpAny (model prog w) A (call (.builtin "sum") [.ref l]) Q E s:=by
 obtain⟨m,e⟩:=d.allInts.items;have g:numsOf (intItems m).toList=ns:=by rw[<-e];exact d.numsOf
 rw[aad]at g;rw[e]at f;refine PySem.sum_intListG i f λa c t' j=> ?_;have:=h a c t' j;rw[preSum_eq,qj (by simp),g];exact this
end
section
variable {X:Cx}
def ai_ (K:aW):List V->Hp->VK->Prop:=λc H Q=>∃(a:Addr) (b:List Int),c=[V.ref a]/\SqL K H a (b.map V.int)/\Q (.int b.sum) H
theorem aja (c:X.calm=true):lC X (.builtin "sum") (ai_ X.K):=by intro b s σ H p o Q I r h;obtain⟨a,l,rfl,f,q⟩:=h;obtain⟨g,i,e,_⟩:=I.list f;rw[Vals.yM r];exact ai9 (I.ok.hd c) e.isList i.ints λj n m d=>⟨.int _,H,I.kept d,⟨_,rfl⟩,q⟩
end
abbrev acO (h:Heap) (c:Addr) (v:Option Value):Prop:=h.IsCell c v
def ajb (a c:Scope):Scope:=
 {a with names:=a.names.map λ(n,k)=>if(k== .free&&c.kind== .function&&c.names.lookup n==some .cell)then(n,.cell)else(n,k)}
def iI (a:List (Str×Addr)):List (Str×NameKind)->List (Str×Addr)->List (Str×Addr)
 | [],b=>b
 | (n,k)::r,b=>if k== .free then iI a r ((n,(a.lookup n).getD 0)::b)else iI a r b
theorem acP (env:Env) (f:Str×NameKind->List (Str×Addr)->Sem (ForInStep (List (Str×Addr))))
  (g:∀n k c,f (n,k) c=if k== .free then(do let a <-cellOf env n;pure (.yield ((n,a)::c)))else pure (.yield c)):
  ∀names acc,(∀y∈names,y.2= .free->∃c,env.cells.lookup y.1=some c)->forIn names acc f=pure (iI env.cells names acc)
 | [],acc,_=>by rw[aaF];rfl
 | (n,k)::r,acc,h=>by
  rw[List.forIn_cons,g];have i:=λacc=>acP env f g r acc λy l=>h y (cO _ l);unfold iI;by_cases b:(k==yh)=true
  .rw[aB b,aB b];obtain⟨c,d⟩:=h (n,k) cU (by simpa using b);have e:cellOf env n=pure c:=by unfold cellOf;rw[d]
   rw[e];have j:(env.cells.lookup n).getD 0=c:=by rw[d];rfl
   rw[j];exact i _
  .rw[au b,au b];exact i _
theorem ajc {a:Scope} {env:Env} (h:∀y∈a.names,y.2= .free->∃c,env.cells.lookup y.1=some c):closureFor a env=pure (iI env.cells a.names []):=by simp only[closureFor];rw[acP env _ (λn k c=>rfl) a.names [] h];rfl
theorem mem_lookup {α:Type}:∀{l:List (Str×α)} {n:Str} {c:α},(n,c)∈l->∃a,l.lookup n=some a
 | (k,v)::r,n,c,h=>by
  rw[u6];cases b:n==k with
  | true=>exact⟨_,rfl⟩
  | false=>
   rcases cD.mp h with e | h;.cases e;simp at b
   .exact mem_lookup h
theorem HF:∀{names:List (Str×NameKind)} {acc:List (Str×Addr)} {n:Str} {c:Addr},(n,c)∈iI cells names acc->(n,c)∈acc\/((n,.free)∈names/\c=(cells.lookup n).getD 0)
 | [],_,_,_,h=> .inl h
 | (m,k)::r,acc,n,c,h=>by
  unfold iI at h;split at h
  .rename_i d;have d:k= .free:=by simpa using d
   rcases HF h with h | ⟨a,b⟩
   .rcases cD.mp h with e | h;.cases e;exact .inr ⟨d▸cU,rfl⟩
    .exact .inl h
   .exact .inr ⟨cO _ a,b⟩
  .rcases HF h with h | ⟨a,b⟩;.exact .inl h
   .exact .inr ⟨cO _ a,b⟩
theorem Q8:∀{names:List (Str×NameKind)} {acc:List (Str×Addr)} {p:Str×Addr},p∈acc->p∈iI cells names acc
 | [],_,_,h=>h
 | (m,k)::r,acc,p,h=>by
  unfold iI;split;.exact Q8 (cO _ h)
  .exact Q8 h
theorem Q9:∀{names:List (Str×NameKind)} {acc:List (Str×Addr)} {n:Str},(n,.free)∈names->(n,(cells.lookup n).getD 0)∈iI cells names acc
 | (m,k)::r,acc,n,h=>by
  unfold iI;rcases cD.mp h with e | h;.cases e;exact Q8 cU
  .split;.exact Q9 h
   .exact Q9 h
theorem Cr:∀{names:List (Str×NameKind)} {h:Heap} {acc:List (Str×Addr)} {x:Str} {c:Addr},(x,c)∈cellsFrom h.objs.size names acc->
  (x,c)∈acc\/((x,.cell)∈names/\h.objs.size<=c/\acO (pushCells h names) c none)
 | [],_,_,_,_,h=> .inl h
 | (n,k)::r,h,acc,x,c,a=>by
  unfold cellsFrom at a;unfold pushCells;split at a
  .rename_i b;rw[aB b];have b:k= .cell:=by simpa using b
   rw[<-nY h {cls:= .type "cell",data:= .cell none}]at a;rcases Cr a with a | ⟨f,d,g⟩
   .rcases cD.mp a with e | a;.cases e;exact .inr ⟨b▸cU,bW _,_,Gf r _ _ _ (iC _ rfl),rfl⟩
    .exact .inl a
   .rw[nY]at d;exact .inr ⟨cO _ f,Gs d,g⟩
  .rename_i b;rw[au b];rcases Cr a with a | ⟨f,d,g⟩;.exact .inl a
   .exact .inr ⟨cO _ f,d,g⟩
theorem HJ:∀{names:List (Str×NameKind)} {n:Nat} {acc:List (Str×Addr)} {p:Str×Addr},p∈acc->p∈cellsFrom n names acc
 | [],_,_,_,h=>h
 | (m,k)::r,n,acc,p,h=>by
  unfold cellsFrom;split;.exact HJ (cO _ h)
  .exact HJ h
theorem Q_:∀{names:List (Str×NameKind)} {n:Nat} {acc:List (Str×Addr)} {x:Str},(x,.cell)∈names->∃c,(x,c)∈cellsFrom n names acc
 | (m,k)::r,n,acc,x,h=>by
  unfold cellsFrom;rcases cD.mp h with e | h;.cases e;exact⟨n,HJ cU⟩
  .split;.exact Q_ h
   .exact Q_ h
theorem Ra:∀{names:List (Str×NameKind)} {h:Heap} {acc:List (Str×Addr)} {x y:Str} {c:Addr},(∀p∈acc,p.2 < h.objs.size)->(∀x y c,(x,c)∈acc->(y,c)∈acc->x=y)->
  (x,c)∈cellsFrom h.objs.size names acc->(y,c)∈cellsFrom h.objs.size names acc->x=y
 | [],_,_,_,_,_,_,g,f,d=>g _ _ _ f d
 | (n,k)::r,h,acc,x,y,c,i,g,f,d=>by
  unfold cellsFrom at f d;split at f
  .rename_i j;rw[aB j]at d;rw[<-nY h {cls:= .type "cell",data:= .cell none}]at f d;refine Ra (λp l=> ?_) (λx y c a b=> ?_) f d
   .rw[nY];rcases cD.mp l with rfl | l;.exact Ou _
    .exact Gu (i p l)
   .rcases cD.mp a with e | a <;> rcases cD.mp b with m | b;.cases e;cases m;rfl
    .cases e;exact absurd (i _ b) (lQ _)
    .cases m;exact absurd (i _ a) (lQ _)
    .exact g _ _ _ a b
  .rename_i j;rw[au j]at d;exact Ra i g f d
theorem ajd {M:Model} {A:Around} {E:Value->Shared->Prop} {s:Shared} {b:Scope} {e:Addr} {a:List (Str×Addr)} {i:Str} {g:Option Addr} {code:Value} {f:Env} {d:Addr} {Q:Env->Shared->Prop}
  (h:Q (newEnv b s.heap.objs.size e (cellsFrom (s.heap.objs.size+1) b.names a) i g code (some f) d)
   {s with heap:=pushCells (s.heap.push {cls:= .type "dict",data:= .dict #[]}) b.names}):
  wpAny M A (newFunctionEnv b e a [] i g code (some f) d) Q E s:=by
 simp only[newFunctionEnv,aa9,if_true];refine aP (wpAny_alloc ?_);refine aP (wpAny_layCells _ (λn k c=>rfl) b.names a _ _ ?_);rw[show({s with heap:=s.heap.push {cls:= .type "dict",data:= .dict #[]}}:Shared).heap.objs.size=s.heap.objs.size+1 from nY ..];rw[aaF];exact aP (bJ (bJ h))
theorem Rb {b:Scope}:∀{names:List (Str×NameKind)} {x:Str} {k:NameKind},
  (names.map λ(n,k)=>if(k==yh&&b.kind== .function&&b.names.lookup n==some .cell)then(n,Qa)else(n,k)).lookup x=some k->
  ∃f,names.lookup x=some f/\(k=f\/(f= .free/\k= .cell))
 | [],_,_,h=>by simp at h
 | (n,e)::r,x,k,h=>by
  have g:= @Rb b r x k;have a:tK x ((if(e==yh&&b.kind== .function&&b.names.lookup n==some .cell)=true then(n,Qa)else(n,e))::(r.map _))=some k:=h;cases d:x==n with
  | true=>
   simp only[u6,d];by_cases c:(e==yh&&b.kind== .function&&b.names.lookup n==some .cell)=true;.rw[aB c]at a;simp only[u6,d]at a;cases a;simp only[dY,beq_iff_eq]at c;exact⟨e,rfl,.inr ⟨c.1.1,rfl⟩⟩
   .rw[au c]at a;simp only[u6,d]at a;cases a;exact⟨_,rfl,.inl rfl⟩
  | false=>
   simp only[u6,d];by_cases c:(e==yh&&b.kind== .function&&b.names.lookup n==some .cell)=true;.rw[aB c]at a;simp only[u6,d]at a;exact g a
   .rw[au c]at a;simp only[u6,d]at a;exact g a
structure HN (N:List Str) (sc scope:Scope) (own:List (Str×Nat)):Prop where
 kind:scope.kind= .function
 uniq:∀y∈scope.names,scope.names.lookup y.1=some y.2
 ix:∀p∈own,N[p.2]? =some p.1
 free:∀y∈scope.names,y.2= .free->sc.names.lookup y.1=some .cell\/sc.names.lookup y.1=some .free
 own:∀y∈scope.names,y.2= .local\/y.2= .cell->y.1∈own.map (·.1)\/y.1∉N
def wipe (σ:St):List Nat->St
 | []=>σ
 | v::a=>(wipe σ a).set v none
theorem Rf (σ:St):∀vs:List Nat,(wipe σ vs).length=σ.length
 | []=>rfl
 | v::vs=>by unfold wipe;rw[aaG,Rf σ vs]
theorem Rg {σ:St} {i:Nat} {x:V}:∀{vs:List Nat},(wipe σ vs)[i]? =some (some x)->σ[i]? =some (some x)/\i∉vs
 | [],h=>⟨h,by simp⟩
 | v::vs,h=>by
  unfold wipe at h;by_cases a:v=i
  .subst a;by_cases b:v < (wipe σ vs).length;.rw[xV b]at h;cases h
   .rw[aaH (by simpa using b)]at h;cases h
  .rw[Gx a]at h;obtain⟨c,d⟩:=Rg h;exact⟨c,by simp only[cD,not_or];exact⟨λe=>a e.symm,d⟩⟩
abbrev Cx.blk (X:Cx) (s:Shared) (H:Hp) (a:Scope) (b:Env) (f:List Addr):Cx:={X with s_0:=s,H_0:=H,env:=b,outer:=X.stack,ex:=f,fn:=λx=>a.names.lookup x==some .cell,pn:=[],xe:=λ_ _=>False}
section
variable {X:Cx} {pins:List (Addr×Obj)} {σ:St} {H:Hp} {s:Shared}
theorem aje {d:Scope} {own:List (Str×Nat)} {Z:List Addr} (I:Inv X pins σ H s) (ok:HN X.N X.env.scope d own) (hN:X.N.Nodup) (j:∀b∈Z,qD X pins H b/\b < s.heap.objs.size):
  Inv (X.blk s H d (compEnvC d (cellsFrom (s.heap.objs.size+1) d.names (iI X.env.cells d.names [])) s.heap.objs.size X.env) Z) [] (wipe σ (own.map (·.2))) H {s with heap:=pushCells (s.heap.push {cls:= .type "dict",data:= .dict #[]}) d.names}:=by
 have G:∀y∈d.names,y.2= .free->∃c,X.env.cells.lookup y.1=some c:=λy A e=>by
  rcases ok.free y A e with k | k;.exact I.ok.has _ (.inl k)
  .exact I.ok.has _ (.inr k)
 generalize Q:compEnvC d (cellsFrom (s.heap.objs.size+1) d.names (iI X.env.cells d.names [])) s.heap.objs.size X.env=cenv;have kp:∀b o,s.heap.get? b=some o->(pushCells (s.heap.push {cls:= .type "dict",data:= .dict #[]}) d.names).get? b=some o:=λb o e=>Gf _ _ _ _ (fJ _ e);have U:cenv.locals=s.heap.objs.size:=by rw[<-Q];rfl
 have g:cenv.cells=cellsFrom (s.heap.objs.size+1) d.names (iI X.env.cells d.names []):=by rw[<-Q];rfl
 have O:cenv.scope=ajb d X.env.scope:=by rw[<-Q];rfl
 rw[<-nY s.heap {cls:= .type "dict",data:= .dict #[]}]at g;have R:∀{y c},(y,c)∈iI X.env.cells d.names []->X.env.cells.lookup y=some c/\c < s.heap.objs.size:=λ{y c} l=>by
  rcases HF l with l | ⟨f,rfl⟩;.cases l
  .obtain⟨c,hc⟩:=G _ f rfl;rw[hc];obtain⟨w,z⟩:=I.cell _ _ hc;exact⟨rfl,z.lt⟩
 have mem:∀{y c},cenv.cells.lookup y=some c->(X.env.cells.lookup y=some c/\c < s.heap.objs.size)\/(s.heap.objs.size+1<=c/\acO (pushCells (s.heap.push {cls:= .type "dict",data:= .dict #[]}) d.names) c none):=λ{y c} e=>by
  rw[g]at e;rcases Cr (kY e)with l | ⟨_,v,h3⟩;.exact .inl (R l)
  .rw[nY]at v;exact .inr ⟨v,h3⟩
 have look:∀{y},d.names.lookup y=some .free->∃c,cenv.cells.lookup y=some c/\X.env.cells.lookup y=some c:=λ{y} W=>by
  have A:(y,yh)∈d.names:=kY W;obtain⟨T,h⟩:=mem_lookup (HJ (names:=d.names) (Q9 A));rw[<-g]at h;refine⟨T,h,?_⟩;rw[g]at h;rcases Cr (kY h)with l | ⟨f,_,_⟩;.exact(R l).1
  .have:=ok.uniq _ f;rw[W]at this;cases this
 have okB:(X.blk s H d cenv Z).Ok:=by
  refine⟨I.ok.mod,by show cenv.scope.kind=_;rw[O];exact ok.kind,by show cenv.globals=_;rw[<-Q];exact I.ok.glob,by show cenv.builtins=_;rw[<-Q];exact I.ok.blt,by show s.heap.objs.size<=cenv.locals;rw[U];exact bW _,
   λy z c B C=> ?_,λy A=> ?_,λy c z e=> ?_,I.ok.hd,I.ok.frames,.inl rfl,λb E=>⟨?_,λy c e z=> ?_⟩,I.bs,cI I.ok.bsz I.sz,λb o e E=> ?_,λb E z=> ?_,I.stack,I.abU⟩
  .have B:=B;have C:cenv.cells.lookup z=some c:=C;rw[g]at B C;refine Ra (λp P=> ?_) (λy z c a b=>I.ok.inj y z c (R a).1 (R b).1) (kY B) (kY C);rw[nY];exact Gu (R (y:=p.1) (c:=p.2) P).2
  .show ∃c,cenv.cells.lookup y=some c;have t:∀k,cenv.kindOf y=some k->(k= .cell\/k= .free)->∃c,cenv.cells.lookup y=some c:=λk J L=>by
    unfold Env.kindOf at J;rw[O]at J;obtain⟨F,e,r⟩:=Rb J;have:F= .cell\/F= .free:=by
     rcases r with rfl | ⟨rfl,_⟩;.exact L
     .exact .inr rfl
    rcases this with rfl | rfl;.obtain⟨c,l⟩:=Q_ (n:=(s.heap.push {cls:= .type "dict",data:= .dict #[]}).objs.size) (acc:=iI X.env.cells d.names []) (kY e);obtain⟨T,h⟩:=mem_lookup l;exact⟨T,by rw[g];exact h⟩
    .obtain⟨c,f,_⟩:=look e;exact⟨c,f⟩
   rcases A with A | A;.exact t _ A (.inl rfl)
   .exact t _ A (.inr rfl)
  .have z:(d.names.lookup y==some Qa)=true:=z;have z:d.names.lookup y=some .cell:=by simpa using z
   have e:cenv.cells.lookup y=some c:=e;rw[g]at e;rcases Cr (kY e)with l | ⟨_,v,_⟩
   .rcases HF l with l | ⟨f,_⟩;.cases l
    .have q:=ok.uniq _ f;rw[z]at q;cases q
   .rw[nY]at v;exact Gs v
  .show b≠cenv.locals;rw[U];exact fZ (j b E).2
  .have e:cenv.cells.lookup y=some c:=e;rcases mem e with ⟨f,_⟩ | ⟨f,_⟩;.exact(j b E).1.2.2.2.2.1 y c f z
   .have v:s.heap.objs.size+1<=b:=by rw[<-z];exact f
    exact absurd (jW (j b E).2 (Gs v)) (lQ _)
  .rcases(j b E).1.2.2.2.1 with z | z;.exact I.ok.BX b o e z
   .exact absurd (jW (dR e) (cI I.ok.bsz z)) (lQ _)
  .rcases cD.mp (I.Qz b z)with z | z;.exact(j b E).1.2.1 z
   .exact(j b E).1.2.2.1 z
 refine⟨okB,rfl,I.bare,Un.kept kp,⟨λ_=>none,?_,λi y av B C u=> ?_⟩,λy c e=> ?_,?_,λy c e=> ?_,λp P=> ?_,I.hok.kept kp,by rw[Rf];exact I.len⟩;.show Heap.Ns _ cenv.locals _;rw[U];exact Heap.Ns.keeps (Heap.Ns.new ..) λb o e=>Gf _ _ _ _ e
 .obtain⟨C,hne⟩:=Rg C;have x:d.names.lookup y=some .free/\(cenv.kindOf y=some .cell\/cenv.kindOf y=some .free):=by
   have t:∀k,cenv.scope.names.lookup y=some k->k= .local\/k= .cell\/k= .free->d.names.lookup y=some .free/\(cenv.kindOf y=some .cell\/cenv.kindOf y=some .free):=λk J L=>by
    have S:=J;rw[O]at J;obtain⟨F,e,r⟩:=Rb J;have no:¬(F= .local\/F= .cell):=λhh=>by
     rcases ok.own _ (kY e) hh with h | h;.obtain⟨p,P,hpy⟩:=aQ.mp h;have u:=ok.ix p P;have:p.1=y:=hpy;rw[this]at u;exact hne (aQ.mpr ⟨p,P,QB hN u B⟩)
     .exact h (gq B)
    rcases r with rfl | ⟨rfl,rfl⟩
    .rcases L with rfl | rfl | rfl;.exact absurd (.inl rfl) no
     .exact absurd (.inr rfl) no
     .exact⟨e,.inr S⟩
    .exact⟨e,.inl S⟩
   have u:Vis cenv.scope y:=u;rcases u with u | u | u;.exact t _ u (.inl rfl)
   .exact t _ u (.inr (.inl rfl))
   .exact t _ u (.inr (.inr rfl))
  obtain⟨m,hn,W⟩:=I.loc;have Y:Vis X.env.scope y:=(ok.free _ (kY x.1) rfl).elim (λk=> .inr (.inl k)) (λk=> .inr (.inr k));obtain⟨w,r,q⟩:=W i y av B C Y;refine⟨w,r,.inr ⟨x.2,?_⟩⟩;obtain⟨c,f,v⟩:=look x.1;rcases q with ⟨k,_⟩ | ⟨_,T,h,z⟩;.have k:X.env.scope.names.lookup y=some .local:=k;rcases ok.free _ (kY x.1) rfl with F | F <;> rw[show X.env.scope.names.lookup y=_ from F]at k <;> cases k
  .rw[v]at h;cases h;exact⟨c,f,z.keeps kp⟩
 .have e:cenv.cells.lookup y=some c:=e;rcases mem e with ⟨f,_⟩ | ⟨_,z⟩;.obtain⟨w,z⟩:=I.cell y c f;exact⟨w,z.keeps kp⟩
  .exact⟨_,z⟩
 .show H cenv.locals=none;rw[U];exact I.hok.fresh (bW _)
 .have e:cenv.cells.lookup y=some c:=e;rcases mem e with ⟨f,_⟩ | ⟨f,_⟩;.exact I.nj y c f
  .exact I.hok.fresh (Gs f)
 .exact absurd (show p∈([]:List (Addr×Obj))++[]from P) (by simp)
theorem ajg {E:Value->Shared->Prop} {D:Addr} {xs:List V} {y:V} {v:Value} {Q:Value->Shared->Prop} (I:Inv X pins σ H s) (d:H D=some (.lst xs)) (m:xs.length < sizeLine) (r:RelV y v)
  (h:∀i,Inv X pins σ (upd H D (.lst (xs++[y]))) i->Q .none i):wpAny (model X.prog X.w) X.A (call (.builtin "list.append") [.ref D,v]) Q E s:=by
 obtain⟨o,c,n,g,e⟩:=I.hok D _ d;have t:=g.length;refine append_at e λj p a=> ?_;refine h {s with heap:=j} (I.write (by rw[d];trivial) (.inl rfl) (λb u l q=>(p.2 b l).trans q) ⟨_,a⟩ ⟨by rw[cV];exact m,c++[v],n+1,g.append (.cons r .nil),?_⟩);rw[a];simp
def PTs (X:Cx) (a:List Expr) (t:TT):Prop:=
 ∀(pins:List (Addr×Obj)) (s:Shared) (σ:St) (H:Hp) (Q:Bool->Hp->Prop),Inv X pins σ H s->t σ H Q->
  wpAny (model X.prog X.w) X.A (forIn a true λc r=>if r=true then do let ok <-isTrue c X.env (eval c X.env);pure (yj ok)else pure (yj r)) (TP X pins σ Q) X.xe s
def Rh:TT:=λ_ H Q=>Q true H
theorem um:PTs X [] Rh:=λ_ _ _ H _ I h=>wpAny_tests_nil ⟨H,I,h⟩
theorem vP (h:PT X c t):PTs X [c] t:=λpins s σ H Q I a=>wpAny_tests_one (h pins s σ H Q I a)
end
theorem yN {α:Type} {t:Sem α} {Q b:α->Shared->Prop} {M:Model} {A:Around} {E:Value->Shared->Prop} {s:Shared} (h:wpAny M A t Q (λ_ _=>False) s) (c:∀a s,Q a s->b a s):wpAny M A t b E s:=kW h c λ_ _ z=>jP z
theorem ajh {prog:Program} {w:World} {A:Around} {R:Result->Shared->Prop} {s:Shared} {g a iter:Expr} {i:List Expr} {f:Scope} {p:Pos} {o acc:Value} {env:Env} (I:Nat->Shared->Prop)
  (turn:∀n s,I n s->wpAny (model prog w) A (pyNext o) (λr q=>match r with
   | none=>R (.ok .next) q
   | some v=>wpAny (model prog w) A (letOwnedTupleGo a o v) (λ_ j=>wpAny (model prog w) A (assign a env v) (λ_ z=>
     wpAny (model prog w) A (forIn i true λc r=>if r=true then do let ok <-isTrue c env (eval c env);pure (yj ok)else pure (yj r)) (λok t=>
      if ok=true then wpAny (model prog w) A (eval g env) (λx B=>
       wpAny (model prog w) A (call (.builtin "list.append") [acc,x]) (λ_ C=>∃m,m < n/\I m C) (notedBy (model prog w) A env λe d=>R (.error e) d) B) (notedBy (model prog w) A env λe d=>R (.error e) d) t
      else ∃m,m < n/\I m t) (notedBy (model prog w) A env λe d=>R (.error e) d) z) (notedBy (model prog w) A env λe d=>R (.error e) d) j) (notedBy (model prog w) A env λe d=>R (.error e) d) q) (notedBy (model prog w) A env λe d=>R (.error e) d) s)
  (n:Nat) (h:I n s):
  codeAny (model prog w) A (.compLoop (.ListComp g [⟨a,iter,i,0⟩] f p) 0 o acc env) R s:=by
 refine codeAny_loop rfl I (λn s E=> ?_) n h;refine wpAny_noted ?_;rw[compTurn_list];refine aP (wpAny_standAt (aP (kW (turn n s E) (λr q u=> ?_) λ_ _ b=>b)));cases r with
 | none=>exact bJ u
 | some v=>
  refine aP (kW u (λ_ j l=> ?_) λ_ _ b=>b);refine aP (kW l (λ_ z F=>aP (kW F (λok t y=> ?_) λ_ _ b=>b)) λ_ _ b=>b);cases ok with
  | false=>exact bJ ⟨rfl,y⟩
  | true=>exact aP (aP (kW y (λx B G=>aP (kW G (λ_ C H=>bJ (bJ ⟨rfl,H⟩)) λ_ _ b=>b)) λ_ _ b=>b))
section
variable {X:Cx}
def tLc (q:TI) (g:TG) (p:TT) (o:TE) (vs:List Nat):TE:=λσ H Q=>q σ H λJ f=>∀D,f D=none->∃W:Nat->Nat->Hp->Prop,(∃m,W 0 m (upd f D (.lst [])))/\∀i m H,W i m H->
 (J.stop i H/\Q (.ref D) H)\/(J.go i H/\∃d:Hp->Prop,(∀c,d c->∃l,l < m/\W (i+1) l c)/\∀x c,J.yld i H x c->g x (wipe σ vs) c λe n=>wipe e vs=wipe σ vs/\p e n λb h=>
  if b=true then o e h λy j=>∃a,j D=some (.lst a)/\a.length < sizeLine/\d (upd j D (.lst (a++[y])))else d h)
theorem oM {pins:List (Addr×Obj)} {s:Shared} {σ:St} {H:Hp} {Q:VK} {L tg iter:Expr} {O:List Expr} {a:Scope} {own:List (Str×Nat)} {pos pos':Pos} {wi:TI} {g:TG} {tt:TT} {te:TE} {use:Option (Value->Sem Unit)} {Qf:Value->Shared->Prop}
  (hc:X.calm=true) (hN:X.N.Nodup) (I:Inv X pins σ H s) (hi:PI X tg iter wi) (ok:HN X.N X.env.scope a own)
  (hg:∀(s:Shared) (H:Hp) (C:Addr) (cl:List (Str×Addr)) (f:List Addr),PG (X.blk s H a (compEnvC a cl C X.env) f) tg g) (ht:∀(s:Shared) (H:Hp) (C:Addr) (cl:List (Str×Addr)) (f:List Addr),PTs (X.blk s H a (compEnvC a cl C X.env) f) O tt)
  (he:∀(s:Shared) (H:Hp) (C:Addr) (cl:List (Str×Addr)) (f:List Addr),PE (X.blk s H a (compEnvC a cl C X.env) f) L te) (hs:∀x,foldedSetIterable iter X.env x=pure x)
  (h:tLc wi g tt te (own.map (·.2)) σ H Q)
  (hRR:∀D C B m t,Inv X pins σ t B->Q (.ref D) t->B.heap.Ns C m->qD X pins t C->compPost (model X.prog X.w) X.A X.xe use Qf (.ref D) C (.ok .next) B):
  wpAny (model X.prog X.w) X.A (comprehension (.ListComp L [⟨tg,iter,O,0⟩] a pos) a X.env pos' (newList []) false (eval iter X.env) use) Qf X.xe s:=by
 have Z:∀y∈a.names,y.2= .free->∃c,X.env.cells.lookup y.1=some c:=λy hy e=>by
  rcases ok.free y hy e with k | k;.exact I.ok.has _ (.inl k)
  .exact I.ok.has _ (.inr k)
 refine wpAny_comprehension_free (use:=use) rfl hs (ajc Z) ok.kind (λy hy e=>by rw[ok.uniq y hy,e])
  (thn (hi pins s σ H _ I h) λxv s1 hx=>thn hx λitv s2 h2=> ?_)
 obtain⟨it,f,tn,J,P,e,I2,T,st2,f2,q⟩:=h2;subst e;refine Az (ajd ?_) (by show 0<=sizeLine;decide);generalize hD:s2.heap.objs.size=D;have hDn:P D=none:=I2.hok.fresh (Gq hD);obtain⟨W,⟨m0,w0⟩,turn⟩:=q D hDn;generalize hs3:({s2 with heap:=s2.heap.push {cls:= .type "list",data:= .seq ([]:List Value).toArray}}:Shared)=d;have I3:Inv X pins σ (upd P D (.lst [])) d:=by rw[<-hs3];refine I2.laid (t':=s2.toks) (λb o e=>fJ _ e) (Gq hD) ⟨fU _,[],0,.nil,?_⟩;rw[<-hD];exact iC _ rfl
 have h3:d.heap=s2.heap.push {cls:= .type "list",data:= .seq ([]:List Value).toArray}:=by rw[<-hs3]
 have sz:∀b∈f,b < s2.heap.objs.size:=λb l=>by obtain⟨o,e,_⟩:=T.obj _ _ st2 b l;exact dR e
 have Y:∀b∈f,qD X pins (upd P D (.lst [])) b/\b < d.heap.objs.size:=λb l=>by have hlt:=sz b l;refine⟨⟨?_,(f2 b l).2⟩,by rw[h3,nY];exact Gu hlt⟩;rw[aC (by rw[<-hD];exact fZ hlt)];exact(f2 b l).1
 have st3:tn 0 d.heap:=T.keep _ _ _ st2 λb _ o e=>by rw[h3];exact fJ _ e
 have I4:=aje I3 ok hN Y;have pg:=hg d (upd P D (.lst [])) d.heap.objs.size (cellsFrom (d.heap.objs.size+1) a.names (iI X.env.cells a.names [])) f;have pt:=ht d (upd P D (.lst [])) d.heap.objs.size (cellsFrom (d.heap.objs.size+1) a.names (iI X.env.cells a.names [])) f;have pe:=he d (upd P D (.lst [])) d.heap.objs.size (cellsFrom (d.heap.objs.size+1) a.names (iI X.env.cells a.names [])) f;show codeAny _ _ (.compStart (.ListComp L [⟨tg,iter,O,0⟩] a pos) 0 (.ref it) (.ref D) (compEnvC a (cellsFrom (d.heap.objs.size+1) a.names (iI X.env.cells a.names [])) d.heap.objs.size X.env)) (compPost (model X.prog X.w) X.A X.xe use Qf (.ref D) d.heap.objs.size) {d with heap:=pushCells (d.heap.push {cls:= .type "dict",data:= .dict #[]}) a.names};have nfp:∀b∈f,(upd P D (.lst [])) b=none:=λb l=>(Y b l).1.1;generalize hce:compEnvC a (cellsFrom (d.heap.objs.size+1) a.names (iI X.env.cells a.names [])) d.heap.objs.size X.env=ce at I4 pg pt pe ⊢;have cL:ce.locals=d.heap.objs.size:=by subst hce;rfl
 generalize hH3:upd P D (.lst [])=H3 at I3 I4 pg pt pe w0 nfp Y;generalize hs4:({d with heap:=pushCells (d.heap.push {cls:= .type "dict",data:= .dict #[]}) a.names}:Shared)=s4 at I4 ⊢;have st4:tn 0 s4.heap:=T.keep _ _ _ st3 λb _ o e=>by rw[<-hs4];exact Gf _ _ _ _ (fJ _ e)
 have G:∀{σ':St} {t:Hp} {B:Shared},Inv (X.blk d H3 a ce f) [] σ' t B->(∀b∈f,t b=none)->∀b∈f,qD (X.blk d H3 a ce f) [] t b:=λ{σ' t B} I' hn b l=>
  ⟨hn b l,(I'.ok.exf b l).1,I'.ok.BZ b l,.inl l,λx c e=>(I'.ok.exf b l).2 x c e,λp hp=>absurd (show p∈([]:List (Addr×Obj))++[]from hp) (by simp)⟩
 have S:codeAny (model X.prog X.w) X.A (.compLoop (.ListComp L [⟨tg,iter,O,0⟩] a pos) 0 (.ref it) (.ref D) ce) (compPost (model X.prog X.w) X.A X.xe use Qf (.ref D) d.heap.objs.size) s4:=by
  refine ajh (λn B=>∃i t,Inv (X.blk d H3 a ce f) [] (wipe σ (own.map (·.2))) t B/\tn i B.heap/\(∀b∈f,t b=none)/\W i n t) ?_ m0 ⟨0,H3,I4,st4,nfp,w0⟩;rintro n s5 ⟨i,H5,I5,st5,n5,w5⟩;rcases turn i n H5 w5 with ⟨stop,qq⟩ | ⟨go,Nx,hNx,step⟩
  .have td:=T.done (X.blk d H3 a ce f) rfl rfl rfl hc i [] s5 _ H5 (λ_ _=>False) I5 (G I5 n5) st5 stop;refine yN td λr s6 F=> ?_;obtain⟨hr,I6⟩:=F;subst hr;have I7:=I3.call' I6.os I6.base I6.hok I6.bare λb l=>⟨(Y b l).1.2.2.2.1,(Y b l).1.2.1,(Y b l).1.2.2.2.2.1,(Y b l).1.2.2.2.2.2⟩;have nC:H5 d.heap.objs.size=none:=by have z:=I6.free;rw[cL]at z;exact z
   obtain⟨m,hn,_⟩:=I6.loc;have hn:s6.heap.Ns ce.locals m:=hn;rw[cL]at hn;exact hRR D d.heap.objs.size s6 m H5 I7 qq hn (I3.QJ (bW _) nC)
  .have ti:=T.item (X.blk d H3 a ce f) rfl rfl rfl hc i [] s5 _ H5 (λ_ _=>False) I5 (G I5 n5) st5 go;refine yN ti λr s6 F=> ?_;obtain⟨u,hr,h6⟩:=F;subst hr;refine yN h6 λ_ s7 F=> ?_;obtain⟨x,H7,I7,r7,y7,st7,n7⟩:=F;have I7':=I7.pinned (G I7 n7) (T.obj _ _ st7);refine yN (pg _ s7 _ H7 x u _ I7' r7 (step x H7 y7)) λ_ s8 F=> ?_;obtain⟨σ8,H8,I8,hw8,q8⟩:=F;refine yN (pt _ s8 σ8 H8 _ I8 q8) λb s9 F=> ?_;obtain⟨H9,I9,q9⟩:=F;have fin:∀{B:Shared} {t:Hp},Inv (X.blk d H3 a ce f) ([]++Cj f s7.heap) σ8 t B->Nx t->∃m,m < n/\∃i t,Inv (X.blk d H3 a ce f) [] (wipe σ (own.map (·.2))) t B/\tn i B.heap/\(∀b∈f,t b=none)/\W i m t:=λ{B t} I' nx=>by
    obtain⟨m',hm,w'⟩:=hNx t nx;have acQ:∀b∈f,∀o,s7.heap.get? b=some o->B.heap.get? b=some o/\t b=none:=λb l o e=>
     let z:=I'.pin (b,o) (pF _ (pF _ (QK l e)))
     ⟨z.1,z.2.1⟩
    have hl:(wipe σ (own.map (·.2))).length=σ8.length:=by rw[<-hw8,Rf]
    refine⟨m',hm,i+1,t,(I'.Ht (pins:=[])).weak hl (λj v e=> ?_),T.keep _ _ _ st7 λb l o e=>(acQ b l o e).1,λb l=> ?_,w'⟩;.rw[<-hw8]at e;exact(Rg e).1
    .obtain⟨o,e,_⟩:=T.obj _ _ st7 b l;exact(acQ b l o e).2
   cases b with
   | false=>simp only[Bp,if_false]at q9 ⊢;exact fin I9 q9
   | true=>simp only[if_true]at q9 ⊢;refine yN (pe _ s9 σ8 H9 _ I9 q9) λz s10 F=> ?_;obtain⟨yv,H10,I10,r10,acc,aji,ajj,nx⟩:=F;exact ajg (X:=X.blk d H3 a ce f) I10 aji ajj r10 λs11 I11=>fin I11 nx
 exact codeAny_compStart_list S (T.self X.A 0 _ _ _ st4 S)
theorem lE (y:X.calm=true) (v:X.N.Nodup) (B:PI X tg iter wi) (ok:HN X.N X.env.scope scope own)
  (A:∀s H C cl a,PG (X.blk s H scope (compEnvC scope cl C X.env) a) tg g) (G:∀s H C cl a,PTs (X.blk s H scope (compEnvC scope cl C X.env) a) ifs tt)
  (z:∀s H C cl a,PE (X.blk s H scope (compEnvC scope cl C X.env) a) elt te) (F:∀x,foldedSetIterable iter X.env x=pure x:=by intro _;rfl):
  PE X (.ListComp elt [⟨tg,iter,ifs,0⟩] scope pos) (tLc wi g tt te (own.map (·.2))):=by
 intro c s σ H Q I h;rw[eval_ListComp];refine oM y v I B ok A G z F h λD C O m d i q E f=>⟨m,E,λu J=> ?_⟩;obtain⟨j,l,L,n,p,t⟩:=f;exact⟨.ref D,d,i.turned (λb o w e=>(J.2 b w).trans e) j l n p t,rfl,q⟩
end
def acR (N:List Str) (b a:Scope) (own:List (Str×Nat)):Bool:=
 (match a.kind with | .function=>true | _=>false)&&(a.names.all λy=>decide (a.names.lookup y.1=some y.2))&&(own.all λp=>decide (N[p.2]? =some p.1))&&
  (a.names.all λy=>match y.2 with
   | .free=>(match b.names.lookup y.1 with | some .cell=>true | some .free=>true | _=>false)
   | .local=>decide (y.1∈own.map (·.1))||decide (y.1∉N)
   | .cell=>decide (y.1∈own.map (·.1))||decide (y.1∉N)
   | _=>true)
theorem lF (h:acR N sc scope own=true):HN N sc scope own:=by
 unfold acR at h;simp only[dY,m5,decide_eq_true_eq]at h;obtain⟨⟨⟨b,d⟩,f⟩,c⟩:=h;refine⟨?_,d,f,λy a e=> ?_,λy a e=> ?_⟩
 .split at b;.assumption
  .cases b
 .have q:=c y a;simp only[e]at q;split at q <;> first | exact .inl (by assumption) | exact .inr (by assumption) | cases q
 .have q:=c y a;rcases e with e | e <;> (simp only[e,m6,decide_eq_true_eq]at q;exact q)
section
variable {κ:Type} [DecidableEq κ]
def eG (kvs:List (κ×V)) (k:κ):Option V:=(kvs.find? λa=>decide (a.1=k)).map (·.2)
def putK (kvs:List (κ×V)) (k:κ) (v:V):List (κ×V):=
 if(kvs.any λa=>decide (a.1=k))=true then kvs.map (λa=>if a.1=k then(a.1,v)else a)else kvs++[(k,v)]
def uo (kvs:List (κ×V)) (k:κ):List (κ×V):=kvs.filter λa=>decide (a.1≠k)
theorem lH {p:κ×V} {r:List (κ×V)} {k:κ} (e:p.1=k):eG (p::r) k=some p.2:=by simp[eG,kZ,e]
theorem j8 {p:κ×V} {r:List (κ×V)} {k:κ} (e:¬p.1=k):eG (p::r) k=eG r k:=by simp[eG,kZ,e]
theorem vQ (k:κ):∀kvs:List (κ×V),(kvs.any λa=>decide (a.1=k))=(eG kvs k).isSome
 | []=>rfl
 | p::r=>by
  rw[u5];by_cases e:p.1=k;.simp only[lH e,cF e,Bool.true_or,aa9]
  .rw[j8 e,cY e,Bq];exact vQ k r
theorem acS (k j:κ) (y:V):∀kvs:List (κ×V),eG (kvs.map λa=>if a.1=k then(a.1,y)else a) j=(eG kvs j).map λx=>if j=k then y else x
 | []=>rfl
 | p::r=>by
  have b:=acS k j y r;rw[bT];by_cases h:p.1=k
  .rw[aB h];by_cases e:p.1=j;.rw[lH (p:=(p.1,y)) e,lH e,tR,aB (e.symm.trans h)]
   .rw[j8 (p:=(p.1,y)) e,j8 e,b]
  .rw[au h];by_cases e:p.1=j;.rw[lH e,lH e,tR,au (λz=>h (e.trans z))]
   .rw[j8 e,j8 e,b]
theorem acT (k j:κ) (y:V):∀kvs:List (κ×V),eG kvs k=none->eG (kvs++[(k,y)]) j=if j=k then some y else eG kvs j
 | [],_=>by
  by_cases e:k=j;.rw[aB e.symm];exact lH e
  .rw[au (λz=>e z.symm)];exact j8 e
 | p::r,a=>by
  rw[O2];have b:¬p.1=k:=λz=>by rw[lH z]at a;cases a
  rw[j8 b]at a;have c:=acT k j y r a;by_cases e:p.1=j;.rw[lH e,lH e,au (λz=>b (e.trans z))]
  .rw[j8 e,j8 e,c]
theorem ajk (kvs:List (κ×V)) (k j:κ) (y:V):eG (putK kvs k y) j=if j=k then some y else eG kvs j:=by
 unfold putK;by_cases a:(kvs.any λc=>decide (c.1=k))=true
 .rw[aB a,acS];rw[vQ]at a;by_cases e:j=k;.obtain⟨x,b⟩:=gj.mp a;rw[aB e,e,b,tR,aB rfl]
  .rw[au e];cases eG kvs j with
   | none=>rfl
   | some x=>rw[tR,au e]
 .rw[au a];refine acT k j y kvs ?_;rw[vQ]at a;cases q:eG kvs k with
  | none=>rfl
  | some x=>rw[q]at a;exact(a rfl).elim
theorem HS (kvs:List (κ×V)) (k:κ) (v:V):(putK kvs k v).length<=kvs.length+1:=by
 unfold putK;split;.rw[aJ];omega
 .rw[cV,bR,jY];omega
theorem HW {kvs:List (κ×V)} {k:κ} (v:V) (h:eG kvs k=none):putK kvs k v=kvs++[(k,v)]:=by unfold putK;rw[vQ,h];exact au (by decide)
theorem iH.Cv (r:iH o u):o.isSome=u.isSome:=by
 cases o with
 | none=>cases u with
  | none=>rfl
  | some _=>exact(r).elim
 | some _=>cases u with
  | none=>exact(r).elim
  | some _=>rfl
theorem iH.getD (r:iH o u) (rd:RelV d d'):RelV (o.getD d) (u.getD d'):=by
 cases o with
 | none=>cases u with
  | none=>exact rd
  | some _=>exact(r).elim
 | some _=>cases u with
  | none=>exact(r).elim
  | some _=>exact r
theorem KV.val {kvs:List (κ×V)} {vs:List (κ×Value)} (r:KV kvs vs) (k:κ):iH (eG kvs k) (valueAt vs k):=by
 induction r with
 | nil=>exact gK
 | @cons p q i c h t g=>
  obtain⟨d,f⟩:=h;by_cases e:p.1=k
  .have a:=d.symm.trans e;have b:valueAt (q::c) k=some q.2:=by simp[valueAt,kZ,a]
   rw[lH e,b];exact f
  .have a:¬q.1=k:=λz=>e (d.trans z);have b:valueAt (q::c) k=valueAt c k:=by simp[valueAt,kZ,a]
   rw[j8 e,b];exact g
theorem KV.any (r:KV kvs vs) (k:κ):(kvs.any λa=>decide (a.1=k))=vs.any λa=>decide (a.1=k):=by
 induction r with
 | nil=>rfl
 | cons h t b=>rw[u5,u5,b,h.1]
theorem KV.repl (r:KV kvs vs) (k:κ) (f:RelV y u):
  KV (kvs.map λa=>if a.1=k then(a.1,y)else a) (vs.map λa=>if a.1=k then(a.1,u)else a):=by
 induction r with
 | nil=>exact .nil
 | @cons p q g i h t d=>
  rw[bT,bT];refine .cons ?_ d;obtain⟨b,c⟩:=h;by_cases e:p.1=k;.rw[aB e,aB (b.symm.trans e)];exact⟨b,f⟩
  .rw[au e,au (λz=>e (b.trans z))];exact⟨b,c⟩
theorem KV.put (r:KV kvs vs) (k:κ) (a:RelV y u):KV (putK kvs k y) (stored vs k u):=by
 unfold putK stored;rw[r.any k];by_cases e:(vs.any λb=>decide (b.1=k))=true;.rw[aB e,aB e];exact r.repl k a
 .rw[au e,au e];exact ZS r ⟨rfl,a⟩
theorem KV.drop (r:KV kvs vs) (k:κ):KV (uo kvs k) (without vs k):=by
 unfold uo without
 induction r with
 | nil=>exact .nil
 | @cons p q i j h t d=>
  obtain⟨c,g⟩:=h;rw[pG,pG];by_cases e:p.1=k
  .have a:¬decide (p.1≠k)=true:=by simp[e]
   have b:¬decide (q.1≠k)=true:=by simp[c.symm.trans e]
   rw[au a,au b];exact d
  .have f:¬q.1=k:=λz=>e (c.trans z);have a:decide (p.1≠k)=true:=by simp[e]
   have b:decide (q.1≠k)=true:=by simp[f]
   rw[aB a,aB b];exact .cons ⟨c,g⟩ d
theorem KV.keys {kvs:List (κ×V)} {vs:List (κ×Value)} (r:KV kvs vs):kvs.map (·.1)=vs.map (·.1):=by
 induction r with
 | nil=>rfl
 | cons h t a=>rw[bT,bT,a,h.1]
theorem KV.length (r:KV kvs vs):kvs.length=vs.length:=uW r
theorem ajl (kvs:List (κ×V)) (k:κ):(uo kvs k).length<=kvs.length:=fG _ _
end
theorem uq {P:Program} {w:World} {k:Key} {u:Value} (r:RelV (kV k) u):(iV P w).is k u=true:=by
 cases k with
 | inl i=>obtain⟨t,e⟩:=(show ∃t,u=xT i t from r);subst e;exact aii P w i t
 | inr x=>obtain⟨t,e⟩:=(show ∃t,u=N5 x t from r);subst e;exact aij P w x t
theorem acU {P:Program} {w:World}:∀{ks:List Key} {a:List Value},Vals (ks.map kV) a->ItemsAre (iV P w) ks a
 | [],_,r=>by rw[xW]at r;cases r;exact .nil
 | k::ks,_,r=>by
  rw[bT]at r;cases r with
  | cons h t=>exact .cons (uq h) (acU t)
abbrev KT (H:Hp):List (List Key×V)->List (List Key×Addr×Value)->Prop:=Paired λp q=>p.1=q.1/\H q.2.1=some (.tup (p.1.map kV))/\RelV p.2 q.2.2
theorem KT.val (r:KT H kvs xs) (k:List Key):iH (eG kvs k) ((atKey xs k).map (·.2)):=by
 induction r with
 | nil=>exact gK
 | @cons p q i c h t g=>
  obtain⟨d,_,f⟩:=h;by_cases e:p.1=k
  .have a:=d.symm.trans e;have b:atKey (q::c) k=some q.2:=by simp[atKey,kZ,a]
   rw[lH e,b];exact f
  .have a:¬q.1=k:=λz=>e (d.trans z);have b:atKey (q::c) k=atKey c k:=by simp[atKey,kZ,a]
   rw[j8 e,b];exact g
theorem KT.repl (r:KT H kvs xs) (k:List Key) (g:RelV y u):
  KT H (kvs.map λb=>if b.1=k then(b.1,y)else b) (xs.map (putAt k u)):=by
 induction r with
 | nil=>exact .nil
 | @cons p q i j h t f=>
  rw[bT,bT];refine .cons ?_ f;obtain⟨a,c,d⟩:=h;unfold putAt;by_cases e:p.1=k;.rw[aB e,aB (a.symm.trans e)];exact⟨a,c,g⟩
  .rw[au e,au (λz=>e (a.trans z))];exact⟨a,c,d⟩
theorem KT.put (r:KT H kvs xs) (k:List Key) (c:H b=some (.tup (k.map kV))) (a:RelV y u):
  KT H (putK kvs k y) (storedH xs k b u):=by
 have e:(kvs.any λd=>decide (d.1=k))=(atKey xs k).isSome:=by rw[vQ,(r.val k).Cv,pJ]
 unfold putK storedH;rw[e];by_cases q:(atKey xs k).isSome=true;.rw[aB q,aB q];exact r.repl k a
 .rw[au q,au q];exact ZS r ⟨rfl,c,a⟩
theorem KT.keeps (r:KT H kvs xs) (a:∀b ys,H b=some (.tup ys)->H' b=some (.tup ys)):KT H' kvs xs:=
 Paired.Qy r λ_ _ z=>⟨z.1,a _ _ z.2.1,z.2.2⟩
section
variable {P:Program} {w:World} {H:Hp} {h:Heap} {a:Addr}
theorem acV (ok:HOk P w H h) (e:Rd H a u):iW P w H h a u:=e.ok ok
theorem oN (ok:HOk P w H h) (e:Rd H a (.dK kvs)):kvs.length<=sizeLine/\(a==sysModules)=false/\∃vs,KV kvs vs/\h.DictOf (iV P w) a vs:=
 show iW P w H h a (.dK kvs)from acV ok e
theorem Ri (ok:HOk P w H h) (e:H a=some (.dK kvs)):kvs.length<=sizeLine/\(a==sysModules)=false/\∃vs,KV kvs vs/\h.DictOf (iV P w) a vs:=oN ok (.inl e)
theorem yO (ok:HOk P w H h) (e:H a=some (.tup (ks.map kV))):(tupleKind (iV P w)).is h ks a:=by obtain⟨_,b,r,o,c,d,n,f⟩:=(ok a _ e);exact⟨o,b.toArray,n,c,d,f,by simpa using acU r⟩
theorem vR (ok:HOk P w H h) (e:Rd H a (.dT kvs)):kvs.length<=sizeLine/\(a==sysModules)=false/\
  ∃xs,KT H kvs xs/\h.DictOfH (tupleKind (iV P w)) a xs:=by
 obtain⟨z,y,xs,r,o,f,d,g,i,j,n,s⟩:=(acV ok e);refine⟨z,y,xs,r,o,f,d,g,i,j,n,λx b=> ?_,s⟩;have all:∀{l:List (List Key×V)} {m:List (List Key×Addr×Value)},KT H l m->∀x∈m,(tupleKind (iV P w)).is h x.1 x.2.1:=by
  intro l m q
  induction q with
  | nil=>intro x b;exact nomatch b
  | @cons p q v A c t u=>
   intro x b;rcases cD.mp b with e | b;.subst e;exact yO ok (by rw[<-c.1];exact c.2.1)
   .exact u x b
 exact all r x b
theorem acW (ok:HOk P w H h) (e:H a=some (.dT kvs)):kvs.length<=sizeLine/\(a==sysModules)=false/\
  ∃xs,KT H kvs xs/\h.DictOfH (tupleKind (iV P w)) a xs:=vR ok (.inl e)
end
def oO (H:Hp) (a:Addr) (y:V) (r:Option V):Prop:=
 (∃c k,Rd H a (.dK c)/\y=kV k/\r=eG c k)\/∃c k b,Rd H a (.dT c)/\y= .ref b/\H b=some (.tup (k.map kV))/\r=eG c k
def rP (H:Hp) (a:Addr) (y v:V) (d:Hp):Prop:=
 (∃c k,H a=some (.dK c)/\y=kV k/\c.length < sizeLine/\d=upd H a (.dK (putK c k v)))\/
 ∃c k b,H a=some (.dT c)/\y= .ref b/\H b=some (.tup (k.map kV))/\c.length < sizeLine/\d=upd H a (.dT (putK c k v))
theorem rP.k {H:Hp} {a:Addr} {kvs:List (Key×V)} {k:Key} {v:V} (e:H a=some (.dK kvs)) (b:kvs.length < sizeLine):rP H a (kV k) v (upd H a (.dK (putK kvs k v))):= .inl ⟨kvs,k,e,rfl,b,rfl⟩
section
variable {X:Cx} {pins:List (Addr×Obj)} {σ:St} {H:Hp} {s:Shared} {a:Addr} {y v:V} {u r:Value} {o:Option V} {A:Around} {E:Value->Shared->Prop}
theorem Inv.big (I:Inv X pins σ H s):sysModules < s.heap.objs.size:=by have h:=(I.mod.glob.keeps I.bk).lt;exact rA (by decide) h
theorem ajm (F:A.units+1 < cLine) (I:Inv X pins σ H s) (g:oO H a y (some v)) (q:RelV y u) (h:∀f t,Inv X pins σ H t->RelV v f->Q f t):
  wpAny (model X.prog X.w) A (getItem (.ref a) u) Q E s:=by
 rcases g with ⟨o,k,e,j,l⟩ | ⟨o,k,b,e,j,x,l⟩;.subst j;obtain⟨z,B,G,c,i⟩:=oN I.hok e;obtain⟨f,n,d⟩:=iH.some_of (by rw[l];exact c.val k);exact wpAny_getItem_of (uq q) i.mapOf n (h f _ (I.tok _) d)
 .subst j;cases(q);obtain⟨z,B,J,c,i⟩:=vR I.hok e;obtain⟨f,n,d⟩:=iH.some_of (by rw[l];exact c.val k);obtain⟨p,C,m⟩:=iT.mp n;refine wpAny_getItem_heap (A_ F) (yO I.hok x) i C ?_;rw[m];exact h f _ (I.tok _) d
theorem ajn (t:A.units+1 < cLine) (I:Inv X pins σ H s) (g:oO H a y o) (m:RelV y u) (h:∀n,Inv X pins σ H n->Q (.bool o.isSome) n):
  wpAny (model X.prog X.w) A (compareOp .In u (.ref a)) Q E s:=by
 rcases g with ⟨j,k,e,f,l⟩ | ⟨j,k,b,e,f,p,l⟩;.subst f;obtain⟨z,i,v,c,d⟩:=oN I.hok e;refine wpAny_in_of (uq m) i d.mapOf ?_;rw[<-(c.val k).Cv,<-l];exact h _ (I.tok _)
 .subst f;cases(m);obtain⟨z,i,x,c,d⟩:=vR I.hok e;refine wpAny_in_heap (A_ t) (yO I.hok p) i d ?_;have q:=(c.val k).Cv;rw[pJ]at q;rw[<-q,<-l];exact h _ (I.tok _)
theorem ajo (t:A.units+1 < cLine) (I:Inv X pins σ H s) (g:oO H a y o) (m:RelV y u) (h:∀n,Inv X pins σ H n->Q (.bool (!o.isSome)) n):
  wpAny (model X.prog X.w) A (compareOp .NotIn u (.ref a)) Q E s:=by
 rcases g with ⟨j,k,e,f,l⟩ | ⟨j,k,b,e,f,p,l⟩;.subst f;obtain⟨z,i,v,c,d⟩:=oN I.hok e;refine wpAny_notIn_of (uq m) i d.mapOf ?_;rw[<-(c.val k).Cv,<-l];exact h _ (I.tok _)
 .subst f;cases(m);obtain⟨z,i,x,c,d⟩:=vR I.hok e;refine wpAny_notIn_heap (A_ t) (yO I.hok p) i d ?_;have q:=(c.val k).Cv;rw[pJ]at q;rw[<-q,<-l];exact h _ (I.tok _)
theorem HX (I:Inv X pins σ H s) (h:Mut (H a)) (g:pD a s.heap c) (f:∃q,c.get? a=some q) (d:iW X.prog X.w (upd H a ob) c a ob):
  Inv X pins σ (upd H a ob) {s with heap:=c,toks:=t'}:=
 I.write h (.inl rfl) (λb q e z=>(g.2 b e).trans z) f d
theorem HY {P:Program} {w:World} {d:Hp} {c:Heap} {kvs:List (Key×V)} {vs:List (Key×Value)} (z:kvs.length<=sizeLine) (f:(a==sysModules)=false) (b:KV kvs vs) (e:c.DictOf (iV P w) a vs):
  iW P w d c a (.dK kvs):=⟨z,f,vs,b,e⟩
theorem ajp (W:A.units+1 < cLine) (I:Inv X pins σ H s) (g:rP H a y v H') (J:RelV y u) (G:RelV v r) (h:∀L,Inv X pins σ H' L->Q () L):
  wpAny (model X.prog X.w) A (setItem (.ref a) u r) Q E s:=by
 rcases g with ⟨d,k,e,o,l,n⟩ | ⟨d,k,b,e,o,B,l,n⟩
 .subst o n;obtain⟨z,p,Z,f,m⟩:=Ri I.hok e;have Y:Z.length<=sizeLine:=by rw[<-f.length];exact z
  have t:(putK d k v).length<=sizeLine:=by have:=HS d k v;omega
  refine wpAny_setItem_pairs (uq J) m λF i x=>h _ ?_;have U:∃q,F.get? a=some q:=let ⟨q,_,_,j,_⟩:=i;⟨q,j⟩;exact HX I (by rw[e];exact gK) x U (HY t p (f.put k G) i)
 .subst o n;cases(J);obtain⟨z,p,xs,f,m⟩:=acW I.hok e;have Y:xs.length<=sizeLine:=by rw[<-uW f];exact z
  have t:(putK d k v).length<=sizeLine:=by have:=HS d k v;omega
  refine wpAny_setItem_heap (A_ W) (yO I.hok B) m λF i x=>h _ ?_;obtain⟨q,O,N,j,P,R,S,_,T⟩:=i;refine HX I (by rw[e];exact gK) x ⟨q,j⟩ ⟨t,p,_,(f.put k B G).keeps λc ys C=> ?_,q,O,N,j,P,R,S,T⟩;rw[aC (cJ C e (λz=>nomatch z))];exact C
end
section
variable {X:Cx} {pins:List (Addr×Obj)} {σ:St} {H:Hp} {s:Shared} {a:Addr} {kvs:List (Key×V)} {k:Key} {u:Value} {A:Around} {E:Value->Shared->Prop}
theorem ajq (I:Inv X pins σ H s) (e:H a=some (.dK kvs)) (g:RelV (kV k) u) (l:eG kvs k=some v) (m:more=[]\/∃x,more=[x])
  (h:∀d n,Inv X pins σ (upd H a (.dK (uo kvs k))) n->RelV v d->Q d n):wpAny (model X.prog X.w) A (call (.builtin "dict.pop") (.ref a::u::more)) Q E s:=by
 obtain⟨z,y,L,b,j⟩:=Ri I.hok e;obtain⟨d,J,f⟩:=iH.some_of (by rw[<-l];exact b.val k);have C:(keyPart u).isSome=true:=by
  cases k with
  | inl i=>obtain⟨t,q⟩:=(g);subst q;rfl
  | inr x=>obtain⟨t,q⟩:=(g);subst q;rfl
 have p:argsOk "dict.pop" ⟨.ref a::u::more,[]⟩:=by
  rcases m with q | ⟨x,q⟩;.subst q;exact PySem.F.args_dict_pop_2 _ _
  .subst q;exact PySem.F.args_dict_pop_3 _ _ _
 refine Ba abk j.typeIs PySem.F.entry_dict_pop p (meets_dict_pop_there (iV X.prog X.w) a (uq g) more m C)
  ⟨L,d,j,by rw[<-b.length];exact z,J,λo c G=>h d _ ?_ f⟩
 have B:∃q,o.get? a=some q:=let ⟨q,_,_,hq,_⟩:=c;⟨q,hq⟩;exact HX I (by rw[e];exact gK) G B (HY (cI (ajl kvs k) z) y (b.drop k) c)
theorem ajr (I:Inv X pins σ H s) (e:Rd H a (.dK kvs)) (h:∀t c,Inv X pins σ H c->Q (.int kvs.length t) c):wpAny (model X.prog X.w) A (call (.builtin "len") [.ref a]) Q E s:=by obtain⟨z,f,g,b,d⟩:=oN I.hok e;refine call_len_dict f d (by rw[<-b.length];rw[Ay]at z;omega) ?_;rw[<-b.length];exact h _ _ (I.tok _)
end
def Rj (i:Expr):Prop:=∀b a,subscripted i false b a=operate [b,a] (getItem b a)
theorem ajs {prog:Program} {w:World} {A:Around} {E:Value->Shared->Prop} {s:Shared} {env:Env} {b a:Expr} {e:Pos} {T id:String} {Q:Value->Shared->Prop}
  (l:typeLookup (.type T) "__getitem__" =pure (some (.builtin id))) (m:Rj a)
  (h:wpAny (model prog w) A (eval b env) (λo g=>wpAny (model prog w) A (eval a env) (λi c=>c.TypeIs o T/\wpAny (model prog w) A (getItem o i) Q E c) E g) E s):
  wpAny (model prog w) A (eval (.Subscript b a e) env) Q E s:=by
 refine PN (kW h (λo g n=>kW n (λi c d=> ?_) λ_ _ x=>x) λ_ _ x=>x);obtain⟨f,d⟩:=d;refine aP ?_;rw[getitemInPython_of_ne f.not_modules];refine aP (Og f l ?_);have fin:wpAny (model prog w) A (subscripted a false o i) (λr j=>wpAny (model prog w) A (letTemporaryGo b o r >>=λ_=>pure r) Q E j) E c:=by rw[m o i];exact wpAny_operating (kW d (λr j p=>aP (wpAny_letTemporaryGo (bJ p))) λ_ _ x=>x)
 first
  | exact bJ (aP fin)
  | exact aP (bJ (aP fin))
  | exact aP fin
theorem ajt (I:Inv X pins σ H s) (g:oO H a y o):s.TypeIs (.ref a) "dict" :=by
 rcases g with ⟨d,k,e,_,_⟩ | ⟨d,k,b,e,_,_,_⟩;.obtain⟨_,_,f,_,c⟩:=oN I.hok e;exact c.typeIs
 .obtain⟨_,_,h,_,c⟩:=vR I.hok e;exact c.typeIs
def gZ (d e:TE):TE:=λσ H Q=>d σ H λx c=>e σ c λy b=>∃a v,x= .ref a/\oO b a y (some v)/\Q v b
def H_ (e d:TE):TE:=λσ H Q=>e σ H λy c=>d σ c λx b=>∃a o,x= .ref a/\oO b a y o/\Q (.bl o.isSome) b
def vU (e d:TE):TE:=λσ H Q=>e σ H λy c=>d σ c λx b=>∃a o,x= .ref a/\oO b a y o/\Q (.bl (!o.isSome)) b
def Ia (f h g:TE):TS:=λD σ H=>g σ H λv c=>f σ c λx d=>h σ d λy e=>∃a b,x= .ref a/\rP e a y v b/\D.nx σ b
section
variable {X:Cx} {o i e value:Expr} {pos pos' tpos:Pos} {td ty tv:TE}
theorem aju (t:X.A.units+1 < cLine) (p:PE X o td) (n:PE X i ty) (q:Rj i):PE X (.Subscript o i pos) (gZ td ty):=by intro b s σ H Q I h;refine ajs PySem.F.slot_dict_getitem.lookup q (dN (p b s σ H _ I h) λu G x e j C z=>thn (n b G σ e _ j z) λJ L w=> ?_);obtain⟨y,f,d,E,a,v,m,g,B⟩:=w;subst m;obtain rfl:u=fQ a:=C;exact⟨ajt d g,ajm t d g E λO N l c=>⟨v,f,l,c,B⟩⟩
theorem Cw (p:X.A.units+1 < cLine) (m:PE X i ty) (n:PE X o td):PC X .In i o (H_ ty td):=by intro b s σ H Q I h;refine dN (m b s σ H _ I h) λE C y c e B v=>thn (n b C σ c _ e v) λu F q=> ?_;obtain⟨x,d,f,z,a,t,l,g,w⟩:=q;subst l;obtain rfl:u=fQ a:=z;exact ajn p f g B λG j=>⟨.bl t.isSome,d,j,rfl,w⟩
theorem g8 (p:X.A.units+1 < cLine) (m:PE X i ty) (n:PE X o td):PC X .NotIn i o (vU ty td):=by intro b s σ H Q I h;refine dN (m b s σ H _ I h) λE C y c e B v=>thn (n b C σ c _ e v) λu F q=> ?_;obtain⟨x,d,f,z,a,t,l,g,w⟩:=q;subst l;obtain rfl:u=fQ a:=z;exact ajo p f g B λG j=>⟨.bl (!t.isSome),d,j,rfl,w⟩
theorem jQ (w:X.A.units+1 < cLine) (q:PE X o td) (p:PE X i ty) (z:PE X value tv) (t:swapsWith value (some (.Subscript o i pos')) pos.line X.env=pure false):
  PS X (.Assign [.Subscript o i pos'] value pos) (Ia td ty tv):=by
 intro b s σ H D I h;refine wpAny_Assign_Subscript (dN (z b s σ H _ I h) λr N v c f G C=>dN (q b N σ c _ f C) λu O x d j J E=>thn (p b O σ d _ j E) λQ R B=> ?_) t;obtain⟨y,P,l,L,a,e,n,g,F⟩:=B;subst n;obtain rfl:u=fQ a:=J;exact ajp w l g L G λS m=>⟨σ,e,m,F⟩
end
theorem acX {P:Program} {w:World} {H:Hp} (h:Heap) (a:sysModules < h.objs.size):iW P w H (h.push {cls:= .type "dict",data:= .dict #[]}) h.objs.size (.dK []):=
 ⟨fU _,qz.mpr (lB (fZ a)),[],.nil,ahO h⟩
theorem ajv {P:Program} {w:World} {H:Hp} (h:Heap) (a:sysModules < h.objs.size):iW P w H (h.push {cls:= .type "dict",data:= .dict #[]}) h.objs.size (.dT []):=
 ⟨fU _,qz.mpr (lB (fZ a)),[],.nil,_,#[],0,iC _ rfl,⟨rfl,rfl,rfl⟩,rfl,rfl,k_⟩
def ajw:TE:=λ_ H Q=>∀p,H p=none->Q (.ref p) (upd H p (.dK []))
def ajx:TE:=λ_ H Q=>∀p,H p=none->Q (.ref p) (upd H p (.dT []))
section
variable {X:Cx} {pos:Pos}
theorem vV:PE X (.Dict [] [] pos) ajw:=λa s σ H Q I h=>
 aae ⟨.ref s.heap.objs.size,_,I.laid (λ_ _ q=>fJ _ q) (bW _) (acX s.heap I.big),rfl,h _ (I.hok.fresh (bW _))⟩
theorem ajy:PE X (.Dict [] [] pos) ajx:=λa s σ H Q I h=>
 aae ⟨.ref s.heap.objs.size,_,I.laid (λ_ _ q=>fJ _ q) (bW _) (ajv s.heap I.big),rfl,h _ (I.hok.fresh (bW _))⟩
end
def Rk:List (TE×TE)->St->Hp->(List (V×V)->Hp->Prop)->Prop
 | [],_,H,Q=>Q [] H
 | (e,f)::r,σ,H,Q=>e σ H λx a=>f σ a λy b=>Rk r σ b λd c=>Q ((x,y)::d) c
abbrev VV:List (V×V)->List (Value×Value)->Prop:=Paired λp q=>RelV p.1 q.1/\RelV p.2 q.2
def PPs (X:Cx) (c:Pos) (keys:List (Option Expr)) (a:List Expr) (d:List (TE×TE)):Prop:=
 ∀b s σ H Q,Inv X b σ H s->Rk d σ H Q->
  wpAny (model X.prog X.w) X.A (evalPairs (pairTrees keys a X.env c)) (λh g=>∃f e,Inv X b σ e g/\VV f h/\Q f e) X.xe s
theorem ajz:PPs X pos [] [] []:=λa s σ H Q I h=>pairTrees_nil_walk ⟨[],H,I,.nil,h⟩
theorem Rm (j:PE X k tk) (m:PE X v tv) (l:PPs X pos ks vs trs):
  PPs X pos (some k::ks) (v::vs) ((tk,tv)::trs):=λa s σ H Q I h=>
 pairTrees_cons_walk (dN (j a s σ H _ I h) λu z x c f t o=>dN (m a z σ c _ f o) λC A y d g w p=>
  dN (l a A σ d _ g p) λE B n e i b q=>⟨(x,y)::n,e,i,.cons ⟨t,w⟩ b,q⟩)
def yP (kvs more:List (Key×V)):List (Key×V):=more.foldl (λa b=>putK a b.1 b.2) kvs
theorem KV.merge:∀{more:List (Key×V)} {a:List (Key×Value)} {kvs:List (Key×V)} {vs:List (Key×Value)},KV more a->KV kvs vs->KV (yP kvs more) (merged vs a):=by
 intro more a kvs vs r
 induction r generalizing kvs vs with
 | nil=>intro q;exact q
 | @cons p q d f h t b=>
  intro c;have e:KV (putK kvs p.1 p.2) (stored vs q.1 q.2):=by have:=c.put p.1 h.2;rw[<-h.1];exact this
  exact b e
theorem acY:∀more kvs,(yP kvs more).length<=kvs.length+more.length
 | [],kvs=>by show kvs.length<=kvs.length+0;omega
 | p::r,kvs=>by have a:=acY r (putK kvs p.1 p.2);have b:=HS kvs p.1 p.2;show(yP (putK kvs p.1 p.2) r).length<=_;rw[bR];omega
theorem acZ {P:Program} {w:World}:∀{kvs:List (Key×V)} {f:List (Value×Value)},VV (kvs.map λe=>(kV e.1,e.2)) f->∃d,Carries (iV P w) f d/\KV kvs d
 | [],_,r=>by rw[xW]at r;cases r;exact⟨[],gK,.nil⟩
 | p::kvs,_,r=>by
  rw[bT]at r;cases r with
  | @cons a b i bs h t=>obtain⟨d,c,q⟩:=acZ (P:=P) (w:=w) t;obtain⟨j,g⟩:=b;exact⟨(p.1,g)::d,⟨uq h.1,rfl,c⟩,.cons ⟨rfl,h.2⟩ q⟩
def ajA (b:List (TE×TE)):TE:=λσ H Q=>∀p,H p=none->Rk b σ (upd H p (.dK [])) λe c=>c p=some (.dK [])/\∃a:List (Key×V),e=a.map (λd=>(kV d.1,d.2))/\a.length<=15/\Q (.ref p) (upd c p (.dK (yP [] a)))
theorem ajB (h:PPs X pos keys values trs) (b:keys.all (·.isSome)=true) (y:keys.length=values.length) (t:keys≠[])
  (g:keys.length<=15):PE X (.Dict keys values pos) (ajA trs):=by
 intro f s σ H Q I q;have A:=I.hok.fresh (bW s.heap.objs.size);have m:=I.laid (t':=s.toks) (λ_ _ q=>fJ _ q) (bW _) (acX s.heap I.big);refine wpAny_Dict_walk (knd:=iV X.prog X.w) b y t g (thn (h f _ σ _ _ m (q _ A)) λR P i=> ?_);obtain⟨O,L,l,j,e,d,o,N,C⟩:=i;subst o;obtain⟨G,c,F⟩:=acZ j;obtain⟨z,v,J,E,n⟩:=Ri l.hok e;cases E;refine⟨G,c,n,λp a B=>⟨.ref s.heap.objs.size,_,?_,rfl,C⟩⟩;have i:(yP [] d).length<=sizeLine:=by have u:=acY d [];rw[jY]at u;rw[Ay];omega
 have x:∃q,p.get? s.heap.objs.size=some q:=let ⟨q,_,_,hq,_⟩:=a;⟨q,hq⟩;exact HX l (by rw[e];exact gK) B x (HY i v (F.merge .nil) a)
structure M1 (X:Cx) (o:Expr) (m:Str) (apos:Pos) (e:Expr) (cpos:Pos):Prop where
 base:attributeBase o m X.env (eval o X.env)=eval o X.env
 few:((backTo cpos (starEach [e] X.env)).all (λx=> !x.1)&&(backToKw cpos (keywordEach [] X.env)).all (λx=>x.1.isSome)
  &&decide (([e]:List Expr).length+([]:List Keyword).length+(if([]:List Keyword).isEmpty then 0 else 1) < 30))=true
 line:(apos.endLine==cpos.line)=true
 trees:backTo cpos (starEach [e] X.env)=[(false,eval e X.env)]
structure M2 (X:Cx) (o:Expr) (m:Str) (apos:Pos) (e f:Expr) (cpos:Pos):Prop where
 base:attributeBase o m X.env (eval o X.env)=eval o X.env
 few:((backTo cpos (starEach [e,f] X.env)).all (λx=> !x.1)&&(backToKw cpos (keywordEach [] X.env)).all (λx=>x.1.isSome)
  &&decide (([e,f]:List Expr).length+([]:List Keyword).length+(if([]:List Keyword).isEmpty then 0 else 1) < 30))=true
 line:(apos.endLine==cpos.line)=true
 trees:backTo cpos (starEach [e,f] X.env)=[(false,eval e X.env),(false,eval f X.env)]
def IsD (H:Hp) (a:Addr):Prop:=(∃b,Rd H a (.dK b))\/∃b,Rd H a (.dT b)
theorem ac0 (I:Inv X pins σ H s) (d:IsD H a):
  s.TypeIs (.ref a) "dict" /\(∀b,fQ a= .ref b->∃c,s.heap.get? b=some c/\c.dict=none)/\(a==sysModules)=false:=by
 rcases d with ⟨j,e⟩ | ⟨j,e⟩;.obtain⟨_,i,l,_,f⟩:=oN I.hok e;refine⟨f.typeIs,λb q=> ?_,i⟩;cases q;obtain⟨c,_,_,g,h,_⟩:=f;exact⟨c,g,h.2.1⟩
 .obtain⟨_,i,m,_,f⟩:=vR I.hok e;refine⟨f.typeIs,λb q=> ?_,i⟩;cases q;obtain⟨c,_,_,g,h,_⟩:=f;exact⟨c,g,h.2.1⟩
section
variable {X:Cx} {pins:List (Addr×Obj)} {σ:St} {H:Hp} {s:Shared} {a:Addr} {y d:V} {u r:Value} {o:Option V} {A:Around} {E:Value->Shared->Prop}
theorem ajC (v:A.units+1 < cLine) (I:Inv X pins σ H s) (g:oO H a y o) (n:RelV y u) (rd:RelV d r) (h:∀q p,Inv X pins σ H p->RelV (o.getD d) q->Q q p):
  wpAny (model X.prog X.w) A (call (.builtin "dict.get") [.ref a,u,r]) Q E s:=by
 rcases g with ⟨m,k,e,i,l⟩ | ⟨m,k,b,e,i,t,l⟩;.subst i;obtain⟨z,j,B,c,f⟩:=oN I.hok e;refine Ba PX f.typeIs abl (abm _ _ _) (meets_dict_get_default (iV X.prog X.w) a (uq n) j r) ⟨_,f.mapOf,h _ _ (I.tok _) ?_⟩;rw[l];exact(c.val k).getD rd
 .subst i;cases(n);obtain⟨z,j,x,c,f⟩:=vR I.hok e;refine Ba PX f.typeIs abl (abm _ _ _) (meetsH_dict_get_default (tupleKind (iV X.prog X.w)) a b j r) ⟨A_ v,k,x,yO I.hok t,f,h _ _ (I.tok _) ?_⟩;rw[l];exact(c.val k).getD rd
end
def ac1 (e g f:TE):TE:=λσ H Q=>e σ H λx b=>∃a,x= .ref a/\IsD b a/\g σ b λy d=>f σ d λz c=>∃o,oO c a y o/\Q (o.getD z) c
def Ib (e f:TE):TE:=λσ H Q=>e σ H λx c=>∃a,x= .ref a/\IsD c a/\f σ c λy d=>∃b k v,d a=some (.dK b)/\y=kV k/\eG b k=some v/\Q v (upd d a (.dK (uo b k)))
section
variable {X:Cx} {o e f:Expr} {apos cpos:Pos} {td ty tx:TE}
theorem ajD (G:X.A.units+1 < cLine) (E:PE X o td) (B:PE X e ty) (C:PE X f tx) (m:M2 X o "get" apos e f cpos):PE X (.Call (.Attribute o "get" apos) [e,f] [] cpos) (ac1 td ty tx):=by
 intro b s σ H Q I h;refine aaf m.base m.few m.line abn PX PySem.F.type_dict_get (thn (E b s σ H _ I h) λu S c=> ?_);obtain⟨x,l,j,O,a,w,d,J⟩:=c;subst w;obtain rfl:u=fQ a:=O;obtain⟨U,W,_⟩:=ac0 j d;refine⟨U,W,?_⟩;rw[m.trees];refine Bl rfl (GP (tO (dN (B b S σ l _ j J) λZ T y n q P L=>
  tO (thn (C b T σ n _ q L) λY s3 c=>vh ?_))))
 obtain⟨z,p,t,R,ov,g,N⟩:=c;exact ajC G t g P R λw' s4 v i=>⟨_,p,v,i,N⟩
theorem Ie (z:PE X o td) (w:PE X e ty) (m:M1 X o "pop" apos e cpos):PE X (.Call (.Attribute o "pop" apos) [e] [] cpos) (Ib td ty):=by intro b s σ H Q I h;refine aaf m.base m.few m.line abn abk PySem.F.type_dict_pop (thn (z b s σ H _ I h) λu J c=> ?_);obtain⟨x,i,g,E,a,q,d,B⟩:=c;subst q;obtain rfl:u=fQ a:=E;obtain⟨L,N,_⟩:=ac0 g d;refine⟨L,N,?_⟩;rw[m.trees];refine Bl rfl (GP (tO (thn (w b J σ i _ g B) λP R c=>vh ?_)));obtain⟨y,O,j,G,A,k,v,p,t,l,C⟩:=c;subst t;exact ajq j p G l (.inl rfl) λT S n f=>⟨v,_,n,f,C⟩
end
section
variable {X:Cx} {pins:List (Addr×Obj)} {σ:St} {H:Hp} {s:Shared} {a:Addr} {kvs:List (Key×V)} {A:Around} {E:Value->Shared->Prop}
theorem ajE (I:Inv X pins σ H s) (e:Rd H a (.dK kvs)) (h:∀p g,H p=none->Inv X pins σ (upd H p (.dK kvs)) g->Q (.ref p) g):wpAny (model X.prog X.w) A (call (.type "dict") [.ref a]) Q E s:=by obtain⟨z,j,n,c,i⟩:=oN I.hok e;refine kt_call_dict j i (by rw[<-c.length];exact z) λm d l=> ?_;refine h _ _ (I.hok.fresh (bW _)) (I.laid (λb q f=> ?_) (bW _) (HY z (qz.mpr (lB (fZ I.big))) c d));exact(l.2 b (fZ (dR f))).trans (fJ _ f)
end
theorem ajF:bootBuiltins "reversed" =some (.type "reversed"):=by decide+kernel
section
variable {X:Cx} {pins:List (Addr×Obj)} {σ:St} {H:Hp} {s:Shared} {h':Heap}
theorem Inv.lock (I:Inv X pins σ H s) (h:H d=some u) (c:Mut (some u)):∃a,Inv X pins σ (upd H d (.frz a u)) s:=by
 have x:=I.hok d u h;have i:∃a,s.heap.get? d=some a:=by
  cases u with
  | lst j=>obtain⟨_,_,_,_,e⟩:=x;exact⟨_,e⟩
  | dK f=>obtain⟨_,_,_,_,o,_,_,e,_⟩:=x;exact⟨o,e⟩
  | dT f=>obtain⟨_,_,_,_,o,_,_,e,_⟩:=x;exact⟨o,e⟩
  | set S n=>obtain⟨o,_,_,_,e,_⟩:=x;exact⟨o,e⟩
  | ins C l fs=>obtain⟨_,_,_,e,_⟩:=x;exact⟨_,e⟩
  | ext φ=>obtain⟨_,⟨_,e⟩,_⟩:=x;exact⟨_,e⟩
  | _=>exact jP c
 obtain⟨a,e⟩:=i;have g:iW X.prog X.w (upd H d (.frz a u)) s.heap d (.frz a u):=by
  refine⟨e,x.stay (λb v _ q=>q) (λb q=> ?_) λb j q=> ?_⟩;.rw[aC (λz=>by rw[z,h]at q;cases q;exact c)];exact q
  .rw[aC (λz=>by rw[z,h]at q;cases q;exact c)];exact q
 exact⟨a,I.write (by rw[h];exact c) (.inl rfl) (λb v _ q=>q) ⟨a,e⟩ g⟩
theorem Inv.Cy (I:Inv X pins σ H s) (h:H d=some u) (c:Mut (some u)):∀a b,X.H_0 d≠some (.frz a b):=λa b e=>by have q:=I.base.pL d a b e;rw[h]at q;cases q;exact c
theorem Inv.unlock (I:Inv X pins σ H s) (h:H d=some (.frz od u)) (w:∀i j,X.H_0 d≠some (.frz i j)):Inv X pins σ (upd H d u) s:=by
 have a:∀b o,H b=some o->(∀i j,o≠ .frz i j)->b≠d:=λb o e g z=>by rw[z,h]at e;cases e;exact g _ _ rfl
 have neN:∀b,H b=none->b≠d:=λb e z=>by rw[z,h]at e;cases e
 refine⟨I.ok,I.os,I.bare,⟨I.base.keep,I.base.slot,λb o e n t=> ?_,I.base.there,λb l e=> ?_,λb o x e=> ?_,λb A e=> ?_⟩,I.loc,I.cell,?_,λx c e=> ?_,λp y=> ?_,λb o e=> ?_,I.len⟩;.rw[aC (neN b (I.base.free b o e n t))];exact I.base.free b o e n t
 .have q:=I.base.tups b l e;rw[aC (a b _ q (λ_ _ z=>nomatch z))];exact q
 .have q:=I.base.pL b o x e;rw[aC (λz=>by rw[z]at e;exact w _ _ e)];exact q
 .obtain⟨m,q⟩:=I.base.rJ b A e;exact⟨m,by rw[aC (a b _ q (λ_ _ z=>nomatch z))];exact q⟩
 .rw[aC (neN _ I.free)];exact I.free
 .rw[aC (neN c (I.nj x c e))];exact I.nj x c e
 .obtain⟨e,n,r⟩:=I.pin p y;exact⟨e,by rw[aC (neN _ n)];exact n,r⟩
 .by_cases f:b=d;.rw[f,aH]at e;cases e;rw[f];obtain⟨_,x⟩:=I.hok d _ h;exact x.stay (λc v _ q=>q) (λc q=>by rw[aC (a c _ q (λ_ _ z=>nomatch z))];exact q) λc l q=>by rw[aC (a c _ q (λ_ _ z=>nomatch z))];exact q
  .rw[aC f]at e;exact(I.hok b o e).stay (λc v _ q=>q) (λc q=>by rw[aC (a c _ q (λ_ _ z=>nomatch z))];exact q) λc l q=>by rw[aC (a c _ q (λ_ _ z=>nomatch z))];exact q
end
def Cz (t:TS):TS:=λD σ H=>∃d u,H d=some u/\Mut (some u)/\∀b,t ⟨λc a=>a d=some (.frz b u)/\D.nx c (upd a d u),λv a=>a d=some (.frz b u)/\D.rt v (upd a d u),λc a=>a d=some (.frz b u)/\D.bk c (upd a d u),λc a=>a d=some (.frz b u)/\D.ct c (upd a d u)⟩ σ (upd H d (.frz b u))
def ac2 (t:TE):TE:=λσ H Q=>∃d u,H d=some u/\Mut (some u)/\∀b,t σ (upd H d (.frz b u)) λv a=>a d=some (.frz b u)/\Q v (upd a d u)
section
variable {X:Cx}
theorem vW {st:Stmt} {t:TS} (h:PS X st t):PS X st (Cz t):=by
 intro i s σ H D I l;obtain⟨d,u,c,g,l⟩:=l;obtain⟨n,m⟩:=I.lock c g;refine thn (h i s σ _ _ m (l n)) λf o q=> ?_;cases f with
 | next=>obtain⟨b,j,a,e,q⟩:=q;exact⟨b,_,a.unlock e (I.Cy c g),q⟩
 | brk=>obtain⟨b,j,a,e,q⟩:=q;exact⟨b,_,a.unlock e (I.Cy c g),q⟩
 | cont=>obtain⟨b,j,a,e,q⟩:=q;exact⟨b,_,a.unlock e (I.Cy c g),q⟩
 | ret v=>obtain⟨x,b,j,a,r,e,q⟩:=q;exact⟨x,b,_,a.unlock e (I.Cy c g),r,q⟩
theorem vX (h:PE X e t):PE X e (ac2 t):=by intro a s σ H Q I b;obtain⟨d,u,c,f,b⟩:=b;obtain⟨m,g⟩:=I.lock c f;refine thn (h a s σ _ _ g (b m)) λv o l=> ?_;obtain⟨x,n,i,r,j,q⟩:=l;exact⟨x,_,i.unlock j (I.Cy c f),r,q⟩
theorem CG (I:Inv X pins σ H s) (o:Obj)
  (T:Turn X.prog X.w X.K tg J [s.heap.objs.size] s.heap.objs.size tn) (st:tn 0 (s.heap.push o)) (q:R J H):PIE X pins σ tg R (.ref s.heap.objs.size) {s with heap:=s.heap.push o,toks:=d}:=by
 refine⟨s.heap.objs.size,[s.heap.objs.size],tn,J,H,rfl,I.kept λb c e=>fJ _ e,T,st,λb a=> ?_,q⟩;have e:b=s.heap.objs.size:=by simpa using a
 subst e;exact I.QJ (bW _) (I.hok.fresh (bW _))
end
def Itc (lo c:Int) (n:Nat):It:=⟨λi _=>i < n,λi H x a=>a=H/\x= .int (lo+(i:Nat) * c),λi _=>n<=i⟩
theorem ajG {P:Program} {w:World} {K:aW} {U:Expr} (a:Addr) (lo c:Int) (n:Nat):Turn P w K U (Itc lo c n) [a] a (λi h=>IsRangeIter h a (lo+(i:Nat) * c) ((n:Int)- (i:Nat)) c) where
 mem:=by simp
 obj:=λi h st b f=>by
  have e:b=a:=by simpa using f
  subst e;exact⟨_,st,λv z=>nomatch z⟩
 keep:=λi h x st k=>k a (by simp) _ st
 item:=by intro X B G y C i d s σ H E I j st F;subst B G y;obtain⟨l,m,R,p,q,u⟩:=j a (by simp);have W:=Walks.range (prog:=X.prog) (w:=X.w) (I.ok.hd C) a lo c n;refine W.item i s _ _ F st λv x Y S g T=> ?_;obtain⟨t,rfl⟩:=S;have N:Inv X d σ H {s with heap:=x,toks:=Y}:=I.turned (λb o f e=>T b o (by simpa using f) e) l m p q u;exact⟨_,rfl,Ci g rfl rfl (by decide) ⟨.int (lo+(i:Nat) * c),H,N,⟨t,rfl⟩,⟨rfl,rfl⟩,g,λb f=>(j b f).1⟩⟩
 done:=by intro X B G y C i d s σ H E I j st F;subst B G y;obtain⟨l,m,R,p,q,u⟩:=j a (by simp);exact wpAny_pyNext_range_end (I.ok.hd C) st (by have:n<=i:=F;omega) λx O=>⟨rfl,I.turned (λb o f e=>O b o f e) l m p q u⟩
 self:=λA i s Q E st h=>wpAny_pyIter_rangeiter st h
def RgC (i j c:Int) (n:Nat):Prop:=c≠0/\c.natAbs < 1073741824/\abv i j c=true/\G5 i j c=n
theorem RgC.neg (c: -(2 ^ 62)<=i) (a:i < 2 ^ 62) (d: -(2 ^ 62)<=j) (b:j < 2 ^ 62):RgC i j (-1) (i-j).toNat:=
 ⟨by decide,by decide,PySem.W.small_down c a d b,PySem.W.rangeSize_downNat i j⟩
def ajH (b:TA):TI:=λσ H R=>b σ H λd a=>∃i j c n,d=[.int i,.int j,.int c]/\RgC i j c n/\R (Itc i c n) a
section
variable {X:Cx} {tg:Expr}
theorem ac3 (N:Gl X "range") (O:X.mg "range" =none) (L:PA X [a,b,c] ta)
  (P:starEach [a,b,c] X.env=(false,eval a X.env)::starEach [b,c] X.env:=by rfl) (g:(backTo pos (starEach [b,c] X.env)).any (·.1)=false:=by rfl):
  PI X tg (.Call (.Name "range" p) [a,b,c] [] pos) (ajH ta):=by
 intro d s σ H R I h;refine Call_ (yD I N O boot_range (GZ (dN (L pos d s σ H _ I h) λW w Y x y T Q=> ?_) P g));obtain⟨i,j,k,n,e,⟨A,B,C,E⟩,q⟩:=Q;subst e;cases T with
 | cons r f=>
  cases f with
  | cons S f=>
   cases f with
   | cons l f=>
    cases f;obtain⟨t,rfl⟩:=r;obtain⟨U,rfl⟩:=S;obtain⟨m,rfl⟩:=l;refine call_range_3 A ?_ (.inl (PyProof.noPylong_small B));refine wpAny_pyIter_range (IsRange.new ..) C ?_;have z:Inv X d σ x {w with heap:=w.heap.push {cls:= .type "range",data:= .fields #[.int i t,.int j U,.int k m]}}:=y.kept λb o e=>fJ _ e;refine CG z _ (ajG _ i k n) ?_ q;have G:i+((0:Nat):Int) * k=i:=by simp
    have J:(n:Int)- ((0:Nat):Int)=G5 i j k:=by rw[E];simp
    rw[G,J];exact iC _ rfl
end
theorem ajI {lo c:Int} {n:Nat} {g:TG} {o:TS} {D:Ends} {σ:St} {H:Hp} (b:Nat->St->Hp->Prop) (q:b 0 σ H)
  (t:∀i σ H,i < n->b i σ H->g (.int (lo+(i:Nat) * c)) σ H λj f=>o {D with nx:=b (i+1),ct:=b (i+1),bk:=D.nx} j f) (s:∀σ H,b n σ H->D.nx σ H):
  ∃W:Nat->Nat->St->Hp->Prop,(∃m,W 0 m σ H)/\∀i m σ H,W i m σ H->
   ((Itc lo c n).stop i H/\D.nx σ H)\/((Itc lo c n).go i H/\∃N:St->Hp->Prop,(∀h a,N h a->∃l,l < m/\W (i+1) l h a)/\∀x a,(Itc lo c n).yld i H x a->g x σ a λj f=>o {D with nx:=N,ct:=N,bk:=D.nx} j f):=by
 refine⟨λi m σ H=>m=n-i/\i<=n/\b i σ H,⟨n,by simp,fU _,q⟩,?_⟩;rintro i m σ H ⟨rfl,v,p⟩;by_cases d:i < n;.refine .inr ⟨d,b (i+1),λh a u=>⟨n- (i+1),by omega,rfl,d,u⟩,λx a y=> ?_⟩;obtain⟨e,y⟩:=y;subst e y;exact t i σ _ d p
 .have e:i=n:=by omega
  subst e;exact .inl ⟨bW _,s σ H p⟩
def Its (x:Str):It:=⟨λi _=>i < x.cps.size,λi H v a=>a=H/\∃c,x.cps[i]? =some c/\v= .str ⟨#[c]⟩,λi _=>x.cps.size<=i⟩
theorem ac4 {P:Program} {w:World} {K:aW} {tg:Expr} (a:Addr) (x:Str) (t:Tok) (n:String) (g:n="str_ascii_iterator" \/n="str_iterator"):
  Turn P w K tg (Its x) [a] a (λi h=>h.IsStrIter a n x t i) where
 mem:=by simp
 obj:=λi h st b f=>by
  have e:b=a:=by simpa using f
  subst e;obtain⟨o,e,c,d⟩:=st;exact⟨o,e,λv z=>by rw[d]at z;cases z⟩
 keep:=λi h F st k=>let ⟨o,ho,r⟩:=st;⟨o,k a (by simp) o ho,r⟩
 item:=by
  intro X N T L l i j s σ H E I G st R;subst N T L;obtain⟨p,q,f2,y,B,C⟩:=G a (by simp);have W:Walks X.prog X.w X.A a [a] [a] x.cps.size (SignAt x) (λi h=>h.IsStrIter a n x t i):=by
   rcases g with e | e;.rw[e];exact Walks.strAscii (I.ok.hd l) a x t
   .rw[e];exact Walks.strWide (I.ok.hd l) a x t
  have S:["enumerate","zip","dict_itemiterator","dict_reverseitemiterator","odict_iterator","itertools.zip_longest","itertools.pairwise"].contains n=false:=by
   rcases g with e | e;.rw[e];decide
   .rw[e];decide
  refine W.item i s _ _ R st λv F tk hv m kk=> ?_;obtain⟨c,u,O,rfl⟩:=hv;have I1:Inv X j σ H {s with heap:=F,toks:=tk}:=I.turned (λb o f e=>kk b o (by simpa using f) e) p q y B C;obtain⟨oi,e,cc,dd⟩:=id m;exact⟨_,rfl,Ci e cc dd S ⟨.str ⟨#[c]⟩,H,I1,⟨u,rfl⟩,⟨rfl,c,O,rfl⟩,m,λb f=>(G b f).1⟩⟩
 done:=by
  intro X N T L l i j s σ H E I G st R;subst N T L;obtain⟨p,q,f2,y,B,C⟩:=G a (by simp);have Y:=Px R;rcases g with e | e;.rw[e]at st;exact wpAny_pyNext_ascii_end (I.ok.hd l) st Y λF J=>⟨rfl,I.turned (λb o f e=>J b o f e) p q y B C⟩
  .rw[e]at st;exact wpAny_pyNext_wide_end (I.ok.hd l) st Y λF J=>⟨rfl,I.turned (λb o f e=>J b o f e) p q y B C⟩
 self:=λA i s Q E st h=>by
  rcases g with e | e;.rw[e]at st;exact wpAny_pyIter_striter_ascii st h
  .rw[e]at st;exact wpAny_pyIter_striter_wide st h
def ajJ (b:TE):TI:=λσ H R=>b σ H λv a=>∃x,v= .str x/\R (Its x) a
theorem ajK {X:Cx} {l e:Expr} {d:TE} (g:PE X e d):PI X l e (ajJ d):=by
 intro a s σ H R I h;refine thn (g a s σ H _ I h) λv n i=> ?_;obtain⟨y,m,b,j,x,f,q⟩:=i;subst f;obtain⟨t,rfl⟩:=j;cases c:x.cps.all (· < 128);.exact wpAny_pyIter_wide c (CG b _ (ac4 _ x t "str_iterator" (.inr rfl)) ⟨_,iC _ rfl,rfl,rfl⟩ q)
 .exact wpAny_pyIter_ascii c (CG b _ (ac4 _ x t "str_ascii_iterator" (.inl rfl)) ⟨_,iC _ rfl,rfl,rfl⟩ q)
section
variable {prog:Program} {w:World} {A:Around} {E:Value->Shared->Prop} {s:Shared}
theorem ac5 (i:(d==sysModules)=false) (c:s.heap.get? d=some o) (h:o.ExactDict) (a:o.data= .dict f e)
  (g:Q (.ref s.heap.objs.size) {s with heap:=s.heap.push {cls:= .type "dict_keyiterator",data:= .fields #[.ref d,.int 0 0,.int f.size 0,.int e 0]}}):
  wpAny (model prog w) A (pyIter (.ref d)) Q E s:=by
 have b:s.TypeIs (.ref d) "dict" :=⟨o,c,h.1⟩;refine aag b abo (Bb abo b F.entry_dict_iter ?_ (F.args_dict_iter_1 _));refine aP ?_;refine aP (wpAny_notOrdered_dict b ?_);refine bJ ?_;show wpAny _ _ (abx d >>=_) _ _ s;unfold abx;rw[au (by rw[i];exact gG)];refine aP (bJ ?_);refine aP (Gg c a ?_);refine aP (Oh c a ?_);refine aP (Az (bJ ⟨_,rfl,"dict_keyiterator",_,⟨_,iC _ rfl,rfl⟩,F.slot_dict_keyiterator_next.lookup,?_⟩));simpa [rawInt]using g
theorem ajL (a:s.heap.IsKeyIter it d i n ep) (f:s.heap.get? d=some od) (c:od.data= .dict es ep)
  (p:es.size=n) (u:es[i]? =some en) (q:∀j,j.IsKeyIter it d (i+1) n ep->pD it s.heap j->Q (some en.key) {s with heap:=j}):wpAny (model prog w) A (pyNext (.ref it)) Q E s:=by
 obtain⟨o,m,t,h⟩:=id a;refine aP (aah (aai a.typeIs G4
  (Bb G4 a.typeIs abp ?_ (abq _))))
 refine aP (bJ ?_);refine aP ?_;refine aP ?_
 first | refine aP (Gh a.typeIs (bJ ?_)) | refine aP (Gi a.typeIs (bJ ?_))
 refine aP (aaj m h ?_);have g:aby "dict_keyiterator" =false:=by decide
 simp only[g,Bp,if_false];show wpAny _ _ (if(fQ d==Ar)=true then _ else _) _ _ s;rw[au (show ¬((fQ d==Ar)=true)from gG)];refine aP (bJ ?_);refine aP (Gg f c ?_);rw[au (by rw[p];simp)];refine aP (bJ ?_);refine aP (Oh f c ?_);rw[au (by simp)];refine bJ ?_;obtain⟨e,l⟩:=Array.getElem?_eq_some_iff.mp u;simp only[show ¬((i:Int) < 0)from by omega,if_false,jg,aa2 e];refine aP ?_
 first | refine aP (Gh a.typeIs (bJ ?_)) | refine aP (Gi a.typeIs (bJ ?_))
 refine aP (aak a.typeIs ?_);show wpAny _ _ (setField (.ref it) 1 (rawInt ((i:Int)+1)) >>=_) _ _ s;refine aP (aal m h (by simp) ?_);have b:(s.heap.update it (abe (·.setIfInBounds 1 (rawInt ((i:Int)+1))))).IsKeyIter it d (i+1) n ep:=
  ⟨_,Gn _ m (Obj.isFreed_of_fields (abf h _)),(Obj.cls_mapFields ..).trans t,by rw[abf h];simp[rawInt]⟩
 refine aP (uZ ?_);refine aP (aak (s:={s with heap:=s.heap.update it (abe (·.setIfInBounds 1 (rawInt ((i:Int)+1))))}) b.typeIs ?_);rw[l];exact bJ (bJ ⟨_,rfl,bJ (q _ b (Qc ..))⟩)
theorem ac6 (q:A.handled=none) (a:s.heap.IsKeyIter it d i n ep) (e:s.heap.get? d=some od) (b:od.data= .dict es ep)
  (g:es.size=n) (h:n<=i) (p:∀j,Heap.ExtBut it s.heap j->Q none {s with heap:=j}):wpAny (model prog w) A (pyNext (.ref it)) Q E s:=by
 obtain⟨o,m,t,l⟩:=id a;refine aP (aah (aai a.typeIs G4
  (Bb G4 a.typeIs abp ?_ (abq _))))
 refine aP (bJ ?_);refine aP ?_;refine aP ?_
 first | refine aP (Gh a.typeIs (bJ ?_)) | refine aP (Gi a.typeIs (bJ ?_))
 refine aP (aaj m l ?_);have f:aby "dict_keyiterator" =false:=by decide
 simp only[f,Bp,if_false];show wpAny _ _ (if(fQ d==Ar)=true then _ else _) _ _ s;rw[au (show ¬((fQ d==Ar)=true)from gG)];refine aP (bJ ?_);refine aP (Gg e b ?_);rw[au (by rw[g];simp)];refine aP (bJ ?_);refine aP (Oh e b ?_);rw[au (by simp)];refine bJ ?_;have c:es.size<=i:=by rw[g];exact h
 simp only[show ¬((i:Int) < 0)from by omega,if_false,jg,Px c];refine aP ?_
 first | refine aP (Gh a.typeIs (bJ ?_)) | refine aP (Gi a.typeIs (bJ ?_))
 show wpAny _ _ (setField (.ref it) 0 .none >>=_) _ _ s;refine aP (aal m l (by simp) ?_);refine aP ?_;simp only[newExc,newTuple];refine aP (Az ?_ (by size_fits));refine aP (Oi (by first | rfl | (simp only[firstArgMember];rfl)) ?_);refine Az ?_ (by size_fits);simp only[raiseNew];refine aP (wpAny_handled ?_);rw[show A.in1.handled=none from q];refine aP (bJ (wpAny_throw ?_));refine aP (Gj ⟨_,iC _ rfl,rfl⟩ isSubtype_stop ?_);exact bJ (p _ (((Qc ..).extBut.push _).push _))
end
theorem ajM {κ:Type} {kvs:List (κ×V)} {vs:List (κ×Value)} (h:KV kvs vs):∀{i:Nat} {k:κ} {v:V},kvs[i]? =some (k,v)->∃u,vs[i]? =some (k,u)/\RelV v u:=by
 induction h with
 | nil=>intro i k v e;simp at e
 | @cons a b d f r t c=>
  intro i k v e;cases i with
  | zero=>simp only[O4,FP]at e;subst e;refine⟨b.2,?_,r.2⟩;simp only[O4];exact congrArg some (Prod.ext r.1.symm rfl)
  | succ j=>simp only[aaI]at e ⊢;exact c e
theorem ajN {α β:Type} {G:α->β->Prop} {c:List α} {d:List β} (h:Paired G c d):∀{i:Nat} {a:α},c[i]? =some a->∃b,d[i]? =some b/\G a b:=by
 induction h with
 | nil=>intro i a e;simp at e
 | @cons a b c d r t f=>
  intro i g e;cases i with
  | zero=>simp only[O4,FP]at e;subst e;exact⟨b,rfl,r⟩
  | succ j=>simp only[aaI]at e ⊢;exact f e
theorem ajO (h:vH k u=true):RelV (kV k) u:=by
 rcases oF h with ⟨i,t,rfl,rfl⟩ | ⟨x,t,rfl,rfl⟩;.exact⟨t,rfl⟩
 .exact⟨t,rfl⟩
section
variable {X:Cx} {pins:List (Addr×Obj)} {σ:St} {H:Hp} {s:Shared} {d:Addr} {o:Obj}
theorem Inv.Rn (I:Inv X pins σ H s) (h:H d=some (.frz o (.dK kvs))):
  (d==sysModules)=false/\s.heap.get? d=some o/\o.ExactDict/\∃a c vs,o.data= .dict a c/\a.size=kvs.length/\KV kvs vs/\s.heap.DictAt (iV X.prog X.w) d vs c:=by
 obtain⟨e,z,j,vs,i,n,a,c,f,g,b,r⟩:=I.hok d _ h;rw[e]at f;cases f;refine⟨j,e,g,a,c,vs,b,?_,i,o,a,e,g,b,r⟩;have l:=r.2.1.length;have m:=uW i;rw[pI]at l;omega
theorem Inv.Ro (I:Inv X pins σ H s) (h:H d=some (.frz o (.dT kvs))):
  (d==sysModules)=false/\s.heap.get? d=some o/\o.ExactDict/\∃(a:Array DictEntry) (c:Nat),o.data= .dict a c/\a.size=kvs.length/\
   ∀(i:Nat) (k:List Key) (v:V),kvs[i]? =some (k,v)->∃(g:DictEntry) (q:Addr),a[i]? =some g/\g.key= .ref q/\H q=some (.tup (k.map kV)):=by
 obtain⟨j,z,u,C,n,B,a,c,m,w,f,l,_⟩:=I.hok d _ h;rw[j]at m;cases m;refine⟨u,j,w,a,c,f,?_,λi k v e=> ?_⟩;.have y:=aam l;have A:=uW n;omega
 .obtain⟨b,t,x,p,_⟩:=ajN n e;have q:=entry_at l i;rw[t]at q;exact⟨_,b.2.1,q,rfl,p⟩
end
def Itk (d:Addr) (o:Obj) (kvs:List (Key×V)):It:=
 ⟨λi H=>H d=some (.frz o (.dK kvs))/\i < kvs.length,λi H x a=>a=H/\∃k v,kvs[i]? =some (k,v)/\x=kV k,λi H=>H d=some (.frz o (.dK kvs))/\kvs.length<=i⟩
def Rp (d:Addr) (o:Obj) (kvs:List (List Key×V)):It:=
 ⟨λi H=>H d=some (.frz o (.dT kvs))/\i < kvs.length,λi H x a=>a=H/\∃k v q,kvs[i]? =some (k,v)/\x= .ref q/\H q=some (.tup (k.map kV)),λi H=>H d=some (.frz o (.dT kvs))/\kvs.length<=i⟩
theorem Ig {o:Obj} {d b:Array DictEntry} {c a:Nat} (h:o.data= .dict d c) (e:o.data= .dict b a):b=d/\a=c:=by rw[h]at e;cases e;exact⟨rfl,rfl⟩
section
variable {P:Program} {w:World} {K:aW} {tg:Expr} {d:Addr} {o:Obj} {es:Array DictEntry} {ep:Nat}
theorem ajP {kvs:List (Key×V)} (g:Addr) (n:o.data= .dict es ep):Turn P w K tg (Itk d o kvs) [g] g (λi h=>h.IsKeyIter g d i kvs.length ep) where
 mem:=by simp
 obj:=λi h st b f=>by
  have e:b=g:=by simpa using f
  subst e;obtain⟨B,e,c,C⟩:=st;exact⟨B,e,λv z=>by rw[C]at z;cases z⟩
 keep:=λi h h' st k=>st.at λB e=>k g (by simp) B e
 item:=by intro X T Z S hc i t s σ H E I y st W;subst T Z S;obtain⟨U,Y⟩:=W;obtain⟨J,L,f2,N,O,R⟩:=y g (by simp);obtain⟨hs,j,hx,G,F,vs,a,q,kv,hm⟩:=I.Rn U;obtain⟨rfl,rfl⟩:=Ig n a;obtain⟨⟨k,v⟩,m⟩:∃p,kvs[i]? =some p:=⟨kvs[i],ql Y⟩;obtain⟨u,hu,ru⟩:=ajM kv m;have hl:=uW kv;rw[hl]at st;refine wpAny_pyNext_dict_item st hm hu λkey h' l x sb=> ?_;have I1:=I.turned (t':=s.toks) (λb ob f e=>(sb.2 b f).trans e) J L N O R;obtain⟨B,e,c,C⟩:=id x;refine⟨key,rfl,Ci e c C (by decide) ⟨kV k,H,I1,ajO (l),⟨rfl,k,v,m,rfl⟩,?_,λb f=>(y b f).1⟩⟩;rw[hl];exact x
 done:=by intro X T Z S hc i t s σ H E I y st W;subst T Z S;obtain⟨U,Y⟩:=W;obtain⟨J,L,f2,N,O,R⟩:=y g (by simp);obtain⟨hs,j,hx,G,F,vs,a,q,kv,hm⟩:=I.Rn U;obtain⟨rfl,rfl⟩:=Ig n a;exact ac6 (I.ok.hd hc) st j a q Y λh' eb=>⟨rfl,I.turned (λb ob f e=>eb b ob f e) J L N O R⟩
 self:=λA i s Q E st h=>wpAny_pyIter_keyiter st h
theorem ajQ {kvs:List (List Key×V)} (l:Addr) (u:o.data= .dict es ep):Turn P w K tg (Rp d o kvs) [l] l (λi h=>h.IsKeyIter l d i kvs.length ep) where
 mem:=by simp
 obj:=λi h st b f=>by
  have e:b=l:=by simpa using f
  subst e;obtain⟨C,e,c,G⟩:=st;exact⟨C,e,λv z=>by rw[G]at z;cases z⟩
 keep:=λi h h' st k=>st.at λC e=>k l (by simp) C e
 item:=by intro X W hw U hc i x s σ H E I B st hg;subst W hw U;obtain⟨Y,hi⟩:=hg;obtain⟨N,O,f2,R,S,T⟩:=B l (by simp);obtain⟨hs,g,hx,L,J,a,j,m⟩:=I.Ro Y;obtain⟨rfl,rfl⟩:=Ig u a;obtain⟨⟨k,v⟩,t⟩:∃p,kvs[i]? =some p:=⟨kvs[i],ql hi⟩;obtain⟨en,q,Z,n,hq⟩:=m i k v t;refine ajL st g a j Z λh' y sb=> ?_;have I1:=I.turned (t':=s.toks) (λb ob f e=>(sb.2 b f).trans e) N O R S T;obtain⟨C,e,c,G⟩:=id y;exact⟨en.key,rfl,Ci e c G (by decide) ⟨.ref q,H,I1,n,⟨rfl,k,v,q,t,rfl,hq⟩,y,λb f=>(B b f).1⟩⟩
 done:=by intro X W hw U hc i x s σ H E I B st hg;subst W hw U;obtain⟨Y,hi⟩:=hg;obtain⟨N,O,f2,R,S,T⟩:=B l (by simp);obtain⟨hs,g,hx,L,J,a,j,m⟩:=I.Ro Y;obtain⟨rfl,rfl⟩:=Ig u a;exact ac6 (I.ok.hd hc) st g a j hi λh' eb=>⟨rfl,I.turned (λb ob f e=>eb b ob f e) N O R S T⟩
 self:=λA i s Q E st h=>by refine aag st.typeIs abr (Bb abr st.typeIs F.entry_dict_keyiterator_iter ?_ (F.args_dict_keyiterator_iter_1 _));exact bJ ⟨_,rfl,"dict_keyiterator",_,st.typeIs,F.slot_dict_keyiterator_next.lookup,h⟩
end
def CJ (c:TE):TI:=λσ H R=>c σ H λx b=>∃d o,x= .ref d/\((∃a,b d=some (.frz o (.dK a))/\R (Itk d o a) b)\/∃a,b d=some (.frz o (.dT a))/\R (Rp d o a) b)
section
variable {X:Cx} {tg e:Expr} {td:TE} {apos cpos:Pos}
theorem mG (w:PE X e td):PI X tg e (CJ td):=by
 intro f s σ H R I h;refine thn (w f s σ H _ I h) λu E y=> ?_;obtain⟨x,A,g,z,d,o,v,q⟩:=y;subst v;obtain rfl:u=fQ d:=z;rcases q with ⟨m,i,q⟩ | ⟨m,i,q⟩;.obtain⟨j,b,l,t,p,F,a,c,C,B⟩:=g.Rn i;refine ac5 j b l a (CG g _ (ajP _ a) ⟨_,iC _ rfl,rfl,?_⟩ q);rw[c] <;> rfl
 .obtain⟨j,b,l,t,p,a,c,n⟩:=g.Ro i;refine ac5 j b l a (CG g _ (ajQ _ a) ⟨_,iC _ rfl,rfl,?_⟩ q);rw[c] <;> rfl
end
theorem Rq:∀{ys:List Str} {a:List Value},Vals (ys.map V.str) a->StrsAre a ys
 | [],_,.nil=> .nil
 | y::ys,_,.cons r t=>by obtain⟨k,rfl⟩:=r;exact .cons y k (Rq t)
section
variable {X:Cx}
theorem ajR:MtR X "str.join" (λx xs H Q=>∃a p,∃ys:List Str,x= .str a/\xs=[.ref p]/\(SqL X.K H p (ys.map V.str)\/SqT X.K H p (ys.map V.str))/\
  (ys.map (·.length)).sum+ys.length * a.length<=16777216/\Q (.str (Bu a ys)) H):=by
 intro g s σ H x xs v w Q I u d h;obtain⟨a,p,ys,rfl,rfl,b,f,h⟩:=h;obtain⟨t,rfl⟩:=u;cases d with
 | cons q d=>
  cases d;cases q;rcases b with b | b;.obtain⟨c,r,⟨o,n,l,i,_,j⟩,_⟩:=I.list b;exact ahy ⟨o,l,i,n,j⟩ (by rw[aaJ];exact Rq r) f λe k=>⟨.str _,H,I.tok k,⟨e,rfl⟩,h⟩
  .obtain⟨c,r,m,_⟩:=I.tuple b;exact ahz m (by rw[aaJ];exact Rq r) f λe k=>⟨.str _,H,I.tok k,⟨e,rfl⟩,h⟩
end
section
variable {X:Cx} {o e:Expr} {to te:TE}
def tM1 (r:V->List V->Hp->VK->Prop) (to te:TE):TE:=λσ H Q=>to σ H λx b=>(∃a,x= .str a)/\te σ b λy c=>r x [y] c Q
theorem ajS {id:String} {b:Str} {d i:Pos} {r:V->List V->Hp->VK->Prop} (slot:Slot "str" b id) (J:typeOf (.builtin id)=pure (.type "method_descriptor")) (rule:MtR X id r) (z:PE X o to) (w:PE X e te)
  (A:starEach [e] X.env=[(false,eval e X.env)]:=by rfl) (f:attributeBase o b X.env (eval o X.env)=eval o X.env:=by rfl) (g:(d.endLine==i.line)=true:=by rfl):
  PE X (.Call (.Attribute o b d) [e] [] i) (tM1 r to te):=by
 intro c s σ H Q I h;refine PySem.Call_method1 f A g (dN (z c s σ H _ I h) λv E x m p l j=> ?_);obtain⟨⟨a,rfl⟩,j⟩:=j;obtain⟨t,rfl⟩:=_root_.id l;refine⟨"str",_,F.plainAttrs_str,slot,J,typeIs_str _ _ _,(λ_ e=>nomatch e),Bl rfl (GP (tO ?_))⟩;exact dN (w c E σ m _ p j) λu G y n q C B=>vh (rule c G σ n _ [y] _ [u] Q q l (.cons C .nil) B)
theorem ac7 (f:PE X o to) (d:PE X e te) (g:starEach [e] X.env=[(false,eval e X.env)]:=by rfl) (b:attributeBase o "join" X.env (eval o X.env)=eval o X.env:=by rfl) (c:(apos.endLine==pos.line)=true:=by rfl):
  PE X (.Call (.Attribute o "join" apos) [e] [] pos) (tM1 (λx xs H Q=>∃a p,∃ys:List Str,x= .str a/\xs=[.ref p]/\(SqL X.K H p (ys.map V.str)\/SqT X.K H p (ys.map V.str))/\
   (ys.map (·.length)).sum+ys.length * a.length<=16777216/\Q (.str (Bu a ys)) H) to te):=
 ajS F.slot_str_join F.type_str_join ajR f d g b c
end
def inClass (s:Stmt) (j:Nat):Stmt:=match s with
 | .ClassDef _ _ _ a _ _ _ _ _ _ _=>a.getD j (.Pass ⟨0,0,0,0⟩)
 | _=> .Pass ⟨0,0,0,0⟩
def yQ (s:Stmt):Arguments:=match s with
 | .FunctionDef _ a _ _ _ _ _ _ _ _=>a
 | _=>{posonlyargs:=[],args:=[],vararg:=none,kwonlyargs:=[],kw_defaults:=[],kwarg:=none,defaults:=[]}
def vY (s:Stmt):List Stmt:=match s with
 | .FunctionDef _ _ b _ _ _ _ _ _ _=>b
 | _=>[]
def bf (s:Stmt):Scope:=match s with
 | .FunctionDef _ _ _ _ _ _ a _ _ _=>a
 | _=>{kind:= .function,names:=[],isGenerator:=false,isCoroutine:=false}
abbrev CX0:CXT:=λ_ _ _ _ _ _=>False
abbrev E0:XK:=λ_ _ _=>False
theorem vZ:Passes CX0 X E0:=λ_ _ _ _ _ _ _ h=>h.elim
structure Fun (K:aW) (x qual:Str) (st:Stmt) (f:Addr) (fd:FuncData):Prop where
 ex:∃oc od kV doc pm an cdv ct osl,
  fd=tE x qual (yQ st) (vY st) (bf st) .none kV doc pm an cdv ct/\K.lookup f=some ⟨oc,od,.func fd,osl⟩/\Av K cdv qual=true
 kp:qd K (.ref f)=true
section
variable {P:Program} {w:World} {K:aW} {mg:Str->Option Value} {base:Heap}
theorem Fun.ok {x a:Str} {st:Stmt} {f:Addr} {i:FuncData} {N ps:List Str} {k:Nat} {sp:Sp} (F:Fun K x a st f i) (S:bh N ps (bf st)) (g:∀vs H Q E,sp vs H Q E->vs.length=ps.length)
  (c:∀b A outer s H vs Q E,eF k (A.deeper (envOfC a (bf st) s.heap.objs.size f b))->sp vs H Q E->
   ∃t,PSs (yI CX0 P w K mg base N a (bf st) f b A outer s H E).nox (vY st) t/\t {nx:=λ_ j=>Q .non j,rt:=Q} (start N vs) H):aY P w K mg base CX0 (k+1) f i ps sp:=by
 obtain⟨v,y,kV,l,z,p,b,u,o,rfl,n,d⟩:=F.ex;refine aiT n d S g λA outer s H vs Q E m e=> ?_;obtain⟨t,h,q⟩:=c b A outer s H vs Q E m e;exact⟨t,h.nox,q⟩
theorem Fun.binds {x a:Str} {st:Stmt} {f:Addr} {i:FuncData} {ps:List Str} (F:Fun K x a st f i)
  (h:∀kV c e d b ct g,g.length=ps.length->bindArgs (tE x a (yQ st) (vY st) (bf st) .none kV c e d b ct) ⟨g,[]⟩=pure (ps.zip g)):Binds K i ps []:=by
 obtain⟨n,o,kV,c,e,d,b,ct,l,rfl,m,j⟩:=F.ex;exact .all (h kV c e d b ct)
theorem ajT {x a:Str} {st:Stmt} {f:Addr} {i:Value} {j g:Option Addr} {e:Array (Option Value)} {kV d h b ct:Value} (l:K.lookup f=some ⟨i,j,.func (tE x a (yQ st) (vY st) (bf st) .none kV d h g b ct),e⟩)
  (c:Av K b a=true) (k:qd K (.ref f)=true):Fun K x a st f (tE x a (yQ st) (vY st) (bf st) .none kV d h g b ct):=⟨⟨i,j,kV,d,h,g,b,ct,e,rfl,l,c⟩,k⟩
end
theorem bw (a:eF k A):A.units+1 < cLine:=gD (aar (by decide:1<=64) _) a.units
section
variable {X:Cx}
theorem pv (i:Nat) (b:X.N[i]? =some x:=by rfl) (d:Vis X.env.scope x:=by first | exact vm rfl | exact Or.inr (vm rfl) | exact Or.inr (Or.inr rfl)) (c:(x==("__debug__" :Str))=false:=by decide)
  (a:(x==("__classdict__" :Str))=false:=by decide):PE X (.Name x pos) (bA i):=ait b d c a
theorem qG:lC X (.builtin "len") (λxs H Q=>∃a kvs,xs=[V.ref a]/\H a=some (.dK kvs)/\Q (.int kvs.length) H):=by intro b s σ H xs g Q I r h;obtain⟨a,kvs,rfl,d,q⟩:=h;obtain⟨u,rfl,e⟩:=vals1 r;cases e;exact ajr I (.inl d) λt f c=>⟨.int kvs.length,H,c,⟨t,rfl⟩,q⟩
end
theorem Ih {A B:Prop} (h:B):if false=true then A else B:=by rw[au gG];exact h
theorem Ii {A B:Prop} (h:A):if true=true then A else B:=by rw[aB rfl];exact h
theorem Rr {c A B:Prop} [Decidable c] (a:c->A) (b:¬c->B):if c then A else B:=by
 by_cases h:c;.rw[aB h];exact a h
 .rw[au h];exact b h
def Same (H a:Hp):Prop:=∀b o,H b=some o->a b=some o
theorem Same.refl (H:Hp):Same H H:=λ_ _ h=>h
theorem Same.trans {H d e:Hp} (a:Same H d) (b:Same d e):Same H e:=λc o h=>b c o (a c o h)
theorem Same.free (e:Same H H') (h:H' l=GX):H l=GX:=by
 cases q:H l with
 | none=>rfl
 | some o=>rw[e l o q]at h;cases h
theorem Same.seq {K:aW} {H b:Hp} {a:Addr} {xs:List V} (e:Same H b) (h:SqL K H a xs):SqL K b a xs:=by
 rcases h with (h | ⟨o,h⟩) | h;.exact .inl (.inl (e _ _ h))
 .exact .inl (.inr ⟨o,e _ _ h⟩)
 .exact .inr h
theorem at_of {xs:List V} {z:Int} {j:Nat} {v:V} (e:z=(j:Int)) (h:xs[j]? =some v):atI xs z=some v:=by rw[e];exact aiX h
theorem ac8 {α:Type} {l:List α} (e:l.Nodup) {i j:Nat} {x:α} (a:l[i]? =some x) (b:l[j]? =some x):i=j:=by obtain⟨f,c⟩:=jX.mp a;obtain⟨g,d⟩:=jX.mp b;exact(Bg e).mp (c.trans d.symm)
theorem Same.made {H c:Hp} {x a C:Addr} (nx:H x=GX) (d:H a=GX) (k:∀b o,(upd (upd H a (.own x)) x (.ins C a [])) b=some o->b≠x->c b=some o):Same H c:=λb o e=>
 k b o (by rw[aC (aX e nx),aC (aX e d)];exact e) (aX e nx)
section
set_option maxHeartbeats 2000000
open PySem.W (WData Codec OpenSpec Well WellAll ReadsW ReadsAllW)
mutual
inductive Dw (K:aW) (H:Hp):V->WData->Prop
 | non:Dw K H .non .none
 | bl (b:Bool):Dw K H (.bl b) (.bool b)
 | int (i:Int):Dw K H (.int i) (.int i)
 | str (x:Str):Dw K H (.str x) (.str x)
 | byt (b:Array UInt8):Dw K H (.byt b) (.bytes b.toList)
 | lst {a:Addr} {xs:List V} {ds:List WData}:SqL K H a xs->oR K H xs ds->Dw K H (.ref a) (.list ds)
 | tup {a:Addr} {xs:List V} {ds:List WData}:SqT K H a xs->oR K H xs ds->Dw K H (.ref a) (.tuple ds)
inductive oR (K:aW) (H:Hp):List V->List WData->Prop
 | nil:oR K H [] []
 | cons {v:V} {vs:List V} {d:WData} {ds:List WData}:Dw K H v d->oR K H vs ds->oR K H (v::vs) (d::ds)
end
theorem ac9 {K:aW} {H:Hp}:∀ns:List Int,oR K H (ns.map V.int) (ns.map abz)
 | []=> .nil
 | n::r=> .cons (.int n) (ac9 r)
theorem ac_ {K:aW} {H:Hp}:∀(ns:List Int) (xs:List V),oR K H xs (ns.map abz)->xs=ns.map V.int
 | [],xs,h=>by cases h;rfl
 | n::r,xs,h=>by
  cases h with
  | cons a b=>cases a;rw[ac_ r _ b] <;> rfl
section
variable {P:Program} {w:World} {K:aW} {H:Hp} {h:Heap} {R:Z1} {cl:Str->Option Addr}
theorem ajU (c:HOk P w H h) (f:K.In h) (q:SqL K H a xs):∃b o n,Vals xs b/\h.get? a=some o/\o.cls= .type "list" /\o.data= .seq b.toArray n:=by
 rcases q with q | ⟨o,b,n,e,g,_,i,_,d⟩;.obtain⟨_,b,n,d,e⟩:=(q.ok c);exact⟨b,_,n,d,e,rfl,rfl⟩
 .exact⟨b.toList,o,n,d,f _ _ e,g,by simp[i]⟩
theorem ajV (f:HOk P w H h) (i:K.In h) (q:SqT K H a xs):∃b o n,Vals xs b/\h.get? a=some o/\o.cls= .type "tuple" /\o.data= .seq b.toArray n:=by
 rcases q with q | ⟨o,b,n,e,c,d,_,g⟩;.obtain⟨_,b,g,o,e,c,n,d⟩:=(q.ok f);exact⟨b,o,n,g,e,c,d⟩
 .exact⟨b.toList,o,n,g,i _ _ e,c,by simp[d]⟩
mutual
theorem Dw.reads (hok:HOk P w H h) (KX:K.In h):∀d v u,Dw K H v d->RelV v u->∃as,ReadsW R cl h u d as
 | .none,_,_,x,r=>by cases x;cases r;exact⟨_,ReadsW.none⟩
 | .bool b,_,_,x,r=>by cases x;cases r;exact⟨_,ReadsW.bool b⟩
 | .int i,_,_,x,r=>by cases x;obtain⟨t,rfl⟩:=r;exact⟨_,ReadsW.int i t⟩
 | .str s,_,_,x,r=>by cases x;obtain⟨t,rfl⟩:=r;exact⟨_,ReadsW.str s t⟩
 | .bytes b,_,_,x,r=>by cases x;obtain⟨t,rfl⟩:=r;exact⟨_,ReadsW.bytes _ t⟩
 | .list ds,_,_,x,r=>by
  cases x with
  | lst hs ha=>cases r;obtain⟨its,o,n,rv,ho,hc,hd⟩:=ajU hok KX hs;obtain⟨as,hr⟩:=Dw.readsAll hok KX ds _ its ha rv;exact⟨_,ReadsW.list ho hc hd hr⟩
 | .tuple ds,_,_,x,r=>by
  cases x with
  | tup hs ha=>cases r;obtain⟨its,o,n,rv,ho,hc,hd⟩:=ajV hok KX hs;obtain⟨as,hr⟩:=Dw.readsAll hok KX ds _ its ha rv;exact⟨_,ReadsW.tuple ho hc hd hr⟩
 | .float _,_,_,x,_=>by cases x
 | .dict _,_,_,x,_=>by cases x
 | .bytearray _,_,_,x,_=>by cases x
 | .set _,_,_,x,_=>by cases x
 | .frozenset _,_,_,x,_=>by cases x
 | .obj _ _,_,_,x,_=>by cases x
theorem Dw.readsAll (hok:HOk P w H h) (KX:K.In h):∀ds vs us,oR K H vs ds->Vals vs us->∃as,ReadsAllW R cl h us ds as
 | [],_,_,x,r=>by cases x;cases r;exact⟨_,ahR⟩
 | d::ds,_,_,x,r=>by
  cases x with
  | cons h1 h2=>
   cases r with
   | cons r1 r2=>obtain⟨as,q1⟩:=Dw.reads hok KX d _ _ h1 r1;obtain⟨bs,q2⟩:=Dw.readsAll hok KX ds _ _ h2 r2;exact⟨_,ahS q1 q2⟩
end
end
mutual
def plW:WData->Bool
 | .none=>true
 | .bool _=>true
 | .int _=>true
 | .str _=>true
 | .bytes _=>true
 | .list xs=>qH xs
 | .tuple xs=>qH xs
 | _=>false
def qH:List WData->Bool
 | []=>true
 | x::r=>plW x&&qH r
end
theorem ada {α:Type} {f:α->WData} (h:∀a,plW (f a)=true):∀l:List α,qH (l.map f)=true
 | []=>rfl
 | x::r=>by show(plW (f x)&&qH (r.map f))=true;rw[h x,ada h r] <;> rfl
theorem ur:∀(c:Codec) (a:c.denote),plW (c.enc a)=true
 | .unit,_=>rfl
 | .bool,_=>rfl
 | .int _ _,_=>rfl
 | .nat _ _,_=>rfl
 | .u8,_=>rfl
 | .bytes _ _,_=>rfl
 | .text _ _ _ _,_=>rfl
 | .list _ _ c,a=>ada (λx=>ur c x) a
 | .pair c d,a=>by show(plW (c.enc a.1)&&(plW (d.enc a.2)&&true))=true;rw[ur c a.1,ur d a.2] <;> rfl
 | .triple c d e,a=>by show(plW (c.enc a.1)&&(plW (d.enc a.2.1)&&(plW (e.enc a.2.2)&&true)))=true;rw[ur c a.1,ur d a.2.1,ur e a.2.2] <;> rfl
 | .option c,none=>rfl
 | .option c,some x=>ur c x
theorem adb:∀(b:List Codec) (a:Codec.denoteAll b),qH (yp b a)=true
 | [],_=>rfl
 | c::b,a=>by show(plW (c.enc a.1)&&qH (yp b a.2))=true;rw[ur c a.1,adb b a.2] <;> rfl
theorem Rt:∀{xs:List WData} {d:WData},d∈xs->d.weight<=Qe xs
 | [],d,h=>absurd h (by simp)
 | x::r,d,h=>by
  show d.weight<=x.weight+1+Qe r;rcases cD.mp h with e | m;.rw[e];omega
  .have z:=Rt m;omega
def toV:Value->V
 | .none=> .non
 | .bool b=> .bl b
 | .int i _=> .int i
 | .str x _=> .str x
 | .bytes b _=> .byt b
 | .ref a=> .ref a
 | _=> .non
def OkU (A:List Addr):Value->Prop
 | .none=>True
 | .bool _=>True
 | .int _ _=>True
 | .str _ _=>True
 | .bytes _ _=>True
 | .ref a=>a∈A
 | _=>False
theorem OkU.mono (h:∀a∈A,a∈B):∀{u:Value},OkU A u->OkU B u:=λ{u} x=>by
 cases u with
 | ref a=>exact h a x
 | none=>trivial
 | bool b=>trivial
 | int i t=>trivial
 | str s t=>trivial
 | bytes b t=>trivial
 | _=>exact jP x
theorem ajW (x:OkU A u):RelV (toV u) u:=by
 cases u with
 | ref a=>rfl
 | none=>rfl
 | bool b=>rfl
 | int i t=>exact⟨t,rfl⟩
 | str s t=>exact⟨t,rfl⟩
 | bytes b t=>exact⟨t,rfl⟩
 | _=>exact jP x
theorem yR:∀{vs:List Value},(∀u∈vs,OkU A u)->Vals (vs.map toV) vs
 | [],_=> .nil
 | u::r,h=> .cons (ajW (h u (cU ..))) (yR λx a=>h x (cO _ a))
def oU (h:Heap) (A:List Addr) (a:Addr):Prop:=∃b:List Value,b.length<=sizeLine/\(∀u∈b,OkU A u)/\
 (h.get? a=some {cls:= .type "list",data:= .seq b.toArray}\/h.get? a=some {cls:= .type "tuple",data:= .seq b.toArray})
theorem oU.mono (k:∀a∈A,a∈B) (x:oU h A a):oU h B a:=by obtain⟨f,b,c,d⟩:=x;exact⟨f,b,λu e=>(c u e).mono k,d⟩
theorem Ij {P:Params} {h:Heap}:∀{vs:List Value} {a:List WData},WellAll P h vs a->vs.length=a.length
 | _,_,.nil=>rfl
 | _,_,.cons _ b=>by show _+1=_+1;rw[Ij b]
theorem ade {P:Params} {h:Heap} {v:Value} {c:List WData} (x:Well P h v (.list c)):∃(a:Addr) (vs:List Value),v= .ref a/\h.get? a=some {cls:= .type "list",data:= .seq vs.toArray}/\WellAll P h vs c:=by
 cases x with
 | list d b=>exact⟨_,_,rfl,d,b⟩
theorem adf {P:Params} {h:Heap} {v:Value} {c:List WData} (x:Well P h v (.tuple c)):∃(a:Addr) (vs:List Value),v= .ref a/\h.get? a=some {cls:= .type "tuple",data:= .seq vs.toArray}/\WellAll P h vs c:=by
 cases x with
 | tuple d b=>exact⟨_,_,rfl,d,b⟩
theorem adg {P:Params} {h:Heap} {e:List Value} {d:WData} {c:List WData} (x:WellAll P h e (d::c)):∃(v:Value) (vs:List Value),e=v::vs/\Well P h v d/\WellAll P h vs c:=by
 cases x with
 | cons a b=>exact⟨_,_,rfl,a,b⟩
theorem adh (h:n<=1048576):n<=sizeLine:=cI h (by decide)
section
variable {P:Params} {h:Heap}
mutual
theorem ajX:∀d v,Well P h v d->plW d=true->d.weight<=1048576->∃A:List Addr,OkU A v/\∀a∈A,oU h A a
 | .none,_,x,_,_=>by cases x;exact⟨[],trivial,λa m=>absurd m (by simp)⟩
 | .bool b,_,x,_,_=>by cases x;exact⟨[],trivial,λa m=>absurd m (by simp)⟩
 | .int i,_,x,_,_=>by cases x;exact⟨[],trivial,λa m=>absurd m (by simp)⟩
 | .str s,_,x,_,_=>by cases x;exact⟨[],trivial,λa m=>absurd m (by simp)⟩
 | .bytes b,_,x,_,_=>by cases x;exact⟨[],trivial,λa m=>absurd m (by simp)⟩
 | .list ds,_,x,p,z=>by
  obtain⟨a,vs,rfl,ho,hall⟩:=ade x;have z2:=z;obtain⟨A,h1,h2⟩:=Ik ds _ hall p λd hd=>cI (Rt hd) z2;have k:∀b∈A,b∈a::A:=λb hb=>cO _ hb;refine⟨a::A,cU ..,λb hb=> ?_⟩;rcases cD.mp hb with e | m;.rw[e];exact⟨vs,adh (by rw[Ij hall];exact cI (Z2 ds) z2),λu hu=>(h1 u hu).mono k,.inl ho⟩
  .exact(h2 b m).mono k
 | .tuple ds,_,x,p,z=>by
  obtain⟨a,vs,rfl,ho,hall⟩:=adf x;have z2:Qe ds<=1048576:=z;obtain⟨A,h1,h2⟩:=Ik ds _ hall p λd hd=>cI (Rt hd) z2;have k:∀b∈A,b∈a::A:=λb hb=>cO _ hb;refine⟨a::A,cU ..,λb hb=> ?_⟩;rcases cD.mp hb with e | m;.rw[e];exact⟨vs,adh (by rw[Ij hall];exact cI (Z2 ds) z2),λu hu=>(h1 u hu).mono k,.inr ho⟩
  .exact(h2 b m).mono k
 | .float _,_,_,p,_=>m7 (p)
 | .dict _,_,_,p,_=>m7 (p)
 | .bytearray _,_,_,p,_=>m7 (p)
 | .set _,_,_,p,_=>m7 (p)
 | .frozenset _,_,_,p,_=>m7 (p)
 | .obj _ _,_,_,p,_=>m7 (p)
theorem Ik:∀ds vs,WellAll P h vs ds->qH ds=true->(∀d∈ds,d.weight<=1048576)->∃A:List Addr,(∀u∈vs,OkU A u)/\∀a∈A,oU h A a
 | [],_,x,_,_=>by cases x;exact⟨[],λu m=>absurd m (by simp),λa m=>absurd m (by simp)⟩
 | d::ds,_,x,p,z=>by
  obtain⟨v,vs,rfl,x1,x2⟩:=adg x;have q:=j7.mp p;obtain⟨A,a1,a2⟩:=ajX d v x1 q.1 (z d (cU ..));obtain⟨B,b1,b2⟩:=Ik ds vs x2 q.2 λe he=>z e (cO _ he);have kA:∀b∈A,b∈A++B:=λb hb=>dO.mpr (.inl hb);have kB:∀b∈B,b∈A++B:=λb hb=>dO.mpr (.inr hb);refine⟨A++B,λu hu=> ?_,λb hb=> ?_⟩
  .rcases cD.mp hu with e | m;.rw[e];exact a1.mono kA
   .exact(b1 u m).mono kB
  .rcases dO.mp hb with m | m;.exact(a2 b m).mono kA
   .exact(b2 b m).mono kB
end
end
def Il (o:Obj):Option HO:=match o.data with
 | .seq a _=>if(o.cls==qb "list")=true then some (.frz o (.lst (a.toList.map toV)))else some (.frz o (.tup (a.toList.map toV)))
 | _=>none
def jq (K:aW) (h:Heap) (A:List Addr):Hp:=λb=>if b∈A then(if(K.lookup b).isNone=true then(h.get? b).bind Il else none)else none
def CK (H:Hp):Prop:=∀b,H b=none\/∃o u,H b=some (.frz o u)
theorem adi (vs:List Value):Il {cls:= .type "list",data:= .seq vs.toArray}=some (.frz {cls:= .type "list",data:= .seq vs.toArray} (.lst (vs.map toV))):=by show(if(qb "list" ==qb "list")=true then some (HO.frz {cls:= .type "list",data:= .seq vs.toArray} (.lst (vs.toArray.toList.map toV)))else some (HO.frz {cls:= .type "list",data:= .seq vs.toArray} (.tup (vs.toArray.toList.map toV))))=_;rw[aB (beq_self_eq_true _)]
theorem adk (vs:List Value):Il {cls:= .type "tuple",data:= .seq vs.toArray}=some (.frz {cls:= .type "tuple",data:= .seq vs.toArray} (.tup (vs.map toV))):=by show(if(qb "tuple" ==qb "list")=true then some (HO.frz {cls:= .type "tuple",data:= .seq vs.toArray} (.lst (vs.toArray.toList.map toV)))else some (HO.frz {cls:= .type "tuple",data:= .seq vs.toArray} (.tup (vs.toArray.toList.map toV))))=_;rw[au (by decide)]
section
variable {P:Program} {w:World} {K:aW} {h:Heap} {A:List Addr}
theorem Im (a:b∈A) (c:K.lookup b=none) (e:h.get? b=some o):jq K h A b=Il o:=by unfold jq;rw[aB a,c,aB (show(none:Option Obj).isNone=true from rfl),e] <;> rfl
theorem ajY (q:jq K h A b=some u):b∈A/\K.lookup b=none:=by
 unfold jq at q;by_cases a:b∈A
 .rw[aB a]at q;cases c:K.lookup b with
  | none=>exact⟨a,rfl⟩
  | some o=>rw[c,au (by simp)]at q;cases q
 .rw[au a]at q;cases q
theorem Io (ar:∀a∈A,oU h A a) (q:jq K h A b=some u):K.lookup b=none/\∃vs:List Value,vs.length<=sizeLine/\(∀u∈vs,OkU A u)/\
    ((h.get? b=some {cls:= .type "list",data:= .seq vs.toArray}/\u= .frz {cls:= .type "list",data:= .seq vs.toArray} (.lst (vs.map toV)))\/
     (h.get? b=some {cls:= .type "tuple",data:= .seq vs.toArray}/\u= .frz {cls:= .type "tuple",data:= .seq vs.toArray} (.tup (vs.map toV)))):=by
  obtain⟨c,d⟩:=ajY q
  obtain⟨vs,f,g,i⟩:=ar b c
  refine⟨d,vs,f,g,?_⟩
  rcases i with e | e
  · rw[Im c d e,adi]at q
    exact .inl ⟨e,(jV q).symm⟩
  · rw[Im c d e,adk]at q
    exact .inr ⟨e,(jV q).symm⟩
theorem ajZ (ar:∀a∈A,oU h A a):CK (jq K h A):=λb=>by
 cases q:jq K h A b with
 | none=>exact .inl rfl
 | some u=>
  obtain⟨_,c,_,_,⟨_,e⟩ | ⟨_,e⟩⟩:=Io ar q;.exact .inr ⟨_,_,by rw[e]⟩
  .exact .inr ⟨_,_,by rw[e]⟩
theorem aj0 (ar:∀a∈A,oU h A a):HOk P w (jq K h A) h:=λb u q=>by
 obtain⟨_,f,c,d,⟨e,rfl⟩ | ⟨e,rfl⟩⟩:=Io ar q;.exact⟨e,by rw[aJ];exact c,f,_,yR d,e⟩
 .exact⟨e,by rw[aJ];exact c,f,yR d,_,e,rfl,_,rfl⟩
theorem Ip {c a:Value} {vs d:List Value} (e:(some {cls:=c,data:= .seq vs.toArray}:Option Obj)=some {cls:=a,data:= .seq d.toArray}):c=a/\vs=d:=by have b:=jV e;have f:=congrArg Obj.cls b;have g:=congrArg Obj.data b;injection g with h;refine⟨f,?_⟩;have i:=congrArg aa1 h;simpa using i
theorem aj1 (i:K.In h) (ar:∀a∈A,oU h A a) {a:Addr} {vs:List Value} (f:a∈A) (e:h.get? a=some {cls:= .type "list",data:= .seq vs.toArray}):(∀u∈vs,OkU A u)/\SqL K (jq K h A) a (vs.map toV):=by
 obtain⟨g,j,d,l⟩:=ar a f;have m:g=vs:=by
  rcases l with q | q;.rw[e]at q;exact(Ip q).2.symm
  .rw[e]at q;exact absurd (abB (Ip q).1) (by decide)
 subst m;refine⟨d,?_⟩;cases b:K.lookup a with
 | none=>exact .inl (.inr ⟨_,by rw[Im f b e,adi]⟩)
 | some o=>have c:=i a o b;rw[e]at c;obtain rfl:=jV c;exact .inr ⟨_,g.toArray,_,b,rfl,rfl,rfl,by rw[gF];exact j,by simpa using yR d⟩
theorem aj2 (i:K.In h) (ar:∀a∈A,oU h A a) {a:Addr} {vs:List Value} (f:a∈A) (e:h.get? a=some {cls:= .type "tuple",data:= .seq vs.toArray}):(∀u∈vs,OkU A u)/\SqT K (jq K h A) a (vs.map toV):=by
 obtain⟨g,j,d,l⟩:=ar a f;have m:g=vs:=by
  rcases l with q | q;.rw[e]at q;exact absurd (abB (Ip q).1) (by decide)
  .rw[e]at q;exact(Ip q).2.symm
 subst m;refine⟨d,?_⟩;cases b:K.lookup a with
 | none=>exact .inl (.inr ⟨_,by rw[Im f b e,adk]⟩)
 | some o=>have c:=i a o b;rw[e]at c;obtain rfl:=jV c;exact .inr ⟨_,g.toArray,_,b,rfl,rfl,by rw[gF];exact j,by simpa using yR d⟩
mutual
theorem aj3 (KX:K.In h) (ar:∀a∈A,oU h A a):∀d v,Well Pm h v d->plW d=true->OkU A v->Dw K (jq K h A) (toV v) d
 | .none,_,x,_,_=>by cases x;exact .non
 | .bool b,_,x,_,_=>by cases x;exact .bl b
 | .int i,_,x,_,_=>by cases x;exact .int i
 | .str s,_,x,_,_=>by cases x;exact .str s
 | .bytes b,_,x,_,_=>by cases x;have z:=Dw.byt (K:=K) (H:=jq K h A) b.toArray;exact z
 | .list ds,_,x,p,hu=>by obtain⟨a,vs,rfl,ho,hall⟩:=ade x;obtain⟨h2,hs⟩:=aj1 KX ar hu ho;exact .lst hs (Ir KX ar ds _ hall p h2)
 | .tuple ds,_,x,p,hu=>by obtain⟨a,vs,rfl,ho,hall⟩:=adf x;obtain⟨h2,hs⟩:=aj2 KX ar hu ho;exact .tup hs (Ir KX ar ds _ hall p h2)
 | .float _,_,_,p,_=>m7 (p)
 | .dict _,_,_,p,_=>m7 (p)
 | .bytearray _,_,_,p,_=>m7 (p)
 | .set _,_,_,p,_=>m7 (p)
 | .frozenset _,_,_,p,_=>m7 (p)
 | .obj _ _,_,_,p,_=>m7 (p)
theorem Ir {Pm:Params} (KX:K.In h) (ar:∀a∈A,oU h A a):∀ds vs,WellAll Pm h vs ds->qH ds=true->(∀u∈vs,OkU A u)->oR K (jq K h A) (vs.map toV) ds
 | [],_,x,_,_=>by cases x;exact .nil
 | d::ds,_,x,p,hu=>by obtain⟨v,vs,rfl,x1,x2⟩:=adg x;have q:=j7.mp p;exact .cons (aj3 KX ar d v x1 q.1 (hu _ (cU ..))) (Ir KX ar ds vs x2 q.2 λu m=>hu u (cO _ m))
end
end
theorem aj4 {P:Program} {w:World} {K:aW} {mg mb:Str->Option Value} {CX:CXT} {k:Nat} {fa:Addr} {fd:FuncData} {ps:List Str} {sp:Sp} {a:Shared} {c:List Value} {i:List WData} {R:Z1} {cl:Str->Option Addr} {U:WData}
  (O:K.In a.heap) (G:a.heap.Ns mainGlobals mg) (Y:a.heap.Ns builtinsNs mb) (Z:∀x:Str,x≠"__name__" ->mb x=bootBuiltins x) (E:a.heap.NoLimit) (hg:a.gens= #[])
  (p:WellAll w.params a.heap c i) (I:qH i=true) (hwt:∀d∈i,d.weight<=1048576) (hr:eF k callerA)
  (F:∀base:Heap,K.In base->base.Ns mainGlobals mg->aY P w K mg base CX k fa fd ps sp) (j:∀s us,us.length=ps.length->BindsTo s fd ⟨us,[]⟩ (ps.zip us)) (C:i.length=ps.length)
  (hsp:∀H xs,CK H->oR K H xs i->sp xs H (λv H'=>Dw K H' v U) λ_ _ _=>False)
  (W:∀H e f,CX [] H a (λ_ _ _=>False) e f->False):
  codeAny (model P w) callerA (.call (.ref fa) ⟨c,[]⟩) (λr f=>∃u S,r= .ok (.ret u)/\ReadsW R cl f.heap u U S/\OldK a.heap f.heap/\f.os=a.os/\AllBare f.gens) a:=by
 obtain⟨A,ho,ar⟩:=Ik i c p I hwt;have X:CK (jq K a.heap A):=ajZ ar;have l:HOk P w (jq K a.heap A) a.heap:=aj0 ar;have hS:=Ir O ar i c p I ho;have hV:=yR ho;have hK:∀b u,jq K a.heap A b=some u->K.lookup b=none:=λb u q=>(Io ar q).1;have J:∀{b:Addr} {o:Obj} {N:Array DictEntry} {L:Nat},a.heap.get? b=some o->o.data= .dict N L->jq K a.heap A b=none:=λ{b o N L} e d=>by
  cases q:jq K a.heap A b with
  | none=>rfl
  | some u=>
   obtain⟨_,vs,_,_,⟨y,_⟩ | ⟨y,_⟩⟩:=Io ar q;.rw[y]at e;cases e;have T:=d;cases T
   .rw[y]at e;cases e;have T:=d;cases T
 generalize jq K a.heap A=H at X l hS hK J;have t:∀{b:Addr} {o:Obj},a.heap.get? b=some o->H b=none->(rK a.heap H).get? b=some o:=λe n=>ain e n;have g:∀{b:Addr} {m:Str->Option Value},a.heap.Ns b m->(rK a.heap H).Ns b m:=λ{b m} ⟨o,N,L,e,d,r⟩=>⟨o,N,L,t e (J e d),d,r⟩;have nK:∀b o,K.lookup b=some o->H b=none:=λb o e=>by
  cases q:H b with
  | none=>rfl
  | some u=>rw[hK b u q]at e;cases e
 have B:K.In (rK a.heap H):=λb o e=>t (O b o e) (nK b o e);have hM:Mod K mg (rK a.heap H):=⟨B,g G,⟨mb,g Y,Z⟩,let ⟨mc,h1,h2⟩:=E;⟨mc,g h1,h2⟩⟩;have e0:vM P w K mg (rK a.heap H) callerA [] a H:=⟨rfl,hM,λb o e=>aio e,Gq (ail _ _),trivial,λb Y=>absurd (show b∈([]:List Addr)from Y) (by simp),l,.of_eq hg⟩;have hl:c.length=ps.length:=by rw[Ij p];exact C
 refine Gd ((F _ B (g G)).run callerA [] a H ⟨c,[]⟩ c (c.map toV) _ _ hr e0 (j a c hl) hV (hsp H _ X hS)) λr f x=> ?_;cases r with
 | error e=>exact(W H e f x).elim
 | ok fl=>
  cases fl with
  | next=>exact jP x
  | brk=>exact jP x
  | cont=>exact jP x
  | ret u=>
   obtain⟨v,H',os,bare,un,h,r',q⟩:=x;have kept:∀b o,a.heap.get? b=some o->f.heap.get? b=some o:=λb o e=>by
    cases q2:H b with
    | none=>exact un.keep b o e q2 (by intro z;exact absurd (show b∈([]:List Addr)from z) (by simp)) (by simp)
    | some u2=>
     rcases X b with z | ⟨ob,u3,z⟩;.rw[q2]at z;cases z
     .have z2:=un.pL b ob _ z;obtain⟨e1,_⟩:=l b _ z;obtain⟨y,_⟩:=h b _ z2;rw[e]at e1;cases e1;exact y
   have Q:K.In f.heap:=λb o e=>kept b o (O b o e);obtain⟨S,hrd⟩:=Dw.reads (R:=R) (cl:=cl) h Q U v u q r';exact⟨u,S,rfl,hrd,OldK.of_keep kept,os,bare⟩
theorem aj5 (h:WData.layableAll ds=true):∀d∈ds,d.weight<=1048576:=λd a=>
 (PySem.W.layableW_iff.mp (m5.mp h d a)).2.2
theorem adn:∀b a,(yp b a).length=b.length
 | [],_=>rfl
 | c::b,a=>by show(yp b a.2).length+1=b.length+1;rw[adn b a.2]
theorem aj6 {r:OpenSpec} {k:Nat} {q:Program} {loose:List Str} {XP:(Str->Option Value)->Heap->Prop} {YP:World->Heap->Prop} {d:DefRec} {K:Params->aW} {CX:World->CXT} {ps:List Str} {sp:World->Sp}
  (O:r.wellSaid=true) (hdf:d.params.defaults=[]) (j:r.args.length=ps.length) (hr:eF k callerA)
  (hY:∀w h,YP w h->(K w.params).In h)
  (F:∀w mg n h,YP w h->(K w.params).In h->h.Ns mainGlobals mg->mg d.name=some (.ref n)->
   ∃x:FuncData,(∀s I,I.length=ps.length->BindsTo s x ⟨I,[]⟩ (ps.zip I))/\
    ∀base:Heap,(K w.params).In base->base.Ns mainGlobals mg->aY r.prog w (K w.params) mg base (CX w) k n x ps (sp w))
  (B:∀w H xs a,CK H->abA r.args a=true->G6 r.args r.asked a=true->oR (K w.params) H xs (yp r.args a)->
   sp w xs H (λv N=>Dw (K w.params) N v (r.ret.enc (G6 r.args r.f a))) λ_ _ _=>False)
  (y:∀w H s e p,CX w [] H s (λ_ _ _=>False) e p->False):
  Z4 q loose XP YP r d [] (λf vs=>aan f vs):=by
 intro w E s₁ mg mb G Y n o pm cd P dV kV ho hd hcd hD A hg c L as l i hrd C hlo;obtain⟨a,Q,S⟩:=PySem.W.os_pre_some l;obtain⟨U,m⟩:=Codec.encAll_of_decAll r.args c a Q;subst U;have J:=hY w _ Y;obtain⟨x,hb,hF⟩:=F w mg n _ Y J G.T.g A;refine PySem.W.enter_call (Gd (aj4 (R:=[]) (cl:=classAt E.heap) J G.T.g G.T.b G.T.builtins G.T.nolimit hg C (adb _ _) (aj5 i) hr hF hb (by rw[adn];exact j)
  (λH xs hO hS=>B w H xs a hO m S hS) λH e p=>y w H s₁ e p) λr' p hq=> ?_)
 obtain⟨u,t,rfl,X,Z,h3,h4⟩:=hq;exact⟨.inl ⟨u,_,t,rfl,λ_=>rfl,X,(OpenSpec.post_iff O m _ _).mpr rfl,λz=>m7 (z)⟩,Z,h3,h4⟩
theorem aj7 {r:OpenSpec} {k:Nat} {q:Program} {loose:List Str} {XP:(Str->Option Value)->Heap->Prop} {YP:World->Heap->Prop} {d:DefRec} {K:Params->aW} {CX:CXT} {ps:List Str} {sp:aW->Sp}
  (p:r.wellSaid=true) (g:d.params.defaults=[]) (b:r.args.length=ps.length) (A:eF k callerA)
  (z:∀w h,YP w h->(K w.params).In h)
  (F:∀w mg m h,YP w h->(K w.params).In h->h.Ns mainGlobals mg->mg d.name=some (.ref m)->
   ∃n:FuncData,(∀s l,l.length=ps.length->BindsTo s n ⟨l,[]⟩ (ps.zip l))/\
    ∀base:Heap,(K w.params).In base->base.Ns mainGlobals mg->aY r.prog w (K w.params) mg base CX k m n ps (sp (K w.params)))
  (i:∀K H xs a,CK H->abA r.args a=true->G6 r.args r.asked a=true->oR K H xs (yp r.args a)->
   sp K xs H (λv o=>Dw K o v (r.ret.enc (G6 r.args r.f a))) λ_ _ _=>False)
  (c:∀H s e j,CX [] H s (λ_ _ _=>False) e j->False):
  Z4 q loose XP YP r d [] (λf vs=>aan f vs):=
 aj6 p g b A z F (λw H xs a t u x y=>i (K w.params) H xs a t u x y) λ_ H s e j=>c H s e j
end
end L2
end
section
set_option Elab.async false
set_option linter.all false
namespace GS
open Vbnlah
abbrev D:=List (Int×Int)
def ak (d:D) (k:Int):Option Int:=(d.find? λp=>decide (p.1=k)).map (·.2)
def dput (d:D) (k v:Int):D:=if(d.any λp=>decide (p.1=k))=true then d.map (λp=>if p.1=k then(p.1,v)else p)else d++[(k,v)]
def dU (d:D) (k:Int):D:=d.filter λp=>decide (p.1≠k)
def ND (d:D):Prop:=(d.map (·.1)).Nodup
theorem lJ (k:Int):ak [] k=none:=rfl
theorem jH (p:Int×Int) (d:D) (k:Int):ak (p::d) k=if p.1=k then some p.2 else ak d k:=by unfold ak;rw[kZ];by_cases h:p.1=k <;> simp[h]
theorem aj8 (d e:D) (k:Int):ak (d++e) k=(ak d k).or (ak e k):=by
 induction d with
 | nil=>simp[lJ]
 | cons p d a=>rw[O2,jH,jH,a];by_cases h:p.1=k <;> simp[h]
theorem Iu (d:D) (k:Int):(d.any λp=>decide (p.1=k))=(ak d k).isSome:=by
 induction d with
 | nil=>rfl
 | cons p d a=>rw[u5,jH,a];by_cases h:p.1=k <;> simp[h]
theorem Rv (d:D) (f:Int->Int->Int) (j:Int):ak (d.map λp=>(p.1,f p.1 p.2)) j=(ak d j).map (f j):=by
 induction d with
 | nil=>rfl
 | cons p d a=>rw[bT,jH,jH,a];by_cases h:p.1=j <;> simp[h]
theorem iJ (d:D) (k v j:Int):ak (dput d k v) j=if j=k then some v else ak d j:=by
 unfold dput;rw[Iu];split
 .rename_i h;have e:(d.map λp=>if p.1=k then(p.1,v)else p)=d.map λp=>(p.1,if p.1=k then v else p.2):=by apply gJ;intro p _;split <;> rfl
  rw[e,Rv d (λa b=>if a=k then v else b)];by_cases c:j=k;.subst c;obtain⟨x,g⟩:=gj.mp h;simp[g]
  .cases ak d j <;> simp[c]
 .rename_i h;rw[aj8,jH,lJ];by_cases c:j=k
  .subst c;cases f:ak d j with
   | none=>simp
   | some x=>rw[f]at h;simp at h
  .have:¬k=j:=λe=>c e.symm;simp[c,this]
theorem yS:ak d k=none↔k∉d.map (·.1):=by
 induction d with
 | nil=>simp[lJ]
 | cons p d b=>
  rw[jH];by_cases h:p.1=k;.simp[h]
  .have a:¬k=p.1:=λe=>h e.symm;simp[h,a,b]
theorem Rw (d:D) (k v:Int):(dput d k v).map (·.1)=if(ak d k).isSome=true then d.map (·.1)else d.map (·.1)++[k]:=by
 unfold dput;rw[Iu];split;.rw[bC];apply gJ;intro p _;show(if p.1=k then(p.1,v)else p).1=p.1;split <;> rfl
 .simp
theorem j9 (h:ND d) (k v:Int):ND (dput d k v):=by
 unfold ND at *;rw[Rw];split;.exact h
 .rename_i f;have i:=yS.mp (by cases e:ak d k with | none=>rfl | some x=>rw[e]at f;simp at f);rw[nZ];refine⟨h,by simp,?_⟩;intro a g b c e;simp at c;subst c;subst e;exact i g
theorem mH (d:D) (k j:Int):ak (dU d k) j=if j=k then none else ak d j:=by
 induction d with
 | nil=>unfold dU;simp[lJ]
 | cons p d b=>
  unfold dU at *;rw[pG,jH];by_cases h:p.1=k
  .rw[au (by simp[h]),b];by_cases a:j=k;.simp[a]
   .have:¬p.1=j:=λe=>a (e.symm.trans h);simp[a,this]
  .rw[aB (by simp[h]),jH,b];by_cases a:j=k;.subst a;simp[h]
   .simp[a]
theorem aj9 (h:ND d) (f:Int×Int->Bool):ND (d.filter f):=by exact h.sublist ((jf).map _)
theorem yU (h:ND d) (k:Int):ND (dU d k):=aj9 h _
theorem bY (h:ND d):(k,v)∈d↔ak d k=some v:=by
 induction d with
 | nil=>simp[lJ]
 | cons p d b=>
  have a:p.1∉d.map (·.1)/\ND d:=je.mp h;rw[cD,jH,b a.2];by_cases e:p.1=k
  .rw[aB e];constructor
   .rintro(z | z);.rw[<-z]
    .exact absurd (e▸aQ.mpr ⟨(k,v),(b a.2).mpr z,rfl⟩) a.1
   .intro z;left;injection z with z;rw[<-e,<-z]
  .rw[au e];constructor
   .rintro(z | z);.exact absurd (by rw[<-z]) e
    .exact z
   .exact .inr
theorem CN (h:ND d):d.Nodup:=by have q:=jZ.mp h;exact q.imp λa e=>a (by rw[e])
theorem yV (a:ND d) (b:ND e) (h:∀k,ak d k=ak e k):d.Perm e:=by rw[tL (CN a) (CN b)];rintro⟨k,v⟩;rw[bY a,bY b,h]
theorem Iv (p:d.Perm e) (h:ND e):ND d:=by exact(p.map _).nodup_iff.mpr h
theorem oV (p:d.Perm e) (h:ND e) (k:Int):ak d k=ak e k:=by
 have a:=Iv p h;cases x:ak e k with
 | none=>rw[yS]at *;intro m;exact x ((p.map _).mem_iff.mp m)
 | some v=>rw[<-bY a,p.mem_iff,bY h,x]
def gR (t:Tree):D:=t.groups.map λg=>((g.key:Int),(g.rank:Int))
def gP (t:Tree):D:=t.groups.map λg=>((g.key:Int),(g.parent:Int))
def gX (t:Tree):D:=t.specimens.map λp=>((p.1:Int),(p.2:Int))
structure cG where
 R:D
 P:D
 X:D
structure Rel (T:cG) (t:Tree):Prop where
 r:T.R.Perm (gR t)
 p:T.P.Perm (gP t)
 x:T.X.Perm (gX t)
structure Srt (t:Tree):Prop where
 g:t.groups.Pairwise λa b=>a.key < b.key
 s:t.specimens.Pairwise λa b=>a.1 < b.1
structure WF (t:Tree):Prop extends Srt t where
 key:∀k r,ak (gR t) k=some r->(1<=k/\k<=1000000000)/\(1<=r/\r<=8)
 par:∀k p,ak (gP t) k=some p->p=0\/∃q r,ak (gR t) p=some q/\ak (gR t) k=some r/\q < r
 spc:∀x h,ak (gX t) x=some h->(1<=x/\x<=1000000000)/\∃q,ak (gR t) h=some q
 ng:t.groups.length<=32
 nx:t.specimens.length<=64
theorem Srt.ndR (h:Srt t):ND (gR t):=by unfold ND gR;rw[bC];refine tU _ ?_ h.g;intro a b c e;have e:(a.key:Int)=(b.key:Int):=e;omega
theorem Srt.ndP (h:Srt t):ND (gP t):=by unfold ND gP;rw[bC];refine tU _ ?_ h.g;intro a b c e;have e:(a.key:Int)=(b.key:Int):=e;omega
theorem Srt.ndX (h:Srt t):ND (gX t):=by unfold ND gX;rw[bC];refine tU _ ?_ h.s;intro a b c e;have e:(a.1:Int)=(b.1:Int):=e;omega
theorem pQ (t:Tree) (k:Nat):ak (gR t) (k:Int)=(groupAt t k).map λg=>(g.rank:Int):=by
 unfold gR groupAt
 induction t.groups with
 | nil=>rfl
 | cons g l b=>
  rw[bT,jH,b,kZ];by_cases h:g.key=k;.simp[h]
  .have:¬(g.key:Int)=(k:Int):=by omega
   have a:=qz.mpr h;simp[a,this]
theorem CP (t:Tree) (k:Nat):ak (gP t) (k:Int)=(groupAt t k).map λg=>(g.parent:Int):=by
 unfold gP groupAt
 induction t.groups with
 | nil=>rfl
 | cons g l b=>
  rw[bT,jH,b,kZ];by_cases h:g.key=k;.simp[h]
  .have:¬(g.key:Int)=(k:Int):=by omega
   have a:=qz.mpr h;simp[a,this]
theorem aj_ (t:Tree) (k:Nat):ak (gX t) (k:Int)=(t.specimens.find? λp=>p.1==k).map λp=>(p.2:Int):=by
 unfold gX
 induction t.specimens with
 | nil=>rfl
 | cons g l b=>
  rw[bT,jH,b,kZ];by_cases h:g.1=k;.simp[h]
  .have:¬(g.1:Int)=(k:Int):=by omega
   have a:=qz.mpr h;simp[a,this]
def lR (l:List Group):D:=l.map λg=>((g.key:Int),(g.rank:Int))
def lP (l:List Group):D:=l.map λg=>((g.key:Int),(g.parent:Int))
def lX (l:List (Nat×Nat)):D:=l.map λp=>((p.1:Int),(p.2:Int))
theorem wg {α:Type} (a:α->Nat) (v:α):∀l:List α,(oh a v l).Perm (v::l)
 | []=> .refl _
 | y::l=>by
  unfold oh;split;.exact .refl _
  .exact((wg a v l).cons y).trans (.swap v y l)
theorem CQ {α:Type} (c:α->Nat) (v:α):∀l:List α,(∀y∈l,c y≠c v)->(l.Pairwise λa b=>c a < c b)->(oh c v l).Pairwise λa b=>c a < c b
 | [],_,_=>by simp[oh]
 | y::l,h,i=>by
  have d:=Gz.mp i;unfold oh;split
  .rename_i f;refine Gz.mpr ⟨λz g=> ?_,i⟩;rcases cD.mp g with e | e;.rw[e];exact f
   .exact rA f (d.1 z e)
  .rename_i f;refine Gz.mpr ⟨λz g=> ?_,CQ c v l (λy j=>h y (cO _ j)) d.2⟩;rcases cD.mp ((wg c v l).mem_iff.mp g)with e | e;.rw[e];have:=h y cU;omega
   .exact d.1 z e
theorem Iw (g:Group) (l:List Group):(setGroup g l).Perm (g::l.filter λh=>h.key !=g.key):=wg _ _ _
theorem rQ (h:l.Pairwise λa b=>a.key < b.key):(setGroup g l).Pairwise λa b=>a.key < b.key:=
 CQ (λh:Group=>h.key) g _ (λy c e=>by have:=(cC.mp c).2;simp[e]at this) (h.sublist jf)
theorem akb (p:Nat×Nat) (l:List (Nat×Nat)):(setHome p l).Perm (p::l.filter λq=>q.1 !=p.1):=wg _ _ _
theorem Iz (h:l.Pairwise λa b=>a.1 < b.1):(setHome p l).Pairwise λa b=>a.1 < b.1:=
 CQ (λq:Nat×Nat=>q.1) p _ (λy c e=>by have:=(cC.mp c).2;simp[e]at this) (h.sublist jf)
theorem ado (h:l.Pairwise λa b=>a.key < b.key):ND (lR l):=Srt.ndR (t:=⟨l,[]⟩) ⟨h,.nil⟩
theorem adp (h:l.Pairwise λa b=>a.key < b.key):ND (lP l):=Srt.ndP (t:=⟨l,[]⟩) ⟨h,.nil⟩
theorem adq (h:l.Pairwise λa b=>a.1 < b.1):ND (lX l):=Srt.ndX (t:=⟨[],l⟩) ⟨.nil,h⟩
theorem Rx (l:List Group) (b:Nat) (j:Int):ak (lR (l.filter λg=>g.key !=b)) j=if j=(b:Int)then none else ak (lR l) j:=by
 have e:lR (l.filter λg=>g.key !=b)=dU (lR l) b:=by
  unfold lR dU;rw[j4]
  congr 1
  apply j5;intro g _;by_cases h:g.key=b;.simp[h]
  .have a:¬(g.key:Int)=(b:Int):=by omega
   simp[h,a]
 rw[e,mH]
theorem Ry (l:List Group) (b:Nat) (j:Int):ak (lP (l.filter λg=>g.key !=b)) j=if j=(b:Int)then none else ak (lP l) j:=by
 have e:lP (l.filter λg=>g.key !=b)=dU (lP l) b:=by
  unfold lP dU;rw[j4]
  congr 1
  apply j5;intro g _;by_cases h:g.key=b;.simp[h]
  .have a:¬(g.key:Int)=(b:Int):=by omega
   simp[h,a]
 rw[e,mH]
theorem Rz (l:List (Nat×Nat)) (b:Nat) (j:Int):ak (lX (l.filter λg=>g.1 !=b)) j=if j=(b:Int)then none else ak (lX l) j:=by
 have e:lX (l.filter λg=>g.1 !=b)=dU (lX l) b:=by
  unfold lX dU;rw[j4]
  congr 1
  apply j5;intro g _;by_cases h:g.1=b;.simp[h]
  .have a:¬(g.1:Int)=(b:Int):=by omega
   simp[h,a]
 rw[e,mH]
theorem CV (h:l.Pairwise λa b=>a.key < b.key) (g:Group) (j:Int):ak (lR (setGroup g l)) j=if j=(g.key:Int)then some (g.rank:Int)else ak (lR l) j:=by
 have p:(lR (setGroup g l)).Perm (lR (g::l.filter λh=>h.key !=g.key)):=(Iw g l).map _;rw[<-oV p.symm (ado (rQ h))];show ak (((g.key:Int),(g.rank:Int))::lR (l.filter λh=>h.key !=g.key)) j=_;rw[jH,Rx];by_cases e:j=(g.key:Int);.simp[e]
 .have c:¬(g.key:Int)=j:=λz=>e z.symm;simp[e,c]
theorem CW (h:l.Pairwise λa b=>a.key < b.key) (g:Group) (j:Int):ak (lP (setGroup g l)) j=if j=(g.key:Int)then some (g.parent:Int)else ak (lP l) j:=by
 have p:(lP (setGroup g l)).Perm (lP (g::l.filter λh=>h.key !=g.key)):=(Iw g l).map _;rw[<-oV p.symm (adp (rQ h))];show ak (((g.key:Int),(g.parent:Int))::lP (l.filter λh=>h.key !=g.key)) j=_;rw[jH,Ry];by_cases e:j=(g.key:Int);.simp[e]
 .have c:¬(g.key:Int)=j:=λz=>e z.symm;simp[e,c]
theorem adt (h:l.Pairwise λa b=>a.1 < b.1) (g:Nat×Nat) (j:Int):ak (lX (setHome g l)) j=if j=(g.1:Int)then some (g.2:Int)else ak (lX l) j:=by
 have p:(lX (setHome g l)).Perm (lX (g::l.filter λh=>h.1 !=g.1)):=(akb g l).map _;rw[<-oV p.symm (adq (Iz h))];show ak (((g.1:Int),(g.2:Int))::lX (l.filter λh=>h.1 !=g.1)) j=_;rw[jH,Rz];by_cases e:j=(g.1:Int);.simp[e]
 .have c:¬(g.1:Int)=j:=λz=>e z.symm;simp[e,c]
theorem adu (l:List Group) (f:Group->Group) (a:∀g,(f g).key=g.key) (b:∀g,(f g).rank=g.rank):lR (l.map f)=lR l:=by unfold lR;rw[bC];apply gJ;intro g _;show(((f g).key:Int),((f g).rank:Int))=_;rw[a,b]
theorem adv (l:List Group) (f:Group->Group) (F:Int->Int->Int) (a:∀g,(f g).key=g.key) (b:∀g,((f g).parent:Int)=F g.key g.parent) (j:Int):ak (lP (l.map f)) j=(ak (lP l) j).map (F j):=by
 have e:lP (l.map f)=(lP l).map λp=>(p.1,F p.1 p.2):=by unfold lP;rw[bC,bC];apply gJ;intro g _;show(((f g).key:Int),((f g).parent:Int))=((g.key:Int),F g.key g.parent);rw[a,b]
 rw[e,Rv]
theorem adw (l:List (Nat×Nat)) (f:Nat×Nat->Nat×Nat) (F:Int->Int->Int) (a:∀g,(f g).1=g.1) (b:∀g,((f g).2:Int)=F g.1 g.2) (j:Int):ak (lX (l.map f)) j=(ak (lX l) j).map (F j):=by
 have e:lX (l.map f)=(lX l).map λp=>(p.1,F p.1 p.2):=by unfold lX;rw[bC,bC];apply gJ;intro g _;show(((f g).1:Int),((f g).2:Int))=((g.1:Int),F g.1 g.2);rw[a,b]
 rw[e,Rv]
theorem RB {l:List Group} (h:l.Pairwise λa b=>a.key < b.key) (f:Group->Group) (d:∀g,(f g).key=g.key):(l.map f).Pairwise λa b=>a.key < b.key:=by rw[jZ];exact h.imp λc=>by rw[d,d];exact c
theorem RD {l:List (Nat×Nat)} (h:l.Pairwise λa b=>a.1 < b.1) (f:Nat×Nat->Nat×Nat) (d:∀g,(f g).1=g.1):(l.map f).Pairwise λa b=>a.1 < b.1:=by rw[jZ];exact h.imp λc=>by rw[d,d];exact c
theorem Rel.of (w:Srt t) (nr:ND T.R) (np:ND T.P) (nx:ND T.X) (b:∀k,ak T.R k=ak (gR t) k) (a:∀k,ak T.P k=ak (gP t) k) (c:∀k,ak T.X k=ak (gX t) k):Rel T t:=
 ⟨yV nr w.ndR b,yV np w.ndP a,yV nx w.ndX c⟩
section
variable {T:cG} {t:Tree}
theorem Rel.nr (h:Rel T t) (w:Srt t):ND T.R:=Iv h.r w.ndR
theorem Rel.np (h:Rel T t) (w:Srt t):ND T.P:=Iv h.p w.ndP
theorem Rel.nx (h:Rel T t) (w:Srt t):ND T.X:=Iv h.x w.ndX
theorem Rel.gr (h:Rel T t) (w:Srt t) (k:Int):ak T.R k=ak (gR t) k:=oV h.r w.ndR k
theorem Rel.gp (h:Rel T t) (w:Srt t) (k:Int):ak T.P k=ak (gP t) k:=oV h.p w.ndP k
theorem Rel.gx (h:Rel T t) (w:Srt t) (k:Int):ak T.X k=ak (gX t) k:=oV h.x w.ndX k
theorem Rel.qI (h:Rel T t):T.R.length=t.groups.length:=by rw[h.r.length_eq];unfold gR;simp
theorem Rel.adx (h:Rel T t):T.P.length=t.groups.length:=by rw[h.p.length_eq];unfold gP;simp
theorem Rel.uw (h:Rel T t):T.X.length=t.specimens.length:=by rw[h.x.length_eq];unfold gX;simp
end
theorem jR (t:Tree) (k:Int):(ak (gP t) k).isSome=(ak (gR t) k).isSome:=by rw[<-Iu,<-Iu];unfold gP gR;rw[GC,GC];rfl
theorem yW (h:k < 0):ak (gR t) k=none/\ak (gP t) k=none/\ak (gX t) k=none:=by
 refine⟨yS.mpr ?_,yS.mpr ?_,yS.mpr ?_⟩ <;>
 .intro m;simp only[gR,gP,gX,bC,aQ,Qs]at m;obtain⟨g,_,e⟩:=m;omega
def isKey (n:Int):Prop:=1<=n/\n<=1000000000
def iy (n:Int):Prop:=1<=n/\n<=8
def jr (n:Int):Prop:=n=0\/isKey n
instance (n:Int):Decidable (isKey n):=by unfold isKey;infer_instance
instance (n:Int):Decidable (iy n):=by unfold iy;infer_instance
instance (n:Int):Decidable (jr n):=by unfold jr;infer_instance
theorem fH {p q:Prop} [Decidable p] [Decidable q] (h:p↔q):decide p=decide q:=by
 by_cases a:p;.rw[cF a,cF (h.mp a)]
 .rw[cY a,cY λz=>a (h.mpr z)]
theorem d8 {α:Type} {c d:Prop} [Decidable c] [Decidable d] {a b i j:α} (h:c↔d) (e:d->a=i) (f:¬d->b=j):(if c then a else b)=if d then i else j:=by
 by_cases g:d;.rw[aB g,aB (h.mpr g),e g]
 .rw[au g,au (λz=>g (h.mp z)),f g]
theorem qJ {b:Bool} {p:Prop} [Decidable p] (h:b=decide p):b=false↔¬p:=by rw[h];exact iu
theorem CZ {b:Bool} {p:Prop} [Decidable p] (h:b=decide p):b=true↔p:=by rw[h];exact cH
theorem band {a b:Bool} {p q:Prop} [Decidable p] [Decidable q] (h:a=decide p) (c:b=decide q):(a&&b)=decide (p/\q):=by rw[h,c,lW]
theorem g_ (n:Int):keyed n=decide (isKey n):=(band rfl rfl).trans (fH lZ)
theorem IK (n:Int):within n 1 RANKS=decide (iy n):=(band rfl rfl).trans (fH lZ)
theorem RJ (n:Int):(n==0||keyed n)=decide (jr n):=by rw[g_];unfold jr;by_cases h:n=0 <;> simp[h]
theorem IV {t:Tree} {k:Int} (h:0<=k):(groupAt t k.toNat).isSome=(ak (gR t) k).isSome:=by
 have e:k=(k.toNat:Int):=by omega
 have q:=pQ t k.toNat;rw[<-e]at q;rw[q,pJ]
theorem oW {t:Tree} {k:Int} (h:0<=k):(groupAt t k.toNat).isNone=(ak (gR t) k).isNone:=by have:=IV (t:=t) h;cases a:groupAt t k.toNat <;> cases b:ak (gR t) k <;> simp_all
theorem nA {t:Tree} {k:Int} (h:0<=k):(rankOf t k.toNat:Int)=(ak (gR t) k).getD 0:=by
 have e:k=(k.toNat:Int):=by omega
 rw[e,pQ];unfold rankOf;have a:((k.toNat:Int)).toNat=k.toNat:=by omega
 rw[a];cases groupAt t k.toNat <;> rfl
theorem wj {t:Tree} {k:Int} (h:0<=k):(parentOf t k.toNat:Int)=(ak (gP t) k).getD 0:=by
 have e:k=(k.toNat:Int):=by omega
 rw[e,CP];unfold parentOf;have a:((k.toNat:Int)).toNat=k.toNat:=by omega
 rw[a];cases groupAt t k.toNat <;> rfl
theorem C_ {t:Tree} {k:Int} (h:0<=k):(homeOf t k.toNat:Int)=(ak (gX t) k).getD 0:=by
 have e:k=(k.toNat:Int):=by omega
 rw[e,aj_];unfold homeOf;have a:((k.toNat:Int)).toNat=k.toNat:=by omega
 rw[a];cases t.specimens.find? λp=>p.1==k.toNat <;> rfl
theorem ux {t:Tree} (w:WF t) {k:Int} (h:0<=k):homeOf t k.toNat=0↔ak (gX t) k=none:=by
 have e:=C_ (t:=t) h;constructor
 .intro z;rw[z]at e;cases q:ak (gX t) k with
  | none=>rfl
  | some v=>obtain⟨_,r,a⟩:=w.spc _ _ q;have:=(w.key _ _ a).1;rw[q]at e;simp at e;omega
 .intro z;rw[z]at e;simp at e;omega
theorem toN {k:Int} (h:0<=k):((k.toNat:Nat):Int)=k:=by omega
section
variable {s:State} {t:Tree} {T:cG}
theorem akc (k r p:Int):edited s t (.group k r p)=
  if ¬(isKey k/\iy r/\jr p)then .error (-1)
  else if(ak (gR t) k).isSome=true then .error (-2)
  else if p≠0/\ak (gR t) p=none then .error (-4)
  else if p≠0/\¬(ak (gR t) p).getD 0 < r then .error (-5)
  else if 32<=t.groups.length then .error (-9)
  else .ok {t with groups:=setGroup ⟨k.toNat,r.toNat,p.toNat⟩ t.groups}:=by
 refine d8 (qJ (band (g_ k) (band (IK r) (RJ p)))) (λ_=>rfl) λh=> ?_;have h:=rG.mp h;have c:0<=k:=by have:=h.1.1;omega
 have e:0<=r:=by have:=h.2.1.1;omega
 have a:0<=p:=by rcases h.2.2 with z | z;omega;have:=z.1;omega
 refine d8 (by rw[IV c]) (λ_=>rfl) λd=> ?_;refine d8 (by rw[oW a];simp[vo]) (λ_=>rfl) λb=> ?_;refine d8 (by have:=nA (t:=t) a;simp;omega) (λ_=>rfl) λb=> ?_;exact d8 lZ (λ_=>rfl) λ_=>rfl
theorem akd (w:WF t) {k r p:Int} (f:isKey k/\iy r/\jr p) (C:¬(ak (gR t) k).isSome=true) (E:¬(p≠0/\ak (gR t) p=none)) (F:¬(p≠0/\¬(ak (gR t) p).getD 0 < r)) (L:¬32<=t.groups.length)
  (c:Rel T t):WF {t with groups:=setGroup ⟨k.toNat,r.toNat,p.toNat⟩ t.groups}/\Rel ⟨dput T.R k r,dput T.P k p,T.X⟩ {t with groups:=setGroup ⟨k.toNat,r.toNat,p.toNat⟩ t.groups}:=by
 have G:((k.toNat:Nat):Int)=k:=by have:=f.1.1;omega
 have J:((r.toNat:Nat):Int)=r:=by have:=f.2.1.1;omega
 have I:((p.toNat:Nat):Int)=p:=by rcases f.2.2 with z | z;omega;have:=z.1;omega
 have i:Srt {t with groups:=setGroup ⟨k.toNat,r.toNat,p.toNat⟩ t.groups}:=⟨rQ w.g,w.s⟩;have d:∀j,ak (gR {t with groups:=setGroup ⟨k.toNat,r.toNat,p.toNat⟩ t.groups}) j=if j=k then some r else ak (gR t) j:=λj=>by have:=CV w.g ⟨k.toNat,r.toNat,p.toNat⟩ j;simp only[G,J]at this;exact this
 have B:∀j,ak (gP {t with groups:=setGroup ⟨k.toNat,r.toNat,p.toNat⟩ t.groups}) j=if j=k then some p else ak (gP t) j:=λj=>by have:=CW w.g ⟨k.toNat,r.toNat,p.toNat⟩ j;simp only[G,I]at this;exact this
 have A:ak (gR t) k=none:=by cases e:ak (gR t) k with | none=>rfl | some v=>rw[e]at C;simp at C
 refine⟨⟨i,λj v e=> ?_,λj v e=> ?_,λx v e=> ?_,?_,w.nx⟩,.of i (j9 (c.nr w.toSrt) _ _) (j9 (c.np w.toSrt) _ _) (c.nx w.toSrt) (λj=> ?_) (λj=> ?_) (c.gx w.toSrt)⟩
 .rw[d]at e;by_cases q:j=k;.rw[aB q]at e;cases e;subst q;exact⟨f.1,f.2.1⟩
  .rw[au q]at e;exact w.key j v e
 .rw[B]at e;rw[d,d];by_cases q:j=k
  .rw[aB q]at e;cases e;by_cases z:p=0;.exact .inl z
   .right;have o:¬p=k:=λe=>by subst e;exact E ⟨z,A⟩
    cases e:ak (gR t) p with
    | none=>exact absurd ⟨z,e⟩ E
    | some v=>
     rw[e]at F;refine⟨v,r,by rw[au o],by rw[aB q],?_⟩;have:v < r:=by
      by_cases l:v < r;.exact l
      .exact absurd ⟨z,l⟩ F
     exact this
  .rw[au q]at e;rcases w.par j v e with z | ⟨a,b,m,H,n⟩;.exact .inl z
   .have y:¬v=k:=λe=>by rw[e,A]at m;cases m
    exact .inr ⟨a,b,by rw[au y];exact m,by rw[au q];exact H,n⟩
 .obtain⟨a,q,u⟩:=w.spc x v e;refine⟨a,q,?_⟩;rw[d];have y:¬v=k:=λe=>by rw[e,A]at u;cases u
  rw[au y];exact u
 .show(setGroup _ t.groups).length<=32;rw[(Iw _ _).length_eq,bR];have:(O5 (λh:Group=>h.key !=k.toNat) t.groups).length<=t.groups.length:=fG _ _;show(O5 (λh:Group=>h.key !=k.toNat) t.groups).length+1<=32;omega
 .rw[iJ,d,c.gr w.toSrt]
 .rw[iJ,B,c.gp w.toSrt]
theorem wk {t':Tree} {r p x:Int->Option Int} (g:Srt t') (c:∀j,ak (gR t') j=r j) (h:∀j,ak (gP t') j=p j) (i:∀j,ak (gX t') j=x j)
  (d:∀k v,r k=some v->(1<=k/\k<=1000000000)/\(1<=v/\v<=8)) (par:∀k v,p k=some v->v=0\/∃a b,r v=some a/\r k=some b/\a < b)
  (f:∀k v,x k=some v->(1<=k/\k<=1000000000)/\∃q,r v=some q) (l:t'.groups.length<=32) (nx:t'.specimens.length<=64):WF t':=by
 refine⟨g,λk v e=>d k v (by rw[<-c];exact e),λk v e=> ?_,λk v e=> ?_,l,nx⟩;.simp only[c];exact par k v (by rw[<-h];exact e)
 .simp only[c];exact f k v (by rw[<-i];exact e)
theorem isKey.nn {k:Int} (h:isKey k):0<=k:=by have:=h.1;omega
theorem jr.nn {k:Int} (h:jr k):0<=k:=by rcases h with z | z;omega;exact z.nn
theorem iy.nn {k:Int} (h:iy k):0<=k:=by have:=h.1;omega
theorem lK {d:D} {k v:Int} (h:ak d k=some v):(ak d k).getD 0=v:=by rw[h];rfl
theorem none_or {o:Option Int}:o=none\/∃v,o=some v:=by cases o;exact .inl rfl;exact .inr ⟨_,rfl⟩
theorem ake (w:WF t) (x g:Int):edited s t (.put x g)=
  if ¬(isKey x/\isKey g)then .error (-1)
  else if ak (gR t) g=none then .error (-4)
  else if(ak (gX t) x).getD 0=g then .error (-6)
  else if ak (gX t) x=none/\64<=t.specimens.length then .error (-9)
  else .ok {t with specimens:=setHome (x.toNat,g.toNat) t.specimens}:=by
 refine d8 (qJ (band (g_ x) (g_ g))) (λ_=>rfl) λh=> ?_;have h:=rG.mp h;have a:=h.1.nn;have c:=h.2.nn;refine d8 (by rw[oW c];simp[vo]) (λ_=>rfl) λb=> ?_;refine d8 (by have:=C_ (t:=t) a;omega) (λ_=>rfl) λb=> ?_;refine d8 (by rw[ux w a];exact lZ) (λ_=>rfl) λ_=>rfl
theorem akf (w:WF t) {x g:Int} (d:isKey x/\isKey g) (i:¬ak (gR t) g=none) (m:¬(ak (gX t) x=none/\64<=t.specimens.length)) (a:Rel T t):
  WF {t with specimens:=setHome (x.toNat,g.toNat) t.specimens}/\Rel ⟨T.R,T.P,dput T.X x g⟩ {t with specimens:=setHome (x.toNat,g.toNat) t.specimens}:=by
 have p:=toN d.1.nn;have n:=toN d.2.nn;have b:Srt {t with specimens:=setHome (x.toNat,g.toNat) t.specimens}:=⟨w.g,Iz w.s⟩;have c:∀j,ak (gX {t with specimens:=setHome (x.toNat,g.toNat) t.specimens}) j=if j=x then some g else ak (gX t) j:=λj=>by have:=adt w.s (x.toNat,g.toNat) j;simp only[p,n]at this;exact this
 refine⟨wk b (λ_=>rfl) (λ_=>rfl) c w.key w.par (λk v e=> ?_) w.ng ?_,.of b (a.nr w.toSrt) (a.np w.toSrt) (j9 (a.nx w.toSrt) _ _) (a.gr w.toSrt) (a.gp w.toSrt) (λj=>by rw[iJ,c,a.gx w.toSrt])⟩
 .by_cases q:k=x
  .rw[aB q]at e;cases e;subst q;refine⟨d.1,?_⟩;rcases none_or with z | z;.exact absurd z i
   .exact z
  .rw[au q]at e;exact w.spc k v e
 .show(setHome _ t.specimens).length<=64;have o:(setHome (x.toNat,g.toNat) t.specimens).length=(lX (setHome (x.toNat,g.toNat) t.specimens)).length:=by unfold lX;simp
  have u:=yV (adq (Iz w.s)) (j9 w.ndX _ _) λj=>by rw[iJ];exact c j
  have f:=congrArg iR (Rw (gX t) x g);rw[aJ]at f;have y:(gX t).length=t.specimens.length:=by unfold gX;simp
  have:=w.nx;rw[o,u.length_eq,f];split;.rw[aJ];omega
  .rename_i h;rw[cV,aJ];have z:ak (gX t) x=none:=by cases q:ak (gX t) x with | none=>rfl | some v=>rw[q]at h;simp at h
   have:¬64<=t.specimens.length:=λl=>m ⟨z,l⟩;simp;omega
theorem akg (w:WF t) (x:Int):edited s t (.take x)=
  if ¬isKey x then .error (-1)
  else if ak (gX t) x=none then .error (-4)
  else .ok {t with specimens:=t.specimens.filter λp=>p.1 !=x.toNat}:=by
 refine d8 (qJ (g_ x)) (λ_=>rfl) λh=> ?_;have h:=rG.mp h;refine d8 (ux w h.nn) (λ_=>rfl) λ_=>rfl
theorem akh (w:WF t) {x:Int} (d:isKey x) (a:Rel T t):
  WF {t with specimens:=t.specimens.filter λp=>p.1 !=x.toNat}/\Rel ⟨T.R,T.P,dU T.X x⟩ {t with specimens:=t.specimens.filter λp=>p.1 !=x.toNat}:=by
 have f:=toN d.nn;have b:Srt {t with specimens:=t.specimens.filter λp=>p.1 !=x.toNat}:=⟨w.g,w.s.sublist jf⟩;have c:∀j,ak (gX {t with specimens:=t.specimens.filter λp=>p.1 !=x.toNat}) j=if j=x then none else ak (gX t) j:=λj=>by have:=Rz t.specimens x.toNat j;rw[f]at this;exact this
 refine⟨wk b (λ_=>rfl) (λ_=>rfl) c w.key w.par (λk v e=> ?_) w.ng ?_,.of b (a.nr w.toSrt) (a.np w.toSrt) (yU (a.nx w.toSrt) _) (a.gr w.toSrt) (a.gp w.toSrt) (λj=>by rw[mH,c,a.gx w.toSrt])⟩
 .by_cases q:k=x;.rw[aB q]at e;cases e
  .rw[au q]at e;exact w.spc k v e
 .exact cI (fG _ _) w.nx
theorem aki (g p:Int):edited s t (.move g p)=
  if ¬(isKey g/\jr p)then .error (-1)
  else if ak (gR t) g=none\/(p≠0/\ak (gR t) p=none)then .error (-4)
  else if p≠0/\¬(ak (gR t) p).getD 0 < (ak (gR t) g).getD 0 then .error (-5)
  else if(ak (gP t) g).getD 0=p then .error (-6)
  else .ok {t with groups:=setGroup ⟨g.toNat,rankOf t g.toNat,p.toNat⟩ t.groups}:=by
 refine d8 (qJ (band (g_ g) (RJ p))) (λ_=>rfl) λh=> ?_;have h:=rG.mp h;have c:=h.1.nn;have d:=h.2.nn;refine d8 (by rw[oW c,oW d];simp[vo]) (λ_=>rfl) λe=> ?_;refine d8 (by have a:=nA (t:=t) d;have b:=nA (t:=t) c;simp;omega) (λ_=>rfl) λe=> ?_;refine d8 (by have a:=wj (t:=t) c;omega) (λ_=>rfl) λ_=>rfl
theorem akj (w:WF t) {g p:Int} (h:isKey g/\jr p) (m:¬(ak (gR t) g=none\/(p≠0/\ak (gR t) p=none))) (x:¬(p≠0/\¬(ak (gR t) p).getD 0 < (ak (gR t) g).getD 0)) (b:Rel T t):
  WF {t with groups:=setGroup ⟨g.toNat,rankOf t g.toNat,p.toNat⟩ t.groups}/\Rel ⟨T.R,dput T.P g p,T.X⟩ {t with groups:=setGroup ⟨g.toNat,rankOf t g.toNat,p.toNat⟩ t.groups}:=by
 have n:=toN h.1.nn;have A:=toN h.2.nn;obtain⟨v,d⟩:∃v,ak (gR t) g=some v:=(none_or).resolve_left λz=>m (.inl z);have B:((rankOf t g.toNat:Nat):Int)=v:=by rw[nA h.1.nn,d];rfl
 have c:Srt {t with groups:=setGroup ⟨g.toNat,rankOf t g.toNat,p.toNat⟩ t.groups}:=⟨rQ w.g,w.s⟩;have f:∀j,ak (gR {t with groups:=setGroup ⟨g.toNat,rankOf t g.toNat,p.toNat⟩ t.groups}) j=ak (gR t) j:=λj=>by
  have:=CV w.g ⟨g.toNat,rankOf t g.toNat,p.toNat⟩ j;simp only[n,B]at this;refine this.trans ?_;by_cases q:j=g;.rw[aB q,q,d]
  .rw[au q];rfl
 have i:∀j,ak (gP {t with groups:=setGroup ⟨g.toNat,rankOf t g.toNat,p.toNat⟩ t.groups}) j=if j=g then some p else ak (gP t) j:=λj=>by have:=CW w.g ⟨g.toNat,rankOf t g.toNat,p.toNat⟩ j;simp only[n,A]at this;exact this
 refine⟨wk c f i (λ_=>rfl) w.key (λk a e=> ?_) w.spc ?_ w.nx,.of c (b.nr w.toSrt) (j9 (b.np w.toSrt) _ _) (b.nx w.toSrt) (λj=>by rw[f,b.gr w.toSrt]) (λj=>by rw[iJ,i,b.gp w.toSrt]) (b.gx w.toSrt)⟩
 .by_cases q:k=g
  .rw[aB q]at e;cases e;subst q;by_cases z:p=0;.exact .inl z
   .right;obtain⟨u,o⟩:∃u,ak (gR t) p=some u:=(none_or).resolve_left λy=>m (.inr ⟨z,y⟩);refine⟨u,v,o,d,?_⟩;by_cases l:u < v;.exact l
    .exact absurd ⟨z,by rw[o,d];exact l⟩ x
  .rw[au q]at e;exact w.par k a e
 .have C:=yV (ado (rQ w.g)) w.ndR f;have:=C.length_eq;unfold lR gR at this;rw[aJ,aJ]at this;have:=w.ng;show(setGroup _ t.groups).length<=32;omega
open Classical in
theorem akk (w:WF t) (g r:Int):edited s t (.rank g r)=
  if ¬(isKey g/\iy r)then .error (-1)
  else if ak (gR t) g=none then .error (-4)
  else if((ak (gP t) g).getD 0≠0/\¬(ak (gR t) ((ak (gP t) g).getD 0)).getD 0 < r)\/∃j v,ak (gP t) j=some g/\ak (gR t) j=some v/\v<=r then .error (-5)
  else if(ak (gR t) g).getD 0=r then .error (-6)
  else .ok {t with groups:=setGroup ⟨g.toNat,r.toNat,parentOf t g.toNat⟩ t.groups}:=by
 refine d8 (qJ (band (g_ g) (IK r))) (λ_=>rfl) λh=> ?_;have h:=rG.mp h;have i:=h.1.nn;have N:=h.2.nn;refine d8 (by rw[oW i];simp[vo]) (λ_=>rfl) λu=> ?_;have F:=wj (t:=t) i;refine d8 ?_ (λ_=>rfl) λu=> ?_
 .rw[m6];refine or_congr ?_ ?_
  .have e:(parentOf t g.toNat:Nat)=((ak (gP t) g).getD 0).toNat:=by omega
   have q:=nA (t:=t) (k:=(ak (gP t) g).getD 0) (by omega);rw[<-e]at q;simp;omega
  .unfold children;rw[n6];constructor;.rintro⟨c,f,x⟩;obtain⟨d,b⟩:=cC.mp f;have x:=dz x;have b:=eq_of_beq b;refine⟨c.key,c.rank,(bY w.ndP).mp (aQ.mpr ⟨c,d,?_⟩),(bY w.ndR).mp (aQ.mpr ⟨c,d,rfl⟩),by omega⟩;rw[b,toN i]
   .rintro⟨j,v,B,C,u⟩;obtain⟨c,f,e⟩:=aQ.mp ((bY w.ndP).mpr B);obtain⟨p,n,A⟩:=aQ.mp ((bY w.ndR).mpr C);injection e with l m;injection A with J L;have:c=p:=by
     have o:c.key=p.key:=by omega
     exact jk λI=>by
      have E:=jZ.mpr (w.g.imp λh=>fZ h);obtain⟨y,G,l⟩:=pH f;obtain⟨z,H,m⟩:=pH n;have:y=z:=by
       have a:(t.groups.map (·.key))[y]'(by simpa using G)=(t.groups.map (·.key))[z]'(by simpa using H):=by simp[l,m,o]
       exact(Bg E).mp a
      subst this;exact I (l.symm.trans m)
    subst this;refine⟨c,cC.mpr ⟨f,?_⟩,?_⟩
    .show(c.parent==g.toNat)=true;have:c.parent=g.toNat:=by omega
     rw[this];exact beq_self_eq_true _
    .exact cF (by omega)
 .refine d8 (by have a:=nA (t:=t) i;omega) (λ_=>rfl) λ_=>rfl
theorem akl (w:WF t) {g r:Int} (d:isKey g/\iy r) (H:¬ak (gR t) g=none)
  (f:¬(((ak (gP t) g).getD 0≠0/\¬(ak (gR t) ((ak (gP t) g).getD 0)).getD 0 < r)\/∃j v,ak (gP t) j=some g/\ak (gR t) j=some v/\v<=r)) (c:Rel T t):
  WF {t with groups:=setGroup ⟨g.toNat,r.toNat,parentOf t g.toNat⟩ t.groups}/\Rel ⟨dput T.R g r,T.P,T.X⟩ {t with groups:=setGroup ⟨g.toNat,r.toNat,parentOf t g.toNat⟩ t.groups}:=by
 have F:=toN d.1.nn;have N:=toN d.2.nn;obtain⟨v,O⟩:∃v,ak (gR t) g=some v:=(none_or).resolve_left H;obtain⟨p,h⟩:∃p,ak (gP t) g=some p:=by have:=jR t g;rw[O]at this;exact gj.mp this
 have u:((parentOf t g.toNat:Nat):Int)=p:=by rw[wj d.1.nn,h];rfl
 have o:¬p=g:=λe=>by
  rcases w.par g p h with z | ⟨a,b,E,J,I⟩;.have:=d.1.1;omega
  .rw[e,J]at E;cases E;omega
 have i:Srt {t with groups:=setGroup ⟨g.toNat,r.toNat,parentOf t g.toNat⟩ t.groups}:=⟨rQ w.g,w.s⟩;have C:∀j,ak (gR {t with groups:=setGroup ⟨g.toNat,r.toNat,parentOf t g.toNat⟩ t.groups}) j=if j=g then some r else ak (gR t) j:=λj=>by have:=CV w.g ⟨g.toNat,r.toNat,parentOf t g.toNat⟩ j;simp only[F,N]at this;exact this
 have n:∀j,ak (gP {t with groups:=setGroup ⟨g.toNat,r.toNat,parentOf t g.toNat⟩ t.groups}) j=ak (gP t) j:=λj=>by
  have:=CW w.g ⟨g.toNat,r.toNat,parentOf t g.toNat⟩ j;simp only[F,u]at this;refine this.trans ?_;by_cases q:j=g;.rw[aB q,q,h]
  .rw[au q];rfl
 rw[h]at f;have f:¬((p≠0/\¬(ak (gR t) p).getD 0 < r)\/∃j v,ak (gP t) j=some g/\ak (gR t) j=some v/\v<=r):=f;refine⟨wk i C n (λ_=>rfl) (λk a e=> ?_) (λk a e=> ?_) (λk a e=> ?_) ?_ w.nx,.of i (j9 (c.nr w.toSrt) _ _) (c.np w.toSrt) (c.nx w.toSrt) (λj=>by rw[iJ,C,c.gr w.toSrt]) (λj=>by rw[n,c.gp w.toSrt]) (c.gx w.toSrt)⟩
 .by_cases q:k=g;.rw[aB q]at e;cases e;subst q;exact d
  .rw[au q]at e;exact w.key k a e
 .rcases w.par k a e with z | ⟨x,y,m,B,A⟩;.exact .inl z
  .right;by_cases q:k=g
   .subst q;rw[h]at e;cases e;rw[au o,aB rfl];refine⟨x,r,m,rfl,?_⟩;by_cases l:x < r;.exact l
    .by_cases z:p=0;.subst z;have:=(w.key _ _ m).1;omega
     .exact absurd (.inl ⟨z,by rw[m];exact l⟩) f
   .rw[au q];by_cases G:a=g
    .subst G;rw[aB rfl];refine⟨r,y,rfl,B,?_⟩;by_cases l:r < y;.exact l
     .exact absurd (.inr ⟨k,y,e,B,by omega⟩) f
    .rw[au G];exact⟨x,y,m,B,A⟩
 .obtain⟨b,q,L⟩:=w.spc k a e;refine⟨b,?_⟩;by_cases z:a=g;.exact⟨r,by rw[aB z]⟩
  .exact⟨q,by rw[au z];exact L⟩
 .have Q:(lP (setGroup ⟨g.toNat,r.toNat,parentOf t g.toNat⟩ t.groups)).Perm (gP t):=yV (adp (rQ w.g)) w.ndP n;have:=Q.length_eq;unfold lP gP at this;rw[aJ,aJ]at this;have:=w.ng;show(setGroup _ t.groups).length<=32;omega
end
def iK (d:D) (ks:List Int) (v:Int):D:=ks.foldl (λe k=>dput e k v) d
theorem ady (d:D) (k:Int) (ks:List Int) (v:Int):iK d (k::ks) v=iK (dput d k v) ks v:=rfl
theorem IW (v:Int):∀ks d j,ak (iK d ks v) j=if j∈ks then some v else ak d j
 | [],d,j=>by simp[iK]
 | k::ks,d,j=>by
  rw[ady,IW v ks,iJ];by_cases h:j∈ks;.simp[h]
  .by_cases e:j=k <;> simp[h,e]
theorem I_ (v:Int):∀(ks:List Int) {d:D},ND d->ND (iK d ks v)
 | [],_,h=>h
 | k::ks,_,h=>I_ v ks (j9 h k v)
def kin (d:D) (o:Int):List Int:=(d.filter λp=>decide (p.2=o)).map (·.1)
theorem lM (h:ND d):j∈kin d o↔ak d j=some o:=by
 unfold kin;rw[aQ];constructor;.rintro⟨p,c,rfl⟩;obtain⟨b,a⟩:=cC.mp c;have a:=dz a;rw[<-a];exact(bY h).mp b
 .intro e;exact⟨(j,o),cC.mpr ⟨(bY h).mpr e,cF rfl⟩,rfl⟩
def lN (d:D) (o n:Int):D:=iK d (kin d o) n
def turn (o n:Int) (v:Int):Int:=if v=o then n else v
theorem RK (h:ND d) (o n j:Int):ak (lN d o n) j=(ak d j).map (turn o n):=by
 unfold lN;rw[IW];by_cases e:ak d j=some o;.rw[aB ((lM h).mpr e),e];simp[turn]
 .rw[au λm=>e ((lM h).mp m)];cases q:ak d j with
  | none=>rfl
  | some v=>have:¬v=o:=λz=>e (by rw[q,z]);simp[turn,this]
theorem adz (h:ND d) (o n:Int):ND (lN d o n):=I_ n _ h
section
variable {s:State} {t:Tree} {T:cG}
theorem akm (a b:Int):edited s t (.lump a b)=
    if ¬(isKey a/\isKey b)then .error (-1)
    else if ak (gR t) a=none\/ak (gR t) b=none then .error (-4)
    else if a=b then .error (-6)
    else if(ak (gR t) a).getD 0≠(ak (gR t) b).getD 0 then .error (-5)
    else .ok ⟨(t.groups.filter λg=>g.key !=b.toNat).map λg=>if g.parent=b.toNat then{g with parent:=a.toNat}else g,
       t.specimens.map λp=>if p.2=b.toNat then(p.1,a.toNat)else p⟩:=by
  refine d8 (qJ (band (g_ a) (g_ b))) (λ_=>rfl) λh=> ?_;have h:=rG.mp h;have c:=h.1.nn;have d:=h.2.nn;refine d8 (by rw[oW c,oW d];simp[vo]) (λ_=>rfl) λe=> ?_;refine d8 lZ (λ_=>rfl) λe=> ?_;refine d8 (by have p:=nA (t:=t) c;have q:=nA (t:=t) d;omega) (λ_=>rfl) λ_=>rfl
theorem adA (w:WF t) (n:isKey b) (o:jr p) (a:Rel T t) (t':Tree)
  (c:t'=⟨(t.groups.filter λg=>g.key !=b.toNat).map λg=>if g.parent=b.toNat then{g with parent:=p.toNat}else g,t.specimens.map λq=>if q.2=b.toNat then(q.1,p.toNat)else q⟩):
  Srt t'/\(∀j,ak (gR t') j=if j=b then none else ak (gR t) j)/\(∀j,ak (gP t') j=if j=b then none else(ak (gP t) j).map (turn b p))/\(∀j,ak (gX t') j=(ak (gX t) j).map (turn b p))/\
  Rel ⟨dU T.R b,dU (lN T.P b p) b,lN T.X b p⟩ t'/\t'.groups.length<=32/\t'.specimens.length<=64:=by
 have d:=toN n.nn;have f:=toN o.nn;have h:Srt t':=by
  subst c;refine⟨RB (w.g.sublist jf) _ λg=> ?_,RD w.s _ λq=> ?_⟩;.split <;> rfl
  .split <;> rfl
 have l:∀j,ak (gR t') j=if j=b then none else ak (gR t) j:=λj=>by subst c;have e:=adu (t.groups.filter λg=>g.key !=b.toNat) (λg=>if g.parent=b.toNat then{g with parent:=p.toNat}else g) (λg=>by split <;> rfl) (λg=>by split <;> rfl);have q:=Rx t.groups b.toNat j;rw[d,<-e]at q;exact q
 have i:∀j,ak (gP t') j=if j=b then none else(ak (gP t) j).map (turn b p):=λj=>by
  subst c;have e:=adv (t.groups.filter λg=>g.key !=b.toNat) (λg=>if g.parent=b.toNat then{g with parent:=p.toNat}else g) (λ_ v=>turn b p v) (λg=>by split <;> rfl) (λg=>by
   dsimp only[turn];by_cases z:g.parent=b.toNat;.rw[aB z,aB (by omega)];exact f
   .rw[au z,au (by omega)]) j
  have q:=Ry t.groups b.toNat j;rw[d]at q;rw[q]at e;refine Qu e ?_;by_cases z:j=b;.rw[aB z,aB z];rfl
  .rw[au z,au z];rfl
 have m:∀j,ak (gX t') j=(ak (gX t) j).map (turn b p):=λj=>by
  subst c;exact adw t.specimens (λq=>if q.2=b.toNat then(q.1,p.toNat)else q) (λ_ v=>turn b p v) (λg=>by split <;> rfl) (λg=>by
   dsimp only[turn];by_cases z:g.2=b.toNat;.rw[aB z,aB (by omega)];exact f
   .rw[au z,au (by omega)]) j
 refine⟨h,l,i,m,.of h (yU (a.nr w.toSrt) _) (yU (adz (a.np w.toSrt) _ _) _) (adz (a.nx w.toSrt) _ _) (λj=>by rw[mH,l,a.gr w.toSrt]) (λj=>by rw[mH,RK (a.np w.toSrt),i,a.gp w.toSrt]) (λj=>by rw[RK (a.nx w.toSrt),m,a.gx w.toSrt]),?_,?_⟩;.subst c;rw[aJ];exact cI (fG _ _) w.ng
 .subst c;rw[aJ];exact w.nx
theorem map_some {o:Option Int} {f:Int->Int} {v:Int} (h:o.map f=some v):∃u,o=some u/\f u=v:=by
 cases o with
 | none=>cases h
 | some u=>exact⟨u,rfl,by injection h⟩
theorem akn (w:WF t) (j:isKey a/\isKey b) (C:¬(ak (gR t) a=none\/ak (gR t) b=none)) (E:¬a=b) (F:¬(ak (gR t) a).getD 0≠(ak (gR t) b).getD 0) (A:Rel T t) (t':Tree)
  (Q:t'=⟨(t.groups.filter λg=>g.key !=b.toNat).map λg=>if g.parent=b.toNat then{g with parent:=a.toNat}else g,t.specimens.map λp=>if p.2=b.toNat then(p.1,a.toNat)else p⟩):
  WF t'/\Rel ⟨dU T.R b,dU (lN T.P b a) b,lN T.X b a⟩ t':=by
 obtain⟨B,J,I,N,L,S,U⟩:=adA w j.2 (.inr j.1) A t' Q;obtain⟨u,m⟩:∃u,ak (gR t) a=some u:=(none_or).resolve_left λz=>C (.inl z);obtain⟨v,G⟩:∃v,ak (gR t) b=some v:=(none_or).resolve_left λz=>C (.inr z);have n:u=v:=by rw[m,G]at F;exact rG.mp F
 subst n;refine⟨wk B J I N (λk q e=> ?_) (λk q e=> ?_) (λk q e=> ?_) S U,L⟩
 .by_cases z:k=b;.rw[aB z]at e;cases e
  .rw[au z]at e;exact w.key k q e
 .by_cases z:k=b;.rw[aB z]at e;cases e
  .rw[au z]at e;obtain⟨o,l,f⟩:=map_some e;rw[au z];unfold turn at f;rcases w.par k o l with W | ⟨x,y,s,H,i⟩;.left;rw[au (by have:=j.2.1;omega)]at f;omega
   .right;by_cases h:o=b;.rw[aB h]at f;subst f;rw[h,G]at s;cases s;exact⟨u,y,by rw[au E];exact m,H,i⟩
    .rw[au h]at f;subst f;exact⟨x,y,by rw[au h];exact s,H,i⟩
 .obtain⟨o,l,f⟩:=map_some e;obtain⟨c,d,O⟩:=w.spc k o l;refine⟨c,?_⟩;unfold turn at f;by_cases h:o=b;.rw[aB h]at f;subst f;exact⟨u,by rw[au E];exact m⟩
  .rw[au h]at f;subst f;exact⟨d,by rw[au h];exact O⟩
open Classical in
theorem ako (w:WF t) (g:Int):edited s t (.dissolve g)=
    if ¬isKey g then .error (-1)
    else if ak (gR t) g=none then .error (-4)
    else if(ak (gP t) g).getD 0=0/\∃x,ak (gX t) x=some g then .error (-5)
    else .ok ⟨(t.groups.filter λc=>c.key !=g.toNat).map λc=>if c.parent=g.toNat then{c with parent:=((ak (gP t) g).getD 0).toNat}else c,
         t.specimens.map λq=>if q.2=g.toNat then(q.1,((ak (gP t) g).getD 0).toNat)else q⟩:=by
  refine d8 (qJ (g_ g)) (λ_=>rfl) λh=> ?_
  have h:=rG.mp h
  have a:=h.nn
  have e:(parentOf t g.toNat:Nat)=((ak (gP t) g).getD 0).toNat:=by have:=wj (t:=t) a;omega
  refine d8 (by rw[oW a];simp[vo]) (λ_=>rfl) λn=> ?_
  rw[e]
  refine d8 (and_congr ?_ ?_) (λ_=>rfl) λ_=>rfl
  · have:=wj (t:=t) a;omega
  · unfold own
    rw[List.isEmpty_eq_false_iff]
    constructor
    · intro q
      obtain⟨x,i⟩:=List.exists_mem_of_ne_nil _ q
      obtain⟨p,b,rfl⟩:=aQ.mp i
      obtain⟨d,f⟩:=cC.mp b
      refine⟨p.1,(bY w.ndX).mp (aQ.mpr ⟨p,d,?_⟩)⟩
      have:=eq_of_beq f
      rw[this,toN a]
    · rintro⟨x,i⟩ q
      obtain⟨p,b,j⟩:=aQ.mp ((bY w.ndX).mpr i)
      injection j with l m
      have:p∈t.specimens.filter λp=>p.2==g.toNat:=cC.mpr ⟨b,by
        have:p.2=g.toNat:=by omega
        rw[this];exact beq_self_eq_true _⟩
      rw[O6.mp q]at this
      cases this
theorem akp (w:WF t) (C:isKey g) (Z:¬ak (gR t) g=none) (L:¬((ak (gP t) g).getD 0=0/\∃x,ak (gX t) x=some g)) (H:Rel T t) (t':Tree)
    (N:t'=⟨(t.groups.filter λc=>c.key !=g.toNat).map λc=>if c.parent=g.toNat then{c with parent:=((ak (gP t) g).getD 0).toNat}else c,
         t.specimens.map λq=>if q.2=g.toNat then(q.1,((ak (gP t) g).getD 0).toNat)else q⟩):
    WF t'/\Rel ⟨dU T.R g,dU (lN T.P g ((ak (gP t) g).getD 0)) g,lN T.X g ((ak (gP t) g).getD 0)⟩ t':=by
  obtain⟨v,E⟩:∃v,ak (gR t) g=some v:=(none_or).resolve_left Z
  obtain⟨p,l⟩:∃p,ak (gP t) g=some p:=by
    have:=jR t g
    rw[E]at this
    exact gj.mp this
  have Y:(ak (gP t) g).getD 0=p:=by rw[l];rfl
  rw[Y]at N L ⊢
  have m:jr p:=by
    rcases w.par g p l with z | ⟨a,b,u,_⟩
    · exact .inl z
    · exact .inr (w.key _ _ u).1
  have n:¬p=g:=λe=>by
    rcases w.par g p l with z | ⟨a,b,u,hb,hab⟩
    · have:=C.1;omega
    · rw[e,hb]at u;cases u;omega
  obtain⟨I,S,Q,W,U,l1,l2⟩:=adA w C m H t' N
  refine⟨wk I S Q W (λk q e=> ?_) (λk q e=> ?_) (λk q e=> ?_) l1 l2,U⟩
  · by_cases z:k=g
    · rw[aB z]at e;cases e
    · rw[au z]at e;exact w.key k q e
  · by_cases z:k=g
    · rw[aB z]at e;cases e
    · rw[au z]at e
      obtain⟨o,A,f⟩:=map_some e
      rw[au z]
      unfold turn at f
      rcases w.par k o A with B | ⟨x,y,F,O,G⟩
      · left
        rw[au (by have:=C.1;omega)]at f
        omega
      · by_cases h:o=g
        · rw[aB h]at f
          subst f
          rw[h,E]at F
          cases F
          rcases w.par g p l with B | ⟨J,y',i,j,s⟩
          · exact .inl B
          · rw[E]at j
            cases j
            exact .inr ⟨J,y,by rw[au n];exact i,O,by omega⟩
        · rw[au h]at f
          subst f
          exact .inr ⟨x,y,by rw[au h];exact F,O,G⟩
  · obtain⟨o,A,f⟩:=map_some e
    obtain⟨c,d,hd⟩:=w.spc k o A
    refine⟨c,?_⟩
    unfold turn at f
    by_cases h:o=g
    · rw[aB h]at f
      subst f
      rcases w.par g p l with B | ⟨J,y',i,j,s⟩
      · exact absurd ⟨B,k,by rw[A,h]⟩ L
      · exact⟨J,by rw[au n];exact i⟩
    · rw[au h]at f
      subst f
      exact⟨d,by rw[au h];exact hd⟩
theorem Ja:∀l:List Nat,distinct l=decide l.Nodup
 | []=>by simp[distinct]
 | x::l=>by unfold distinct;rw[Ja l];by_cases h:x∈l <;> simp[h]
def mJ (l:List Int):Prop:=(∀x∈l,isKey x)/\l.Nodup
open Classical in
theorem RM (l:List Int):keys l=decide (mJ l):=by
 unfold keys nats;rw[Ja];by_cases h:∀x∈l,isKey x
 .have f:l.all keyed=true:=by rw[m5];intro x d;rw[g_];exact cF (h x d)
  rw[f,rC];refine fH ⟨λn=>⟨h,?_⟩,λn=> ?_⟩;.have:=jZ.mp n;exact this.imp λc e=>c (by rw[e])
  .refine jZ.mpr (n.2.imp_of_mem λ{a b} g i c e=>c ?_);have:=(h a g).nn;have:=(h b i).nn;omega
 .have f:l.all keyed=false:=by rw[List.all_eq_false];obtain⟨x,d⟩:=ahU.mp h;obtain⟨d,j⟩:=ahV.mp d;exact⟨x,d,by rw[g_];simpa using j⟩
  rw[f,GQ];exact(cY λn=>h n.1).symm
open Classical in
theorem akq (a k:Int) (b xs:List Int):edited s t (.split a k b xs)=
    if ¬(isKey a/\isKey k/\mJ b/\mJ xs)then .error (-1)
    else if(ak (gR t) k).isSome=true then .error (-2)
    else if ak (gR t) a=none\/(∃g∈b,ak (gP t) g≠some a)\/∃x∈xs,ak (gX t) x≠some a then .error (-4)
    else if b=[]/\xs=[]then .error (-6)
    else if 32<=t.groups.length then .error (-9)
    else .ok ⟨setGroup ⟨k.toNat,rankOf t a.toNat,parentOf t a.toNat⟩ (t.groups.map λg=>if(nats b).contains g.key=true then{g with parent:=k.toNat}else g),
       t.specimens.map λp=>if(nats xs).contains p.1=true then(p.1,k.toNat)else p⟩:=by
  refine d8 (qJ (band (g_ a) (band (g_ k) (band (RM b) (RM xs))))) (λ_=>rfl) λh=> ?_
  have h:=rG.mp h
  have i:=h.1.nn
  have j:=h.2.1.nn
  refine d8 (by rw[IV j]) (λ_=>rfl) λf=> ?_
  refine d8 ?_ (λ_=>rfl) λf=> ?_
  · rw[m6,m6,oW i]
    refine or_congr (by simp[vo]) (or_congr ?_ ?_)
    · rw[n6]
      refine exists_congr λg=>qC λd=> ?_
      have q:=wj (t:=t) (h.2.2.1.1 g d).nn
      have c:=h.1.1
      rw[bne_iff_ne]
      cases e:ak (gP t) g with
      | none=>rw[e]at q;simp at q;simp;omega
      | some v=>rw[e]at q;simp at q;simp;omega
    · rw[n6]
      refine exists_congr λg=>qC λd=> ?_
      have q:=C_ (t:=t) (h.2.2.2.1 g d).nn
      have c:=h.1.1
      rw[bne_iff_ne]
      cases e:ak (gX t) g with
      | none=>rw[e]at q;simp at q;simp;omega
      | some v=>rw[e]at q;simp at q;simp;omega
  · refine d8 (by simp) (λ_=>rfl) λ_=> ?_
    exact d8 lZ (λ_=>rfl) λ_=>rfl
theorem Jb (h:∀x∈gs,isKey x) (k:Nat):(nats gs).contains k=true↔(k:Int)∈gs:=by
 rw[n8];unfold nats;rw[aQ];constructor
 .rintro⟨x,a,e⟩;have:=(h x a).nn;have b:(k:Int)=x:=by omega
  rw[b];exact a
 .intro m;exact⟨k,m,by omega⟩
theorem akr (w:WF t) (n:isKey a/\isKey k/\mJ gs/\mJ xs) (h2:¬(ak (gR t) k).isSome=true)
    (L:¬(ak (gR t) a=none\/(∃g∈gs,ak (gP t) g≠some a)\/∃x∈xs,ak (gX t) x≠some a)) (h5:¬32<=t.groups.length) (i:Rel T t) (t':Tree)
    (C:t'=⟨setGroup ⟨k.toNat,rankOf t a.toNat,parentOf t a.toNat⟩ (t.groups.map λg=>if(nats gs).contains g.key=true then{g with parent:=k.toNat}else g),
       t.specimens.map λp=>if(nats xs).contains p.1=true then(p.1,k.toNat)else p⟩):
    WF t'/\Rel ⟨dput T.R k ((ak (gR t) a).getD 0),iK (dput T.P k ((ak (gP t) a).getD 0)) gs k,iK T.X xs k⟩ t':=by
  have H:=toN n.2.1.nn
  obtain⟨v,u⟩:∃v,ak (gR t) a=some v:=(none_or).resolve_left λz=>L (.inl z)
  obtain⟨p,O⟩:∃p,ak (gP t) a=some p:=by
    have:=jR t a
    rw[u]at this
    exact gj.mp this
  have E:ak (gR t) k=none:=by cases e:ak (gR t) k with | none=>rfl | some v=>rw[e]at h2;simp at h2
  have F:ak (gP t) k=none:=by
    have:=jR t k
    rw[E]at this
    cases e:ak (gP t) k with | none=>rfl | some v=>rw[e]at this;simp at this
  have A:=λg A=>jk λz=>L (.inr (.inl ⟨g,A,z⟩))
  have I:=λg A=>jk λz=>L (.inr (.inr ⟨g,A,z⟩))
  have kg:¬k∈gs:=λm=>by rw[A k m]at F;cases F
  have S:((rankOf t a.toNat:Nat):Int)=v:=by rw[nA n.1.nn,u];rfl
  have Q:((parentOf t a.toNat:Nat):Int)=p:=by rw[wj n.1.nn,O];rfl
  have W:(t.groups.map λg=>if(nats gs).contains g.key=true then{g with parent:=k.toNat}else g).Pairwise λa b=>a.key < b.key:=RB w.g _ λg=>by split <;> rfl
  have G:Srt t':=by
    subst C
    exact⟨rQ W,RD w.s _ λq=>by split <;> rfl⟩
  have R':∀j,ak (gR t') j=if j=k then some v else ak (gR t) j:=λj=>by
    subst C
    have e:=CV W ⟨k.toNat,rankOf t a.toNat,parentOf t a.toNat⟩ j
    rw[adu _ _ (λg=>by split <;> rfl) (λg=>by split <;> rfl)]at e
    simp only[H,S]at e
    exact e
  have Z:∀j,ak (gP t') j=if j∈gs then some k else if j=k then some p else ak (gP t) j:=λj=>by
    subst C
    have e:=CW W ⟨k.toNat,rankOf t a.toNat,parentOf t a.toNat⟩ j
    rw[adv _ _ (λj q=>if j∈gs then k else q) (λg=>by split <;> rfl) (λg=>by
      by_cases z:(g.key:Int)∈gs
      · rw[aB z,aB ((Jb n.2.2.1.1 _).mpr z)];exact H
      · rw[au z,au λy=>z ((Jb n.2.2.1.1 _).mp y)])]at e
    simp only[H,Q]at e
    refine Qu e ?_
    by_cases z:j∈gs
    · have B:¬j=k:=λy=>kg (y▸z)
      rw[au B,aB z]
      have:ak (lP t.groups) j=some a:=A j z
      rw[this]
      simp[z]
    · rw[au z]
      by_cases y:j=k
      · rw[aB y,aB y]
      · rw[au y,au y]
        show aa_ _ (ak (gP t) j)=_
        simp only[z,if_false]
        cases ak (gP t) j <;> rfl
  have X':∀j,ak (gX t') j=if j∈xs then some k else ak (gX t) j:=λj=>by
    subst C
    have e:=adw t.specimens (λp=>if(nats xs).contains p.1=true then(p.1,k.toNat)else p) (λj q=>if j∈xs then k else q) (λg=>by split <;> rfl) (λg=>by
      by_cases z:(g.1:Int)∈xs
      · rw[aB z,aB ((Jb n.2.2.2.1 _).mpr z)];exact H
      · rw[au z,au λy=>z ((Jb n.2.2.2.1 _).mp y)]) j
    refine Qu e ?_
    by_cases z:j∈xs
    · rw[aB z]
      have:ak (lX t.specimens) j=some a:=I j z
      rw[this]
      simp[z]
    · rw[au z]
      show aa_ _ (ak (gX t) j)=_
      simp only[z,if_false]
      cases ak (gX t) j <;> rfl
  have ev:(ak (gR t) a).getD 0=v:=by rw[u];rfl
  have ep:(ak (gP t) a).getD 0=p:=by rw[O];rfl
  rw[ev,ep]
  have hak:¬a=k:=λe=>by rw[e,E]at u;cases u
  refine⟨wk G R' Z X' (λj q e=> ?_) (λj q e=> ?_) (λj q e=> ?_) ?_ ?_,.of G (j9 (i.nr w.toSrt) _ _) (I_ _ _ (j9 (i.np w.toSrt) _ _)) (I_ _ _ (i.nx w.toSrt)) (λj=>by rw[iJ,R',i.gr w.toSrt]) (λj=>by rw[IW,iJ,Z,i.gp w.toSrt]) (λj=>by rw[IW,X',i.gx w.toSrt])⟩
  · by_cases z:j=k
    · rw[aB z]at e;cases e;subst z;exact⟨n.2.1,(w.key _ _ u).2⟩
    · rw[au z]at e;exact w.key j q e
  · by_cases z:j∈gs
    · rw[aB z]at e
      cases e
      right
      have B:¬j=k:=λy=>kg (y▸z)
      rw[aB rfl,au B]
      rcases w.par j a (A j z)with J | ⟨x,y,I,hy,U⟩
      · have:=n.1.1;omega
      · rw[u]at I;cases I
        exact⟨v,y,rfl,hy,U⟩
    · rw[au z]at e
      by_cases y:j=k
      · rw[aB y]at e
        cases e
        rcases w.par a p O with J | ⟨Y,y',f,o,l⟩
        · exact .inl J
        · right
          have:¬p=k:=λe=>by rw[e,E]at f;cases f
          rw[u]at o;cases o
          rw[au this,aB y]
          exact⟨Y,v,f,rfl,l⟩
      · rw[au y]at e
        rcases w.par j q e with J | ⟨Y,y',f,o,l⟩
        · exact .inl J
        · have:¬q=k:=λe=>by rw[e,E]at f;cases f
          rw[au this,au y]
          exact .inr ⟨Y,y',f,o,l⟩
  · by_cases z:j∈xs
    · rw[aB z]at e
      cases e
      exact⟨n.2.2.2.1 j z,v,by rw[aB rfl]⟩
    · rw[au z]at e
      obtain⟨c,d,N⟩:=w.spc j q e
      have:¬q=k:=λe=>by rw[e,E]at N;cases N
      exact⟨c,d,by rw[au this];exact N⟩
  · subst C
    show(setGroup _ _).length<=32
    rw[(Iw _ _).length_eq,bR]
    have:(O5 (λh:Group=>h.key !=k.toNat) (t.groups.map λg=>if(nats gs).contains g.key=true then{g with parent:=k.toNat}else g)).length<=t.groups.length:=cI (fG _ _) (by rw[aJ];exact bW _)
    exact Nat.succ_le_of_lt (gD this (Gv h5))
  · subst C
    rw[aJ]
    exact w.nx
end
def h_ (most:Nat):Nat->List Nat->Nat×List Nat
 | n,[]=>(n,[])
 | n,c::r=>if digit c=true then(if n * 10+(c-48)=0\/most < n * 10+(c-48)then(0,r)else h_ most (n * 10+(c-48)) r)else(n,c::r)
theorem RN (c:Nat) (w:List Nat) (n:Nat):(c::w).foldl (λn c=>10 * n+(c-48)) n=w.foldl (λn c=>10 * n+(c-48)) (n * 10+(c-48)):=by rw[u9,aas]
theorem adB (w:List Nat):∀n:Nat,n * 10 ^ w.length<=w.foldl (λn c=>10 * n+(c-48)) n:=by
 induction w with
 | nil=>intro n;simp
 | cons c w a=>intro n;rw[RN,bR];refine cI ?_ (a _);rw[Nat.pow_succ,aas (10 ^ w.length),<-Nat.mul_assoc];exact Gw _ (by omega)
theorem adC (most:Nat):∀t n,0 < n->n<=most->
  h_ most n t=if(t.takeWhile digit).foldl (λn c=>10 * n+(c-48)) n<=most then((t.takeWhile digit).foldl (λn c=>10 * n+(c-48)) n,t.drop (t.takeWhile digit).length)else(0,(h_ most n t).2)
 | [],n,h,e=>by unfold h_;simp[e]
 | c::r,n,h,e=>by
  unfold h_;by_cases b:digit c=true
  .rw[aB b,GD,aB b,RN];by_cases g:n * 10+(c-48)=0\/most < n * 10+(c-48)
   .rw[aB g];have g:most < n * 10+(c-48):=by omega
    have:=adB (r.takeWhile digit) (n * 10+(c-48));have f:1<=10 ^ (r.takeWhile digit).length:=aat (by omega);have:n * 10+(c-48)<=(n * 10+(c-48)) * 10 ^ (r.takeWhile digit).length:=aau _ f;rw[au (by omega)]
   .rw[au g];have a:0 < n * 10+(c-48)/\n * 10+(c-48)<=most:=by omega
    have d:=adC most r (n * 10+(c-48)) a.1 a.2;by_cases i:(r.takeWhile digit).foldl (λn c=>10 * n+(c-48)) (n * 10+(c-48))<=most;.rw[aB i]at d ⊢;exact d
    .rw[au i]at d ⊢;exact d
  .rw[au b,GD,au b];simp[e]
theorem adD (h:digit c=true):48<=c/\c<=57:=by unfold digit at h;simp at h;exact h
theorem yX (y:0 < most) (v:most<=1000000000) (t:List Nat):
  (readNumber most t=none->(h_ most 0 t).1=0)/\∀n r,readNumber most t=some (n,r)->h_ most 0 t=(n,r)/\1<=n/\n<=most/\r.length < t.length:=by
 cases t with
 | nil=>exact⟨λ_=>rfl,λn r h=>by simp[readNumber]at h⟩
 | cons c r=>
  by_cases d:digit c=true
  .have x:=adD d;have j:(0:Nat) * 10+(c-48)=c-48:=by omega
   have a:h_ most 0 (c::r)=if c-48=0\/most < c-48 then(0,r)else h_ most (c-48) r:=by rw[h_,aB d,j]
   have b:readNumber most (c::r)=if c::r.takeWhile digit=[]\/((c::r.takeWhile digit).head? =some 48\/(10 < (c::r.takeWhile digit).length\/most < valueOf (c::r.takeWhile digit)))then none
     else some (valueOf (c::r.takeWhile digit),(c::r).drop (c::r.takeWhile digit).length):=by
    unfold readNumber;dsimp only;rw[GD,aB d]
   have p:valueOf (c::r.takeWhile digit)=(r.takeWhile digit).foldl (λn c=>10 * n+(c-48)) (c-48):=by unfold valueOf;rw[RN,j]
   have w:=adB (r.takeWhile digit) (c-48);have e:1<=10 ^ (r.takeWhile digit).length:=aat (by omega);have s:(c-48)<=(c-48) * 10 ^ (r.takeWhile digit).length:=aau _ e;rw[a,b,p];by_cases z:c=48;.subst z;rw[aB (show 48-48=0\/most < 48-48 from .inl rfl),aB (show 48::r.takeWhile digit=[]\/_ from .inr (.inl rfl))];exact⟨λ_=>rfl,λn r h=>by cases h⟩
   .by_cases f:most < c-48;.rw[aB (show c-48=0\/most < c-48 from .inr f),aB (.inr (.inr (.inr (by omega))))];exact⟨λ_=>rfl,λn r h=>by cases h⟩
    .rw[au (show ¬(c-48=0\/most < c-48)by omega)];have q:=adC most r (c-48) (by omega) (by omega);by_cases g:(r.takeWhile digit).foldl (λn c=>10 * n+(c-48)) (c-48)<=most
     .rw[aB g]at q;have o:(r.takeWhile digit).length < 10:=by refine Gv λl=> ?_;have:10 ^ 10<=10 ^ (r.takeWhile digit).length:=Nat.pow_le_pow_right (by omega) l;have m:10 ^ (r.takeWhile digit).length<=(c-48) * 10 ^ (r.takeWhile digit).length:=Nat.le_mul_of_pos_left _ (by omega);omega
      rw[au (by
       rintro(h | h | h | h);.cases h
       .simp at h;exact z h
       .rw[bR]at h;omega
       .omega)]
      refine⟨λh=>(by cases h),λn A h=> ?_⟩;injection h with h;injection h with u m;subst u;subst m;refine⟨?_,?_,g,?_⟩;.rw[q,bR,aaK]
      .omega
      .rw[bR,aaK,bR];have:=rB (i:=(r.takeWhile digit).length) (l:=r);omega
     .rw[au g]at q;rw[aB (.inr (.inr (.inr (by omega))))];exact⟨λ_=>by rw[q],λn r h=>by cases h⟩
  .have a:h_ most 0 (c::r)=(0,c::r):=by rw[h_,au d]
   have b:readNumber most (c::r)=none:=by unfold readNumber;dsimp only;rw[GD,au d,aB (.inl rfl)]
   rw[a,b];exact⟨λ_=>rfl,λn r h=>by cases h⟩
theorem wz (h:readNumber most t=some (n,r)):r.length < t.length:=by
 unfold readNumber at h;dsimp only at h;split at h;.cases h
 .rename_i b;injection h with h;injection h with d a;subst a;have c:=λe=>b (.inl e);have f:=rB (i:=(t.takeWhile digit).length) (l:=t);have:0 < (t.takeWhile digit).length:=aaL.mpr c;have:=(List.takeWhile_sublist digit (l:=t)).length_le;omega
theorem Dc (f:Nat) (t:List Nat):readOwn (f+1) t=match readNumber KEY t with
  | none=>none
  | some (n,r)=>if r.head? =some 93 then some ([n],r.tail)else if r.head? =some 32 then(readOwn f r.tail).map λp=>(n::p.1,p.2)else none:=by
 rw[readOwn];cases e:readNumber KEY t with
 | none=>rfl
 | some p=>
  obtain⟨n,r⟩:=p;cases r with
  | nil=>rfl
  | cons c r=>
   by_cases a:c=93;.subst a;rfl
   .by_cases b:c=32;.subst b;rfl
    .dsimp only;rw[au (by simpa using a),au (by simpa using b)];split <;> simp_all
theorem RP:∀f a t,t.length < f->t.length < a->readOwn f t=readOwn a t
 | 0,_,_,h,_=>by omega
 | _,0,_,_,h=>by omega
 | f+1,a+1,t,h,b=>by
  rw[Dc,Dc];cases e:readNumber KEY t with
  | none=>rfl
  | some p=>obtain⟨n,r⟩:=p;have c:=wz e;dsimp only;rw[RP f a r.tail (by rw[dW];omega) (by rw[dW];omega)]
theorem adE:∀f t xs r,readOwn f t=some (xs,r)->r.length < t.length
 | 0,_,_,_,h=>by cases h
 | f+1,t,xs,r,h=>by
  rw[Dc]at h;cases e:readNumber KEY t with
  | none=>rw[e]at h;cases h
  | some p=>
   obtain⟨n,c⟩:=p;have g:=wz e;rw[e]at h;dsimp only at h;split at h;.injection h with h;injection h with d b;rw[<-b,dW];omega
   .split at h
    .cases a:readOwn f c.tail with
     | none=>rw[a]at h;cases h
     | some p=>rw[a]at h;injection h with h;injection h with d b;have:=adE f c.tail p.1 p.2 a;rw[dW]at this;rw[<-b];omega
    .cases h
def RO (t:List Nat):Option (List Nat×List Nat):=readOwn (t.length+1) t
theorem aks (t:List Nat):RO t=match readNumber KEY t with
  | none=>none
  | some (n,r)=>if r.head? =some 93 then some ([n],r.tail)else if r.head? =some 32 then(RO r.tail).map λp=>(n::p.1,p.2)else none:=by
 unfold RO;rw[Dc];cases e:readNumber KEY t with
 | none=>rfl
 | some p=>obtain⟨n,r⟩:=p;have a:=wz e;dsimp only;rw[RP t.length (r.tail.length+1) r.tail (by rw[dW];omega) (by omega)]
def RH (t:List Nat):Option ((Nat×Nat×List Nat)×List Nat):=match readNumber RANKS t with
 | none=>none
 | some (c,a)=>if a.head? =some 58 then(match readNumber KEY a.tail with
  | none=>none
  | some (d,b)=>if b.head? =some 91 then(RO b.tail).map λp=>((c,d,p.1),p.2)else some ((c,d,[]),b))else none
theorem Dd (e:RH t=some (h,r)):r.length < t.length:=by
 unfold RH at e;cases c:readNumber RANKS t with
 | none=>rw[c]at e;cases e
 | some p=>
  obtain⟨g,a⟩:=p;have m:=wz c;rw[c]at e;dsimp only at e;split at e
  .cases d:readNumber KEY a.tail with
   | none=>rw[d]at e;cases e
   | some p=>
    obtain⟨i,b⟩:=p;have j:=wz d;rw[dW]at j;rw[d]at e;dsimp only at e;split at e
    .cases f:RO b.tail with
     | none=>rw[f]at e;cases e
     | some p=>rw[f]at e;injection e with e;injection e with _ e;have l:=adE _ _ _ _ f;rw[dW]at l;rw[<-e];omega
    .injection e with e;injection e with _ e;rw[<-e];omega
  .cases e
theorem Dg (f deep parent:Nat) (t:List Nat) (B:t.length < f+1):readGroups (f+1) deep parent t=match RH t with
  | none=>none
  | some ((g,i,x),c)=>
   match(if c.head? =some 123 then(if deep=0 then none else match readGroups f (deep-1) i c.tail with
     | none=>none
     | some (l,r)=>if r.head? =some 125 then some (l,r.tail)else none)else some ([],c))with
   | none=>none
   | some (below,e)=>if e.head? =some 44 then(readGroups f deep parent e.tail).map λp=>((((⟨i,g,parent⟩:Group),x)::below)++p.1,p.2)else some (((⟨i,g,parent⟩:Group),x)::below,e):=by
 have q:∀(m:Rows) (e:List Nat),(match e with | 44::r=>(readGroups f deep parent r).map λp=>(m++p.1,p.2) | _=>some (m,e))=if e.head? =some 44 then(readGroups f deep parent e.tail).map λp=>(m++p.1,p.2)else some (m,e):=by
  intro m e;cases e with
  | nil=>rfl
  | cons c r=>
   by_cases h:c=44;.subst h;rfl
   .rw[au (by simpa using h)];split <;> simp_all
 have A:∀b:List Nat,b.length < f+1->(match b with | 91::c=>readOwn f c | _=>some ([],b))=if b.head? =some 91 then RO b.tail else some ([],b):=by
  intro b w;cases b with
  | nil=>rfl
  | cons d c=>
   rw[bR]at w;by_cases h:d=91;.subst h;exact RP f (c.length+1) c (by omega) (by omega)
   .rw[au (by simpa using h)];split <;> simp_all
 have s:∀(deep i:Nat) (c:List Nat),(match c with
      | 123::e=>if deep=0 then none else(match readGroups f (deep-1) i e with
       | some (l,125::r)=>some (l,r)
       | _=>none)
      | _=>some ([],c))=(if c.head? =some 123 then(if deep=0 then none else match readGroups f (deep-1) i c.tail with
     | none=>none
     | some (l,r)=>if r.head? =some 125 then some (l,r.tail)else none)else some ([],c)):=by
  intro deep i c;cases c with
  | nil=>rfl
  | cons d e=>
   by_cases h:d=123
   .subst h;rw[aB (show(123::e).head? =some 123 from rfl)];show(if deep=0 then none else _)=_;by_cases v:deep=0;.rw[aB v,aB v]
    .rw[au v,au v,List.tail_cons];cases readGroups f (deep-1) i e with
     | none=>rfl
     | some p=>
      obtain⟨l,r⟩:=p;cases r with
      | nil=>rfl
      | cons d r=>
       by_cases h:d=125;.subst h;rfl
       .dsimp only;rw[au (by simpa using h)];split <;> simp_all
   .rw[au (by simpa using h)];split <;> simp_all
 have top:∀(F:Nat->List Nat->Option (Rows×List Nat)) (o:Option (Nat×List Nat)),(match o with | some (g,58::a)=>F g a | _=>none)=match o with
   | none=>none
   | some (g,a)=>if a.head? =some 58 then F g a.tail else none:=by
  intro F o;cases o with
  | none=>rfl
  | some p=>
   obtain⟨g,a⟩:=p;cases a with
   | nil=>rfl
   | cons d a=>
    by_cases h:d=58;.subst h;rfl
    .dsimp only;rw[au (by simpa using h)];split <;> simp_all
 rw[readGroups];refine(top (λg a=>match readNumber KEY a with
   | none=>none
   | some (i,b)=>
    match(match b with
     | 91::c=>readOwn f c
     | _=>some ([],b))with
    | none=>none
    | some (j,c)=>
     match(match c with
      | 123::e=>if deep=0 then none else(match readGroups f (deep-1) i e with
       | some (l,125::r)=>some (l,r)
       | _=>none)
      | _=>some ([],c))with
     | none=>none
     | some (below,e)=>
      match e with
      | 44::r=>(readGroups f deep parent r).map λp=>((((⟨i,g,parent⟩:Group),j)::below)++p.1,p.2)
      | _=>some ((((⟨i,g,parent⟩:Group),j)::below),e)) _).trans ?_
 unfold RH;cases y:readNumber RANKS t with
 | none=>rfl
 | some p=>
  obtain⟨g,a⟩:=p;have C:=wz y;dsimp only;by_cases n:a.head? =some 58
  .rw[aB n,aB n];cases z:readNumber KEY a.tail with
   | none=>rfl
   | some p=>
    obtain⟨i,b⟩:=p;have w:=wz z;rw[dW]at w;dsimp only;rw[A b (by omega)];by_cases u:b.head? =some 91
    .rw[aB u,aB u];cases RO b.tail with
     | none=>rfl
     | some p=>
      obtain⟨x,c⟩:=p;dsimp only[tR];rw[s];split;.rfl
      .exact q _ _
    .rw[au u,au u];dsimp only;rw[s];split;.rfl
     .exact q _ _
  .rw[au n,au n]
theorem Dh:∀f deep parent t l r,t.length < f->readGroups f deep parent t=some (l,r)->r.length < t.length
 | 0,_,_,_,_,_,h,_=>by omega
 | f+1,deep,parent,t,l,r,i,h=>by
  rw[Dg f deep parent t i]at h;cases e:RH t with
  | none=>rw[e]at h;cases h
  | some p=>
   obtain⟨⟨g,n,o⟩,c⟩:=p;have j:=Dd e;rw[e]at h;dsimp only at h;split at h;.cases h
   .rename_i below b a;have:b.length < t.length:=by
     split at a
     .split at a;.cases a
      .split at a;.cases a
       .rename_i l r m;have:=Dh f _ _ _ _ _ (by rw[dW];omega) m;rw[dW]at this;split at a;.injection a with a;injection a with _ a;rw[<-a,dW];omega
        .cases a
     .injection a with a;injection a with _ a;rw[<-a];exact j
    split at h
    .cases d:readGroups f deep parent b.tail with
     | none=>rw[d]at h;cases h
     | some p=>rw[d]at h;injection h with h;injection h with _ h;have:=Dh f deep parent b.tail p.1 p.2 (by rw[dW];omega) d;rw[dW]at this;rw[<-h];omega
    .injection h with h;injection h with _ h;rw[<-h];exact this
theorem Jc:∀f b deep parent t,t.length < f->t.length < b->readGroups f deep parent t=readGroups b deep parent t
 | 0,_,_,_,_,h,_=>by omega
 | _,0,_,_,_,_,h=>by omega
 | f+1,b+1,deep,parent,t,h,m=>by
  rw[Dg f deep parent t h,Dg b deep parent t m];cases e:RH t with
  | none=>rfl
  | some p=>
   obtain⟨⟨j,d,s⟩,c⟩:=p;have n:=Dd e;have q:c.tail.length < t.length:=by rw[dW];omega
   dsimp only;rw[Jc f b (deep-1) d c.tail (by omega) (by omega)];have g:∀l r,readGroups b (deep-1) d c.tail=some (l,r)->r.length < c.tail.length:=λl r h=>Dh b _ _ _ _ _ (by omega) h;split;.rfl
   .rename_i below i a;have:i.length < t.length:=by
     split at a
     .split at a;.cases a
      .split at a;.cases a
       .rename_i l r o;split at a;.injection a with a;injection a with _ a;have:=g l r o;rw[<-a,dW];omega
        .cases a
     .injection a with a;injection a with _ a;rw[<-a];exact n
    rw[Jc f b deep parent i.tail (by rw[dW];omega) (by rw[dW];omega)]
def RG (deep parent:Nat) (t:List Nat):Option (Rows×List Nat):=readGroups (t.length+1) deep parent t
theorem akt (deep parent:Nat) (t:List Nat):RG deep parent t=match RH t with
  | none=>none
  | some ((d,b,g),c)=>
   match(if c.head? =some 123 then(if deep=0 then none else match RG (deep-1) b c.tail with
     | none=>none
     | some (l,r)=>if r.head? =some 125 then some (l,r.tail)else none)else some ([],c))with
   | none=>none
   | some (below,e)=>if e.head? =some 44 then(RG deep parent e.tail).map λp=>((((⟨b,d,parent⟩:Group),g)::below)++p.1,p.2)else some (((⟨b,d,parent⟩:Group),g)::below,e):=by
 unfold RG;rw[Dg t.length deep parent t (by omega)];cases e:RH t with
 | none=>rfl
 | some p=>
  obtain⟨⟨d,b,g⟩,c⟩:=p;have h:=Dd e;have j:c.tail.length < t.length:=by rw[dW];omega
  dsimp only;rw[Jc t.length (c.tail.length+1) (deep-1) b c.tail j (by omega)];split;.rfl
  .rename_i below f a;have:f.length < t.length:=by
    split at a
    .split at a;.cases a
     .split at a;.cases a
      .rename_i l r i;have:=Dh _ _ _ _ _ _ (by omega) i;rw[dW]at this;split at a;.injection a with a;injection a with _ a;rw[<-a,dW];omega
       .cases a
    .injection a with a;injection a with _ a;rw[<-a];exact h
   rw[Jc t.length (f.tail.length+1) deep parent f.tail (by rw[dW];omega) (by omega)]
def fin:List Nat->List Nat->Option Rows
 | [],c=>if c=[]then some []else none
 | q::a,c=>if c.head? =some 125 then(if c.tail.head? =some 44 then(match RG (7-a.length) q c.tail.tail with
   | none=>none
   | some (l,r)=>(fin a r).map λm=>l++m)else fin a c.tail)else none
def goG (p:Nat) (ps:List Nat) (t:List Nat):Option Rows:=match RG (7-ps.length) p t with
 | none=>none
 | some (l,r)=>(fin ps r).map λm=>l++m
def goE (p:Nat) (ps:List Nat) (c:List Nat):Option Rows:=if c.head? =some 44 then goG p ps c.tail else fin ps c
theorem RQ (q:Nat) (a c:List Nat):fin (q::a) c=if c.head? =some 125 then goE q a c.tail else none:=rfl
theorem aku (t:List Nat) (h:t≠[]):readRows t=goG 0 [] t:=by
 unfold readRows goG RG;rw[au h];show(match readGroups (t.length+1) 7 0 t with | some (l,[])=>some l | _=>none)=match readGroups (t.length+1) 7 0 t with | none=>none | some (l,r)=>(fin [] r).map λm=>l++m
 cases readGroups (t.length+1) 7 0 t with
 | none=>rfl
 | some p=>
  obtain⟨l,r⟩:=p;cases r with
  | nil=>simp[fin]
  | cons c r=>simp[fin]
theorem akv (p:Nat) (ps t:List Nat):goG p ps t=match RH t with
  | none=>none
  | some ((b,a,i),c)=>if c.head? =some 123 then(if 7<=ps.length then none else(goG a (p::ps) c.tail).map λm=>((⟨a,b,p⟩:Group),i)::m)else(goE p ps c).map λm=>((⟨a,b,p⟩:Group),i)::m:=by
 unfold goG;rw[akt];cases e:RH t with
 | none=>rfl
 | some q=>
  obtain⟨⟨b,a,i⟩,c⟩:=q;dsimp only;by_cases h:c.head? =some 123
  .rw[aB h,aB h];by_cases j:7<=ps.length;.rw[aB (by omega),aB j]
   .rw[au (by omega),au j];have n:7-ps.length-1=7- (p::ps).length:=by rw[bR];omega
    rw[n];cases RG (7- (p::ps).length) a c.tail with
    | none=>rfl
    | some q=>
     obtain⟨l,r⟩:=q;dsimp only;rw[RQ];by_cases f:r.head? =some 125
     .rw[aB f,aB f];dsimp only;unfold goE;by_cases d:r.tail.head? =some 44
      .rw[aB d,aB d];unfold goG;cases RG (7-ps.length) p r.tail.tail with
       | none=>rfl
       | some q=>
        obtain⟨o,g⟩:=q;dsimp only[tR];cases fin ps g with
        | none=>rfl
        | some m=>simp
      .rw[au d,au d];dsimp only;cases fin ps r.tail with
       | none=>rfl
       | some m=>simp
     .rw[au f,au f];rfl
  .rw[au h,au h];dsimp only;unfold goE;by_cases d:c.head? =some 44
   .rw[aB d,aB d];unfold goG;cases RG (7-ps.length) p c.tail with
    | none=>rfl
    | some q=>
     obtain⟨o,g⟩:=q;dsimp only[tR];cases fin ps g with
     | none=>rfl
     | some m=>simp
   .rw[au d,au d];dsimp only;cases fin ps c with
    | none=>rfl
    | some m=>simp
theorem adF {l:List Group} (h:l.Pairwise λa b=>a.key < b.key) {a b:Group} (j:a∈l) (m:b∈l) (e:a.key=b.key):a=b:=by
 have i:=jZ.mpr (h.imp λh=>fZ h);obtain⟨f,n,c⟩:=pH j;obtain⟨g,o,d⟩:=pH m;have:f=g:=by
  have q:(l.map (·.key))[f]'(by simpa using n)=(l.map (·.key))[g]'(by simpa using o):=by simp[c,d,e]
  exact(Bg i).mp q
 subst this;exact c.symm.trans d
theorem j_ {t:Tree} (w:Srt t) {g:Group}:g∈t.groups↔ak (gR t) g.key=some (g.rank:Int)/\ak (gP t) g.key=some (g.parent:Int):=by
 constructor;.intro h;exact⟨(bY w.ndR).mp (aQ.mpr ⟨g,h,rfl⟩),(bY w.ndP).mp (aQ.mpr ⟨g,h,rfl⟩)⟩
 .rintro⟨m,n⟩;obtain⟨a,d,j⟩:=aQ.mp ((bY w.ndR).mpr m);obtain⟨b,o,l⟩:=aQ.mp ((bY w.ndP).mpr n);injection j with e f;injection l with p i;have c:=adF w.g d o (by omega);subst c;have:a=g:=by cases a;cases g;simp only[Group.mk.injEq]at e f i ⊢;omega
  rw[<-this];exact d
theorem qK (w:Srt t):p∈t.specimens↔ak (gX t) p.1=some (p.2:Int):=by
 constructor;.intro h;exact(bY w.ndX).mp (aQ.mpr ⟨p,h,rfl⟩)
 .intro h;obtain⟨a,e,d⟩:=aQ.mp ((bY w.ndX).mpr h);injection d with b c;have:a=p:=by cases a;cases p;simp only[Qv]at b c ⊢;omega
  rw[<-this];exact e
theorem akx (w:Srt t) (v:Srt u) (p:∀k,ak (gR t) k=ak (gR u) k) (o:∀k,ak (gP t) k=ak (gP u) k) (q:∀k,ak (gX t) k=ak (gX u) k):t=u:=by
 have m:∀{l:List Group},(l.Pairwise λa b=>a.key < b.key)->l.Nodup:=λh=>h.imp λc e=>by rw[e]at c;exact lQ _ c
 have n:∀{l:List (Nat×Nat)},(l.Pairwise λa b=>a.1 < b.1)->l.Nodup:=λh=>h.imp λc e=>by rw[e]at c;exact lQ _ c
 have x:=(tL (m w.g) (m v.g)).mpr λg=>by rw[j_ w,j_ v,p,o]
 have y:=(tL (n w.s) (n v.s)).mpr λg=>by rw[qK w,qK v,q]
 have i:=x.eq_of_pairwise (λa b _ _ d f=>absurd (rA d f) (lQ _)) w.g v.g;have j:=y.eq_of_pairwise (λa b _ _ d f=>absurd (rA d f) (lQ _)) w.s v.s;cases t;cases u;simp only at i j;rw[i,j]
theorem same_iff (w:Srt t) (v:Srt u) (h:Rel T t) (k:Rel U u):(T.R.Perm U.R/\T.P.Perm U.P/\T.X.Perm U.X)↔t=u:=by
 constructor
 .rintro⟨a,b,c⟩;refine akx w v (λj=> ?_) (λj=> ?_) (λj=> ?_);.rw[<-h.gr w,<-k.gr v];exact oV a (k.nr v) j
  .rw[<-h.gp w,<-k.gp v];exact oV b (k.np v) j
  .rw[<-h.gx w,<-k.gx v];exact oV c (k.nx v) j
 .intro e;subst e;exact⟨h.r.trans k.r.symm,h.p.trans k.p.symm,h.x.trans k.x.symm⟩
def yZ (p:Group×List Nat):Prop:=(1<=p.1.key/\p.1.key<=1000000000)/\(1<=p.1.rank/\p.1.rank<=8)/\∀x∈p.2,1<=x/\x<=1000000000
theorem adG:∀f t xs r,readOwn f t=some (xs,r)->∀x∈xs,1<=x/\x<=1000000000
 | 0,_,_,_,h=>by cases h
 | f+1,t,xs,r,h=>by
  rw[Dc]at h;cases e:readNumber KEY t with
  | none=>rw[e]at h;cases h
  | some p=>
   obtain⟨n,g⟩:=p;have a:=((yX (by decide) (by decide) t).2 n g e).2;rw[e]at h;dsimp only at h;split at h;.injection h with h;injection h with d i;subst d;intro x b;rw[dX]at b;subst b;exact⟨a.1,a.2.1⟩
   .split at h
    .cases c:readOwn f g.tail with
     | none=>rw[c]at h;cases h
     | some p=>
      rw[c]at h;injection h with h;injection h with d i;subst d;intro x b;rcases cD.mp b with z | z;.subst z;exact⟨a.1,a.2.1⟩
      .exact adG f g.tail p.1 p.2 c x z
    .cases h
theorem adH (e:RH t=some ((rank,key,xs),r)) (p:Nat):yZ (⟨key,rank,p⟩,xs):=by
 unfold RH at e;cases h:readNumber RANKS t with
 | none=>rw[h]at e;cases e
 | some q=>
  obtain⟨g,a⟩:=q;have d:=((yX (by decide) (by decide) t).2 g a h).2;rw[h]at e;dsimp only at e;split at e
  .cases i:readNumber KEY a.tail with
   | none=>rw[i]at e;cases e
   | some q=>
    obtain⟨c,b⟩:=q;have f:=((yX (by decide) (by decide) a.tail).2 c b i).2;rw[i]at e;dsimp only at e;split at e
    .cases j:RO b.tail with
     | none=>rw[j]at e;cases e
     | some q=>rw[j]at e;simp only[tR,FP,Qv]at e;obtain⟨⟨l,m,n⟩,_⟩:=e;subst l;subst m;subst n;exact⟨⟨f.1,f.2.1⟩,⟨d.1,d.2.1⟩,adG _ _ _ _ j⟩
    .simp only[FP,Qv]at e;obtain⟨⟨l,m,n⟩,_⟩:=e;subst l;subst m;subst n;exact⟨⟨f.1,f.2.1⟩,⟨d.1,d.2.1⟩,λx o=>by cases o⟩
  .cases e
theorem RT:∀f deep p t l r,t.length < f->readGroups f deep p t=some (l,r)->(∀q∈l,yZ q)/\∀q∈l,q.1.parent=p\/∃d∈l,d.1.key=q.1.parent
 | 0,_,_,_,_,_,h,_=>by omega
 | f+1,deep,p,t,l,r,G,h=>by
  rw[Dg f deep p t G]at h;cases e:RH t with
  | none=>rw[e]at h;cases h
  | some q=>
   obtain⟨⟨g,i,v⟩,c⟩:=q;have H:=Dd e;have u:=adH e p;rw[e]at h;dsimp only at h;split at h;.cases h
   .rename_i below o a;have A:o.length < t.length/\(∀q∈below,yZ q)/\∀q∈below,q.1.parent=i\/∃d∈below,d.1.key=q.1.parent:=by
     split at a
     .split at a;.cases a
      .split at a;.cases a
       .rename_i L N B;have E:=Dh f _ _ _ _ _ (by rw[dW];omega) B;have F:=RT f _ _ _ _ _ (by rw[dW];omega) B;rw[dW]at E;split at a;.injection a with a;injection a with n a;subst n;refine⟨?_,F⟩;rw[<-a,dW];omega
        .cases a
     .injection a with a;injection a with n a;subst n;refine⟨?_,(λq b=>by cases b),(λq b=>by cases b)⟩;rw[<-a];exact H
    have j:∀m:Rows,(∀q∈m,yZ q)->(∀q∈m,q.1.parent=p\/∃d∈m,d.1.key=q.1.parent)->
      (∀q∈((⟨i,g,p⟩:Group),v)::below++m,yZ q)/\∀q∈((⟨i,g,p⟩:Group),v)::below++m,q.1.parent=p\/∃d∈((⟨i,g,p⟩:Group),v)::below++m,d.1.key=q.1.parent:=by
     intro m I J;refine⟨λq b=> ?_,λq b=> ?_⟩
     .rcases dO.mp b with z | z
      .rcases cD.mp z with z | z;.subst z;exact u
       .exact A.2.1 q z
      .exact I q z
     .rcases dO.mp b with z | z
      .rcases cD.mp z with z | z;.subst z;exact .inl rfl
       .right;rcases A.2.2 q z with y | ⟨d,w,x⟩;.exact⟨_,qg _ cU,y.symm⟩
        .exact⟨d,qg _ (cO _ w),x⟩
      .rcases J q z with y | ⟨d,w,x⟩;.exact .inl y
       .exact .inr ⟨d,pF _ w,x⟩
    split at h
    .cases s:readGroups f deep p o.tail with
     | none=>rw[s]at h;cases h
     | some q=>rw[s]at h;injection h with h;injection h with a n;have C:=RT f deep p o.tail q.1 q.2 (by rw[dW];omega) s;rw[<-a];exact j q.1 C.1 C.2
    .injection h with h;injection h with a n;have:=j [] (λq b=>by cases b) (λq b=>by cases b);rw[gH]at this;rw[<-a];exact this
theorem adI (h:readRows t=some l):(∀q∈l,yZ q)/\∀q∈l,q.1.parent=0\/∃b∈l,b.1.key=q.1.parent:=by
 unfold readRows at h;split at h;.injection h with h;subst h;exact⟨(λq a=>by cases a),(λq a=>by cases a)⟩
 .split at h;.rename_i c e;injection h with h;subst h;exact RT _ _ _ _ _ _ (by omega) e
  .cases h
theorem Jd {α:Type} (a:α->Nat):∀l:List α,(l.foldr (oh a) []).Perm l
 | []=> .refl _
 | v::l=>(wg a v _).trans ((Jd a l).cons v)
theorem RV {α:Type} (c:α->Nat):∀l:List α,(l.map c).Nodup->(l.foldr (oh c) []).Pairwise λa b=>c a < c b
 | [],_=> .nil
 | v::l,h=>by have h:=je.mp h;refine CQ c v _ (λy d e=>h.1 ?_) (RV c l h.2);exact aQ.mpr ⟨y,(Jd c l).mem_iff.mp d,e⟩
def dH (l:Rows):List Group:=l.map λp=>p.1
def iY (l:Rows):List (Nat×Nat):=l.flatMap λp=>p.2.map λx=>(x,p.1.key)
theorem akz (l:Rows):(treeOf l).groups=(dH l).foldr (oh λg=>g.key) []:=rfl
theorem akA (l:Rows):(treeOf l).specimens=(iY l).foldr (oh λq=>q.1) []:=rfl
theorem RX (l:Rows):(treeOf l).groups.Perm (dH l):=Jd _ _
theorem adJ (l:Rows):(treeOf l).specimens.Perm (iY l):=Jd _ _
theorem RZ (l:Rows):(iY l).map (·.1)=l.flatMap λp=>p.2:=by
 unfold iY;rw[tM]
 congr 1
 funext p;rw[bC];show p.2.map (λx=>x)=p.2;rw[O7]
section
variable {l:Rows} (hg:(l.map λp=>p.1.key).Nodup) (hx:(l.flatMap λp=>p.2).Nodup)
include hg hx
theorem Di:Srt (treeOf l):=by
 refine⟨?_,?_⟩;.rw[akz];refine RV (λg:Group=>g.key) (dH l) ?_;unfold dH;rw[bC];exact hg
 .rw[akA];refine RV (λq:Nat×Nat=>q.1) (iY l) ?_;rw[RZ];exact hx
theorem akB (k:Int):ak (gR (treeOf l)) k=ak (lR (dH l)) k:=by have p:(lR (dH l)).Perm (gR (treeOf l)):=((RX l).map _).symm;exact(oV p (Di hg hx).ndR k).symm
theorem akC (k:Int):ak (gP (treeOf l)) k=ak (lP (dH l)) k:=by have p:(lP (dH l)).Perm (gP (treeOf l)):=((RX l).map _).symm;exact(oV p (Di hg hx).ndP k).symm
theorem akD (k:Int):ak (gX (treeOf l)) k=ak (lX (iY l)) k:=by have p:(lX (iY l)).Perm (gX (treeOf l)):=((adJ l).map _).symm;exact(oV p (Di hg hx).ndX k).symm
end
def fB (d e:D):D:=e.foldl (λd p=>dput d p.1 p.2) d
theorem adK (d:D) (p:Int×Int) (e:D):fB d (p::e)=fB (dput d p.1 p.2) e:=rfl
theorem Dj:∀(e:D) {d:D},ND d->ND (fB d e)
 | [],_,h=>h
 | p::e,_,h=>Dj e (j9 h p.1 p.2)
theorem wA:∀e d,ND e->∀j,ak (fB d e) j=(ak e j).or (ak d j)
 | [],d,_,j=>by simp[fB,lJ]
 | p::e,d,h,j=>by
  have h:=je.mp h;rw[adK,wA e _ h.2,iJ,jH];by_cases q:p.1=j;.have:ak e j=none:=yS.mpr (q▸h.1);rw[this,aB q,aB q.symm];rfl
  .rw[au q,au λz=>q z.symm]
theorem Je {t:Tree} (w:Srt t):falling t=true↔∀k p r,ak (gP t) k=some p->ak (gR t) k=some r->p=0\/(ak (gR t) p).getD 0 < r:=by
 unfold falling;rw[m5];constructor
 .intro h k p r s e;have A:0<=k:=by
   rcases(Br k 0)with z | z;.rw[(yW z).1]at e;cases e
   .exact z
  obtain⟨a,f,i⟩:=aQ.mp ((bY w.ndR).mpr e);obtain⟨b,n,j⟩:=aQ.mp ((bY w.ndP).mpr s);injection i with u v;injection j with x y;have d:=adF w.g f n (by omega);subst d;have q:=h a f;rw[m6]at q;rcases q with q | q;.left;have:=eq_of_beq q;omega
  .right;have q:=dz q;have:=nA (t:=t) (k:=p) (by omega);have c:p.toNat=a.parent:=by omega
   rw[c]at this;omega
 .intro h g o;obtain⟨l,m⟩:=(j_ w).mp o;rcases h _ _ _ m l with q | q
  .rw[m6];left;have:g.parent=0:=by omega
   rw[this];rfl
  .rw[m6];right;have:=nA (t:=t) (k:=(g.parent:Int)) (by omega);have c:((g.parent:Int)).toNat=g.parent:=by omega
   rw[c]at this;exact cF (by omega)
theorem Jf (t:Tree):small t=true↔t.groups.length<=32/\t.specimens.length<=64:=by unfold small;rw[dY];exact and_congr cH cH
theorem akE (h:readRows t=some l) (I:(l.map λp=>p.1.key).Nodup) (L:(l.flatMap λp=>p.2).Nodup) (H:falling (treeOf l)=true) (J:small (treeOf l)=true):WF (treeOf l):=by
 obtain⟨w,O⟩:=adI h;have c:=Di I L;have C:=(Jf _).mp J;have G:=(Je c).mp H;have n:∀{g:Group},g∈(treeOf l).groups↔∃q∈l,q.1=g:=λ{g}=>by rw[(RX l).mem_iff];unfold dH;rw[aQ]
 refine⟨c,λk r e=> ?_,λk p e=> ?_,λx v e=> ?_,C.1,C.2⟩;.obtain⟨g,d,o⟩:=aQ.mp ((bY c.ndR).mpr e);obtain⟨q,f,rfl⟩:=n.mp d;obtain⟨a,b,_⟩:=w q f;injection o with j m;omega
 .obtain⟨g,d,o⟩:=aQ.mp ((bY c.ndP).mpr e);obtain⟨q,f,rfl⟩:=n.mp d;injection o with j m;have B:ak (gR (treeOf l)) k=some (q.1.rank:Int):=by rw[<-j];exact((j_ c).mp d).1
  rcases O q f with z | ⟨u,E,P⟩;.left;omega
  .right;have s:=n.mpr ⟨u,E,rfl⟩;have i:ak (gR (treeOf l)) p=some (u.1.rank:Int):=by have:=((j_ c).mp s).1;rw[P,m]at this;exact this
   refine⟨_,_,i,B,?_⟩;rcases G k p _ e B with y | y;.have:=(w u E).1;omega
   .rw[i]at y;exact y
 .obtain⟨a,A,F⟩:=aQ.mp ((bY c.ndX).mpr e);rw[(adJ l).mem_iff]at A;obtain⟨q,f,s⟩:=List.mem_flatMap.mp A;obtain⟨y,N,rfl⟩:=aQ.mp s;injection F with j m;have:=(w q f).2.2 y N;refine⟨by simp only at j;omega,q.1.rank,?_⟩;have:=((j_ c).mp (n.mpr ⟨q,f,rfl⟩)).1;rw[<-m];exact this
def jJ (a b c d:Int):Prop:=isKey b/\((a=1/\iy c/\jr d)\/(a=2/\c=0/\d=0)\/(a=3/\isKey c/\d=0)\/(a=4/\c=0/\d=0))
instance (a b c d:Int):Decidable (jJ a b c d):=by unfold jJ;infer_instance
def mkC (a b c d:Int):Change:=if a=1 then .group b.toNat c.toNat d.toNat else if a=2 then .gone b.toNat else if a=3 then .home b.toNat c.toNat else .out b.toNat
theorem akF (a b c d:Int) (l:List Int):changesOf (a::b::c::d::l)=if jJ a b c d then(changesOf l).map λm=>mkC a b c d::m else none:=by
 by_cases g:a=1
 .subst g;have e:changesOf (1::b::c::d::l)=if(keyed b&&(within c 1 RANKS&&(d==0||keyed d)))=true then(changesOf l).map λm=> .group b.toNat c.toNat d.toNat::m else none:=by rw[changesOf]
  rw[e];refine d8 ?_ (λ_=>rfl) λ_=>rfl;rw[CZ (band (g_ b) (band (IK c) (RJ d)))];unfold jJ;simp
 .by_cases h:a=2
  .subst h;by_cases f:c=0/\d=0
   .obtain⟨rfl,rfl⟩:=f;have e:changesOf (2::b::0::0::l)=if keyed b=true then(changesOf l).map λm=> .gone b.toNat::m else none:=by rw[changesOf]
    rw[e];refine d8 ?_ (λ_=>rfl) λ_=>rfl;rw[CZ (g_ b)];unfold jJ;simp
   .rw[au (by unfold jJ;simp;intro _ z;exact λy=>f ⟨z,y⟩)];unfold changesOf;split <;> first | rfl | (exfalso;simp_all)
  .by_cases i:a=3
   .subst i;by_cases n:d=0
    .subst n;have e:changesOf (3::b::c::0::l)=if(keyed b&&keyed c)=true then(changesOf l).map λm=> .home b.toNat c.toNat::m else none:=by rw[changesOf]
     rw[e];refine d8 ?_ (λ_=>rfl) λ_=>rfl;rw[CZ (band (g_ b) (g_ c))];unfold jJ;simp
    .rw[au (by unfold jJ;simp;intro _ _ y;exact n y)];unfold changesOf;split <;> first | rfl | (exfalso;simp_all)
   .by_cases j:a=4
    .subst j;by_cases f:c=0/\d=0
     .obtain⟨rfl,rfl⟩:=f;have e:changesOf (4::b::0::0::l)=if keyed b=true then(changesOf l).map λm=> .out b.toNat::m else none:=by rw[changesOf]
      rw[e];refine d8 ?_ (λ_=>rfl) λ_=>rfl;rw[CZ (g_ b)];unfold jJ;simp
     .rw[au (by unfold jJ;simp;intro _ z;exact λy=>f ⟨z,y⟩)];unfold changesOf;split <;> first | rfl | (exfalso;simp_all)
    .rw[au (by unfold jJ;simp[g,h,i,j])];unfold changesOf;split <;> first | rfl | (exfalso;simp_all)
theorem akG (h:l.length < 4) (e:l≠[]):changesOf l=none:=by
 match l,h,e with
 | [],_,e=>exact absurd rfl e
 | [a],_,_=>unfold changesOf;split <;> first | rfl | (exfalso;simp_all)
 | [a,b],_,_=>unfold changesOf;split <;> first | rfl | (exfalso;simp_all)
 | [a,b,c],_,_=>unfold changesOf;split <;> first | rfl | (exfalso;simp_all)
 | a::b::c::d::r,h,_=>simp at h;omega
def rowAt (l:List Int) (i:Nat):List Int:=(l.drop (4 * i)).take 4
def mK (l:List Int):Nat:=(l.length+3) / 4
def iZ (r:List Int):Prop:=∃a b c d,r=[a,b,c,d]/\jJ a b c d
def fL (r:List Int):Change:=mkC (r.getD 0 0) (r.getD 1 0) (r.getD 2 0) (r.getD 3 0)
def cW (l:List Int):List (List Int):=(Oz (mK l)).map (rowAt l)
theorem adL:cW []=[]:=rfl
theorem adM (h:l≠[]):cW l=l.take 4::cW (l.drop 4):=by
 unfold cW;have a:=aaL.mpr h;have e:mK l=mK (l.drop 4)+1:=by unfold mK;rw[rB];omega
 rw[e,List.range_succ_eq_map,bT,bC]
 congr 1
 apply gJ;intro i _;show rowAt l (i+1)=rowAt (l.drop 4) i;unfold rowAt;rw[u_]
 congr 2
 omega
theorem R0:∀n l,l.length<=n->(changesOf l=none↔∃r∈cW l,¬iZ r)/\∀f,changesOf l=some f->f=(cW l).map fL
 | 0,l,h=>by have:l=[]:=qm.mp (by omega);subst this;exact⟨by simp[changesOf,adL],λf h=>by injection h with h;rw[<-h];rfl⟩
 | n+1,l,h=>by
  match l,h with
  | [],_=>exact⟨by simp[changesOf,adL],λf h=>by injection h with h;rw[<-h];rfl⟩
  | a::b::c::d::r,h=>
   have s:=R0 n r (by simp at h;omega);have t:cW (a::b::c::d::r)=[a,b,c,d]::cW r:=adM (by simp);have p:iZ [a,b,c,d]↔jJ a b c d:=by
    constructor;.rintro⟨v,w,x,y,e,h⟩;simp only[ahW,and_true]at e;obtain⟨rfl,rfl,rfl,rfl⟩:=e;exact h
    .intro h;exact⟨a,b,c,d,rfl,h⟩
   rw[akF,t];by_cases g:jJ a b c d
   .rw[aB g];refine⟨?_,λf h=> ?_⟩
    .rw[Option.map_eq_none_iff,s.1];constructor;.rintro⟨q,j,i⟩;exact⟨q,cO _ j,i⟩
     .rintro⟨q,j,i⟩;rcases cD.mp j with z | z;.subst z;exact absurd (p.mpr g) i
      .exact⟨q,z,i⟩
    .obtain⟨m,u,e⟩:=iT.mp h;rw[<-e,s.2 m u];rfl
   .rw[au g];exact⟨⟨λ_=>⟨_,cU,λz=>g (p.mp z)⟩,λ_=>rfl⟩,λf h=>by cases h⟩
  | [a],h=>exact short _ (by simp) (by simp)
  | [a,b],h=>exact short _ (by simp) (by simp)
  | [a,b,c],h=>exact short _ (by simp) (by simp)
where
 short (l:List Int) (h:l.length < 4) (o:l≠[]):(changesOf l=none↔∃r∈cW l,¬iZ r)/\∀f,changesOf l=some f->f=(cW l).map fL:=by rw[akG h o];refine⟨⟨λ_=>⟨l.take 4,by rw[adM o];exact cU,?_⟩,λ_=>rfl⟩,λf h=>by cases h⟩;rintro⟨a,b,c,d,e,_⟩;have:=congrArg iR e;rw[fD]at this;simp at this;omega
theorem R3:∀l:List (Nat×Nat),distinctPairs l=decide l.Nodup
 | []=>by simp[distinctPairs]
 | x::l=>by unfold distinctPairs;rw[R3 l];by_cases h:x∈l <;> simp[h]
def ig (r:List Int):Bool:=decide (r.getD 0 0=1)||decide (r.getD 0 0=2)
theorem Dk (h:iZ r):subject (fL r)=(if ig r=true then 0 else 1,(r.getD 1 0).toNat)/\isKey (r.getD 1 0):=by obtain⟨a,b,c,d,rfl,e,h⟩:=h;refine⟨?_,e⟩;rcases h with ⟨rfl,_⟩ | ⟨rfl,_⟩ | ⟨rfl,_⟩ | ⟨rfl,_⟩ <;> rfl
theorem R4:∀{d:List (List Int)},(∀r∈d,iZ r)->(((d.map fL).map subject).Nodup↔((d.filter ig).map λr=>r.getD 1 0).Nodup/\((d.filter λr=> !ig r).map λr=>r.getD 1 0).Nodup)
 | [],_=>by simp
 | r::d,h=>by
  have n:=R4 λq f=>h q (cO _ f);have j:=Dk (h r cU);have mem:∀b:Bool,(if b=true then 0 else 1,(r.getD 1 0).toNat)∈(d.map fL).map subject↔r.getD 1 0∈(d.filter λq=>ig q==b).map λr=>r.getD 1 0:=by
   intro b;rw[bC,aQ,aQ];constructor;.rintro⟨q,f,e⟩;have i:=Dk (h q (cO _ f));have e:subject (fL q)=_:=e;rw[i.1]at e;injection e with l o;have p:=i.2.nn;have s:=j.2.nn;refine⟨q,cC.mpr ⟨f,?_⟩,by omega⟩;revert l;cases ig q <;> cases b <;> simp
   .rintro⟨q,f,e⟩;obtain⟨f,g⟩:=cC.mp f;refine⟨q,f,?_⟩;show subject (fL q)=_;rw[(Dk (h q (cO _ f))).1,e,eq_of_beq g]
  rw[bT,bT,je,n,j.1];cases g:ig r with
  | true=>
   have m:=mem true;rw[xX g,xY (by simp[g]),bT,je];have e:(d.filter λq=>ig q==true)=d.filter ig:=by congr 1;funext q;simp
   rw[e]at m;constructor;.rintro⟨a,b,c⟩;exact⟨⟨λz=>a (m.mpr z),b⟩,c⟩
   .rintro⟨⟨a,b⟩,c⟩;exact⟨λz=>a (m.mp z),b,c⟩
  | false=>
   have m:=mem false;rw[xY (by simp[g]),xX (by simp[g]),bT,je];have e:(d.filter λq=>ig q==false)=d.filter λr=> !ig r:=by congr 1;funext q;simp
   rw[e]at m;constructor;.rintro⟨a,b,c⟩;exact⟨b,λz=>a (m.mpr z),c⟩
   .rintro⟨b,a,c⟩;exact⟨λz=>a (m.mp z),b,c⟩
def pdo (T:cG):Change->cG
 | .group k r p=>⟨dput T.R k r,dput T.P k p,T.X⟩
 | .gone k=>⟨dU T.R k,dU T.P k,T.X⟩
 | .home x g=>⟨T.R,T.P,dput T.X x g⟩
 | .out x=>⟨T.R,T.P,dU T.X x⟩
theorem adN (w:Srt t) (h:Rel T t) (c:Change):Srt (changed t c)/\Rel (pdo T c) (changed t c):=by
 cases c with
 | group k r p=>have a:Srt (changed t (.group k r p)):=⟨rQ w.g,w.s⟩;exact⟨a,.of a (j9 (h.nr w) _ _) (j9 (h.np w) _ _) (h.nx w) (λj=>by rw[show(pdo T (.group k r p)).R=dput T.R k r from rfl,iJ,h.gr w];exact(CV w.g ⟨k,r,p⟩ j).symm) (λj=>by rw[show(pdo T (.group k r p)).P=dput T.P k p from rfl,iJ,h.gp w];exact(CW w.g ⟨k,r,p⟩ j).symm) (h.gx w)⟩
 | gone k=>have a:Srt (changed t (.gone k)):=⟨w.g.sublist jf,w.s⟩;exact⟨a,.of a (yU (h.nr w) _) (yU (h.np w) _) (h.nx w) (λj=>by rw[show(pdo T (.gone k)).R=dU T.R k from rfl,mH,h.gr w];exact(Rx t.groups k j).symm) (λj=>by rw[show(pdo T (.gone k)).P=dU T.P k from rfl,mH,h.gp w];exact(Ry t.groups k j).symm) (h.gx w)⟩
 | home x g=>have a:Srt (changed t (.home x g)):=⟨w.g,Iz w.s⟩;exact⟨a,.of a (h.nr w) (h.np w) (j9 (h.nx w) _ _) (h.gr w) (h.gp w) (λj=>by rw[show(pdo T (.home x g)).X=dput T.X x g from rfl,iJ,h.gx w];exact(adt w.s (x,g) j).symm)⟩
 | out x=>have a:Srt (changed t (.out x)):=⟨w.g,w.s.sublist jf⟩;exact⟨a,.of a (h.nr w) (h.np w) (yU (h.nx w) _) (h.gr w) (h.gp w) (λj=>by rw[show(pdo T (.out x)).X=dU T.X x from rfl,mH,h.gx w];exact(Rz t.specimens x j).symm)⟩
theorem adO:∀(a:List Change) {T:cG} {t:Tree},Srt t->Rel T t->Srt (a.foldl changed t)/\Rel (a.foldl pdo T) (a.foldl changed t)
 | [],_,_,w,h=>⟨w,h⟩
 | c::a,_,_,w,h=>adO a (adN w h c).1 (adN w h c).2
theorem adP:∀(i:List Change) (T:cG) (k:Nat),((0,k)∉i.map subject->ak (i.foldl pdo T).R k=ak T.R k)/\((0,k)∉i.map subject->ak (i.foldl pdo T).P k=ak T.P k)/\((1,k)∉i.map subject->ak (i.foldl pdo T).X k=ak T.X k)
 | [],_,_=>⟨λ_=>rfl,λ_=>rfl,λ_=>rfl⟩
 | c::i,T,k=>by
  obtain⟨a,b,d⟩:=adP i (pdo T c) k;refine⟨λh=> ?_,λh=> ?_,λh=> ?_⟩
  .obtain⟨j,l⟩:=not_or.mp (λz=>h (by rw[bT];exact cD.mpr z));rw[u9,a l];cases c with
   | group f r p=>have:¬(k:Int)=(f:Int):=λe=>j (congrArg (yx _) (yC e));rw[show(pdo T (.group f r p)).R=dput T.R f r from rfl,iJ,au this]
   | gone f=>have:¬(k:Int)=(f:Int):=λe=>j (congrArg (yx _) (yC e));rw[show(pdo T (.gone f)).R=dU T.R f from rfl,mH,au this]
   | home x g=>rfl
   | out x=>rfl
  .obtain⟨j,l⟩:=not_or.mp (λz=>h (by rw[bT];exact cD.mpr z));rw[u9,b l];cases c with
   | group f r p=>have:¬(k:Int)=(f:Int):=λe=>j (congrArg (yx _) (yC e));rw[show(pdo T (.group f r p)).P=dput T.P f p from rfl,iJ,au this]
   | gone f=>have:¬(k:Int)=(f:Int):=λe=>j (congrArg (yx _) (yC e));rw[show(pdo T (.gone f)).P=dU T.P f from rfl,mH,au this]
   | home x g=>rfl
   | out x=>rfl
  .obtain⟨j,l⟩:=not_or.mp (λz=>h (by rw[bT];exact cD.mpr z));rw[u9,d l];cases c with
   | group f r p=>rfl
   | gone f=>rfl
   | home x g=>have:¬(k:Int)=(x:Int):=λe=>j (congrArg (yx _) (yC e));rw[show(pdo T (.home x g)).X=dput T.X x g from rfl,iJ,au this]
   | out x=>have:¬(k:Int)=(x:Int):=λe=>j (congrArg (yx _) (yC e));rw[show(pdo T (.out x)).X=dU T.X x from rfl,mH,au this]
structure Rng (T:cG):Prop where
 r:∀k v,ak T.R k=some v->isKey k/\iy v
 x:∀k v,ak T.X k=some v->isKey k
def adQ:Change->Prop
 | .group k r _=>isKey k/\iy r
 | .gone _=>True
 | .home x _=>isKey x
 | .out _=>True
theorem akH (h:iZ r):adQ (fL r):=by
 obtain⟨a,b,c,d,rfl,f,h⟩:=h;have e:=toN f.nn;rcases h with ⟨rfl,g,_⟩ | ⟨rfl,_⟩ | ⟨rfl,_⟩ | ⟨rfl,_⟩;.have i:=toN g.nn;show isKey ((b.toNat:Nat):Int)/\iy ((c.toNat:Nat):Int);rw[e,i];exact⟨f,g⟩
 .exact gK
 .show isKey ((b.toNat:Nat):Int);rw[e];exact f
 .exact gK
theorem adR:∀(a:List Change) {T:cG},(∀c∈a,adQ c)->Rng T->Rng (a.foldl pdo T)
 | [],_,_,h=>h
 | c::a,T,d,h=>by
  refine adR a (λq f=>d q (cO _ f)) ?_;have b:=d c cU;cases c with
  | group k r p=>
   refine⟨λj v e=> ?_,h.x⟩;have e:ak (dput T.R k r) j=some v:=e;rw[iJ]at e;by_cases z:j=(k:Int);.rw[aB z]at e;cases e;rw[z];exact b
   .rw[au z]at e;exact h.r j v e
  | gone k=>
   refine⟨λj v e=> ?_,h.x⟩;have e:ak (dU T.R k) j=some v:=e;rw[mH]at e;by_cases z:j=(k:Int);.rw[aB z]at e;cases e
   .rw[au z]at e;exact h.r j v e
  | home x g=>
   refine⟨h.r,λj v e=> ?_⟩;have e:ak (dput T.X x g) j=some v:=e;rw[iJ]at e;by_cases z:j=(x:Int);.rw[z];exact b
   .rw[au z]at e;exact h.x j v e
  | out x=>
   refine⟨h.r,λj v e=> ?_⟩;have e:ak (dU T.X x) j=some v:=e;rw[mH]at e;by_cases z:j=(x:Int);.rw[aB z]at e;cases e
   .rw[au z]at e;exact h.x j v e
theorem adS (w:Srt t):closed t=true↔(∀k p,ak (gP t) k=some p->p=0\/(ak (gR t) p).isSome=true)/\∀x h,ak (gX t) x=some h->(ak (gR t) h).isSome=true:=by
 unfold closed;rw[dY,m5,m5];refine and_congr ⟨λh k p e=> ?_,λh g b=> ?_⟩ ⟨λh x v e=> ?_,λh p c=> ?_⟩
 .obtain⟨g,b,f⟩:=aQ.mp ((bY w.ndP).mpr e);injection f with d a;have q:=h g b;rw[m6]at q;rcases q with q | q;.left;have:=eq_of_beq q;omega
  .right;rw[<-a,pQ,pJ];exact q
 .rw[m6];rcases h g.key g.parent ((j_ w).mp b).2 with q | q
  .left;have:g.parent=0:=by omega
   rw[this];rfl
  .right;rw[pQ,pJ]at q;exact q
 .obtain⟨p,c,i⟩:=aQ.mp ((bY w.ndX).mpr e);injection i with d a;rw[<-a,pQ,pJ];exact h p c
 .have:=h p.1 p.2 ((qK w).mp c);rw[pQ,pJ]at this;exact this
theorem akI (w:Srt t) (h:Rel T t) (c:Rng T) (j:closed t=true) (l:falling t=true) (n:small t=true):WF t:=by
 obtain⟨f,g⟩:=(adS w).mp j;have i:=(Je w).mp l;have d:=(Jf _).mp n;refine⟨w,λk r e=>c.r k r (by rw[h.gr w];exact e),λk p e=> ?_,λx v e=>⟨c.x x v (by rw[h.gx w];exact e),gj.mp (g x v e)⟩,d.1,d.2⟩;rcases f k p e with z | z;.exact .inl z
 .obtain⟨q,a⟩:=gj.mp z;have m:(ak (gR t) k).isSome=true:=by rw[<-jR,e];rfl
  obtain⟨r,b⟩:=gj.mp m;rcases i k p r e b with y | y;.exact .inl y
  .rw[a]at y;exact .inr ⟨q,r,a,b,y⟩
theorem WF.rng (w:WF t) (h:Rel T t):Rng T:=⟨λk v e=>w.key k v (by rw[<-h.gr w.toSrt];exact e),λk v e=>(w.spc k v (by rw[<-h.gx w.toSrt];exact e)).1⟩
theorem akJ (w:WF t) (h:iZ r):present t (fL r)=true↔(r.getD 0 0=2->(ak (gR t) (r.getD 1 0)).isSome=true)/\(r.getD 0 0=4->(ak (gX t) (r.getD 1 0)).isSome=true):=by
 obtain⟨a,b,c,d,rfl,e,h⟩:=h;unfold fL mkC;rcases h with ⟨rfl,_⟩ | ⟨rfl,_⟩ | ⟨rfl,_⟩ | ⟨rfl,_⟩;.simp[present]
 .show(groupAt t b.toNat).isSome=true↔((2:Int)=2->(ak (gR t) b).isSome=true)/\((2:Int)=4->_);rw[IV e.nn];simp
 .simp[present]
 .show(homeOf t b.toNat !=0)=true↔((4:Int)=2->_)/\((4:Int)=4->(ak (gX t) b).isSome=true);rw[bne_iff_ne,ne_eq,ux w e.nn];cases ak (gX t) b <;> simp
theorem akK (h:∃r∈cW l,¬iZ r):edited s t (.apply l)= .error (-1):=by have:=(R0 l.length l (bW _)).1.mpr h;unfold edited;dsimp only;rw[this]
theorem adT (h:∀r∈cW l,iZ r):edited s t (.apply l)=
  if distinctPairs (((cW l).map fL).map subject)=false then .error (-1)
  else match applied t ((cW l).map fL)with
    | .error n=> .error n
    | .ok r=>if r=t then .error (-6)else .ok r:=by
 have q:=R0 l.length l (bW _);cases e:changesOf l with
 | none=>obtain⟨r,c,b⟩:=q.1.mp e;exact absurd (h r c) b
 | some a=>unfold edited;dsimp only;rw[e,q.2 a e];rfl
section
variable {t:Tree}
theorem Dl:up t 0=[]:=by unfold up RANKS;rw[upFrom,aB rfl]
theorem adU (w:WF t) {k:Nat} {r:Int} (h:ak (gR t) k=some r):k≠0:=by have:=(w.key _ _ h).1;omega
theorem adV (w:WF t):∀(f c k:Nat) (r:Int),ak (gR t) k=some r->r<=f->r<=c->upFrom t f k=upFrom t c k
 | 0,_,_,_,h,i,_=>by have:=(w.key _ _ h).2;omega
 | _,0,_,_,h,_,i=>by have:=(w.key _ _ h).2;omega
 | f+1,c+1,k,r,h,i,o=>by
  have j:=adU w h;rw[upFrom,upFrom,au j,au j];rw[pQ]at h;obtain⟨g,e,p⟩:=iT.mp h;rw[e];show k::upFrom t f g.parent=k::upFrom t c g.parent
  congr 1
  have n:ak (gP t) k=some (g.parent:Int):=by rw[CP,e];rfl
  rcases w.par _ _ n with z | ⟨a,b,l,d,m⟩
  .have:g.parent=0:=by omega
   rw[this];cases f <;> cases c <;> simp[upFrom]
  .rw[pQ,e]at d;have d:(g.rank:Int)=b:=by injection d
   refine adV w f c g.parent a l ?_ ?_ <;> omega
theorem za (w:WF t) {k:Nat} {r:Int} {p:Nat} (h:ak (gR t) k=some r) (c:ak (gP t) k=some (p:Int)):up t k=k::up t p:=by
 have l:=adU w h;unfold up RANKS;rw[show upFrom t 8 k=_ from rfl,upFrom,au l];rw[CP]at c;obtain⟨g,d,m⟩:=iT.mp c;rw[d];have e:g.parent=p:=by omega
 show k::upFrom t 7 g.parent=_;rw[e]
 congr 1
 have c:ak (gP t) k=some (p:Int):=by rw[CP,d,<-e];rfl
 rcases w.par _ _ c with z | ⟨a,b,f,j,i⟩
 .have:p=0:=by omega
  rw[this];simp[upFrom]
 .have:=(w.key _ _ j).2;exact adV w 7 8 p a f (by omega) (by omega)
theorem Jg (w:WF t):∀(n k:Nat) (r:Int),ak (gR t) k=some r->r<=n->∀j∈up t k,∃q,ak (gR t) j=some q/\q<=r
 | 0,_,_,h,l,_,_=>by have:=(w.key _ _ h).2;omega
 | n+1,k,r,h,l,j,i=>by
  have o:(ak (gP t) k).isSome=true:=by rw[jR,h];rfl
  obtain⟨p,d⟩:=gj.mp o;have f:0<=p:=by
   rcases w.par _ _ d with z | ⟨a,b,c,_⟩;.omega
   .have:=(w.key _ _ c).1;omega
  have e:=toN f;rw[za w h (by rw[e];exact d)]at i;rcases cD.mp i with z | z;.subst z;exact⟨r,h,Bs _⟩
  .rcases w.par _ _ d with y | ⟨a,b,c,g,m⟩;.rw[y]at z;rw[show(0:Int).toNat=0 from rfl,Dl]at z;cases z
   .rw[h]at g;cases g;obtain⟨q,s,u⟩:=Jg w n p.toNat a (by rw[e];exact c) (by omega) j z;exact⟨q,s,by omega⟩
theorem adW (w:WF t):∀(n k:Nat) (r:Int),ak (gR t) k=some r->r<=n->(up t k).length<=n
 | 0,_,_,h,i=>by have:=(w.key _ _ h).2;omega
 | n+1,k,r,h,i=>by
  have l:(ak (gP t) k).isSome=true:=by rw[jR,h];rfl
  obtain⟨p,d⟩:=gj.mp l;have f:0<=p:=by
   rcases w.par _ _ d with z | ⟨a,b,c,_⟩;.omega
   .have:=(w.key _ _ c).1;omega
  have e:=toN f;rw[za w h (by rw[e];exact d),bR];rcases w.par _ _ d with y | ⟨a,b,c,g,j⟩;.rw[y,show(0:Int).toNat=0 from rfl,Dl];simp
  .rw[h]at g;cases g;have:=adW w n p.toNat a (by rw[e];exact c) (by omega);omega
theorem adX (w:WF t):∀(n k:Nat) (r:Int),ak (gR t) k=some r->r<=n->(up t k).Nodup
 | 0,_,_,h,j=>by have:=(w.key _ _ h).2;omega
 | n+1,k,r,h,j=>by
  have o:(ak (gP t) k).isSome=true:=by rw[jR,h];rfl
  obtain⟨p,d⟩:=gj.mp o;have f:0<=p:=by
   rcases w.par _ _ d with z | ⟨a,b,c,_⟩;.omega
   .have:=(w.key _ _ c).1;omega
  have e:=toN f;rw[za w h (by rw[e];exact d)];rcases w.par _ _ d with y | ⟨a,b,c,g,l⟩;.rw[y,show(0:Int).toNat=0 from rfl,Dl];simp
  .rw[h]at g;cases g;refine je.mpr ⟨λm=> ?_,adX w n p.toNat a (by rw[e];exact c) (by omega)⟩;obtain⟨q,i,s⟩:=Jg w n p.toNat a (by rw[e];exact c) (by omega) k m;rw[h]at i;cases i;omega
theorem akL (w:Srt t) (k:Nat):(holds t k).Pairwise (· < ·):=by unfold holds;rw[jZ];exact(w.s.sublist jf).imp λh=>h
theorem Jh {l:List Nat}:l∈sets t↔l≠[]/\∃g∈t.groups,holds t g.key=l:=by
 unfold sets;rw[aaM,cC,aQ];constructor;.rintro⟨⟨g,a,rfl⟩,h⟩;exact⟨by simpa using h,g,a,rfl⟩
 .rintro⟨h,g,a,rfl⟩;exact⟨⟨g,a,rfl⟩,by simpa using h⟩
end
section
variable {a b:Tree}
def jK (a b:Tree) (k:Nat):Prop:=holds a k≠[]/\(∃r,ak (gR a) k=some r)/\∃g∈b.groups,holds b g.key=holds a k
noncomputable def fP (a b:Tree) (k:Nat):Nat:=by
 classical
 exact((up a k).find? λj=>decide (jK a b j)).getD 0
theorem Ji (w:WF a) (k:Nat):(((a.groups.filter λg=>(sets b).contains (holds a g.key)).map λg=>g.key).contains k)=true↔jK a b k:=by
 rw[n8,aQ];constructor;.rintro⟨g,c,rfl⟩;obtain⟨d,f⟩:=cC.mp c;obtain⟨i,j⟩:=Jh.mp (n8.mp f);exact⟨i,⟨g.rank,((j_ w.toSrt).mp d).1⟩,j⟩
 .rintro⟨d,⟨r,h⟩,f⟩;rw[pQ]at h;obtain⟨g,c,_⟩:=iT.mp h;have e:g.key=k:=by have:=GF c;exact eq_of_beq this
  refine⟨g,cC.mpr ⟨O8 c,n8.mpr (Jh.mpr ?_)⟩,e⟩;rw[e];exact⟨d,f⟩
theorem adY (w:WF a) (k:Nat):((up a k).find? λj=>((a.groups.filter λg=>(sets b).contains (holds a g.key)).map λg=>g.key).contains j).getD 0=fP a b k:=by
 classical
 congr 2
 funext j;by_cases h:jK a b j;.rw[(Ji w j).mpr h];exact(cF h).symm
 .have:¬(((a.groups.filter λg=>(sets b).contains (holds a g.key)).map λg=>g.key).contains j)=true:=λz=>h ((Ji w j).mp z);rw[GR]at this;rw[this];exact(cY h).symm
theorem adZ:fP a b 0=0:=by unfold fP;rw[Dl];rfl
theorem akM (w:WF a) {k:Nat} {r:Int} (h:ak (gR a) k=some r) (j:jK a b k):fP a b k=k:=by
 classical
 have i:(ak (gP a) k).isSome=true:=by rw[jR,h];rfl
 obtain⟨p,f⟩:=gj.mp i;have e:0<=p:=by
  rcases w.par _ _ f with z | ⟨c,d,g,_⟩;.omega
  .have:=(w.key _ _ g).1;omega
 unfold fP;rw[za w h (by rw[toN e];exact f),kZ,cF j];rfl
theorem akN (w:WF a) {k:Nat} {r:Int} {p:Nat} (h:ak (gR a) k=some r) (d:ak (gP a) k=some (p:Int)) (c:¬jK a b k):fP a b k=fP a b p:=by
 classical
 unfold fP;rw[za w h d,kZ,cY c]
theorem akO (k:Nat):fP a b k=0\/(fP a b k∈up a k/\jK a b (fP a b k)):=by
 classical
 unfold fP;cases e:(up a k).find? λj=>decide (jK a b j)with
 | none=>exact .inl rfl
 | some j=>right;have c:=GF e;exact⟨O8 e,dz c⟩
open Classical in
theorem ad0 (w:WF a):Srt (consensus a b)/\(∀k:Nat,ak (gR (consensus a b)) k=if jK a b k then ak (gR a) k else none)/\
  (∀k:Nat,ak (gP (consensus a b)) k=if jK a b k then(ak (gP a) k).map λp=>((fP a b p.toNat:Nat):Int)else none)/\
  (∀x:Nat,ak (gX (consensus a b)) x=match ak (gX a) x with
   | none=>none
   | some h=>if fP a b h.toNat=0 then none else some ((fP a b h.toNat:Nat):Int))/\(consensus a b).groups.length<=32/\(consensus a b).specimens.length<=64:=by
 have E:(consensus a b).groups=(a.groups.filter λg=>decide (jK a b g.key)).map λg=>{g with parent:=fP a b g.parent}:=by
  unfold consensus;dsimp only;have c:(a.groups.filter λg=>(((a.groups.filter λg=>(sets b).contains (holds a g.key)).map λg=>g.key).contains g.key))=a.groups.filter λg=>decide (jK a b g.key):=by
   apply j5;intro g _;by_cases h:jK a b g.key;.rw[(Ji w _).mpr h,cF h]
   .have:¬(((a.groups.filter λg=>(sets b).contains (holds a g.key)).map λg=>g.key).contains g.key)=true:=λz=>h ((Ji w _).mp z);rw[GR]at this;rw[this,cY h]
  rw[c];apply gJ;intro g _;rw[adY w]
 have G:(consensus a b).specimens=(a.specimens.map λp=>(p.1,fP a b p.2)).filter λp=>p.2 !=0:=by
  unfold consensus;dsimp only
  congr 1
  apply gJ;intro p _;rw[adY w]
 have d:Srt (consensus a b):=by
  refine⟨?_,?_⟩;.rw[E];exact RB (w.g.sublist jf) _ λ_=>rfl
  .rw[G];exact(RD w.s (λp=>(p.1,fP a b p.2)) λ_=>rfl).sublist jf
 have A:∀g,g∈(consensus a b).groups↔∃h∈a.groups,jK a b h.key/\g={h with parent:=fP a b h.parent}:=by
  intro g;rw[E,aQ];constructor;.rintro⟨h,H,rfl⟩;obtain⟨f,t⟩:=cC.mp H;exact⟨h,f,dz t,rfl⟩
  .rintro⟨h,f,t,rfl⟩;exact⟨h,cC.mpr ⟨f,cF t⟩,rfl⟩
 refine⟨d,λk=> ?_,λk=> ?_,λx=> ?_,?_,?_⟩
 .by_cases i:jK a b k
  .rw[aB i];obtain⟨_,⟨r,B⟩,_⟩:=id i;rw[B];obtain⟨g,n,e⟩:=aQ.mp ((bY w.ndR).mpr B);injection e with c o;have c:g.key=k:=by omega
   have:=((j_ d).mp ((A _).mpr ⟨g,n,by rw[c];exact i,rfl⟩)).1;rw[<-c,<-o];exact this
  .rw[au i];cases q:ak (gR (consensus a b)) k with
   | none=>rfl
   | some v=>
    obtain⟨g,n,e⟩:=aQ.mp ((bY d.ndR).mpr q);obtain⟨h,H,j,rfl⟩:=(A g).mp n;injection e with c o;have c:h.key=k:=by simp only at c;omega
    rw[c]at j;exact absurd j i
 .by_cases i:jK a b k
  .rw[aB i];obtain⟨_,⟨r,B⟩,_⟩:=id i;obtain⟨g,n,e⟩:=aQ.mp ((bY w.ndR).mpr B);injection e with c o;have c:g.key=k:=by omega
   have f:=((j_ d).mp ((A _).mpr ⟨g,n,by rw[c];exact i,rfl⟩)).2;have t:=((j_ w.toSrt).mp n).2;rw[c]at t;rw[t];have f:ak (gP (consensus a b)) (g.key:Int)=some ((fP a b g.parent:Nat):Int):=f;rw[c]at f;rw[f];rfl
  .rw[au i];cases q:ak (gP (consensus a b)) k with
   | none=>rfl
   | some v=>
    obtain⟨g,n,e⟩:=aQ.mp ((bY d.ndP).mpr q);obtain⟨h,H,j,rfl⟩:=(A g).mp n;injection e with c o;have c:h.key=k:=by simp only at c;omega
    rw[c]at j;exact absurd j i
 .have C:∀p,p∈(consensus a b).specimens↔∃q∈a.specimens,p=(q.1,fP a b q.2)/\fP a b q.2≠0:=by
   intro p;rw[G,cC,aQ];constructor;.rintro⟨⟨q,J,rfl⟩,l⟩;exact⟨q,J,rfl,by simpa using l⟩
   .rintro⟨q,J,rfl,l⟩;exact⟨⟨q,J,rfl⟩,by simpa using l⟩
  cases q:ak (gX a) x with
  | none=>
   dsimp only;cases O:ak (gX (consensus a b)) x with
   | none=>rfl
   | some v=>obtain⟨p,I,F⟩:=aQ.mp ((bY d.ndX).mpr O);obtain⟨u,L,rfl,l⟩:=(C p).mp I;injection F with c o;have:=(qK w.toSrt).mp L;simp only at c;rw[c,q]at this;cases this
  | some h=>
   dsimp only;obtain⟨u,L,R⟩:=aQ.mp ((bY w.ndX).mpr q);injection R with c o;have Q:h.toNat=u.2:=by omega
   rw[Q];by_cases l:fP a b u.2=0
   .rw[aB l];cases O:ak (gX (consensus a b)) x with
    | none=>rfl
    | some v=>
     obtain⟨p,I,F⟩:=aQ.mp ((bY d.ndX).mpr O);obtain⟨S,N,rfl,y⟩:=(C p).mp I;injection F with P T;have f:=(qK w.toSrt).mp N;simp only at P;rw[P,q]at f;have:S.2=u.2:=by injection f with f;omega
     rw[this]at y;exact absurd l y
   .rw[au l];have:=(qK d).mp ((C _).mpr ⟨u,L,rfl,l⟩);simp only at this;rw[c]at this;exact this
 .rw[E,aJ];exact cI (fG _ _) w.ng
 .rw[G];refine cI (fG _ _) ?_;rw[aJ];exact w.nx
theorem ad1 (w:WF a) {k:Nat} {r:Int} (h:ak (gR a) k=some r):fP a b k=0\/∃q,ak (gR a) (fP a b k)=some q/\q<=r/\jK a b (fP a b k):=by
 rcases akO k with z | ⟨d,e⟩;.exact .inl z
 .right;have g:=(w.key _ _ h).2;obtain⟨q,f,c⟩:=Jg w 8 k r h (by omega) _ d;exact⟨q,f,c,e⟩
theorem akP (w:WF a):WF (consensus a b):=by
 classical
 obtain⟨m,d,A,B,I,J⟩:=ad0 w;have nn:∀{t:Tree} {k v:Int},(ak (gR t) k=some v\/ak (gP t) k=some v\/ak (gX t) k=some v)->((k.toNat:Nat):Int)=k:=λ{t k v} h=>by
  rcases Br k 0 with z | z
  .have:=yW (t:=t) z;rcases h with h | h | h;.rw[this.1]at h;cases h
   .rw[this.2.1]at h;cases h
   .rw[this.2.2]at h;cases h
  .exact toN z
 refine⟨m,λk r e=> ?_,λk p e=> ?_,λx h e=> ?_,I,J⟩
 .have c:=nn (.inl e);rw[<-c,d]at e;split at e;.have:=w.key _ _ e;rw[c]at this;exact this
  .cases e
 .have c:=nn (.inr (.inl e));rw[<-c,A]at e;split at e
  .rename_i i;obtain⟨u,G,s⟩:=iT.mp e;rcases w.par _ _ G with z | ⟨q,r,y,g,F⟩;.left;rw[<-s,z,show(0:Int).toNat=0 from rfl,adZ];rfl
   .have j:((u.toNat:Nat):Int)=u:=toN (by have:=(w.key _ _ y).1;omega);rcases ad1 (b:=b) w (k:=u.toNat) (r:=q) (by rw[j];exact y)with z | ⟨l,f,n,o⟩;.left;omega
    .right;refine⟨l,r,?_,?_,by omega⟩;.rw[<-s,d,aB o];exact f
     .rw[<-c,d,aB i];exact g
  .cases e
 .have c:=nn (.inr (.inr e));rw[<-c,B]at e;cases q:ak (gX a) ((x.toNat:Nat):Int)with
  | none=>rw[q]at e;cases e
  | some v=>
   rw[q]at e;dsimp only at e;obtain⟨f,r,g⟩:=w.spc _ _ q;rw[c]at f;refine⟨f,?_⟩;have H:((v.toNat:Nat):Int)=v:=toN (by have:=(w.key _ _ g).1;omega);split at e;.cases e
   .rename_i E;injection e with e;rcases ad1 w (by rw[H];exact g)with z | ⟨l,n,o,C⟩;.exact absurd z E
    .exact⟨l,by rw[<-e,d,aB C];exact n⟩
end
def jL (v:Version):Nat:=v.school * (DAY+1)+v.day
structure VOk (vs:List Version):Prop where
 srt:vs.Pairwise λa b=>jL a < jL b
 day:∀v∈vs,v.day<=1000000
 len:vs.length<=16
theorem akQ (h:jL a < jL b) (c:a.day<=1000000) (d:b.day<=1000000):a.school < b.school\/(a.school=b.school/\a.day < b.day):=by
 unfold jL DAY at h;rcases Ov a.school b.school with z | z | z;.exact .inl z
 .right;rw[z]at h;exact⟨z,by omega⟩
 .have:(b.school+1) * (1000000+1)<=a.school * (1000000+1):=Gw _ z;rw[Ow]at this;omega
theorem akR {l:List Version} (h:l.Pairwise λa b=>a.day < b.day) {v:Version} (e:l.getLast? =some v):v∈l/\∀u∈l,u.day<=v.day:=by
 induction l with
 | nil=>cases e
 | cons a l i=>
  have f:=Gz.mp h;cases l with
  | nil=>simp at e;subst e;exact⟨cU,λu c=>by rw[dX.mp c];exact bW _⟩
  | cons b l=>
   rw[List.getLast?_cons_cons]at e;obtain⟨d,g⟩:=i f.2 e;refine⟨cO _ d,λu c=> ?_⟩;rcases cD.mp c with z | z;.subst z;exact Gp (f.1 v d)
   .exact g u z
theorem akS (w:VOk vs) (k d:Nat):(vs.filter λv=>v.school==k&&decide (v.day<=d)).Pairwise λa b=>a.day < b.day:=by
 refine(w.srt.sublist jf).imp_of_mem λ{a b} i j c=> ?_;obtain⟨g,e⟩:=cC.mp i;obtain⟨h,f⟩:=cC.mp j;rw[dY]at e f;have l:=eq_of_beq e.1;have m:=eq_of_beq f.1;rcases akQ c (w.day a g) (w.day b h)with z | z;.omega
 .exact z.2
theorem akT (w:VOk s.versions) (h:∀v∈s.versions,v.school=k->¬v.day<=d):versionBy s k d=none:=by
 unfold versionBy;have:(s.versions.filter λv=>v.school==k&&decide (v.day<=d))=[]:=by rw[List.filter_eq_nil_iff];intro v c;rw[dY];rintro⟨a,b⟩;exact h v c (eq_of_beq a) (dz b)
 rw[this];rfl
theorem akU {s:State} (w:VOk s.versions) {k d:Nat} {v:Version} (j:v∈s.versions) (i:v.school=k) (y:v.day<=d) (z:∀u∈s.versions,u.school=k->u.day<=d->u.day<=v.day):versionBy s k d=some v.tree:=by
 unfold versionBy;have a:v∈s.versions.filter λv=>v.school==k&&decide (v.day<=d):=cC.mpr ⟨j,by rw[dY];exact⟨by rw[i];exact beq_self_eq_true k,cF y⟩⟩;cases e:(s.versions.filter λv=>v.school==k&&decide (v.day<=d)).getLast? with
 | none=>rw[List.getLast?_eq_none_iff.mp e]at a;cases a
 | some u=>
  obtain⟨p,t⟩:=akR (akS w k d) e;have E:=t v a;obtain⟨n,c⟩:=cC.mp p;rw[dY]at c;have o:=eq_of_beq c.1;have F:=z u n o (dz c.2);have:u=v:=by
   refine jk λC=> ?_;have x:=jZ.mpr (w.srt.imp λh=>fZ h);obtain⟨l,A,f⟩:=pH n;obtain⟨m,B,g⟩:=pH j;have b:jL u=jL v:=by unfold jL;rw[o,i];congr 1;omega
   have:l=m:=by
    have q:(s.versions.map jL)[l]'(by simpa using A)=(s.versions.map jL)[m]'(by simpa using B):=by simp[f,g,b]
    exact(Bg x).mp q
   subst this;exact C (f.symm.trans g)
  rw[this];rfl
theorem akV (w:VOk vs) (c:v.day<=1000000) (d:∀u∈vs,¬(u.school=v.school/\u.day=v.day)) (g:vs.length < 16):VOk (oh (λv=>v.school * (DAY+1)+v.day) v vs)/\∀u,u∈oh (λv=>v.school * (DAY+1)+v.day) v vs↔u=v\/u∈vs:=by
 have b:=wg (λv:Version=>v.school * (DAY+1)+v.day) v vs;refine⟨⟨CQ jL v vs (λu a e=> ?_) w.srt,λu a=> ?_,?_⟩,λu=> ?_⟩
 .have f:=w.day u a;unfold jL DAY at e;rcases Ov u.school v.school with z | z | z;.have:(u.school+1) * (1000000+1)<=v.school * (1000000+1):=Gw _ z;rw[Ow]at this;omega
  .rw[z]at e;exact d u a ⟨z,by omega⟩
  .have:(v.school+1) * (1000000+1)<=u.school * (1000000+1):=Gw _ z;rw[Ow]at this;omega
 .rcases cD.mp (b.mem_iff.mp a)with z | z;.rw[z];exact c
  .exact w.day u z
 .rw[b.length_eq,bR];omega
 .rw[b.mem_iff,cD]
structure ad2 (d:Desk):Prop where
 draft:WF d.draft
 back:∀t∈d.back,WF t
 len:d.back.length<=12
structure SOk (s:State):Prop where
 len:s.desks.length=3
 desk:∀d∈s.desks,ad2 d
 vers:VOk s.versions
 sch:∀v∈s.versions,(1<=v.school/\v.school<=3)/\WF v.tree
theorem ad3:WF bare:=by refine⟨⟨.nil,.nil⟩,λk r e=> ?_,λk r e=> ?_,λk r e=> ?_,by decide,by decide⟩ <;> cases e
theorem akW:SOk start:=by refine⟨rfl,λd b=> ?_,⟨.nil,(λv a=>by cases a),by decide⟩,λv a=>by cases a⟩;have:=List.eq_of_mem_replicate b;subst this;exact⟨ad3,(λt c=>by cases c),by decide⟩
theorem ad4 (w:SOk s) (h:1<=k/\k<=3):desk s k∈s.desks/\s.desks[k-1]? =some (desk s k):=by
 have a:k-1 < s.desks.length:=by rw[w.len];omega
 unfold desk;rw[O9,ql a];exact⟨O_ a,rfl⟩
theorem akX (w:SOk s) (k:Nat) (a:ad2 d):SOk (setDesk s k d):=by
 refine⟨by unfold setDesk;rw[aaG];exact w.len,λe b=> ?_,w.vers,w.sch⟩;rcases List.mem_or_eq_of_mem_set b with z | z;.exact w.desk e z
 .rw[z];exact a
theorem akY (w:SOk s) (c:1<=k/\k<=3) (b:1<=j/\j<=3) (d:Desk):desk (setDesk s k d) j=if j=k then d else desk s j:=by
 unfold desk setDesk;have a:k-1 < s.desks.length:=by rw[w.len];omega
 rw[O9,O9];by_cases h:j=k;.rw[aB h,h,xV a];rfl
 .rw[au h,Gx (by omega)]
theorem ad5 {a:Int->Option (Nat×Nat)} {f:Nat}:rH a f []=some []:=by cases f <;> rfl
theorem akZ {a:Int->Option (Nat×Nat)} {f:Nat} {p:Int} {r:List Int} {i:List (List (List Int))} (h:rH a f (p::r)=some i):
  ∃l n k xs t b,f=l+1/\a p=some (n,k)/\n<=r.length/\pK k (r.drop n)=some (xs,t)/\rH a l t=some b/\i=((p::r.take n)::xs)::b:=by
 cases f with
 | zero=>cases h
 | succ f=>
  rw[rH]at h;cases e:abL a (p::r)with
  | none=>rw[e]at h;cases h
  | some q=>
   obtain⟨c,t⟩:=q;rw[e]at h;dsimp only at h;cases d:rH a f t with
   | none=>rw[d]at h;cases h
   | some b=>
    rw[d]at h;injection h with h;unfold abL at e;dsimp only at e;cases j:a p with
    | none=>rw[j]at e;cases e
    | some s=>
     obtain⟨n,k⟩:=s;rw[j]at e;dsimp only at e;split at e;.cases e
     .rename_i v;cases g:pK k (r.drop n)with
      | none=>rw[g]at e;cases e
      | some q=>obtain⟨xs,u⟩:=q;rw[g]at e;injection e with e;injection e with m o;subst o;exact⟨f,n,k,xs,u,b,rfl,rfl,by omega,g,d,by rw[<-h,<-m]⟩
theorem ad6 (h:pK (k+1) r=some (xs,t)):
  ∃(m:Nat) (b:List Int) (a:List (List Int)),r=(m:Int)::b/\m<=b.length/\xs=b.take m::a/\pK k (b.drop m)=some (a,t):=by
 unfold pK at h;cases r with
 | nil=>cases h
 | cons n b=>
  unfold PyFlat.row at h;dsimp only at h;split at h;.cases h
  .rename_i x s e;split at e
   .rename_i c;injection e with e;injection e with d f;split at h;.cases h
    .rename_i a l g;injection h with h;injection h with i j;subst j;exact⟨n.toNat,b,a,by rw[toN c.1],c.2,by rw[<-i,d],by rw[f];exact g⟩
   .cases e
theorem ad7 (h:pK 0 r=some (xs,t)):xs=[]/\t=r:=by injection h with h;injection h with a b;exact⟨a.symm,b.symm⟩
end GS
end
section
set_option Elab.async false
set_option linter.all false
set_option maxRecDepth 100000
namespace GS
open Vbnlah
def zs (l:List Nat):List Int:=l.map λ(n:Nat)=>(n:Int)
def upI (t:Tree) (g:Int):List Int:=zs (up t g.toNat)
def bK (t:Tree) (k:Int):List Int:=zs (holds t k.toNat)
def bN (t:Tree):List Int:=t.groups.map λg=>(g.key:Int)
def dJ (t:Tree):List Int:=t.specimens.map λp=>(p.1:Int)
theorem qL {l:List Nat} {n:Nat}:(n:Int)∈zs l↔n∈l:=by
 unfold zs;rw[aQ];constructor
 .rintro⟨m,h,e⟩;have:m=n:=by omega
  exact this▸h
 .exact λh=>⟨n,h,rfl⟩
theorem Jk:∀{l m:List Nat},zs l=zs m->l=m
 | [],[],_=>rfl
 | [],_::_,h=>by cases h
 | _::_,[],h=>by cases h
 | a::l,b::m,h=>by
  have h:(a:Int)::zs l=(b:Int)::zs m:=h;injection h with d c;have:a=b:=by omega
  rw[this,Jk c]
theorem ad8 (t:Tree):upI t 0=[]:=by unfold upI;show zs (up t 0)=[];rw[Dl];rfl
theorem ad9 {t:Tree} (w:WF t) {g v p:Int} (h:ak (gR t) g=some v) (c:ak (gP t) g=some p):upI t g=g::upI t p:=by
 have e:0<=g:=by have:=(w.key g v h).1.1;omega
 have b:0<=p:=by
  rcases w.par g p c with z | ⟨q,_,z,_⟩;.omega
  .have:=(w.key p q z).1.1;omega
 have a:=toN e;have d:=toN b;unfold upI;rw[za w (k:=g.toNat) (r:=v) (p:=p.toNat) (by rw[a];exact h) (by rw[a,d];exact c)];show(g.toNat:Int)::_=_;rw[a];rfl
theorem zc {t:Tree} (w:WF t) {g v:Int} (h:ak (gR t) g=some v) {j:Int} (c:j∈upI t g):∃u,ak (gR t) j=some u:=by
 have b:0<=g:=by have:=(w.key g v h).1.1;omega
 have a:=toN b;obtain⟨n,d,rfl⟩:=aQ.mp c;have f:=(w.key g v h).2;obtain⟨u,e,_⟩:=Jg w v.toNat g.toNat v (by rw[a];exact h) (by omega) n d;exact⟨u,e⟩
theorem ak0 {t:Tree} (w:WF t) {g v:Int} (h:ak (gR t) g=some v):(upI t g).Nodup:=by
 have f:0<=g:=by have:=(w.key g v h).1.1;omega
 have d:=toN f;have i:=(w.key g v h).2;have:=adX w v.toNat g.toNat v (by rw[d];exact h) (by omega);unfold upI zs;refine tU _ (λa b c e=>c (by omega)) this
theorem ad_ (w:WF t) (h:ak (gR t) g=some v):(upI t g).length<=8:=by
 have b:0<=g:=by have:=(w.key g v h).1.1;omega
 have a:=toN b;have c:=(w.key g v h).2;have:=adW w 8 g.toNat v (by rw[a];exact h) (by omega);unfold upI zs;rw[aJ];exact this
theorem Jl (w:Srt t):(dJ t).Pairwise (· < ·):=by unfold dJ;exact tU _ (λa b h=>by omega) w.s
theorem Jm (w:Srt t):(bN t).Pairwise (· < ·):=by unfold bN;exact tU _ (λa b h=>by omega) w.g
theorem oX {ns c:List Int} (d:ns.Perm c) (e:ns.Pairwise (· <= ·)) (f:c.Pairwise (· < ·)):ns=c:=
 ahX (λa b _ _ h g=>by omega) e (f.imp λh=>by omega) d
theorem Jo (h:Rel T t):(T.X.map (·.1)).Perm (dJ t):=by have:=h.x.map (·.1);unfold gX at this;rw[bC]at this;exact this
theorem Dm (h:Rel T t):(T.R.map (·.1)).Perm (bN t):=by have:=h.r.map (·.1);unfold gR at this;rw[bC]at this;exact this
theorem Dn (w:Srt t):x∈dJ t↔∃h,ak (gX t) x=some h:=by
 constructor;.intro d;obtain⟨p,a,rfl⟩:=aQ.mp d;exact⟨_,(qK w).mp a⟩
 .rintro⟨h,e⟩;have:=(bY w.ndX).mpr e;obtain⟨p,a,b⟩:=aQ.mp this;injection b with c f;exact aQ.mpr ⟨p,a,c⟩
theorem zf (w:Srt t):k∈bN t↔∃v,ak (gR t) k=some v:=by
 constructor;.intro f;obtain⟨g,c,rfl⟩:=aQ.mp f;exact⟨_,((j_ w).mp c).1⟩
 .rintro⟨h,e⟩;have:=(bY w.ndR).mpr e;obtain⟨p,d,a⟩:=aQ.mp this;injection a with b i;exact aQ.mpr ⟨p,d,b⟩
def pR (t:Tree) (k x:Int):Bool:=decide (k∈upI t ((ak (gX t) x).getD 0))
theorem aea (w:WF t) (b:0<=k):(dJ t).filter (pR t k)=bK t k:=by
 unfold dJ bK holds zs;rw[j4,bC];have a:=toN b;have:∀p∈t.specimens,(pR t k∘λp:Nat×Nat=>(p.1:Int)) p=(up t p.2).contains k.toNat:=by intro p c;have e:=(qK w.toSrt).mp c;show decide (k∈upI t ((ak (gX t) (p.1:Int)).getD 0))=_;rw[e];show decide (k∈zs (up t ((p.2:Int).toNat)))=_;rw[jg,jA,cH,n8];have:=qL (l:=up t p.2) (n:=k.toNat);rw[a]at this;exact this
 rw[j5 this];rfl
theorem zj (w:WF t) (k:Int):(bK t k).length<=64:=by unfold bK zs holds;rw[aJ,aJ];exact cI (fG _ _) w.nx
section
variable {a b:Tree}
def kI (a b:Tree) (k:Int):Prop:=(∃v,ak (gR a) k=some v)/\bK a k≠[]/\∃j u,ak (gR b) j=some u/\bK a k=bK b j
noncomputable instance (k:Int):Decidable (kI a b k):=Qt _
theorem R6:zs l=[]↔l=[]:=by unfold zs;simp
theorem Jp (w:WF a) (l:WF b) (k:Int):kI a b k↔0<=k/\jK a b k.toNat:=by
 constructor
 .rintro⟨⟨v,c⟩,f,j,u,m,h⟩;have d:0<=k:=by have:=(w.key k v c).1.1;omega
  have o:0<=j:=by have:=(l.key j u m).1.1;omega
  refine⟨d,λz=>f (R6.mpr z),⟨v,by rw[toN d];exact c⟩,?_⟩;have:j∈bN b:=(zf l.toSrt).mpr ⟨u,m⟩;obtain⟨g,i,e⟩:=aQ.mp this;refine⟨g,i,?_⟩;have n:j.toNat=g.key:=by omega
  have:=Jk h;rw[n]at this;exact this.symm
 .rintro⟨d,f,⟨v,c⟩,g,i,h⟩;rw[toN d]at c;refine⟨⟨v,c⟩,λz=>f (R6.mp z),(g.key:Int),(g.rank:Int),((j_ l.toSrt).mp i).1,?_⟩;unfold bK;rw[jg,h]
noncomputable def gk (a b:Tree) (g:Int):Int:=((fP a b g.toNat:Nat):Int)
theorem ak1:gk a b 0=0:=by unfold gk;show((fP a b 0:Nat):Int)=0;rw[adZ];rfl
theorem ak2 (w:WF a) (f:WF b) (h:kI a b g):gk a b g=g:=by obtain⟨c,d⟩:=(Jp w f g).mp h;obtain⟨⟨v,e⟩,_⟩:=h;unfold gk;rw[akM w (by rw[toN c];exact e) d,toN c]
theorem ak3 (w:WF a) (i:WF b) (f:ak (gR a) g=some v) (e:ak (gP a) g=some p) (h:¬kI a b g):gk a b g=gk a b p:=by
 have c:0<=g:=by have:=(w.key g v f).1.1;omega
 have d:0<=p:=by
  rcases w.par g p e with z | ⟨q,_,z,_⟩;.omega
  .have:=(w.key p q z).1.1;omega
 unfold gk;rw[akN w (k:=g.toNat) (r:=v) (p:=p.toNat) (by rw[toN c];exact f) (by rw[toN c,toN d];exact e) λz=>h ((Jp w i g).mpr ⟨c,z⟩)]
theorem ak4 (w:WF a) (g:WF b):Srt (consensus a b)/\(∀k:Int,ak (gR (consensus a b)) k=if kI a b k then ak (gR a) k else none)/\
  (∀k:Int,ak (gP (consensus a b)) k=if kI a b k then(ak (gP a) k).map (gk a b)else none)/\
  (∀x:Int,ak (gX (consensus a b)) x=(ak (gX a) x).bind λh=>if gk a b h=0 then none else some (gk a b h)):=by
 obtain⟨s,R,P,X,_,_⟩:=ad0 (b:=b) w;have c:∀k:Int,0<=k->(jK a b k.toNat↔kI a b k):=λk d=>by rw[Jp w g];exact⟨λz=>⟨d,z⟩,λz=>z.2⟩
 have f:∀k:Int,k < 0->¬kI a b k:=λk d z=>by have:=((Jp w g k).mp z).1;omega
 refine⟨s,λk=> ?_,λk=> ?_,λx=> ?_⟩
 .rcases Br k 0 with z | z;.rw[(yW z).1,au (f k z)]
  .have:=R k.toNat;rw[toN z]at this;rw[this];by_cases q:kI a b k;.rw[aB q,aB ((c k z).mpr q)]
   .rw[au q,au λy=>q ((c k z).mp y)]
 .rcases Br k 0 with z | z;.rw[(yW z).2.1,au (f k z)]
  .have:=P k.toNat;rw[toN z]at this;rw[this];by_cases q:kI a b k;.rw[aB q,aB ((c k z).mpr q)];rfl
   .rw[au q,au λy=>q ((c k z).mp y)]
 .rcases Br x 0 with z | z;.rw[(yW z).2.2,(yW z).2.2];rfl
  .have:=X x.toNat;rw[toN z]at this;rw[this];cases e:ak (gX a) x with
   | none=>rfl
   | some h=>
    show(if fP a b h.toNat=0 then none else some ((fP a b h.toNat:Nat):Int))=if gk a b h=0 then none else some (gk a b h);unfold gk;by_cases q:fP a b h.toNat=0;.rw[aB q,aB (by omega)]
    .rw[au q,au (by omega)]
end
def oY (t:Tree) (f:Nat) (g:Group):List Nat:=
 decimal g.rank++(58::decimal g.key)++(if(own t g.key).isEmpty=true then []else 91::(between 32 ((own t g.key).map decimal)++[93]))++(if(children t g.key).isEmpty=true then []else 123::(showFrom t f g.key++[125]))
theorem Dp (t:Tree) (f k:Nat):showFrom t (f+1) k=between 44 ((children t k).map (oY t f)):=rfl
theorem zm (w:WF t) (j:g∈t.groups) (i:c∈children t g.key):g.rank < c.rank/\c∈t.groups/\c.parent=g.key:=by
 obtain⟨b,a⟩:=cC.mp i;have a:=eq_of_beq a;have h:=(bY w.ndR).mp (aQ.mpr ⟨g,j,rfl⟩);have f:=(bY w.ndR).mp (aQ.mpr ⟨c,b,rfl⟩);have l:=(bY w.ndP).mp (aQ.mpr ⟨c,b,by rw[a]⟩);have n:=(w.key _ _ h).1.1;rcases w.par _ _ l with z | ⟨q,r,d,e,m⟩;.omega
 .rw[h]at d;rw[f]at e;injection d with d;injection e with e;exact⟨by omega,b,a⟩
theorem zp (w:WF t) (a:g∈t.groups):1<=g.rank/\g.rank<=8/\1<=g.key/\g.key<=1000000000:=by have b:=(bY w.ndR).mp (aQ.mpr ⟨g,a,rfl⟩);have:=w.key _ _ b;omega
theorem aeb (w:WF t):∀n f b g,g∈t.groups->8-g.rank<=n->n<=f->n<=b->oY t f g=oY t b g:=by
 intro n
 induction n with
 | zero=>
  intro f b g i h _ _;have:children t g.key=[]:=by rw[List.eq_nil_iff_forall_not_mem];intro c e;have d:=zm w i e;have m:=zp w d.2.1;omega
  unfold oY;rw[this];rfl
 | succ n l=>
  intro f b g i h o j;obtain⟨f,rfl⟩:∃a,f=a+1:=⟨f-1,by omega⟩;obtain⟨b,rfl⟩:∃a,b=a+1:=⟨b-1,by omega⟩;unfold oY;rw[Dp,Dp];have:=gJ λc e=>by have d:=zm w i e;exact l f b c d.2.1 (by omega) (by omega) (by omega)
  rw[this]
def txt (t:Tree) (k:Int):List Nat:=match groupAt t k.toNat with
 | some g=>oY t 8 g
 | none=>[]
def chI (t:Tree) (k:Int):List Int:=(children t k.toNat).map λg=>(g.key:Int)
def fY (t:Tree) (k:Int):List Int:=zs (own t k.toNat)
theorem R7 (w:Srt t) (f:g∈t.groups):groupAt t g.key=some g:=by
 have h:=(bY w.ndR).mp (aQ.mpr ⟨g,f,rfl⟩);rw[pQ]at h;obtain⟨m,c,_⟩:=iT.mp h;rw[c]
 congr 1
 have o:m.key=g.key:=by have:=GF c;exact eq_of_beq this
 have n:=O8 c;obtain⟨d,j,a⟩:=pH n;obtain⟨e,l,b⟩:=pH f;have i:=List.pairwise_iff_getElem.mp w.g;rcases Ov d e with z | z | z;.have:=i d e j l z;rw[a,b]at this;omega
 .subst z;rw[<-a,<-b]
 .have:=i e d l j z;rw[a,b]at this;omega
theorem Dq (w:Srt t) (a:g∈t.groups):txt t g.key=oY t 8 g:=by unfold txt;rw[show((g.key:Int)).toNat=g.key from rfl,R7 w a]
theorem aec (w:WF t) (k:Nat) (d:∀c∈children t k,2<=c.rank\/k=0):(children t k).map (oY t 7)=(chI t k).map (txt t):=by unfold chI;rw[bC];refine gJ λc b=> ?_;have a:=(cC.mp b).1;show _=txt t c.key;rw[Dq w.toSrt a];have:=zp w a;exact aeb w 7 7 8 c a (by omega) (by omega) (by omega)
theorem aed (w:WF t):show_ t=between 44 ((chI t 0).map (txt t)):=by show showFrom t (7+1) 0=_;rw[Dp,aec w 0 λ_ _=> .inr rfl];rfl
theorem ak5 (l:List Nat):(zs l=[])↔l.isEmpty=true:=by cases l <;> simp[zs]
theorem ak6 (w:WF t) (h:ak (gR t) k=some r):txt t k=decimal r.toNat++(58::decimal k.toNat)++(if fY t k=[]then []else 91::(between 32 ((fY t k).map λx=>decimal x.toNat)++[93]))++(if chI t k=[]then []else 123::(between 44 ((chI t k).map (txt t))++[125])):=by
 obtain⟨g,a,e⟩:=aQ.mp ((bY w.ndR).mpr h);injection e with j l;subst j l;rw[Dq w.toSrt a];unfold oY;have f:((fY t g.key).map λx=>decimal x.toNat)=(own t g.key).map decimal:=by unfold fY zs;rw[bC];rfl
 have i:showFrom t 8 g.key=between 44 ((chI t g.key).map (txt t)):=by rw[Dp,aec w g.key λc m=> .inl ?_];have:=zm w a m;have:=zp w a;omega
 rw[f,i];have b:(fY t (g.key:Int)=[])=((own t g.key).isEmpty=true):=propext (ak5 _);have d:(chI t (g.key:Int)=[])=((children t g.key).isEmpty=true):=by unfold chI;rw[show((g.key:Int)).toNat=g.key from rfl];cases children t g.key <;> simp
 congr 1
 .congr 1
  by_cases z:(own t g.key).isEmpty=true;.rw[aB z,aB (b▸z)]
  .rw[au z,au (b▸z)]
 .by_cases z:(children t g.key).isEmpty=true;.rw[aB z,aB (d▸z)]
  .rw[au z,au (d▸z)]
theorem sum_add {α:Type} (f g:α->Nat) (l:List α):(l.map λa=>f a+g a).sum=(l.map f).sum+(l.map g).sum:=by
 induction l with
 | nil=>rfl
 | cons a l b=>simp only[bT,lu,b];omega
theorem R8 {α:Type} {f g:α->Nat} {l:List α} (h:∀a∈l,f a<=g a):(l.map f).sum<=(l.map g).sum:=by
 induction l with
 | nil=>exact bW _
 | cons a l d=>simp only[bT,lu];have:=h a (cU ..);have:=d λb c=>h b (cO _ c);omega
theorem ak7 {α:Type} (f:α->Nat) {l m:List α} (h:l.Sublist m):(l.map f).sum<=(m.map f).sum:=by
 induction h with
 | slnil=>exact bW _
 | cons a _ b=>simp only[bT,lu];omega
 | cons_cons a _ b=>simp only[bT,lu];omega
theorem aee:∀{ks:List Nat},ks.Nodup->(ks.map λj=>if k=j then n else 0).sum<=if k∈ks then n else 0
 | [],_=>by simp
 | j::ks,h=>by
  obtain⟨b,c⟩:=je.mp h;have a:=aee (n:=n) (k:=k) c;simp only[bT,lu];by_cases e:k=j;.subst e;rw[au b]at a;rw[aB rfl,aB (cU ..)];omega
  .rw[au e];by_cases z:k∈ks;.rw[aB z]at a;rw[aB (cO _ z)];omega
   .rw[au z]at a;omega
theorem R9 {α:Type} (N p:α->Nat) {ks:List Nat} (d:ks.Nodup):∀b:List α,(ks.map λk=>((b.filter λc=>p c==k).map N).sum).sum<=((b.filter λc=>decide (p c∈ks)).map N).sum
 | []=>by
  simp only[vf,xW,aaN]
  induction ks with
  | nil=>exact bW _
  | cons a l f=>simp only[bT,lu];have:=f (je.mp d).2;omega
 | c::b=>by
  have f:=R9 N p d b;have e:(ks.map λk=>(((c::b).filter λc=>p c==k).map N).sum)=ks.map λk=>(if p c=k then N c else 0)+((b.filter λc=>p c==k).map N).sum:=by
   refine gJ λk _=> ?_;rw[pG];by_cases z:p c=k;.rw[aB (beq_iff_eq.mpr z),aB z,bT,lu]
   .rw[au (λh=>z (eq_of_beq h)),au z,Nat.zero_add]
  rw[e,sum_add];have:=aee (n:=N c) (k:=p c) d;rw[pG];by_cases z:p c∈ks;.rw[aB z]at this;rw[aB (cF z),bT,lu];omega
  .rw[au z]at this;rw[au (by rw[cY z];decide)];omega
theorem Jq (s:Nat):∀l:List (List Nat),(between s l).length<=(l.map λx=>x.length+1).sum
 | []=>bW _
 | [x]=>by show x.length<=_;simp only[bT,lu];omega
 | x::y::l=>by have a:=Jq s (y::l);show(x++(s::between s (y::l))).length<=_;rw[bT,lu,cV,bR];omega
theorem Jr (h:n<=1000000000):(decimal n).length<=10:=by
 unfold decimal;rw[aJ];have e:=(aav (n:=n) (by decide:0 < 10)).mpr (by omega)
 rwa [<-abM,aaw]at e
theorem aef (h:n<=8):(decimal n).length<=1:=by
 unfold decimal;rw[aJ];have e:=(aav (n:=n) (by decide:0 < 1)).mpr (by omega)
 rwa [<-abM,aaw]at e
def tN (t:Tree) (g:Group):Nat:=(oY t 8 g).length+1
def tW (t:Tree) (g:Group):Nat:=17+11 * (own t g.key).length
theorem ak8 (w:WF t) (h:x∈own t k):x<=1000000000:=by obtain⟨p,b,e⟩:=aQ.mp h;have a:=(cC.mp b).1;have:=(w.spc p.1 p.2 ((bY w.ndX).mp (aQ.mpr ⟨p,a,rfl⟩))).1;omega
theorem ak9 {s:Nat} {l:List Nat} (h:∀x∈l,x<=1000000000):(between s (l.map decimal)).length<=11 * l.length:=by
 refine cI (Jq s _) ?_;rw[bC]
 induction l with
 | nil=>exact bW _
 | cons a l c=>
  have:=c λx b=>h x (cO _ b);have:=Jr (h a (cU ..));simp only[bT,lu,bR,Qs]
  try simp only[Qs]at *
  omega
theorem aeg {t:Tree} (w:WF t) {g:Group} (a:g∈t.groups):tN t g<=tW t g+((children t g.key).map (tN t)).sum:=by
 obtain⟨v,i,u,h⟩:=zp w a;have j:=aef i;have l:=Jr h;have m:=ak9 (s:=32) (λx f=>ak8 w (k:=g.key) f);have n:(showFrom t 8 g.key).length<=((children t g.key).map (tN t)).sum:=by rw[Dp];refine cI (Jq 44 _) ?_;rw[bC];refine R8 λc e=> ?_;obtain⟨q,b,_⟩:=zm w a e;show(oY t 7 c).length+1<=tN t c;rw[aeb w 7 7 8 c b (by omega) (by omega) (by omega)];exact bW _
 generalize d:((children t g.key).map (tN t)).sum=S at *;unfold tN tW oY;have o:(if(own t g.key).isEmpty=true then []else 91::(between 32 ((own t g.key).map decimal)++[93])).length<=2+11 * (own t g.key).length:=by
  split;.simp
  .simp only[bR,cV,jY];omega
 have p:(if(children t g.key).isEmpty=true then []else 123::(showFrom t 8 g.key++[125])).length<=2+S:=by
  split;.simp
  .simp only[bR,cV,jY];omega
 clear d;rw[cV,cV,cV,bR];omega
theorem ak_ {α:Type} (N:α->Nat) (q:α->Bool) (l:List α):(l.map N).sum=((l.filter q).map N).sum+((l.filter λc=> !q c).map N).sum:=by
 induction l with
 | nil=>rfl
 | cons a l b=>rw[pG,pG];cases e:q a <;> simp[b] <;> omega
def deep (t:Tree) (r:Nat):List Group:=t.groups.filter λg=>decide (r < g.rank)
theorem aeh (w:WF t) (r:Nat):((deep t r).map (·.key)).Nodup:=
 (jZ.mpr (w.g.imp λh=>fZ h):(t.groups.map (·.key)).Nodup).sublist (List.filter_sublist.map _)
theorem ala {t:Tree} (w:WF t) (r:Nat):((deep t r).map (tW t)).sum<=1248:=by
 have f:((deep t r).map (tW t)).sum=17 * (deep t r).length+11 * ((deep t r).map λg=>(own t g.key).length).sum:=by
  generalize deep t r=l
  induction l with
  | nil=>rfl
  | cons a l b=>simp only[bT,lu,bR,b];unfold tW;omega
 have h:(deep t r).length<=32:=cI (fG _ _) w.ng;have i:((deep t r).map λg=>(own t g.key).length).sum<=64:=by
  have z:=R9 (λ_:Nat×Nat=>1) (λp=>p.2) (aeh w r) t.specimens;rw[bC]at z;have e:∀l:List (Nat×Nat),(l.map λ_=>1).sum=l.length:=λl=>by
   induction l with
   | nil=>rfl
   | cons a l b=>simp only[bT,lu,bR,b];omega
  rw[e]at z;have d:((deep t r).map λg=>(own t g.key).length)=(deep t r).map ((λk=>((t.specimens.filter λc=>c.2==k).map λ_=>1).sum)∘λg=>g.key):=by refine gJ λg _=> ?_;show _=((t.specimens.filter λc=>c.2==g.key).map λ_=>1).sum;rw[e];unfold own;rw[aJ]
  rw[d];refine cI z (cI (fG _ _) w.nx)
 omega
theorem alb {t:Tree} (w:WF t) (r:Nat):(((deep t r).filter λc=> !decide (c.parent∈(deep t r).map (·.key))).map (tN t)).sum<=1248:=by
 have h:=ala w r;have b:((deep t r).map (tN t)).sum<=((deep t r).map (tW t)).sum+((deep t r).map λg=>((children t g.key).map (tN t)).sum).sum:=by rw[<-sum_add];exact R8 λg a=>aeg w (cC.mp a).1
 have d:((deep t r).map λg=>((children t g.key).map (tN t)).sum)=((deep t r).map (·.key)).map λk=>(((deep t r).filter λc=>c.parent==k).map (tN t)).sum:=by
  rw[bC];refine gJ λg a=> ?_;have l:=dz (cC.mp a).2
  congr 2
  unfold deep children;rw[Pa];refine j5 λc f=> ?_;cases e:c.parent==g.key;.rfl
  .have:=zm w (cC.mp a).1 (cC.mpr ⟨f,e⟩);rw[rC,cF (by omega)]
 have i:=R9 (tN t) (λc=>c.parent) (aeh w r) (deep t r);have j:=ak_ (tN t) (λc=>decide (c.parent∈(deep t r).map (·.key))) (deep t r);rw[d]at b;omega
theorem Js (w:WF t) (h:k=0\/∃r,ak (gR t) k=some r):((chI t k).map λc=>(txt t c).length+1).sum<=1248:=by
 have d:∀(n r:Nat),(∀c∈children t n,r < c.rank)->(∀g∈t.groups,g.key=n->g.rank<=r)->((children t n).map (tN t)).sum<=1248:=λn r s u=>by
  refine cI (ak7 _ ?_) (alb w r);have e:children t n=((deep t r).filter λc=> !decide (c.parent∈(deep t r).map (·.key))).filter λc=>c.parent==n:=by
   rw[Pa];unfold deep;rw[Pa];refine j5 λc a=> ?_;cases e:c.parent==n;.rfl
   .have:=s c (cC.mpr ⟨a,e⟩);have o:=eq_of_beq e;rw[cF this,Bool.and_true,rC];symm;rw[Pz,iu];intro z;obtain⟨g,b,j⟩:=aQ.mp z;obtain⟨p,q⟩:=cC.mp b;have:=u g p (j.trans o);have:=dz q;omega
  rw[e];exact jf
 have m:((chI t k).map λc=>(txt t c).length+1)=(children t k.toNat).map (tN t):=by unfold chI;rw[bC];refine gJ λc a=> ?_;show(txt t c.key).length+1=_;rw[Dq w.toSrt (cC.mp a).1];rfl
 rw[m];rcases h with rfl | ⟨r,v⟩;.exact d 0 0 (λc a=>(zp w (cC.mp a).1).1) λg b e=>by have:=zp w b;omega
 .obtain⟨g,b,e⟩:=aQ.mp ((bY w.ndR).mpr v);injection e with l j;subst l;refine d g.key g.rank (λc a=>(zm w b a).1) λy i e=> ?_;have f:=R7 w.toSrt i;have x:=R7 w.toSrt b;rw[e,x]at f;injection f with f;subst f;exact bW _
theorem aei (w:WF t):(show_ t).length<=1248:=by rw[aed w];refine cI (Jq 44 _) ?_;rw[bC];exact Js w (.inl rfl)
theorem aej (w:WF t) (k:Int):(fY t k).length<=64:=by unfold fY zs own;rw[aJ,aJ];exact cI (fG _ _) w.nx
theorem alc (w:WF t) (h:ak (gR t) k=some r):(txt t k).length<=4000:=by
 obtain⟨g,a,e⟩:=aQ.mp ((bY w.ndR).mpr h);injection e with b i;subst b;have z:=aeg w a;have c:=Js w (.inr ⟨r,h⟩);have d:((chI t g.key).map λc=>(txt t c).length+1)=(children t g.key).map (tN t):=by unfold chI;rw[bC];refine gJ λc f=> ?_;show(txt t c.key).length+1=_;rw[Dq w.toSrt (cC.mp f).1];rfl
 rw[d]at c;rw[Dq w.toSrt a];unfold tN tW at *;have:(own t g.key).length<=64:=by
  have:=aej w g.key;unfold fY zs at this
  rwa [aJ]at this
 omega
theorem R_ (w:Srt t) (h:0<=k):c∈chI t k↔ak (gP t) c=some k:=by
 rw[<-bY w.ndP];unfold chI children gP;rw[aQ,aQ];constructor;.rintro⟨g,b,e⟩;obtain⟨f,a⟩:=cC.mp b;have a:=eq_of_beq a;exact⟨g,f,by rw[e,a,toN h]⟩
 .rintro⟨g,b,e⟩;injection e with d i;exact⟨g,cC.mpr ⟨b,by simp;omega⟩,d⟩
theorem Sd (w:Srt t) (k:Int):(chI t k).Pairwise (· < ·):=by refine jZ.mpr ((w.g.sublist jf).imp λh=> ?_);omega
theorem Sg (w:Srt t) (f:0<=k):x∈fY t k↔ak (gX t) x=some k:=by
 rw[<-bY w.ndX];unfold fY zs own gX;rw[bC,aQ,aQ];constructor;.rintro⟨g,b,e⟩;obtain⟨d,a⟩:=cC.mp b;have a:=eq_of_beq a;exact⟨g,d,by rw[<-e,a,toN f];rfl⟩
 .rintro⟨g,b,e⟩;injection e with c h;exact⟨g,cC.mpr ⟨b,by simp;omega⟩,c⟩
theorem aek (w:Srt t) (k:Int):(fY t k).Pairwise (· < ·):=by unfold fY zs own;rw[bC];refine jZ.mpr ((w.s.sublist jf).imp λh=> ?_);exact Int.ofNat_lt.mpr h
theorem dD {c:Prop} [Decidable c] {a b:Except Int Tree} {n:Int} (d:a= .error n->n≠0) (e:b= .error n->n≠0) (h:(if c then a else b)= .error n):n≠0:=by
 split at h;.exact d h
 .exact e h
theorem cZ (a:m≠0) (h:(Except.error m:Except Int Tree)= .error n):n≠0:=by injection h with h;omega
theorem kh (h:(abN t:Except Int Tree)= .error n):n≠0:=by cases h
theorem zq {s:State} {k d n:Int} (h:treeBy s k d= .error n):n≠0:=by
 unfold treeBy at h;refine dD (cZ (by decide)) (dD kh λh=> ?_) h;split at h;.exact cZ (by decide) h
 .exact kh h
theorem ald {t:List Nat} {n:Int} (h:readTree t= .error n):n≠0:=by
 unfold readTree at h;split at h;.exact cZ (by decide) h
 .refine dD (cZ (by decide)) (dD (cZ (by decide)) (dD (cZ (by decide)) (dD (cZ (by decide)) kh))) h
theorem ale {t:Tree} {c:List Change} {n:Int} (h:applied t c= .error n):n≠0:=by exact dD (cZ (by decide)) (dD (cZ (by decide)) (dD (cZ (by decide)) (dD (cZ (by decide)) kh))) h
theorem alf {s:State} {t:Tree} {e:Edit} {n:Int} (h:edited s t e= .error n):n≠0:=by
 cases e with
 | group k r p=>exact dD (cZ (by decide)) (dD (cZ (by decide)) (dD (cZ (by decide)) (dD (cZ (by decide)) (dD (cZ (by decide)) kh)))) h
 | put x g=>exact dD (cZ (by decide)) (dD (cZ (by decide)) (dD (cZ (by decide)) (dD (cZ (by decide)) kh))) h
 | take x=>exact dD (cZ (by decide)) (dD (cZ (by decide)) kh) h
 | move g p=>exact dD (cZ (by decide)) (dD (cZ (by decide)) (dD (cZ (by decide)) (dD (cZ (by decide)) kh))) h
 | lump a b=>exact dD (cZ (by decide)) (dD (cZ (by decide)) (dD (cZ (by decide)) (dD (cZ (by decide)) kh))) h
 | split a k f i=>exact dD (cZ (by decide)) (dD (cZ (by decide)) (dD (cZ (by decide)) (dD (cZ (by decide)) (dD (cZ (by decide)) kh)))) h
 | rank g r=>exact dD (cZ (by decide)) (dD (cZ (by decide)) (dD (cZ (by decide)) (dD (cZ (by decide)) kh))) h
 | dissolve g=>exact dD (cZ (by decide)) (dD (cZ (by decide)) (dD (cZ (by decide)) kh)) h
 | load b=>
  have h:(match readTree (bytes b)with | .error n=>(.error n:Except Int Tree) | .ok r=>if r=t then .error (-6)else .ok r)= .error n:=h;split at h;.rename_i e;injection h with h;exact h▸ald e
  .exact dD (cZ (by decide)) kh h
 | fetch k d=>
  have h:(match treeBy s k d with | .error n=>(.error n:Except Int Tree) | .ok r=>if r=t then .error (-6)else .ok r)= .error n:=h;split at h;.rename_i e;injection h with h;exact h▸zq e
  .exact dD (cZ (by decide)) kh h
 | apply l=>
  have h:(match changesOf l with | none=>(.error (-1):Except Int Tree) | some c=>if distinctPairs (c.map subject)=false then .error (-1)else match applied t c with | .error n=> .error n | .ok r=>if r=t then .error (-6)else .ok r)= .error n:=h;split at h;.exact cZ (by decide) h
  .refine dD (cZ (by decide)) (λh=> ?_) h;split at h;.rename_i e;injection h with h;exact h▸ale e
   .exact dD (cZ (by decide)) kh h
 | agree k d m e=>
  have h:(match treeBy s k d,treeBy s m e with | .ok a,.ok b=>(let r:=consensus a b;if r=t then(.error (-6):Except Int Tree)else .ok r) | .error n,_=> .error n | _,.error n=> .error n)= .error n:=h;split at h;.exact dD (cZ (by decide)) kh h
  .rename_i e;injection h with h;exact h▸zq e
  .rename_i e _;injection h with h;exact h▸zq e
end GS
end
section
set_option Elab.async false
set_option linter.all false
set_option maxRecDepth 100000
set_option maxHeartbeats 2000000
namespace GS
open PySem PySem.Spec PyProof.Rows L2
section
variable {X:Cx}
def cnt (ns:List Int):Nat:=(firstMet (λi=>ns.getD i 0) ns.length).length
theorem range_getD (ns:List Int):(Oz ns.length).map (λi=>ns.getD i 0)=ns:=by refine List.ext_getElem (by simp) λi b a=> ?_;simp[ql a]
theorem Sh:∀(ns acc:List Int),acc.Nodup->(∀x∈(ns.foldl rD acc),x∈acc\/x∈ns)/\(ns.foldl rD acc).length<=acc.length+ns.length/\((ns.foldl rD acc).length=acc.length+ns.length↔(acc++ns).Nodup)
 | [],acc,h=>by simp[h]
 | n::ns,acc,h=>by
  rw[u9];by_cases g:acc.any (· ==n)=true
  .have e:rD acc n=acc:=by unfold rD;rw[aB g]
   rw[e];obtain⟨a,b,c⟩:=Sh ns acc h;have d:n∈acc:=by obtain⟨x,f,j⟩:=n6.mp g;rw[<-eq_of_beq j];exact f
   refine⟨λx f=>(a x f).imp id (cO _),by rw[bR];omega,?_⟩;constructor;.intro q;rw[bR]at q;omega
   .intro q;have:=(nZ.mp q).2.2 n d n cU;exact absurd rfl this
  .have e:rD acc n=acc++[n]:=by unfold rD;rw[au g]
   have d:=λq=>g (n6.mpr ⟨n,q,beq_self_eq_true n⟩);have i:(acc++[n]).Nodup:=by rw[nZ];refine⟨h,by simp,λa m b o e=> ?_⟩;rw[dX.mp o]at e;exact d (e▸m)
   rw[e];obtain⟨a,b,c⟩:=Sh ns (acc++[n]) i;refine⟨λx f=> ?_,by rw[cV]at b;simp at b;rw[bR];omega,?_⟩
   .rcases a x f with z | z
    .rcases dO.mp z with y | y;.exact .inl y
     .exact .inr (by rw[dX.mp y];exact cU)
    .exact .inr (cO _ z)
   .have l:acc++n::ns=acc++[n]++ns:=by simp
    rw[l,<-c,cV,bR];simp;omega
theorem Sq (ns:List Int):cnt ns=ns.length↔ns.Nodup:=by unfold cnt firstMet;rw[range_getD];have:=(Sh ns [] k_).2.2;simpa using this
def wB (ns:List Int):HO:= .set (λa=>(firstMet (λi=>ns.getD i 0) ns.length).any (· ==a)) (cnt ns)
theorem Ss (l:X.calm=true):lC X (.type "set") (λxs H Q=>∃a ns,xs=[.ref a]/\SqL X.K H a (ns.map V.int)/\ns.length<=4000/\∀p,H p=none->Q (.ref p) (upd H p (wB ns))):=by
 intro j s σ H z y Q I r h;obtain⟨a,ns,rfl,o,w,q⟩:=h;obtain⟨f,t,n,_⟩:=I.list o;rw[Vals.yM r];have i:=t.ints;have c:=i.length;refine PySem.call_set_list (I.ok.hd l) n.isList (by simpa using i) (by rw[gF,c];unfold scanBound;omega) λv x g m=> ?_;have d:f.toArray.size=ns.length:=by rw[gF];exact c
 rw[d]at g;refine⟨.ref _,upd H s.heap.objs.size (wB ns),I.laid (λb u e=>m b u (dR e) e) (bW _) g,rfl,q _ (I.hok.fresh (bW _))⟩
theorem ael:lC X (.builtin "len") (λxs H Q=>∃a S n,xs=[V.ref a]/\H a=some (.set S n)/\Q (.int n) H):=by intro b s σ H xs p Q I r h;obtain⟨a,S,n,rfl,j,q⟩:=h;rw[Vals.yM r];obtain⟨o,m,l,t,c,d,e,_,_,f,g,i⟩:=I.hok a _ j;refine call_len_set c d e g (by unfold scanBound at f;omega) ?_;rw[i];exact⟨.int n,H,(I.tok _),⟨_,rfl⟩,q⟩
theorem Sv:lC X (.builtin "sorted") (λvs H Q=>∃(a:Addr) (ns:List Int),vs=[V.ref a]/\SqL X.K H a (ns.map V.int)/\∀(b:List Int) (p:Addr),b.Perm ns->b.Pairwise (· <= ·)->H p=none->Q (.ref p) (upd H p (.lst (b.map V.int)))):=by
 intro l s σ H vs w Q I r h;obtain⟨a,ns,rfl,u,q⟩:=h;obtain⟨g,v,t,f⟩:=I.list u;rw[Vals.yM r];have j:=v.ints;rw[aJ]at f;refine ahA t.isList j (by rw[j.length];exact f) λd b n i o=> ?_;obtain⟨m,e⟩:=ahB s.heap g d;have c:(b.map V.int).length<=sizeLine:=by rw[aJ,i.length_eq];exact f
 exact⟨.ref _,upd H (s.heap.objs.size+1) (.lst (b.map V.int)),I.laid (λ_ _=>ahC) (qe _) ⟨c,d.toList,m,Q7 n,e⟩,rfl,q b _ i o (I.hok.fresh (qe _))⟩
theorem rR (hc:X.calm=true):lC X (.builtin "sorted") (λvs H Q=>∃(a:Addr) (kvs:List (Key×V)) (ns:List Int),vs=[V.ref a]/\Rd H a (.dK kvs)/\kvs.map (·.1)=ns.map bI/\∀(c:List Int) (p:Addr),c.Perm ns->c.Pairwise (· <= ·)->H p=none->Q (.ref p) (upd H p (.lst (c.map V.int)))):=by
 intro E s σ H vs o Q I r h;obtain⟨a,kvs,ns,rfl,hs,hk,q⟩:=h;obtain⟨z,hd,y,d,dd⟩:=oN I.hok hs;rw[Vals.yM r];obtain⟨ep,N⟩:=dd.dictAt;have C:y.length=ns.length:=by have:=congrArg iR hk;rw[aJ,aJ,d.length]at this;exact this
 refine ag7 kind_sorted plain_sorted entry_sorted (args_sorted1 _) ?_;refine aP (bJ ?_);refine aP (PySem.W.kdu_collect (PySem.W.kdl_dict hd) (I.ok.hd hc) N (by rw[<-d.length];exact z) λB tk f R g=> ?_);have S:f.toList.length=y.length:=by rw[pI];exact g.1
 refine aP (wpAny_newList ?_ (by rw[S,<-d.length];exact z));have l:IntsAre f.toList ns:=by
  have T:∀(o:List Value) (ks:List Int) (i:List (Key×Value)),o.length=i.length->i.map (·.1)=ks.map bI->(∀(j:Nat) (v:Value),o[j]? =some v->∃k x,i[j]? =some (k,x)/\(iV X.prog X.w).is k v=true)->IntsAre o ks:=by
   intro o
   induction o with
   | nil=>
    intro ks i F A _;have:=qm.mp F.symm;subst this;have:ks=[]:=by simpa using A.symm
    subst this;exact .nil
   | cons u o ih=>
    intro ks i F A Z;cases i with
    | nil=>simp at F
    | cons x i=>
     cases ks with
     | nil=>simp at A
     | cons k ks=>
      rw[bT,bT]at A;injection A with G e5;obtain⟨k',x',J,e7⟩:=Z 0 u rfl;have J:x=(k',x'):=by simpa using J
      rw[J]at G;have G:=G;subst G;obtain⟨t,rfl⟩:=ZM e7;exact .cons k t (ih ks i (by simpa using F) e5 λj v hj=>Z (j+1) v (by simpa using hj))
  refine T f.toList ns y S ?_ λj v e=>g.2 j v (by rw[<-Bm];exact e);rw[<-d.keys];exact hk
 have n:(B.push {cls:= .type "list",data:= .seq f.toList.toArray}).get? B.objs.size=some (seqObj "list" f.toList.toArray 0):=iC _ rfl;refine aP (uZ (Bb slot_list_sort ⟨_,n,rfl⟩ entry_list_sort (list_sort_treeAny n l (by rw[S,<-d.length];exact z) λU c h1 h2 h3=>⟨_,rfl,?_⟩) (args_list_sort _)));refine bJ ⟨_,rfl,?_⟩;obtain⟨L,P⟩:=ahD n;have m:(c.map V.int).length<=sizeLine:=by rw[aJ,h2.length_eq,<-C,<-d.length];exact z
 have Y:Inv X E σ H {s with heap:=B,toks:=tk}:=I.kept R;exact⟨.ref _,upd H B.objs.size (.lst (c.map V.int)),Y.laid (t':=tk) (λb u e=>by have O:B.get? b=some u:=e;rw[ahE (fZ (dR O)) (by rw[size_push'];exact Gu (dR O))];exact fJ _ O) (bW _) ⟨m,U.toList,L,Q7 h1,P⟩,rfl,q c _ h2 h3 (Y.hok.fresh (bW _))⟩
def dI (d:D):List (Key×V):=d.map λp=>(bI p.1,V.int p.2)
theorem Jt {α:Type} [DecidableEq α]:∀(l m:List α),l.Nodup->(∀x∈l,x∈m)->m.length<=l.length->∀x∈m,x∈l
 | [],m,_,_,h,x,c=>by have:=qm.mp (by simpa using h);rw[this]at c;cases c
 | a::l,m,g,d,h,x,c=>by
  have b:=je.mp g;by_cases e:x=a;.rw[e];exact cU
  .refine cO _ (Jt l (m.erase a) b.2 (λy f=> ?_) ?_ x ((Pb e).mpr c));.have:y≠a:=λz=>b.1 (z▸f);exact(Pb this).mpr (d y (cO _ f))
   .rw[aaO (d a cU)];rw[bR]at h;omega
theorem alg {d e:D} (c:ND d) (a:ND e):d.Perm e↔d.length=e.length/\∀p∈d,ak e p.1=some p.2:=by
 constructor;.intro h;exact⟨h.length_eq,λp b=>(bY a).mp (h.mem_iff.mp b)⟩
 .rintro⟨g,f⟩;rw[tL (CN c) (CN a)];have sub:=λp b=>(bY a).mpr (f p b);exact λp=>⟨sub p,Jt d e (CN c) sub (by omega) p⟩
theorem Ju (d:D) (k:Int):eG (dI d) (bI k)=(ak d k).map V.int:=by
 unfold dI
 induction d with
 | nil=>rfl
 | cons p d a=>
  rw[bT,jH];by_cases h:p.1=k;.rw[aB h,lH (by rw[h])];rfl
  .rw[au h,j8 (by intro z;injection z with z;exact h z)];exact a
theorem alh (d:D) (k v:Int):putK (dI d) (bI k) (V.int v)=dI (dput d k v):=by
 unfold putK dput dI;have e:((d.map λp=>((bI p.1:Key),V.int p.2)).any λa=>decide (a.1=bI k))=d.any λp=>decide (p.1=k):=by
  rw[GC]
  congr 1
  funext p;exact fH ⟨λz=>by injection z,λz=>by show(bI p.1:Key)=_;rw[z]⟩
 rw[e];by_cases h:(d.any λp=>decide (p.1=k))=true
 .rw[aB h,aB h,bC,bC];apply gJ;intro p _;show(if(bI p.1:Key)=bI k then((bI p.1:Key),V.int v)else(bI p.1,V.int p.2))=((bI (if p.1=k then(p.1,v)else p).1:Key),V.int (if p.1=k then(p.1,v)else p).2);by_cases q:p.1=k;.rw[aB q,aB (by rw[q])]
  .rw[au q,au (by intro z;injection z with z;exact q z)]
 .rw[au h,au h,dw];rfl
theorem Sw (d:D) (k:Int):uo (dI d) (bI k)=dI (dU d k):=by
 unfold uo dU dI;rw[j4]
 congr 1
 apply j5;intro p _;exact fH ⟨λz y=>z (by show(bI p.1:Key)=_;rw[y]),λz y=>z (by injection y)⟩
theorem zu (d:D):(dI d).map (·.1)=(d.map (·.1)).map bI:=by unfold dI;rw[bC,bC];rfl
theorem rT (d:D):(dI d).length=d.length:=by unfold dI;rw[aJ]
theorem Sx (hu:X.A.units+64 < cLine):OpR X (compareOp .Eq) (λx y H Q=>∃a b d e,x=V.ref a/\y=V.ref b/\Rd H a (.dK (dI d))/\Rd H b (.dK (dI e))/\Q (.bl (decide (d.length=e.length)&&d.all λp=>decide (ak e p.1=some p.2))) H):=by
 intro E s σ H x y u v Q I Z o h;obtain⟨a,b,d,e,rfl,rfl,N,O,q⟩:=h;cases Z;cases o;obtain⟨z1,U,va,c,F⟩:=oN I.hok N;obtain⟨z2,Y,vb,i,G⟩:=oN I.hok O;have j:∀f m,KV (dI f) m->PySem.W.KeqHits X.A.in1 s vb m (f.all λp=>decide (ak e p.1=some p.2)):=by
  intro f
  induction f with
  | nil=>intro m r;cases r;exact .nil
  | cons p f T=>
   intro m r;cases r with
   | @cons _ q _ w R t=>
    obtain⟨k,w'⟩:=q;obtain⟨n,J⟩:=R;have n:=n;subst n;obtain⟨tk,rfl⟩:∃t,w'=xT p.2 t:=J;have l:=i.val (bI p.1:Key);rw[Ju]at l;rw[Gy];cases g:ak e p.1 with
    | none=>rw[g]at l;have P:=iH.none_of l;have:decide ((none:Option Int)=some p.2)=false:=rfl;rw[this,GQ];exact .miss P
    | some y=>
     rw[g]at l;obtain⟨uy,S,o⟩:=iH.some_of l;obtain⟨ty,rfl⟩:∃t,uy=xT y t:=o;have L:decide (some y=some p.2)=(p.2==y):=by rw[PB];exact fH ⟨λz=>by injection z with z;exact z.symm,λz=>by rw[z]⟩
     rw[L];exact .hit S (ZR _ _ _ _) (T w t)
 refine PySem.W.keq_eq U Y F G (by omega) (λ_=>j d va c) ⟨.bl _,H,I,?_,q⟩;have B:=c.length;have C:=i.length;rw[rT]at B C;rw[<-B,<-C,PB];rfl
end
section
variable {X:Cx} {e d:Expr} {te td:TE} {p p2 pos pos2 kp:Pos}
theorem ali:lC X (.builtin "len") (λxs H Q=>∃a kvs,xs=[V.ref a]/\H a=some (.dT kvs)/\Q (.int kvs.length) H):=by
 intro j s σ H xs G Q I r h;obtain⟨a,kvs,rfl,v,q⟩:=h;obtain⟨u,rfl,B⟩:=vals1 r;cases B;obtain⟨z,x,xs,f,o,m,E,i,w,c,d,_,_⟩:=acW I.hok v;have e:m.size=kvs.length:=by rw[aam d];exact(uW f).symm
 have g:s.TypeIs (.ref a) "dict" :=⟨o,i,w.1⟩;refine call_len_slot (n:=(kvs.length:Int)) g abt (λC y=> ?_) (by omega) (by rw[Ay]at z;omega) ⟨.int kvs.length,H,I.tok _,⟨_,rfl⟩,q⟩;refine Ba abt g F.entry_dict_len (F.args_dict_len_1 _) (S:=λ_ R b=>b.heap.get? a=some o/\R (.ok (.ret (.int (kvs.length:Nat) b.toks))) {b with toks:=b.toks+1}) (.of_wp λA R b ⟨p,t⟩=> ?_) ⟨i,y⟩;show wpAny _ _ (dictSize a >>=_) _ _ b;unfold dictSize;refine aP (aP (Gg p c (bJ (?_:wpAny _ _ (ahP a >>=_) _ _ b))));refine aP (wpAny_pendingCount_other x (wpAny_ret_mkInt ?_));rw[Nat.add_zero,e];exact t
end
theorem alj:typeLookup (.type "list_reverseiterator") "__len__" =pure none:=by rw[aao,aap];kernel_rfl
theorem alk:typeLookup (.type "list_reverseiterator") "__length_hint__" =pure (some (.builtin "list_reverseiterator.__length_hint__")):=by rw[aao,aap];kernel_rfl
section
variable {prog:Program} {w:World} {A:Around} {E:Value->Shared->Prop} {s:Shared}
theorem alm (c:s.TypeIs (.ref r) "list_reverseiterator") (h:Q false s):wpAny (model prog w) A (ahM (.ref r)) Q E s:=by
 refine aP (Og c alj ?_)
 wp_delta
 refine jz (λz=>absurd z (by decide)) λ_=>jz (λz=>absurd z (by decide)) λ_=> ?_;refine aP (Og c alk ?_);generalize a:("list_reverseiterator.__length_hint__" :String)=idv
 wp_delta
 rw[show splitId idv=some ("list_reverseiterator","__length_hint__")from by subst a;decide+kernel];subst a;refine aP (Gj (b:=true) c (by rw[Oj];kernel_rfl) ?_);refine jz (λz=>absurd z (by decide)) λ_=>jz (λ_=> ?_) λz=>absurd (by decide+kernel) z;exact jz (λz=>absurd z (by decide+kernel)) λ_=>bJ h
theorem aln (L:A.handled=none) (m:s.heap.IsRevIter r l ((items.size:Int)-1)) (N:s.heap.IsList l items) (x:l≠r) (S:Addr) (h:S≠r) (t:S≠l) (c:Value) (y:Nat) (I:s.heap.get? S=some {cls:= .type "list",data:= .seq #[] y})
  (H:∀n P a g,(∀b o,b≠S->b≠r->s.heap.get? b=some o->n.get? b=some o)->n.get? S=some {cls:= .type "list",dict:=none,data:= .seq a g,slots:= #[]}->ItemsOf (λi v=>items[items.size-1-i]? =some v) a items.size->R (.ok (.ret c)) {s with heap:=n,toks:=P}) (O:items.size<=sizeLine):
  wpAny (model prog w) A.in1 (ahN (.ref S) (.ref r) c)
   (λfin d=>match fin with | .done f=>R (.ok f) d | .again g=>g.quiet=true/\codeAny (model prog w) A g R d) (λe d=>R (.error e) d) s:=by
 have q:S∉[r,l]:=by simp[h,t]
 have W:=Walks.listRev (prog:=prog) (w:=w) (A:=A.in1) L r l x items;refine aP (wpAny_typeOf m.typeIs ?_);have C:abh (.ref S) (.ref r)=false:=by simp[abh,h]
 have E:(qb "list_reverseiterator" ==qb "list")=false:=by decide
 have G:(qb "list_reverseiterator" ==qb "tuple")=false:=by decide
 rw[C,E,G];refine jz (λz=>absurd z (by decide)) λ_=>aP (wpAny_pyIter_revIter m (aP (uZ (alm m.typeIs ?_))));refine jz (λz=>absurd z (by decide+kernel)) λ_=>bJ ⟨Bc PySem.F.plain_extend_loop _,?_⟩;have st:0<=items.size/\s.heap.IsRevIter r l ((items.size:Int)-1- ((0:Nat):Int))/\s.heap.IsList l items:=⟨fU _,by rw[Int.natCast_zero,Int.sub_zero];exact m,N⟩;refine codeAny_extend_loopS W.toS O S q c _ 0 s #[] y rfl (fU _) st I (ItemsOf.nil _) λd a g B p j=> ?_;rw[Moved.eq_with B];refine H d.heap d.toks a g (λb o J u e=>B.heap b o (λz=> ?_) e) p j;rcases cD.mp z with z | z;.exact J z
 .exact u (dX.mp z)
theorem alo (B:A.handled=none) (G:s.heap.IsRevIter r l ((items.size:Int)-1)) (E:s.heap.IsList l items) (x:l≠r) (S:Addr) (j:S≠r) (h:S≠l) (q:s.heap.get? S=some {cls:= .type "list",data:= .seq #[]})
  (z:∀g y c d,(∀b o,b≠S->b≠r->s.heap.get? b=some o->g.get? b=some o)->g.get? S=some {cls:= .type "list",dict:=none,data:= .seq c d,slots:= #[]}->ItemsOf (λi v=>items[items.size-1-i]? =some v) c items.size->R (.ok (.ret .none)) {s with heap:=g,toks:=y}) (F:items.size<=sizeLine):
  wpAny (model prog w) A.in1 (Builtin.«list.__init__» ⟨[.ref S,.ref r],[]⟩)
   (λfin p=>match fin with | .done f=>R (.ok f) p | .again d=>d.quiet=true/\codeAny (model prog w) A d R p) (λe p=>R (.error e) p) s:=by
 refine aP ?_;refine aP (Gk q rfl (bJ (aP (Gm q rfl (aP (Bd ?_))))));have a:∀b o,b≠S->s.heap.get? b=some o->(s.heap.update S (G3 λ_=>(#[]:Array Value))).get? b=some o:=λb o n e=>(u0 _ _ n.symm).trans e;exact aln B (G.at λo e=>a r o j.symm e) (E.at λo e=>a l o h.symm e) x S j h .none _ (Gn (G3 λ_=>(#[]:Array Value)) q rfl) (λg y c d C t m=>z g y c d (λb o n u e=>C b o n u (a b o n e)) t m) F
theorem alp (y:A.handled=none) (q:s.heap.IsRevIter r l ((items.size:Int)-1)) (p:s.heap.IsList l items) (j:l≠r) (B:items.size<=sizeLine)
  (u:∀c m a g,(∀b o,b≠r->s.heap.get? b=some o->c.get? b=some o)->c.get? s.heap.objs.size=some {cls:= .type "list",dict:=none,data:= .seq a g,slots:= #[]}->ItemsOf (λi v=>items[items.size-1-i]? =some v) a items.size->Q (.ref s.heap.objs.size) {s with heap:=c,toks:=m}):
  wpAny (model prog w) A (call (.type "list") [.ref r]) Q E s:=by
 have H:=let ⟨_,e,_⟩:=q;dR e;have G:=let ⟨_,e,_⟩:=p;dR e;refine callType_codes (Q₁:=λf t=>f= .ref s.heap.objs.size/\t={s with heap:=s.heap.push {cls:= .type "list",data:= .seq #[]}}) PySem.F.called_list (PySem.F.typeCall_list_1 _) PySem.F.entry_list_init (code_list_new _ ⟨rfl,rfl⟩) λf t C=> ?_;obtain⟨rfl,rfl⟩:=C;have n:(s.heap.push {cls:= .type "list",data:= .seq #[]}).get? s.heap.objs.size=some {cls:= .type "list",data:= .seq #[]}:=iC _ rfl;refine⟨⟨_,n,rfl⟩,PySem.F.args_list_init_2 _ _,alo (A:=A.in1) y (q.at λo e=>fJ _ e) (p.at λo e=>fJ _ e) j _ (Ot H) (Ot G) n (λc m a g z h d=> ?_) B⟩;exact⟨rfl,u c m a g (λb o x e=>z b o (fZ (dR e)) x (fJ _ e)) h d⟩
end
section
variable {X:Cx} {e d:Expr} {te td:TE} {p p2 pos pos2 kp:Pos}
def alq (K:aW) (te:TE):TE:=λσ H Q=>te σ H λx b=>∃a c,x= .ref a/\SqL K b a c/\∀p,b p=none->Q (.ref p) (upd b p (.lst c.reverse))
theorem alr (h:Vals xs its):Vals xs.reverse its.reverse:=by
 induction h with
 | nil=>exact .nil
 | cons r _ a=>rw[vg,vg];exact Vals.append a (.cons r .nil)
theorem als {a acc:Array Value} (h:ItemsOf (λi v=>a[a.size-1-i]? =some v) acc a.size):acc.toList=a.toList.reverse:=by
 refine List.ext_getElem? λi=> ?_;rw[Bm];by_cases b:i < a.size;.obtain⟨v,c⟩:∃v,acc[i]? =some v:=⟨_,aa2 (by rw[h.1];exact b)⟩;rw[c,List.getElem?_reverse (by rw[pI];exact b),pI,Bm];exact(h.2 i v c).symm
 .rw[Px (by rw[h.1];omega),aaH (by rw[lA,pI];omega)]
theorem alu (S:X.mg "list" =none) (U:X.mg "reversed" =none) (O:PE X e te) (N:X.calm=true:=by rfl) (P:Gl X "list" :=by rfl) (n:Gl X "reversed" :=by rfl) (A:starEach [e] X.env=[(false,eval e X.env)]:=by rfl)
  (g:starEach [.Call (.Name "reversed" p2) [e] [] pos2] X.env=[(false,eval (.Call (.Name "reversed" p2) [e] [] pos2) X.env)]:=by rfl):PE X (.Call (.Name "list" p) [.Call (.Name "reversed" p2) [e] [] pos2] [] pos) (alq X.K te):=by
 intro i s σ H Q I h;refine tH (yD I P S ahF (GZ ?_ g rfl));rw[g];refine tO (Call_ (yD I n U ajF (GZ ?_ A rfl)));rw[A];refine tO (thn (O i s σ H _ I h) λu C ⟨x,H1,j,Z,a,E,J,T,q⟩=>vh ?_);subst J;cases Z;obtain⟨d,B,v,W⟩:=j.list T;have y:=B.length;refine call_reversed_list v.isList (vh ?_);have Y:=let ⟨_,e,_⟩:=v.isList;dR e;refine alp (j.ok.hd N) ⟨_,iC _ rfl,rfl,rfl⟩ (v.isList.at λo e=>fJ _ e) (fZ Y) (by simp only[gF];omega) λL tk c F R m f=> ?_;have G:=als f;have l:c=(d.reverse).toArray:=by rw[<-Array.toArray_toList (xs:=c),G]
 subst l;have t:=λb o e=>R b o (fZ (dR e)) (fJ _ e);have z:C.heap.objs.size<=(C.heap.push (revObj a (((d.toArray.size:Nat):Int)-1))).objs.size:=by simp[Heap.push]
 exact⟨.ref _,_,j.laid t z (show iW X.prog X.w _ L _ (.lst E.reverse)from⟨by rw[lA];exact W,d.reverse,F,alr B,m⟩),rfl,q _ (j.hok.fresh z)⟩
end
theorem alw:entryFor table "set.__and__" =some Builtin.«frozenset.__and__»:=entryFor_alias (id':="frozenset.__and__") (by kernel_rfl) rfl (by decide+kernel) (by kernel_rfl)
theorem aeo {α:Type} (next:Nat->Nat):∀(f k:Nat) (l:List α) (a:Array α),l.length<=f->(abO next f k l a).toList.Perm (a.toList++l)
 | 0,k,l,a,h=>by have:l=[]:=Pg (by omega);subst this;rw[gH];exact .refl _
 | f+1,k,l,a,h=>by
  unfold abO;cases l with
  | nil=>rw[gH];exact .refl _
  | cons y l=>
   have b:next k % (y::l).length < (y::l).length:=Nat.mod_lt _ (aax _);generalize next k % (y::l).length=i at *;rw[ql b];refine(aeo next f (k+1) ((y::l).eraseIdx i) (a.push _) (by rw[List.length_eraseIdx_of_lt b];omega)).trans ?_;rw[Array.toList_push,lU];refine ahY _ ?_;have c:∀(l:List α) (i:Nat) (h:i < l.length),(l[i]::l.eraseIdx i).Perm l:=by
    intro l
    induction l with
    | nil=>intro i h;cases h
    | cons z l d=>
     intro i h;cases i with
     | zero=>exact .refl _
     | succ i=>exact(ahZ ..).trans ((d i (Nat.lt_of_succ_lt_succ h)).cons z)
   exact c _ i b
section
variable {prog:Program} {w:World} {A:Around} {E:Value->Shared->Prop} {s:Shared} {a b:Addr} {S T:Int->Bool} {n m:Nat}
theorem aep (h:ElemsOf (intKind prog w) es) (c:e∈es):∃i t,e.2= .int i t/\e.1=(intKind prog w).hash i/\(intKind prog w).is i e.2=true:=by
 obtain⟨⟨k,a,d⟩,_⟩:=h e c;obtain⟨i,t,z,b⟩ | ⟨x,t,z,b⟩:=oF (k:=bI k) a;.injection z with z;subst z;exact⟨k,t,b,d,a⟩
 .cases z
theorem alx (d:s.heap.SetOf (intKind prog w) c U k) (h:∀a,ElemsOf (intKind prog w) a.toList->Q a s):wpAny (model prog w) A (setEntries c) Q E s:=by obtain⟨o,a,i,t,g,_,e,b,_,_,f,_⟩:=d;exact Ol g e f (h a b)
theorem aly (m:∀c∈cs,∃U k,s.heap.SetOf (intKind prog w) c U k) (h:Q true s):wpAny (model prog w) A (setsQuiet cs) Q E s:=by
 refine aP (wpAny_forIn_list _ (λf b n=>b.1=none/\n=s/\∀c∈f,∃U k,s.heap.SetOf (intKind prog w) c U k) _ ?_ ?_ _ _ ⟨rfl,rfl,m⟩)
 .rintro x f b n ⟨l,p,m⟩;rw[p];obtain⟨U,k,G⟩:=m x (cU ..);refine aP (alx G λF o=> ?_);refine aP (abP _ (λa (u:Option Bool×Unit) n=>u.1=none/\n=s/\∀e∈a,e∈F.toList) _ ?_ ?_ _ _ ⟨rfl,rfl,λ_ z=>z⟩);.rintro⟨I,v⟩ a u j ⟨d,g,y⟩;rw[g];obtain⟨i,t,q,_,_⟩:=aep o (y _ (cU ..));have q:=q;subst q;exact bJ ⟨rfl,rfl,λz H=>y z (cO _ H)⟩
  .rintro⟨B,C⟩ j ⟨d,g,_⟩;rw[g];have d:=d;subst d;exact bJ ⟨rfl,rfl,λc z=>m c (cO _ z)⟩
 .rintro⟨B,C⟩ j ⟨l,p,_⟩;rw[p];have l:=l;subst l;exact bJ h
theorem alz {c r:Addr} {os:List Addr} {o:Obj} {a:Array (Int×Value)} {v:Nat} {t:SetTable} {Q:Array (Int×Value)->Shared->Prop} (B:s.heap.get? c=some o) (C:o.data= .set a v t) (F:t.fits a.size=true) (P:ElemsOf (intKind prog w) a.toList)
  (R:∀x∈c::os,∃U k,s.heap.SetOf (intKind prog w) x U k) (G:s.heap.SetOf (intKind prog w) r (λ_=>false) 0)
  (h:∀b p,b.toList.Perm a.toList->pD r s.heap p->p.SetOf (intKind prog w) r (λ_=>false) 0->Q b {s with heap:=p}):wpAny (model prog w) A (setWalkUnseen c os (some r)) Q E s:=by
 have same:=λb z=>h b s.heap z (ahQ ..) G;refine aP (Om B C F ?_);refine aP (aP (Oo (bJ ?_)));refine jz (λH=> ?_) λH=> ?_
 .unfold setWalk;refine aP (Om B C F ?_);refine aP (aP (Oo (bJ ?_)));refine jz (λ_=> ?_) λu=> ?_;.refine aP (Oo (bJ (same _ ?_)));have:=aeo ((model prog w).w.params.setOrder c v) a.size 0 a.toList #[] (by simp);exact this
  .have l:(t.led=true/\t.plain=true)\/a.size<=1:=by
    rcases aa3.mp H with z | z
    .rcases aa3.mp z with z | z;.exact absurd z u
     .exact .inl (j7.mp z)
    .exact .inr (dz z)
   have I:∀x:Bool,(x=true\/a.size<=1)->¬(!x&&decide (a.size > 1))=true:=λx z y=>by
    obtain⟨J,L⟩:=j7.mp y;have L:=dz L;rcases z with z | z;.rw[z]at J;cases J
    .omega
   refine jz (λz=>absurd z (I _ (l.imp (·.2) id))) λ_=>aP (jz (λz=>absurd z (I _ (l.imp (·.1) id))) λ_=>bJ (bJ (same a (.refl _))))
 .refine aP (aly R ?_);refine jz (λz=>absurd z (by decide)) λ_=>aP (wpAny_rule ?_);obtain⟨T,O,N,m,f,g,d,n,e,q,i,j⟩:=id G;refine aP (Om f d i ?_);refine jz (λ_=> ?_) λ_=>bJ (same a (.refl _));have st:=(SetOf_store (t':={m with led:=m.led&&t.led,plain:=m.plain&&t.plain}) f g d n e q i).2;rw[j]at st;exact aP (wpAny_storeSet_of f d (bJ (h a _ (.refl _) (Qc ..) st)) (by rw[j];exact fU _))
theorem Sy (c:s.TypeIs (.ref a) "set") (h:Q true s):wpAny (model prog w) A (ah2 (.ref a)) Q E s:=by refine aP (Gj (b:=true) c (by rw[Oj];kernel_rfl) ?_);exact bJ h
theorem SJ {h b:Heap} {c:Addr} {U:Int->Bool} {k:Nat} (f:h.SetOf (intKind prog w) c U k) (kp:∀o,h.get? c=some o->b.get? c=some o):b.SetOf (intKind prog w) c U k:=by obtain⟨o,e,d,t,g,a⟩:=f;exact⟨o,e,d,t,kp o g,a⟩
theorem Jv {h:Heap} {c:Addr} {U V:Int->Bool} {k:Nat} (a:h.SetOf (intKind prog w) c U k) (e:∀i,U i=V i):h.SetOf (intKind prog w) c V k:=by have:=funext e;rw[<-this];exact a
theorem aer {x y r:Addr} {U V:Int->Bool} {nx ny:Nat} {id:String} {Q:Unit->Shared->Prop} (hx:s.heap.SetOf (intKind prog w) x U nx) (hy:s.heap.SetOf (intKind prog w) y V ny) (hr:s.heap.SetOf (intKind prog w) r (λ_=>false) 0) (nx':x≠r) (ny':y≠r) (hb:ny<=100)
  (h:∀p (l:List Int),pD r s.heap p->p.SetOf (intKind prog w) r (λi=>decide (i∈l)) l.length->l.Nodup->(∀i,i∈l↔(U i&&V i)=true)->Q () {s with heap:=p}):
  wpAny (model prog w) A (do
   let was <-setEpoch y
   let arr <-setWalkUnseen y [x,r] (some r)
   forIn arr Hr λz __s=>
    match z with
    | (h,v)=>do
     holding [v] do
       let f <-setFind x v h
       if f.isSome=true then do
         let _ <-setAddHashed r v h
         pure ()
        else pure ()
     Qw id y was
     pure (yj Hr)
   pure ()) Q E s:=by
 obtain⟨o,es,ep,t,ho,hex,hd,L,Y,hsb,hf,hsz⟩:=_root_.id hy;refine aP (aaq ho hd hf (aP (alz ho hd hf L ?_ hr λarr h1 hp hs1 hr1=> ?_)))
 .intro c J;rcases cD.mp J with z | J;.exact⟨V,ny,z▸hy⟩
  .rcases cD.mp J with z | J;.exact⟨U,nx,z▸hx⟩
   .exact⟨_,_,(dX.mp J)▸hr⟩
 refine aP (abP _ (λF (_:PUnit) S=>∃(done:List (Int×Value)) (l:List Int) (p:Heap),S={s with heap:=p}/\done++F=arr.toList/\pD r s.heap p/\p.SetOf (intKind prog w) r (λi=>decide (i∈l)) l.length/\l.Nodup/\l.length<=done.length/\∀i,i∈l↔U i=true/\∃e∈done,(intKind prog w).is i e.2=true) _ ?_ ?_ _ _ ⟨[],[],h1,rfl,rfl,hs1,Jv hr1 λi=>by simp,k_,bW _,λi=>by simp⟩)
 .rintro⟨hv,v⟩ F b S ⟨done,l,p,N,a,n,Jw,C,hle,u⟩;subst N;have T:=hp.mem_iff.mp (a▸pF _ (cU ..));obtain⟨i,tk,ev,eh,m⟩:=aep L T;have Z:=(L _ T).2;have eh:=eh;have m:=m;subst eh;have hx':=SJ hx λo e=>(n.2 x nx').trans e;have ho':p.get? y=some o:=(n.2 y ny').trans ho;have lend:done.length+1<=100:=by have q:=congrArg iR a;rw[cV,bR,hp.length_eq]at q;have q2:es.toList.length=ny:=hsz;omega
  have G:∀j,(intKind prog w).is j v=true↔j=i:=λj=>by
   constructor
   .intro z;obtain⟨i',t',z1,H⟩ | ⟨x',t',z1,H⟩:=oF (k:=bI j) (v:=v) z;.injection z1 with z1;subst z1;have ev:v= .int i tk:=ev;rw[ev]at H;injection H with H;exact H.symm
    .cases z1
   .intro z;rw[z];exact m
  have O:∀(R:ForInStep PUnit->Shared->Prop),(∀S,(∃(done:List (Int×Value)) (l:List Int) (p:Heap),S={s with heap:=p}/\done++F=arr.toList/\pD r s.heap p/\p.SetOf (intKind prog w) r (λi=>decide (i∈l)) l.length/\l.Nodup/\l.length<=done.length/\∀i,i∈l↔U i=true/\∃e∈done,(intKind prog w).is i e.2=true)->R (.yield Hr) S)->
    ∀(I:Heap) (P:List Int),pD r s.heap I->I.SetOf (intKind prog w) r (λi=>decide (i∈P)) P.length->P.Nodup->P.length<=done.length+1->(∀j,j∈P↔U j=true/\∃e∈done++[((intKind prog w).hash i,v)],(intKind prog w).is j e.2=true)->wpAny (model prog w) A (Qw id y ep >>=λ_=>pure (yj Hr)) R E {s with heap:=I}:=λR hR I P k1 k2 k3 k4 k5=>by
   unfold Qw;refine aP (aP (aaq (s:={s with heap:=I}) ((k1.2 y ny').trans ho) hd hf ?_));refine jz (λz=> ?_) λ_=>bJ (bJ (hR _ ⟨done++[((intKind prog w).hash i,v)],P,I,rfl,by rw[lU];exact a,k1,k2,k3,by rw[cV];exact k4,k5⟩));rw[bne_self_eq_false]at z;cases z
  refine aP (uZ (aP (wpAny_setFind_of (s:={s with heap:=p}) m Z hx' λf X=> ?_)));refine jz (λz=> ?_) λz=>bJ (O _ (λ_ q=>q) p l n Jw C (by omega) λj=> ?_)
  .rw[X]at z;refine aP (wpAny_setAddHashed_of (s:={s with heap:=p}) m Z Jw (by unfold scanBound;omega) λI alB Jx=>bJ ?_);have W:=n.trans alB;by_cases B:i∈l
   .have H:(if decide (i∈l)=true then l.length else l.length+1)=l.length:=aB (cF B);rw[H]at Jx;refine O _ (λ_ q=>q) I l W (Jv Jx λj=> ?_) C (by omega) λj=> ?_
    .by_cases hj:j=i;.subst hj;rw[cF B];rfl
     .rw[cY hj,aa4]
    .rw[u];refine qC λ_=>⟨λ⟨e,g,q⟩=>⟨e,qg _ g,q⟩,λ⟨e,g,q⟩=> ?_⟩;rcases dO.mp g with g | g;.exact⟨e,g,q⟩
     .rw[dX.mp g]at q;have:=(G j).mp q;subst this;exact((u j).mp B).2
   .have H:(if decide (i∈l)=true then l.length else l.length+1)=(l++[i]).length:=by rw[au (by rw[cY B];decide),cV];rfl
    rw[H]at Jx;refine O _ (λ_ q=>q) I (l++[i]) W (Jv Jx λj=> ?_) ?_ (by rw[cV];show l.length+1<=_;omega) λj=> ?_;.rw[<-yc];exact fH (by rw[dO,dX])
    .rw[nZ];exact⟨C,by simp,λc J d hd'=>by rw[dX.mp hd'];exact λq=>B (q▸J)⟩
    .rw[dO,dX,u];constructor
     .rintro(⟨q1,e,g,q⟩ | q);.exact⟨q1,e,qg _ g,q⟩
      .subst q;exact⟨z,_,pF _ (dX.mpr rfl),m⟩
     .rintro⟨q1,e,g,q⟩;rcases dO.mp g with g | g;.exact .inl ⟨q1,e,g,q⟩
      .rw[dX.mp g]at q;exact .inr ((G j).mp q)
  .rw[X]at z;rw[u];refine qC λhUj=>⟨λ⟨e,g,q⟩=>⟨e,qg _ g,q⟩,λ⟨e,g,q⟩=> ?_⟩;rcases dO.mp g with g | g;.exact⟨e,g,q⟩
   .rw[dX.mp g]at q;have:=(G j).mp q;subst this;exact absurd hUj z
 .rintro b S ⟨done,l,p,N,a,n,Jw,C,hle,u⟩;subst N;rw[gH]at a;refine bJ (h p l n Jw C λi=> ?_);rw[u,dY,Y,a];exact qC λ_=>⟨λ⟨e,g,q⟩=>⟨e,hp.mem_iff.mp g,q⟩,λ⟨e,g,q⟩=>⟨e,hp.mem_iff.mpr g,q⟩⟩
theorem inter {Q:Value->Shared->Prop} {id:String} (v:s.heap.SetOf (intKind prog w) a S n) (x:s.heap.SetOf (intKind prog w) b T m) (ne:a≠b) (X:n<=100) (W:m<=100)
  (h:∀d (l:List Int),(∀c o,s.heap.get? c=some o->d.get? c=some o)->d.SetOf (intKind prog w) s.heap.objs.size (λi=>decide (i∈l)) l.length->l.Nodup->(∀i,i∈l↔(S i&&T i)=true)->Q (.ref s.heap.objs.size) {s with heap:=d}):
  wpAny (model prog w) A (ah3 id a (.ref b)) Q E s:=by
 have tS:=v.typeIs;have tT:=x.typeIs;refine jz (λz=> ?_) λ_=> ?_;.exact absurd (by simpa using z) ne.symm
 refine aP (aP (Gj (b:=true) tS (by rw[Oj];kernel_rfl) (bJ ?_)));refine aP (wpAny_newSet_of (knd:=intKind prog w) λf J=> ?_);unfold ah4;refine aP (bJ (aP (uZ ?_)));have I:(s.heap.push {cls:= .type "set",dict:=none,data:= .set #[] 0 (.fresh 0 0 f)}).SetOf (intKind prog w) a S n:=SJ v λo e=>fJ _ e;have u:(s.heap.push {cls:= .type "set",dict:=none,data:= .set #[] 0 (.fresh 0 0 f)}).SetOf (intKind prog w) b T m:=SJ x λo e=>fJ _ e;have L:a≠s.heap.objs.size:=let ⟨_,_,_,_,e,_⟩:=v;fZ (dR e);have N:b≠s.heap.objs.size:=let ⟨_,_,_,_,e,_⟩:=x;fZ (dR e);have fin:∀d (l:List Int),pD s.heap.objs.size (s.heap.push {cls:= .type "set",dict:=none,data:= .set #[] 0 (.fresh 0 0 f)}) d->d.SetOf (intKind prog w) s.heap.objs.size (λi=>decide (i∈l)) l.length->l.Nodup->(∀i,i∈l↔(S i&&T i)=true)->wpAny (model prog w) A (pure (fQ s.heap.objs.size)) Q E {s with heap:=d}:=λd l j p q t=>
  bJ (h d l (λc o e=>(j.2 c (fZ (dR e))).trans (fJ _ e)) p q t)
 refine aP (Sy u.typeIs (jz (λ_=>aP (bJ ?_)) λz=>absurd rfl z));obtain⟨oa,O,R,ta,G,_,y,_,_,_,C,Y⟩:=_root_.id I;obtain⟨ob,P,U,tb,H,_,B,_,_,_,F,Z⟩:=_root_.id u;refine aP (aP (Ol H B F (bJ (aP (aP (Ol G y C (bJ ?_)))))));by_cases g:P.size > O.size;.rw[aB g];exact aer u I J N L X λd l j p q t=>fin d l j p q λi=>by rw[t,Bool.and_comm]
 .rw[au g];exact aer I u J L N W λd l j p q t=>fin d l j p q t
theorem alC {R:Result->Shared->Prop} (p:s.heap.SetOf (intKind prog w) a S n) (q:s.heap.SetOf (intKind prog w) b T m) (C:a≠b) (u:n<=100) (t:m<=100)
  (h:∀d (l:List Int),(∀c o,s.heap.get? c=some o->d.get? c=some o)->d.SetOf (intKind prog w) s.heap.objs.size (λi=>decide (i∈l)) l.length->l.Nodup->(∀i,i∈l↔(S i&&T i)=true)->R (.ok (.ret (.ref s.heap.objs.size))) {s with heap:=d}):
  wpAny (model prog w) A.in1 (Builtin.«frozenset.__and__» ⟨[.ref a,.ref b],[]⟩) (λfin g=>match fin with | .done f=>R (.ok f) g | .again j=>j.quiet=true/\codeAny (model prog w) A j R g) (λe g=>R (.error e) g) s:=by
 wp_delta
 refine aP (Oi rfl ?_);refine aP (aP (Sy p.typeIs (Sy q.typeIs ?_)));refine jz (λz=>absurd z (by decide)) λ_=>aP (bJ (aP (inter p q C u t λd l v x y B=> ?_)));exact bJ (h d l v x y B)
end
section
variable {X:Cx}
def alD:R2:=λx y H Q=>∃a b S T n m,x=V.ref a/\y=V.ref b/\H a=some (.set S n)/\H b=some (.set T m)/\a≠b/\n<=100/\m<=100/\∀p k,H p=none->(∀l:List Int,l.Nodup->(∀i,i∈l↔(S i&&T i)=true)->k=l.length)->Q (.ref p) (upd H p (.set (λi=>S i&&T i) k))
theorem alE:OpR X (binaryOp .BitAnd) alD:=by
 intro z s σ H x y v u Q I Y Z h;obtain⟨a,b,S,T,n,m,rfl,rfl,C,E,W,J,G,q⟩:=h;cases Y;cases Z;have f:=I.hok a _ C;have j:=I.hok b _ E;refine wpAny_binaryOp_same f.typeIs j.typeIs PySem.F.fills_set_and abu (Ba abu f.typeIs alw (PySem.F.args_set_and_2 _ _) (S:=λ_ R B=>B=s/\∀d (l:List Int),(∀c o,s.heap.get? c=some o->d.get? c=some o)->d.SetOf (intKind X.prog X.w) s.heap.objs.size (λi=>decide (i∈l)) l.length->l.Nodup->(∀i,i∈l↔(S i&&T i)=true)->R (.ok (.ret (.ref s.heap.objs.size))) {s with heap:=d}) (λA R B ⟨e,k⟩=>by subst e;exact alC f j W J G k) ⟨rfl,λd l L N O t=>⟨nofun,?_⟩⟩);have g:d.SetOf (intKind X.prog X.w) s.heap.objs.size (λi=>S i&&T i) l.length:=Jv N λi=>by rw[jA,cH];exact t i
 exact⟨.ref _,_,I.laid (o:= .set (λi=>S i&&T i) l.length) L (bW _) g,rfl,q _ _ (I.hok.fresh (bW _)) λl' U P=>((tL O U).mpr λi=>by rw[t,P]).length_eq⟩
end
theorem alF (a d:Value):argsOk "max" ⟨[a],[("default",d)]⟩:=by unfold argsOk;kernel_rfl
theorem Jy:(toString "max" ++toString ".loop" :String)="max.loop" :=by decide
section
variable {prog:Program} {w:World} {A:Around} {R:Result->Shared->Prop} {I:Addr} {fp wr:List Addr} {n:Nat} {P:Nat->Value->Prop} {T:Nat->Heap->Prop} {d:Value}
theorem alG (W:Walks prog w A.in1 I fp wr n P T) (p:Nat->Nat->Bool) (C:CmpOf prog w A.in1 .Gt P p) (S:Addr) (x:S∉fp):
  ∀k j s vb c,n- (j+1)=k->j+1<=n->T (j+1) s.heap->P (argBest p j) vb->s.heap.get? S=some {cls:= .type "list",dict:=none,data:= .seq #[vb,vb] c,slots:= #[]}->
  (∀v F L,P (argBest p (n-1)) v->(∀b o,b∉wr->b≠S->s.heap.get? b=some o->F.get? b=some o)->R (.ok (.ret v)) {s with heap:=F,toks:=L})->
  codeAny (model prog w) A (.builtin "max.loop" ⟨[.ref I,.none,.ref S],[("default",d)]⟩) R s:=by
 have B:=λz=>x (W.sub _ z);intro k
 induction k with
 | zero=>
  intro j s vb c hk Z l J u H;have E:j+1=n:=by omega
  refine Oq P0 ?_;rw[PK vq _];show wpAny _ A.in1 (seqItems? (fQ S) >>=_) _ _ s;refine aP (Gk u rfl ?_);show wpAny _ A.in1 (tryCatch (pyNext (fQ I)) _ >>=_) _ _ s;refine aP (Bf (W.done s _ _ (E▸l) λF L a=> ?_));have f:=a S _ B u;show wpAny _ A.in1 (updateSeq S (λ_=>(#[]:Array Value)) >>=_) _ _ _;refine aP (Gm f rfl (aP (Bd (bJ ?_))));exact H vb _ L (by rw[<-E];exact J) λb o X q z=>(u0 _ _ (lB q)).trans (a b o X z)
 | succ k U=>
  intro j s vb c hk Z l J u H;have i:j+1 < n:=by omega
  refine Oq P0 ?_;rw[PK vq _];show wpAny _ A.in1 (seqItems? (fQ S) >>=_) _ _ s;refine aP (Gk u rfl ?_);show wpAny _ A.in1 (tryCatch (pyNext (fQ I)) _ >>=_) _ _ s;refine aP (Bf (W.item (j+1) s _ _ i l λv F L Q O a=> ?_));have f:=a S _ B u;show wpAny _ A.in1 (tryCatch (holding [v,v] (richCompare CmpOp.Gt v vb >>=_)) _ >>=_) _ _ _;refine aP (Bf (uZ (aP (C (j+1) (argBest p j) v vb _ _ _ Q J ?_))));refine aP (uZ (tG ?_));refine aP (Bd (bJ ?_));cases e:p (j+1) (argBest p j)with
  | true=>
   simp only[if_true];refine aP (Gm f rfl (aP (Bd ?_)));rw[Jy];refine bJ ⟨Bc vq _,U (j+1) _ v _ (by omega) i (W.frame _ _ _ O λb Y o z=> ?_) (by simp only[argBest,e,if_true];exact Q) (Gn _ f rfl) λN q m g h=> ?_⟩;.exact(u0 _ _ (λy:S=b=>x (by rw[y];exact Y))).trans z
   .exact H N q m g λb o t G z=>h b o t G ((u0 _ _ (lB G)).trans (a b o t z))
  | false=>simp only[Bp,if_false];refine aP (Bd ?_);rw[Jy];refine bJ ⟨Bc vq _,U (j+1) _ vb c (by omega) i O (by simp only[argBest,e,Bp,if_false];exact J) f λN q m g h=> ?_⟩;exact H N q m g λb o t G z=>h b o t G (a b o t z)
theorem alH (W:Walks prog w A.in1 I fp wr n P T) (m:Nat->Nat->Bool) (j:CmpOf prog w A.in1 .Gt P m) (S:Addr) (f:S∉fp) (l:T 0 s.heap) (E:s.heap.get? S=some {cls:= .type "list",dict:=none,data:= .seq #[] c,slots:= #[]})
  (q:n=0->∀e h,(∀b o,b∉wr->b≠S->s.heap.get? b=some o->e.get? b=some o)->R (.ok (.ret d)) {s with heap:=e,toks:=h})
  (L:0 < n->∀v e h,P (argBest m (n-1)) v->(∀b o,b∉wr->b≠S->s.heap.get? b=some o->e.get? b=some o)->R (.ok (.ret v)) {s with heap:=e,toks:=h}):
  codeAny (model prog w) A (.builtin "max.loop" ⟨[.ref I,.none,.ref S],[("default",d)]⟩) R s:=by
 have t:=λz=>f (W.sub _ z);refine Oq P0 ?_;rw[PK vq _];show wpAny _ A.in1 (seqItems? (fQ S) >>=_) _ _ s;refine aP (Gk E rfl ?_);rcases Nat.eq_zero_or_pos n with g | g;.refine aP (Bf (W.done s _ _ (by rw[g];exact l) λe h a=> ?_));exact aP (wpAny_rule (bJ (q g e h λb o G _ z=>a b o G z)))
 .refine aP (Bf (W.item 0 s _ _ g l λv e h J F a=> ?_));have i:=a S _ t E;show wpAny _ A.in1 (updateSeq S (λ_=> #[v,v]) >>=_) _ _ _;refine aP (Gm i rfl ?_);rw[Jy];refine bJ ⟨Bc vq _,alG W m j S f _ 0 _ v _ rfl g (W.frame _ _ _ F λb N o z=> ?_) J (Gn _ i rfl) λO H x p u=> ?_⟩;.exact(u0 _ _ (λy:S=b=>f (by rw[y];exact N))).trans z
  .exact L g O H x p λb o B C z=>u b o B C ((u0 _ _ (lB C)).trans (a b o B z))
end
section
variable {prog:Program} {w:World} {A:Around} {E:Value->Shared->Prop} {s:Shared} {d:Value}
theorem alI {id:String} {b:Builtin} {args:List Value} {d:List (Str×Value)} {Q:Value->Shared->Prop} (n:builtinKind id=none) (o:plainId id=true) (m:entryFor table id=some b) (l:argsOk id ⟨args,d⟩)
  (i:wpAny (model prog w) A.in1 (b ⟨args,d⟩) (λfin a=>match fin with
   | .done f=>(match(abN f:Result)with | .ok (.ret v)=>Q v a | .ok _=>False | .error e=>E e a)
   | .again h=>h.quiet=true/\codeAny (model prog w) A h (λr a=>match r with | .ok (.ret v)=>Q v a | .ok _=>False | .error e=>E e a) a) E s):
  wpAny (model prog w) A (call (.builtin id) args d) Q E s:=by
 refine Oe (codeAny_call_builtin o m ?_);simp only[checkBuiltinCall,n];cases c:Manifest.signature? id with
 | none=>exact bJ i
 | some g=>
  have j:Bind.checkArgs id g ⟨args,d⟩=pure ():=by simpa only[argsOk,c]using l
  simp only[j];exact bJ i
theorem alJ
  (h:wpAny (model prog w) A.in1 (pyIter x) (λC c=>∃I l j n P T i,C= .ref I/\Walks prog w A.in1 I l j n P T/\T 0 c.heap/\(∀b∈l,b < c.heap.objs.size)/\CmpOf prog w A.in1 .Gt P i/\
   (n=0->∀a f,(∀b o,b∉j->c.heap.get? b=some o->a.get? b=some o)->Q d {c with heap:=a,toks:=f})/\
   (0 < n->∀v a f,P (argBest i (n-1)) v->(∀b o,b∉j->c.heap.get? b=some o->a.get? b=some o)->Q v {c with heap:=a,toks:=f})) E s):
  wpAny (model prog w) A (call (.builtin "max") [x] [("default",d)]) Q E s:=by
 refine alI PySem.F.kind_max PySem.F.plain_max PySem.F.entry_max (alF _ _) ?_;refine aP (Oi (rfl) ?_);refine aP (bJ ?_);refine aP (kW h (λC c G=> ?_) λ_ _ e=>e);obtain⟨I,l,j,n,P,T,i,rfl,W,B,t,g,p,J⟩:=G;refine aP (Az ?_);have q:=λz=>lQ _ (t _ z);rw[Jy];refine bJ ⟨Bc vq _,alH W i g c.heap.objs.size q (W.frame _ _ _ B λb _ o e=>fJ _ e) (iC _ rfl) (λy a f u=> ?_) λy v a f H u=> ?_⟩;.exact p y a f λb o m e=>u b o m (fZ (dR e)) (fJ _ e)
 .exact J y v a f H λb o m e=>u b o m (fZ (dR e)) (fJ _ e)
theorem alK (I:A.handled=none) (x:s.heap.IsList l its.toArray) (u:IntsAre its ns)
  (F:ns=[]->∀f g,(∀b o,s.heap.get? b=some o->f.get? b=some o)->Q d {s with heap:=f,toks:=g})
  (G:∀f g M t',(∀b o,s.heap.get? b=some o->f.get? b=some o)->M∈ns->(∀a,a∈ns->a<=M)->Q (.int M t') {s with heap:=f,toks:=g}):wpAny (model prog w) A (call (.builtin "max") [.ref l] [("default",d)]) Q E s:=by
 obtain⟨c,e⟩:=u.allInts.items;have y:numsOf (intItems c).toList=ns:=by rw[<-e];exact u.numsOf
 rw[aad]at y;subst y;rw[e]at x;refine alJ (iter_intList x λN C st h n=> ?_);subst C;refine⟨_,_,_,_,_,_,_,rfl,Walks.list (A:=A.in1) I _ l n (intItems c),st,h,CmpOf.ints_gt (numAt c) (λ_ _=>intItems_at),λq f g m=> ?_,λz v f g p m=> ?_⟩
 .have q:c.size=0:=by simpa [intItems]using q
  exact F (qm.mp (by rw[aJ,pI];exact q)) f g (old_kept m)
 .have z:0 < c.size:=by simpa [intItems]using z
  have p:(intItems c)[argBest (λi j=>decide (numAt c i > numAt c j)) (c.size-1)]? =some v:=by simpa [intItems]using p
  obtain⟨t,rfl⟩:=intItems_at p;obtain⟨L,B⟩:=argBest_gt (numAt c) (c.size-1);refine G f g _ t (old_kept m) ?_ λa H=> ?_;.rw[numAt_eq];exact PySem.getD_mem (by rw[aJ,pI];omega)
  .obtain⟨j,J,rfl⟩:=mem_getD H;rw[aJ,pI]at J;rw[<-numAt_eq];exact B j (by omega)
end
section
variable {X:Cx} {e d:Expr} {te td:TE} {p pos kp:Pos}
def alL (K:aW) (te td:TE):TE:=λσ H Q=>te σ H λx d=>td σ d λy c=>∃a b,x= .ref a/\SqL K c a (b.map V.int)/\(b=[]->Q y c)/\∀m∈b,(∀z∈b,z<=m)->Q (.int m) c
theorem aev (B:X.mg "max" =none) (z:PE X e te) (w:PE X d td) (v:X.calm=true:=by rfl) (A:Gl X "max" :=by rfl) (g:starEach [e] X.env=[(false,eval e X.env)]:=by rfl):PE X (.Call (.Name "max" p) [e] [⟨some "default",d,kp⟩] pos) (alL X.K te td):=by intro b s σ H Q I h;refine tH (yD I A B ahG (ahH ?_ (by rw[g];rfl) (by rw[g];rfl) rfl rfl));rw[g];refine tO (thn (z b s σ H _ I h) λu S ⟨x,j,l,O,L⟩=>vh ?_);refine ahI (thn (w b S σ j _ l L) λZ W ⟨y,i,c,P,a,U,n,C,J,N⟩=>ahJ ?_);subst n;cases O;obtain⟨F,R,G,_⟩:=c.list C;exact alK (c.ok.hd v) G.isList R.ints (λE o T f=>⟨y,i,c.kept f,P,J E⟩) λo T m Y f q t=>⟨.int _,i,c.kept f,⟨_,rfl⟩,N m q t⟩
end
local macro_rules | `(tactic| walk_at "s") => `(tactic| exact ⟨rfl, rfl, rfl, by decide +kernel, rfl, by decide +kernel, by decide +kernel⟩)
abbrev Ls:=List Str
def top (i:Nat):Stmt:=PySem.Challenge.pw_groupschools_s01_answers.main.body.getD i (.Pass ⟨0,0,0,0⟩)
abbrev SM:Stmt:=top 23
abbrev alM:Ls:=["number"]
abbrev qM:Ls:=["number"]
theorem alN:bh alM qM (bf SM):=by walk_at "s"
abbrev SN:Stmt:=top 24
abbrev alO:Ls:=["number"]
abbrev wC:Ls:=["number"]
theorem alP:bh alO wC (bf SN):=by walk_at "s"
abbrev SQ:Stmt:=top 25
abbrev alQ:Ls:=["number"]
abbrev uz:Ls:=["number"]
theorem alR:bh alQ uz (bf SQ):=by walk_at "s"
abbrev SX:Stmt:=top 26
abbrev alS:Ls:=["number"]
abbrev JB:Ls:=["number"]
theorem alT:bh alS JB (bf SX):=by walk_at "s"
abbrev S5:Stmt:=top 27
abbrev alU:Ls:=["number"]
abbrev Dr:Ls:=["number"]
theorem alV:bh alU Dr (bf S5):=by walk_at "s"
abbrev S6:Stmt:=top 28
abbrev alW:Ls:=["number"]
abbrev uD:Ls:=["number"]
theorem alX:bh alW uD (bf S6):=by walk_at "s"
abbrev S7:Stmt:=top 29
abbrev alY:Ls:=["numbers"]
abbrev zx:Ls:=["numbers"]
theorem alZ:bh alY zx (bf S7):=by walk_at "s"
abbrev S8:Stmt:=top 30
abbrev al0:Ls:=["numbers","number"]
abbrev wD:Ls:=["numbers"]
theorem aew:bh al0 wD (bf S8):=by walk_at "s"
abbrev S9:Stmt:=top 31
abbrev al1:Ls:=["numbers","there","number"]
abbrev wF:Ls:=["numbers","there"]
theorem S_:bh al1 wF (bf S9):=by walk_at "s"
abbrev Td:Stmt:=inClass (top 33) 0
abbrev al2:Ls:=["self","ranks","parents","homes"]
abbrev Ds:Ls:=["self","ranks","parents","homes"]
theorem al3:bh al2 Ds (bf Td):=by walk_at "s"
abbrev Te:Stmt:=top 34
abbrev al4:Ls:=[]
abbrev wG:Ls:=[]
theorem al5:bh al4 wG (bf Te):=by walk_at "s"
abbrev Tf:Stmt:=top 35
abbrev al6:Ls:=["tree"]
abbrev Dt:Ls:=["tree"]
theorem al7:bh al6 Dt (bf Tf):=by walk_at "s"
abbrev Tg:Stmt:=top 36
abbrev al8:Ls:=["one","other"]
abbrev JC:Ls:=["one","other"]
theorem al9:bh al8 JC (bf Tg):=by walk_at "s"
abbrev Ti:Stmt:=top 37
abbrev al_:Ls:=["tree","other"]
abbrev zy:Ls:=["tree","other"]
theorem ama:bh al_ zy (bf Ti):=by walk_at "s"
abbrev Tj:Stmt:=top 38
abbrev amb:Ls:=["tree","key","rank","parent"]
abbrev qN:Ls:=["tree","key","rank","parent"]
theorem amc:bh amb qN (bf Tj):=by walk_at "s"
abbrev Tn:Stmt:=top 39
abbrev amd:Ls:=["tree","key"]
abbrev wH:Ls:=["tree","key"]
theorem ame:bh amd wH (bf Tn):=by walk_at "s"
abbrev Tp:Stmt:=top 40
abbrev amf:Ls:=["tree","parent","key"]
abbrev qO:Ls:=["tree","parent"]
theorem Tq:bh amf qO (bf Tp):=by walk_at "s"
abbrev Tr:Stmt:=top 41
abbrev amg:Ls:=["tree","rank","key"]
abbrev Du:Ls:=["tree","rank"]
theorem Tt:bh amg Du (bf Tr):=by walk_at "s"
abbrev Tv:Stmt:=top 42
abbrev amh:Ls:=["tree","home","x"]
abbrev rW:Ls:=["tree","home"]
theorem Tw:bh amh rW (bf Tv):=by walk_at "s"
abbrev Tz:Stmt:=top 43
abbrev ami:Ls:=["tree","old","new","key","x"]
abbrev zA:Ls:=["tree","old","new"]
theorem TF:bh ami zA (bf Tz):=by walk_at "s"
abbrev TJ:Stmt:=top 44
abbrev aex:Ls:=["tree","rank","parent"]
abbrev wI:Ls:=["tree","rank","parent"]
theorem amj:bh aex wI (bf TJ):=by walk_at "s"
abbrev TQ:Stmt:=top 45
abbrev amk:Ls:=["tree","key"]
abbrev Dv:Ls:=["tree"]
theorem aey:bh amk Dv (bf TQ):=by walk_at "s"
abbrev TV:Stmt:=top 46
abbrev aml:Ls:=["tree"]
abbrev Dy:Ls:=["tree"]
theorem amm:bh aml Dy (bf TV):=by walk_at "s"
abbrev TY:Stmt:=top 47
abbrev amn:Ls:=["tree","group","chain"]
abbrev uE:Ls:=["tree","group"]
theorem T3:bh amn uE (bf TY):=by walk_at "s"
abbrev T4:Stmt:=top 48
abbrev amo:Ls:=["tree","held","key","x"]
abbrev qP:Ls:=["tree"]
theorem Dz:bh amo qP (bf T4):=by walk_at "s"
abbrev T5:Stmt:=top 49
abbrev aez:Ls:=["tree","sets","held","key"]
abbrev zB:Ls:=["tree"]
theorem JD:bh aez zB (bf T5):=by walk_at "s"
abbrev T6:Stmt:=top 56
abbrev amq:Ls:=["numbers","start"]
abbrev JF:Ls:=["numbers"]
theorem T7:bh amq JF (bf T6):=by walk_at "s"
abbrev T8:Stmt:=top 57
abbrev aeA:Ls:=["row"]
abbrev JG:Ls:=["row"]
theorem amr:bh aeA JG (bf T8):=by walk_at "s"
abbrev T9:Stmt:=top 58
abbrev aeB:Ls:=["row"]
abbrev JH:Ls:=["row"]
theorem ams:bh aeB JH (bf T9):=by walk_at "s"
abbrev T_:Stmt:=top 59
abbrev amt:Ls:=["rows","row"]
abbrev JK:Ls:=["rows"]
theorem zE:bh amt JK (bf T_):=by walk_at "s"
abbrev Ua:Stmt:=top 60
abbrev Ub:Ls:=["tree","rows","row"]
abbrev JL:Ls:=["tree","rows"]
theorem aeC:bh Ub JL (bf Ua):=by walk_at "s"
abbrev Uc:Stmt:=top 61
abbrev aeD:Ls:=["tree","row"]
abbrev JM:Ls:=["tree","row"]
theorem amu:bh aeD JM (bf Uc):=by walk_at "s"
abbrev Ud:Stmt:=top 62
abbrev aeE:Ls:=["tree","key","x"]
abbrev JN:Ls:=["tree"]
theorem Ue:bh aeE JN (bf Ud):=by walk_at "s"
abbrev Ug:Stmt:=top 63
abbrev amv:Ls:=["tree","numbers","rows","other","row"]
abbrev JQ:Ls:=["tree","numbers"]
theorem JR:bh amv JQ (bf Ug):=by walk_at "s"
abbrev Uh:Stmt:=top 65
abbrev Ui:Ls:=["tree","key","rank","parent"]
abbrev JT:Ls:=["tree","key","rank","parent"]
theorem amw:bh Ui JT (bf Uh):=by walk_at "s"
abbrev Uj:Stmt:=top 66
abbrev Uk:Ls:=["one","other","rows","key"]
abbrev JV:Ls:=["one","other"]
theorem JW:bh Uk JV (bf Uj):=by walk_at "s"
abbrev Ul:Stmt:=top 67
abbrev DG:Ls:=["one","other","rows","x"]
abbrev JX:Ls:=["one","other"]
theorem JZ:bh DG JX (bf Ul):=by walk_at "s"
abbrev Um:Stmt:=top 68
abbrev amx:Ls:=["one","other","rows","answer","row"]
abbrev J0:Ls:=["one","other"]
theorem J1:bh amx J0 (bf Um):=by walk_at "s"
abbrev Uo:Stmt:=top 69
abbrev amy:Ls:=["one","other","shared"]
abbrev J2:Ls:=["one","other"]
theorem aeF:bh amy J2 (bf Uo):=by walk_at "s"
abbrev Uq:Stmt:=top 70
abbrev amA:Ls:=["one","other","ones","others","count","pairs","a","b"]
abbrev J3:Ls:=["one","other"]
theorem uF:bh amA J3 (bf Uq):=by walk_at "s"
abbrev Ur:Stmt:=top 71
abbrev amB:Ls:=["sets","others","told"]
abbrev J4:Ls:=["sets","others"]
theorem Us:bh amB J4 (bf Ur):=by walk_at "s"
abbrev Ut:Stmt:=top 72
abbrev amC:Ls:=["one","other","ones","others"]
abbrev J5:Ls:=["one","other"]
theorem Uu:bh amC J5 (bf Ut):=by walk_at "s"
abbrev Uv:Stmt:=top 74
abbrev amD:Ls:=["tree","parent"]
abbrev DK:Ls:=["tree","parent"]
theorem amE:bh amD DK (bf Uv):=by walk_at "s"
abbrev Uw:Stmt:=top 75
abbrev amF:Ls:=["tree","key","rank","parent"]
abbrev J6:Ls:=["tree","key","rank","parent"]
theorem amG:bh amF J6 (bf Uw):=by walk_at "s"
abbrev Ux:Stmt:=top 76
abbrev amH:Ls:=["tree","x","group"]
abbrev J7:Ls:=["tree","x","group"]
theorem amI:bh amH J7 (bf Ux):=by walk_at "s"
abbrev Uy:Stmt:=top 77
abbrev amJ:Ls:=["tree","x"]
abbrev J8:Ls:=["tree","x"]
theorem amK:bh amJ J8 (bf Uy):=by walk_at "s"
abbrev Uz:Stmt:=top 78
abbrev amL:Ls:=["tree","group","parent"]
abbrev J9:Ls:=["tree","group","parent"]
theorem amM:bh amL J9 (bf Uz):=by walk_at "s"
abbrev UG:Stmt:=top 79
abbrev amN:Ls:=["tree","a","b"]
abbrev J_:Ls:=["tree","a","b"]
theorem amO:bh amN J_ (bf UG):=by walk_at "s"
abbrev UJ:Stmt:=top 80
abbrev amP:Ls:=["tree","a","key","groups","specimens","group","x"]
abbrev Ka:Ls:=["tree","a","key","groups","specimens"]
theorem UL:bh amP Ka (bf UJ):=by walk_at "s"
abbrev UW:Stmt:=top 81
abbrev amQ:Ls:=["tree","group","rank","key"]
abbrev Kc:Ls:=["tree","group","rank"]
theorem aeG:bh amQ Kc (bf UW):=by walk_at "s"
abbrev U0:Stmt:=top 82
abbrev amR:Ls:=["tree","group","rank"]
abbrev Kd:Ls:=["tree","group","rank"]
theorem amS:bh amR Kd (bf U0):=by walk_at "s"
abbrev U3:Stmt:=top 83
abbrev amT:Ls:=["tree","group","parent"]
abbrev Ke:Ls:=["tree","group"]
theorem aeH:bh amT Ke (bf U3):=by walk_at "s"
abbrev U4:Stmt:=inClass (top 94) 0
abbrev amU:Ls:=["self"]
abbrev Kf:Ls:=["self"]
theorem amV:bh amU Kf (bf U4):=by walk_at "s"
abbrev U5:Stmt:=inClass (top 95) 0
abbrev amW:Ls:=["self","text"]
abbrev Kg:Ls:=["self","text"]
theorem amX:bh amW Kg (bf U5):=by walk_at "s"
abbrev U6:Stmt:=inClass (top 95) 1
abbrev amY:Ls:=["self"]
abbrev DN:Ls:=["self"]
theorem amZ:bh amY DN (bf U6):=by walk_at "s"
abbrev U7:Stmt:=inClass (top 95) 2
abbrev am0:Ls:=["self","byte"]
abbrev DP:Ls:=["self","byte"]
theorem am1:bh am0 DP (bf U7):=by walk_at "s"
abbrev U8:Stmt:=inClass (top 95) 3
abbrev am2:Ls:=["self"]
abbrev Kh:Ls:=["self"]
theorem am3:bh am2 Kh (bf U8):=by walk_at "s"
abbrev U9:Stmt:=inClass (top 95) 4
abbrev am4:Ls:=["self","most","number"]
abbrev DQ:Ls:=["self","most"]
theorem U_:bh am4 DQ (bf U9):=by walk_at "s"
abbrev Va:Stmt:=top 96
abbrev am5:Ls:=["reader","home","found","x"]
abbrev Kl:Ls:=["reader","home","found"]
theorem aeI:bh am5 Kl (bf Va):=by walk_at "s"
abbrev Vb:Stmt:=top 97
abbrev am6:Ls:=["reader","parent","found","rank","key"]
abbrev Km:Ls:=["reader","parent","found"]
theorem Vc:bh am6 Km (bf Vb):=by walk_at "s"
abbrev Vd:Stmt:=top 98
abbrev am7:Ls:=["reader","found","parents","key"]
abbrev Ko:Ls:=["reader","found"]
theorem Ve:bh am7 Ko (bf Vd):=by walk_at "s"
abbrev Vf:Stmt:=top 99
abbrev am8:Ls:=["text","found"]
abbrev Kr:Ls:=["text","found"]
theorem am9:bh am8 Kr (bf Vf):=by walk_at "s"
abbrev Vg:Stmt:=top 100
abbrev am_:Ls:=["text","tree","found","told"]
abbrev DR:Ls:=["text","tree"]
theorem uG:bh am_ DR (bf Vg):=by walk_at "s"
abbrev Vh:Stmt:=top 101
abbrev ana:Ls:=["tree","text","other","refusal"]
abbrev Ks:Ls:=["tree","text"]
theorem Vi:bh ana Ks (bf Vh):=by walk_at "s"
abbrev Vj:Stmt:=top 102
abbrev anb:Ls:=["text","tree","refusal"]
abbrev Ku:Ls:=["text"]
theorem Vk:bh anb Ku (bf Vj):=by walk_at "s"
abbrev Vl:Stmt:=top 104
abbrev anc:Ls:=["one","other","sets","held","kept","key"]
abbrev Kv:Ls:=["one","other"]
theorem DW:bh anc Kv (bf Vl):=by walk_at "s"
abbrev Vm:Stmt:=top 105
abbrev ane:Ls:=["tree","kept","group"]
abbrev Kw:Ls:=["tree","kept","group"]
theorem aeJ:bh ane Kw (bf Vm):=by walk_at "s"
abbrev Vn:Stmt:=top 106
abbrev aeK:Ls:=["one","other","kept","tree","key","x","home"]
abbrev Ky:Ls:=["one","other"]
theorem zF:bh aeK Ky (bf Vn):=by walk_at "s"
abbrev Vo:Stmt:=inClass (top 109) 0
abbrev anf:Ls:=["self"]
abbrev Kz:Ls:=["self"]
theorem ang:bh anf Kz (bf Vo):=by walk_at "s"
abbrev Vp:Stmt:=inClass (top 110) 0
abbrev anh:Ls:=["self"]
abbrev KC:Ls:=["self"]
theorem ani:bh anh KC (bf Vp):=by walk_at "s"
abbrev Vq:Stmt:=top 111
abbrev anj:Ls:=["school","tree"]
abbrev KD:Ls:=["school","tree"]
theorem ank:bh anj KD (bf Vq):=by walk_at "s"
abbrev Vr:Stmt:=top 112
abbrev anl:Ls:=["school","day","told"]
abbrev KH:Ls:=["school","day"]
theorem Vs:bh anl KH (bf Vr):=by walk_at "s"
abbrev Vt:Stmt:=top 113
abbrev anm:Ls:=["house","number","day"]
abbrev DX:Ls:=["house","number","day"]
theorem ano:bh anm DX (bf Vt):=by walk_at "s"
abbrev Vu:Stmt:=top 114
abbrev anp:Ls:=["house","number","day","school"]
abbrev zG:Ls:=["house","number","day"]
theorem aeL:bh anp zG (bf Vu):=by walk_at "s"
abbrev Vv:Stmt:=top 115
abbrev anq:Ls:=["house","told","refusal"]
abbrev DY:Ls:=["house","told"]
theorem aeM:bh anq DY (bf Vv):=by walk_at "s"
abbrev Vw:Stmt:=top 116
abbrev anr:Ls:=["house","tree","other","day","refusal"]
abbrev KJ:Ls:=["house","tree","other","day"]
theorem aeN:bh anr KJ (bf Vw):=by walk_at "s"
abbrev Vx:Stmt:=top 117
abbrev ant:Ls:=["house","tree","told","refusal"]
abbrev KN:Ls:=["house","tree","told"]
theorem aeO:bh ant KN (bf Vx):=by walk_at "s"
abbrev Vy:Stmt:=top 118
abbrev anu:Ls:=["house","number","school"]
abbrev KQ:Ls:=["house","number"]
theorem aeP:bh anu KQ (bf Vy):=by walk_at "s"
abbrev Vz:Stmt:=top 119
abbrev aeQ:Ls:=["house","number"]
abbrev KR:Ls:=["house"]
theorem VB:bh aeQ KR (bf Vz):=by walk_at "s"
abbrev VD:Stmt:=top 120
abbrev anv:Ls:=["house","number","day","school"]
abbrev KY:Ls:=["house","number","day"]
theorem aeR:bh anv KY (bf VD):=by walk_at "s"
abbrev VF:Stmt:=top 121
abbrev anw:Ls:=["house","number","days"]
abbrev KZ:Ls:=["house","number"]
theorem aeS:bh anw KZ (bf VF):=by walk_at "s"
abbrev VG:Stmt:=top 123
abbrev anx:Ls:=["keys","texts","key"]
abbrev D_:Ls:=["keys","texts"]
theorem VH:bh anx D_ (bf VG):=by walk_at "s"
abbrev VJ:Stmt:=top 124
abbrev aeT:Ls:=["tree","key","texts","text","specimens","x","groups"]
abbrev K4:Ls:=["tree","key","texts"]
theorem uH:bh aeT K4 (bf VJ):=by walk_at "s"
abbrev VL:Stmt:=top 125
abbrev anz:Ls:=["tree","texts","rank","key","sign"]
abbrev K5:Ls:=["tree"]
theorem zH:bh anz K5 (bf VL):=by walk_at "s"
abbrev VN:Stmt:=top 128
abbrev anA:Ls:=["tree","text"]
abbrev K6:Ls:=["tree"]
theorem aeU:bh anA K6 (bf VN):=by walk_at "s"
abbrev VP:Stmt:=top 129
abbrev anB:Ls:=["tree","group","held"]
abbrev K7:Ls:=["tree","group"]
theorem aeV:bh anB K7 (bf VP):=by walk_at "s"
abbrev VR:Stmt:=top 130
abbrev anC:Ls:=["tree","x"]
abbrev Ea:Ls:=["tree","x"]
theorem anD:bh anC Ea (bf VR):=by walk_at "s"
abbrev V0:Stmt:=top 131
abbrev anE:Ls:=["tree","x","groups","answer","key"]
abbrev K8:Ls:=["tree","x"]
theorem K9:bh anE K8 (bf V0):=by walk_at "s"
abbrev V1:Stmt:=top 132
abbrev aeW:Ls:=["tree","specimens","held","key"]
abbrev K_:Ls:=["tree","specimens"]
theorem V2:bh aeW K_ (bf V1):=by walk_at "s"
abbrev V3:Stmt:=top 133
abbrev aeX:Ls:=["tree","rank","groups","held","answer","key"]
abbrev La:Ls:=["tree","rank"]
theorem Eb:bh aeX La (bf V3):=by walk_at "s"
abbrev V4:Stmt:=top 134
abbrev aeY:Ls:=["tree","family","x","key"]
abbrev Lb:Ls:=["tree","family","x"]
theorem aeZ:bh aeY Lb (bf V4):=by walk_at "s"
abbrev V5:Stmt:=top 135
abbrev V6:Ls:=["tree","x","y","z","held","key"]
abbrev Ld:Ls:=["tree","x","y","z"]
theorem V7:bh V6 Ld (bf V5):=by walk_at "s"
abbrev V8:Stmt:=top 136
abbrev ae0:Ls:=["tree","key","depth"]
abbrev Le:Ls:=["tree"]
theorem Lf:bh ae0 Le (bf V8):=by walk_at "s"
abbrev V9:Stmt:=inClass (top 165) 0
abbrev anF:Ls:=["self","calls"]
abbrev Lg:Ls:=["self","calls"]
theorem anG:bh anF Lg (bf V9):=by walk_at "s"
abbrev V_:Stmt:=inClass (top 165) 1
abbrev anH:Ls:=["self"]
abbrev Lh:Ls:=["self"]
theorem anI:bh anH Lh (bf V_):=by walk_at "s"
abbrev Wa:Stmt:=inClass (top 165) 2
abbrev anJ:Ls:=["self","number"]
abbrev Li:Ls:=["self"]
theorem ae1:bh anJ Li (bf Wa):=by walk_at "s"
abbrev Wb:Stmt:=inClass (top 165) 3
abbrev anK:Ls:=["self","count","start"]
abbrev Lj:Ls:=["self","count"]
theorem ae2:bh anK Lj (bf Wb):=by walk_at "s"
abbrev Wc:Stmt:=top 166
abbrev anL:Ls:=["house","tree","call","numbers","rows"]
abbrev Lk:Ls:=["house","tree","call","numbers","rows"]
theorem anM:bh anL Lk (bf Wc):=by walk_at "s"
abbrev Wd:Stmt:=top 167
abbrev anN:Ls:=["house","call","numbers","rows","school","tree","refusal"]
abbrev Ln:Ls:=["house","call","numbers","rows"]
theorem Lp:bh anN Ln (bf Wd):=by walk_at "s"
abbrev Wf:Stmt:=top 168
abbrev anO:Ls:=["tree","call","numbers","rows"]
abbrev Lq:Ls:=["tree","call","numbers","rows"]
theorem anP:bh anO Lq (bf Wf):=by walk_at "s"
abbrev Wg:Stmt:=top 169
abbrev anQ:Ls:=["house","call","numbers","rows","refusal"]
abbrev Lr:Ls:=["house","call","numbers","rows"]
theorem ae3:bh anQ Lr (bf Wg):=by walk_at "s"
abbrev Wh:Stmt:=top 170
abbrev anR:Ls:=["house","call","numbers","refusal","one","other"]
abbrev Lw:Ls:=["house","call","numbers"]
theorem Lx:bh anR Lw (bf Wh):=by walk_at "s"
abbrev Wi:Stmt:=top 171
abbrev anS:Ls:=["house","call","numbers","rows"]
abbrev Ly:Ls:=["house","call","numbers","rows"]
theorem anT:bh anS Ly (bf Wi):=by walk_at "s"
abbrev Wj:Stmt:=top 172
abbrev anU:Ls:=["house","call","numbers","rows"]
abbrev Lz:Ls:=["house","call","numbers","rows"]
theorem anV:bh anU Lz (bf Wj):=by walk_at "s"
abbrev Wk:Stmt:=top 173
abbrev anW:Ls:=["house","tape","call","numbers","rows"]
abbrev LC:Ls:=["house","tape"]
theorem LK:bh anW LC (bf Wk):=by walk_at "s"
abbrev Ec:Stmt:=top 174
abbrev anY:Ls:=["calls","house","tape","given","answer"]
abbrev LQ:Ls:=["calls"]
theorem Ed:bh anY LQ (bf Ec):=by walk_at "s"
variable {P:Program} {w:World} {K:aW} {mg:Str->Option Value} {base:Heap} {f C CS CH CR CF CT:Addr} {fd:FuncData}
local macro_rules | `(tactic| walk_at "l") => `(tactic| (intro _ _ _ _ h; first | (cases h; subst_vars; rfl) | (obtain ⟨_, h, _⟩ := h; cases h; subst_vars; rfl) | (repeat (first | (obtain ⟨rfl, _⟩ := h; rfl) | (have h := And.left h) | (obtain ⟨_, h⟩ := h)))))
def CI (mg:Str->Option Value) (x:Str) (v:Int):Prop:=∃t,mg x=some (xT v t)
inductive Df (P:Program) (w:World) (K:aW) (mg:Str->Option Value) (base:Heap) (x:Str) (ps:List Str) (k:Nat) (sp:Sp):Prop
 | mk f fd:aY P w K mg base CX0 k f fd ps sp->mg x=some (.ref f)->qd K (.ref f)=true->Binds K fd ps []->Df P w K mg base x ps k sp
section
variable {X:Cx} {x:Str} {ps:List Str} {k k':Nat} {sp:Sp} {e:Expr} {es:List Expr} {t:TA} {p pos:Pos}
theorem aN (h:CI X.mg x v) (b:Gl X x:=by rfl) (a:(x==("__debug__" :Str))=false:=by decide):PE X (.Name x pos) (tC (.int v)):=by obtain⟨t,h⟩:=h;exact abX b h ⟨t,rfl⟩ a
theorem aL (d:Df X.prog X.w X.K X.mg X.base x ps k sp) (n:eF k' X.A) (g:PA X (e::es) t) (l:k<=k':=by decide) (j:Gl X x:=by rfl) (a:(x==("__debug__" :Str))=false:=by decide)
  (i:starEach (e::es) X.env=(false,eval e X.env)::starEach es X.env:=by rfl) (c:(backTo pos (starEach es X.env)).any (·.1)=false:=by rfl):PE X (.Call (.Name x p) (e::es) [] pos) (lD sp [] E0 t):=by
 obtain⟨f,fd,F,m,b,h⟩:=d;exact aiM F (n.mono l) j m b h .nil vZ g a i c
theorem LR (d:Df X.prog X.w X.K X.mg X.base x ps k sp) (i:eF k' X.A) (g:k<=k') (e:Gl X x:=by rfl) (a:(x==("__debug__" :Str))=false:=by decide):PE X (.Call (.Name x p) [] [] pos) (lD sp [] E0 fW):=by obtain⟨f,fd,F,h,b,c⟩:=d;exact aiN F (i.mono g) e h b c .nil vZ a
theorem ae4 (d:Df X.prog X.w X.K X.mg X.base x ps k sp) (i:eF k' X.A) (h:k<=k') (c:PA X (e::es) t) (g:Gl X x:=by rfl) (a:(x==("__debug__" :Str))=false:=by decide)
  (f:starEach (e::es) X.env=(false,eval e X.env)::starEach es X.env:=by rfl) (b:(backTo pos (starEach es X.env)).any (·.1)=false:=by rfl):PT X (.Call (.Name x p) (e::es) [] pos) (tB (lD sp [] E0 t)):=
 bV (aL d i c h g a f b)
end
theorem vb {Q:VK} {H:Hp} {a b:Bool} (q:Q (.bl a) H) (e:a=b):Q (.bl b) H:=e▸q
theorem ae5 {c:Prop} [Decidable c] {A B:Prop} (a:c->A) (b:¬c->B):if decide c=true then A else B:=by
 by_cases h:c;.rw[aB (cF h)];exact a h
 .rw[au (by rw[cH];exact h)];exact b h
theorem anZ {c:Prop} [Decidable c] {A B:Prop} (a:¬c->A) (b:c->B):if(!decide c)=true then A else B:=by
 by_cases h:c;.rw[cF h];exact Ih (b h)
 .rw[cY h];exact Ii (a h)
theorem zJ {σ:L2.St} {H:Hp} {Q:VK} {a b c:Int} {d:TE} (h:d σ H λy f=>y= .int b/\Q (.bl (decide (a<=b/\b<=c))) f) (mono:∀Q g:VK,(∀y H,Q y H->g y H)->d σ H Q->d σ H g):
  QS (rI0 λi j=> .bl (decide (i<=j))) (rI0 λi j=> .bl (decide (i<=j))) (tC (.int a)) d (tC (.int c)) σ H Q:=by
 refine mono _ _ (λy f q=> ?_) h;obtain⟨rfl,q⟩:=q;refine⟨a,b,rfl,rfl,_,rfl,?_⟩;refine ae5 (λe=>⟨b,c,rfl,rfl,vb q (fH ⟨λz=>z.2,λz=>⟨e,z⟩⟩)⟩) λe=> ?_;rw[cY (λz=>e z.1)]at q;exact q
theorem Ef (Q a:VK) (f:∀y H,Q y H->a y H) (h:bA i σ H Q):bA i σ H a:=by obtain⟨v,e,q⟩:=h;exact⟨v,e,f _ _ q⟩
section
def spB (φ:Int->Prop) [DecidablePred φ]:Sp:=λa H Q _=>∃n,a=[.int n]/\Q (.bl (decide (φ n))) H
def jT (n:Int):Prop:=0<=n/\n<=1000000
def iM (n:Int):Prop:=1<=n/\n<=3
instance (n:Int):Decidable (jT n):=by unfold jT;infer_instance
instance (n:Int):Decidable (iM n):=by unfold iM;infer_instance
theorem an0 (F:Fun K "is_key" "is_key" SM f fd) (c:CI mg "MOST_KEY" 1000000000):aY P w K mg base CX0 1 f fd qM (spB isKey):=by refine F.ok alN (by walk_at "l") (λ_ A _ s H d Q E b a=> ?_);obtain⟨n,e,q⟩:=a;subst e;exact⟨_,aD (aK (vK mC mC aM (pv 0) (aN c))),zJ ⟨_,rfl,rfl,vb q (fH lZ)⟩ Ef⟩
theorem an1 (F:Fun K "is_rank" "is_rank" SQ f fd) (c:CI mg "MOST_RANK" 8):aY P w K mg base CX0 1 f fd uz (spB iy):=by refine F.ok alR (by walk_at "l") (λ_ A _ s H d Q E b a=> ?_);obtain⟨n,e,q⟩:=a;subst e;exact⟨_,aD (aK (vK mC mC aM (pv 0) (aN c))),zJ ⟨_,rfl,rfl,vb q (fH lZ)⟩ Ef⟩
theorem an3 (F:Fun K "is_day" "is_day" S5 f fd) (c:CI mg "MOST_DAY" 1000000):aY P w K mg base CX0 1 f fd Dr (spB jT):=by refine F.ok alV (by walk_at "l") (λ_ A _ s H d Q E b a=> ?_);obtain⟨n,e,q⟩:=a;subst e;exact⟨_,aD (aK (vK mC mC aM (pv 0) (aN c))),zJ ⟨_,rfl,rfl,vb q (fH lZ)⟩ Ef⟩
theorem an4 (F:Fun K "is_school" "is_school" S6 f fd) (c:CI mg "MOST_SCHOOL" 3):aY P w K mg base CX0 1 f fd uD (spB iM):=by refine F.ok alX (by walk_at "l") (λ_ A _ s H d Q E b a=> ?_);obtain⟨n,e,q⟩:=a;subst e;exact⟨_,aD (aK (vK mC mC aM (pv 0) (aN c))),zJ ⟨_,rfl,rfl,vb q (fH lZ)⟩ Ef⟩
theorem an5 (F:Fun K "is_parent" "is_parent" SN f fd) (d:Df P w K mg base "is_key" qM 1 (spB isKey)):aY P w K mg base CX0 2 f fd wC (spB jr):=by
 refine F.ok alP (by walk_at "l") (λ_ A _ s H g Q E b c=> ?_);obtain⟨n,e,q⟩:=c;subst e;refine⟨_,aD (aK (Cd (gY bU (pv 0) aM) (mz (aL d b (ao (pv 0) aA))))),?_⟩;refine⟨_,rfl,rfl,_,rfl,ae5 (λh=> ?_) λh=>⟨_,rfl,n,rfl,?_⟩⟩;.injection h with h;subst h;exact q
 .have a:¬n=0:=λz=>h (by rw[z]);exact vb q (fH ⟨λz=>z.resolve_left a,.inr⟩)
inductive Eh (K:aW) (vs:List V) (H:Hp) (Q:VK) (E:XK):Prop
 | mk (a:Addr) (ns:List Int):vs=[.ref a]->SqL K H a (ns.map V.int)->ns.length<=4000->(∀H',Same H H'->Q (.bl (!decide ns.Nodup)) H')->Eh K vs H Q E
theorem Same.upd (h:H p=none):Same H (upd H p o):=λb u e=>by rw[aC (aX e h)];exact e
theorem an6 (F:Fun K "has_twice" "has_twice" S7 f fd) (b:mg "len" =none) (bs:mg "set" =none):aY P w K mg base CX0 1 f fd zx (Eh K):=by
 refine F.ok alZ (by walk_at "l") (λ_ A _ s H l Q E j i=> ?_);obtain⟨a,g,e,d,h,q⟩:=i;subst e;refine⟨_,aD (aK (gY jE (cB ael rfl b dF (ao (mF (Ss rfl) rfl bs (by decide+kernel) (ao (pv 0) aA)) aA)) (cB fK rfl b dF (ao (pv 0) aA)))),?_⟩;refine⟨_,rfl,a,g,rfl,d,h,λp c=>⟨p,_,_,rfl,aH,_,rfl,a,_,rfl,.inl ((Same.upd c).seq d),rfl,?_⟩⟩;refine vb (q _ (Same.upd c)) ?_;rw[aJ]
 congr 1
 refine fH ((Sq g).symm.trans ⟨λz=>by rw[z],λz=> ?_⟩);injection z with z;omega
inductive wJ (K:aW) (vs:List V) (H:Hp) (Q:VK) (E:XK):Prop
 | mk a ns:vs=[.ref a]->SqL K H a (ns.map V.int)->ns.length<=4000->(∀H' b,Same H H'->(b=true↔mJ ns)->Q (.bl b) H')->wJ K vs H Q E
theorem get_map {ns:List Int} {i:Nat} {y:V} (h:(ns.map V.int)[i]? =some y):∃z,ns[i]? =some z/\y=V.int z:=by rw[dM]at h;obtain⟨z,a,b⟩:=iT.mp h;exact⟨z,a,b.symm⟩
theorem an7 (F:Fun K "are_keys_once" "are_keys_once" S8 f fd) (o:Df P w K mg base "is_key" qM 1 (spB isKey)) (p:Df P w K mg base "has_twice" zx 1 (Eh K)):aY P w K mg base CX0 2 f fd wD (wJ K):=by
 refine F.ok aew (by walk_at "l") (λ_ A _ s H C Q E j d=> ?_);obtain⟨a,m,e,g,u,q⟩:=d;subst e;refine⟨_,aF (d7 dG rfl (eV (pv 0)) (cQ (i:=1) aew.nd) (aD (aR (cN (ae4 o j (by decide) (ao (pv 1) aA))) (aD (aK fO)) aV)))
  (aD (aK (QG (aL p j (ao (pv 0) aA))))),?_⟩
 refine⟨_,rfl,a,rfl,⟨_,g⟩,yF (λi σ b=>b=H/\(∃v,σ=[some (.ref a),v])/\∀x∈m.take i,isKey x) ⟨rfl,⟨none,rfl⟩,by simp⟩ (λi σ b _ h=>by rw[h.1];exact g) ?_ ?_⟩
 .rintro i y σ b t ⟨rfl,⟨v,rfl⟩,c⟩;obtain⟨z,d,rfl⟩:=get_map t;refine⟨_,rfl,z,rfl,_,rfl,anZ (λh=> ?_) λh=>⟨rfl,⟨_,rfl⟩,λx l=> ?_⟩⟩;.exact q b false (Same.refl _) ⟨(λz=>by cases z),λz=>absurd (z.1 _ (gq d)) h⟩
  .rw[j6,d]at l;rcases dO.mp l with y | y;.exact c x y
   .rw[dX.mp y];exact h
 .rintro σ b ⟨rfl,⟨v,rfl⟩,c⟩;rw[aJ,fM]at c;refine⟨_,rfl,a,m,rfl,g,u,λn B=>⟨_,rfl,?_⟩⟩;refine q n _ B ?_;rw[aa5,cH];exact⟨λz=>⟨c,z⟩,λz=>z.2⟩
end
theorem L_ (σ:L2.St) (j:Nat) (v:Option V):wipe ((wipe σ [j]).set j v) [j]=wipe σ [j]:=by show(((σ.set j none).set j v).set j none)=σ.set j none;rw[qp,qp]
theorem oM {J:It} {ys:List V} {j:Nat} {A:TT} {z:TE} {σ:L2.St} {c:Hp} {D:Addr} {p:Hp->Prop} (φ:V->Bool) (ψ:V->V) (C:c D=none) (t:ys.length < sizeLine)
  (E:∀i H,Same c H->(i < ys.length->J.go i H)/\(ys.length<=i->J.stop i H)/\∀x a,J.yld i H x a->a=H/\ys[i]? =some x)
  (G:∀y∈ys,∀H,Same c H->∀Q:Bool->Hp->Prop,Q (φ y) H->A ((wipe σ [j]).set j (some y)) H Q)
  (F:∀y∈ys,φ y=true->∀H,Same c H->∀Q:VK,Q (ψ y) H->z ((wipe σ [j]).set j (some y)) H Q)
  (q:p (upd c D (.lst ((ys.filter φ).map ψ)))):
  ∃W:Nat->Nat->Hp->Prop,(∃m,W 0 m (upd c D (.lst [])))/\∀i m H,W i m H->
   (J.stop i H/\p H)\/(J.go i H/\∃f:Hp->Prop,(∀a,f a->∃w,w < m/\W (i+1) w a)/\∀x a,J.yld i H x a->jC j x (wipe σ [j]) a λl B=>wipe l [j]=wipe σ [j]/\A l B λb n=>
    if b=true then z l n λy o=>∃acc,o D=some (.lst acc)/\acc.length < sizeLine/\f (upd o D (.lst (acc++[y])))else f n):=by
 refine⟨λi m H=>m=ys.length-i/\i<=ys.length/\H=upd c D (.lst (((ys.take i).filter φ).map ψ)),⟨ys.length,by simp,fU _,rfl⟩,?_⟩;rintro i m H ⟨rfl,S,rfl⟩;have h:Same c (upd c D (.lst (((ys.take i).filter φ).map ψ))):=Same.upd C;obtain⟨I,L,N⟩:=E i _ h;by_cases d:i < ys.length
 .refine .inr ⟨I d,λa=>a=upd c D (.lst (((ys.take (i+1)).filter φ).map ψ)),λa O=>⟨ys.length- (i+1),by omega,rfl,d,O⟩,λx a y=> ?_⟩;obtain⟨rfl,v⟩:=N x a y;have u:=gq v;have s:ys.take (i+1)=ys.take i++[x]:=by rw[j6,v];rfl
  refine⟨L_ σ j _,G x u _ h _ ?_⟩;cases g:φ x with
  | true=>
   refine Ii (F x u g _ h _ ⟨_,aH,?_,?_⟩)
   .rw[aJ];have P:=fG φ (ys.take i);have R:(ys.take i).length<=ys.length:=by rw[fD];omega
    omega
   .rw[mq,s,xZ,dw,xX g,vf];rfl
  | false=>refine Ih ?_;rw[s,xZ,xY (by rw[g];decide),vf,gH]
 .have e:i=ys.length:=by omega
  subst e;rw[fM];exact .inl ⟨by have:=L (bW _);rw[fM]at this;exact this,q⟩
theorem zK {d:Addr} {o:Obj} {kvs:List (Key×V)} {c:Hp} (h:c d=some (.frz o (.dK kvs))) (i:Nat) (H:Hp) (f:Same c H):
  (i < (kvs.map λa=>kV a.1).length->(Itk d o kvs).go i H)/\((kvs.map λa=>kV a.1).length<=i->(Itk d o kvs).stop i H)/\∀x b,(Itk d o kvs).yld i H x b->b=H/\(kvs.map λa=>kV a.1)[i]? =some x:=by
 rw[aJ];refine⟨λl=>⟨f _ _ h,l⟩,λl=>⟨f _ _ h,l⟩,λx b ⟨e,k,v,g,j⟩=>⟨e,?_⟩⟩;rw[dM,g,j];rfl
theorem Ma {K:aW} {a:Addr} {xs:List V} {d:Hp} (h:SqL K d a xs) (i:Nat) (H:Hp) (c:Same d H):
  (i < xs.length->(Itl K a).go i H)/\(xs.length<=i->(Itl K a).stop i H)/\∀x b,(Itl K a).yld i H x b->b=H/\xs[i]? =some x:=
 ⟨λl=>⟨xs,xs[i],c.seq h,by simp[l]⟩,λl=>⟨xs,c.seq h,l⟩,λx b ⟨e,y⟩=>⟨e,y xs (c.seq h)⟩⟩
theorem Wm {d:Addr} {o:Obj} {kvs:List (Key×V)} {g:TG} {n:TS} {D:Ends} {σ:L2.St} {H:Hp} (a:Nat->L2.St->Hp->Prop) (u:a 0 σ H) (z:∀i σ H,a i σ H->H d=some (.frz o (.dK kvs)))
  (A:∀i k v σ H,kvs[i]? =some (k,v)->a i σ H->g (kV k) σ H λj f=>n {D with nx:=a (i+1),ct:=a (i+1),bk:=D.nx} j f) (w:∀σ H,a kvs.length σ H->D.nx σ H):
  ∃W:Nat->Nat->L2.St->Hp->Prop,(∃m,W 0 m σ H)/\∀i m σ H,W i m σ H->
   ((Itk d o kvs).stop i H/\D.nx σ H)\/((Itk d o kvs).go i H/\∃N:L2.St->Hp->Prop,(∀h b,N h b->∃l,l < m/\W (i+1) l h b)/\∀x b,(Itk d o kvs).yld i H x b->g x σ b λj f=>n {D with nx:=N,ct:=N,bk:=D.nx} j f):=by
 refine⟨λi m σ H=>m=kvs.length-i/\i<=kvs.length/\a i σ H,⟨kvs.length,by simp,fU _,u⟩,?_⟩;rintro i m σ H ⟨rfl,C,p⟩;have q:=z i σ H p;by_cases c:i < kvs.length;.refine .inr ⟨⟨q,c⟩,a (i+1),λh b B=>⟨kvs.length- (i+1),by omega,rfl,c,B⟩,λx b y=> ?_⟩;obtain⟨e,k,v,s,t⟩:=y;subst e;subst t;exact A i k v σ _ s p
 .have e:i=kvs.length:=by omega
  subst e;exact .inl ⟨⟨q,bW _⟩,w σ H p⟩
theorem zL:lC X (.type "dict") (λxs H Q=>∃a kvs,xs=[.ref a]/\Rd H a (.dK kvs)/\∀p,H p=none->Q (.ref p) (upd H p (.dK kvs))):=by intro b s σ H i g Q I r h;obtain⟨a,kvs,rfl,d,q⟩:=h;rw[Vals.yM r];exact ajE I d λp f e c=>⟨.ref p,_,c,rfl,q p e⟩
theorem boot_dict:bootBuiltins "dict" =some (.type "dict"):=by decide+kernel
def fsT (r p x:Addr):List (Str×V):=fj "homes" (.ref x) (fj "parents" (.ref p) (fj "ranks" (.ref r) []))
theorem an8 (r p x:Addr):(fsT r p x).lookup ("ranks" :Str)=some (.ref r):=by unfold fsT;rw[uf,au (by decide+kernel),uf,au (by decide+kernel),uf,aB rfl]
theorem an9 (r p x:Addr):(fsT r p x).lookup ("parents" :Str)=some (.ref p):=by unfold fsT;rw[uf,au (by decide+kernel),uf,aB rfl]
theorem an_ (r p x:Addr):(fsT r p x).lookup ("homes" :Str)=some (.ref x):=by unfold fsT;rw[uf,aB rfl]
theorem zM (f:Str) (v y:V) (l:List (Str×V)):fj f v ((f,y)::l)=(f,v)::l:=by show(if f=f then(f,v)::l else _)=_;rw[aB rfl]
theorem mL {f g:Str} (h:¬g=f) (v y:V) (l:List (Str×V)):fj f v ((g,y)::l)=(g,y)::fj f v l:=by show(if g=f then(g,v)::l else _)=_;rw[au h]
theorem nF (f:Str) (v:V):fj f v []=[(f,v)]:=rfl
theorem rY (r p x:Addr):fsT r p x=([("ranks",V.ref r),("parents",V.ref p),("homes",V.ref x)]:List (Str×V)):=by unfold fsT;rw[nF,mL (by decide+kernel),nF,mL (by decide+kernel),mL (by decide+kernel),nF]
theorem aoa (r p x y:Addr):fj "ranks" (.ref y) (fsT r p x)=fsT y p x:=by rw[rY,rY,zM]
theorem aob (r p x y:Addr):fj "parents" (.ref y) (fsT r p x)=fsT r y x:=by rw[rY,rY,mL (by decide+kernel),zM]
theorem aoc (r p x y:Addr):fj "homes" (.ref y) (fsT r p x)=fsT r p y:=by rw[rY,rY,mL (by decide+kernel),mL (by decide+kernel),zM]
theorem Wn (r p x:Addr):(fsT r p x).length < 1000:=by rw[rY];show 3 < 1000;decide
structure cA (K:aW) (mg:Str->Option Value) (C:Addr):Prop where
 cl:Cls K C
 nR:eY K C "ranks"
 nP:eY K C "parents"
 nX:eY K C "homes"
 mgC:mg "Tree" =some (.ref C)
structure bQ (C:Addr) (H:Hp) (a r p x:Addr) (T:cG):Prop where
 ins:∃dx,H a=some (.ins C dx (fsT r p x))
 hr:H r=some (.dK (dI T.R))
 hp:H p=some (.dK (dI T.P))
 hx:H x=some (.dK (dI T.X))
 rp:r≠p
 rx:r≠x
 px:p≠x
structure TRd (C:Addr) (H:Hp) (a r p x:Addr) (T:cG):Prop where
 ins:∃dx,H a=some (.ins C dx (fsT r p x))
 hr:Rd H r (.dK (dI T.R))
 hp:Rd H p (.dK (dI T.P))
 hx:Rd H x (.dK (dI T.X))
section
variable {C:Addr} {H H':Hp} {a r p x:Addr} {T:cG}
theorem bQ.rd (h:bQ C H a r p x T):TRd C H a r p x T:=⟨h.ins,.inl h.hr,.inl h.hp,.inl h.hx⟩
theorem bQ.same (h:bQ C H a r p x T) (s:Same H H'):bQ C H' a r p x T:=⟨let ⟨dx,e⟩:=h.ins;⟨dx,s _ _ e⟩,s _ _ h.hr,s _ _ h.hp,s _ _ h.hx,h.rp,h.rx,h.px⟩
theorem Rd.same (h:Rd H a u) (s:Same H H'):Rd H' a u:=by
 rcases h with h | ⟨o,h⟩;.exact .inl (s _ _ h)
 .exact .inr ⟨o,s _ _ h⟩
theorem TRd.same (h:TRd C H a r p x T) (s:Same H H'):TRd C H' a r p x T:=⟨let ⟨dx,e⟩:=h.ins;⟨dx,s _ _ e⟩,Rd.same h.hr s,Rd.same h.hp s,Rd.same h.hx s⟩
theorem bQ.ar (h:bQ C H a r p x T):a≠r:=let ⟨_,e⟩:=h.ins;cJ e h.hr (by intro q;cases q)
theorem bQ.ap (h:bQ C H a r p x T):a≠p:=let ⟨_,e⟩:=h.ins;cJ e h.hp (by intro q;cases q)
theorem bQ.ax (h:bQ C H a r p x T):a≠x:=let ⟨_,e⟩:=h.ins;cJ e h.hx (by intro q;cases q)
theorem bQ.Ei (h:bQ C H a r p x T) (o:Obj):TRd C (upd H r (.frz o (.dK (dI T.R)))) a r p x T:=
 ⟨let ⟨dx,e⟩:=h.ins;⟨dx,by rw[aC h.ar];exact e⟩,.inr ⟨o,aH⟩,.inl (by rw[aC h.rp.symm];exact h.hp),.inl (by rw[aC h.rx.symm];exact h.hx)⟩
theorem bQ.Wo (h:bQ C H a r p x T) (o:Obj):TRd C (upd H p (.frz o (.dK (dI T.P)))) a r p x T:=
 ⟨let ⟨dx,e⟩:=h.ins;⟨dx,by rw[aC h.ap];exact e⟩,.inl (by rw[aC h.rp];exact h.hr),.inr ⟨o,aH⟩,.inl (by rw[aC h.px.symm];exact h.hx)⟩
theorem bQ.Wq (h:bQ C H a r p x T) (o:Obj):TRd C (upd H x (.frz o (.dK (dI T.X)))) a r p x T:=
 ⟨let ⟨dx,e⟩:=h.ins;⟨dx,by rw[aC h.ax];exact e⟩,.inl (by rw[aC h.rx];exact h.hr),.inl (by rw[aC h.px];exact h.hp),.inr ⟨o,aH⟩⟩
theorem zN (h:H a=some u):upd (upd H a o) a u=H:=by
 rw[mq];funext b;by_cases e:b=a;.subst e;rw[aH,h]
 .rw[aC e]
end
section
variable {σ:L2.St} {H:Hp} {D:Ends}
theorem bL (h:te σ H D.rt):Ce te D σ H:=h
theorem aZ (h:t {D with nx:=u D} σ H):nu t u D σ H:=h
theorem pU (h:c σ H λb a=>if b=true then t D σ a else u D σ a):oJ c t u D σ H:=h
theorem oZ (h:te σ H λ_ a=>D.nx σ a):pP te D σ H:=h
theorem ae6 (h:ta σ H λx a=>∃c,x= .bl c/\if c=true then tb σ a Q else Q (.bl false) a):Hs ta tb σ H Q:=h
theorem aod (h:ta σ H λx a=>∃c,x= .bl c/\Q (.bl (!c)) a):QF ta σ H Q:=h
theorem jM (h:ta σ H λx a=>tb σ a λy b=>r x y b Q):tOp r ta tb σ H Q:=h
theorem r_b (h:te σ H λx a=>∃c,x= .bl c/\Q c a):tB te σ H Q:=h
theorem Wr (h:te σ H λx a=>∃c,x= .bl c/\Q c a):mD te σ H Q:=h
theorem ae7 (h:t σ H λc a=>if c=true then u σ a Q else Q false a):yE t u σ H Q:=h
theorem aoe (h:t σ H λc a=>if c=true then Q true a else u σ a Q):tOr t u σ H Q:=h
theorem Ej (h:t σ H λc a=>Q (!c) a):Ca t σ H Q:=h
theorem kj (h:σ[i]? =some (some v)) (q:Q v H):bA i σ H Q:=⟨v,h,q⟩
theorem bx (h:t σ H λvs a=>sp (vs++[]) a Q E0):lD sp [] E0 t σ H Q:=h
theorem iz (h:t σ H λvs a=>r vs a Q):tCB r t σ H Q:=h
theorem dj (h:te σ H λx a=>t σ a λxs b=>Q (x::xs) b):gw te t σ H Q:=h
theorem d9 (h:te σ H λx a=>g x σ a D.nx):Cg te g D σ H:=h
theorem Ek (h:td σ H λx c=>ty σ c λy b=>∃a v,x= .ref a/\oO b a y (some v)/\Q v b):gZ td ty σ H Q:=h
end
section
variable {K:aW} {mg:Str->Option Value} {C:Addr} {H:Hp} {a r p x:Addr} {T:cG} {σ:L2.St} {Q:VK} {i:Nat}
theorem rZ (c:cA K mg C) (h:TRd C H a r p x T) (b:σ[i]? =some (some (.ref a))) (q:Q (.ref r) H):dZ K (bA i) "ranks" σ H Q:=let ⟨dx,e⟩:=h.ins;⟨_,b,a,C,dx,_,_,rfl,e,c.cl,c.nR,an8 r p x,q⟩
theorem su (c:cA K mg C) (h:TRd C H a r p x T) (b:σ[i]? =some (some (.ref a))) (q:Q (.ref p) H):dZ K (bA i) "parents" σ H Q:=let ⟨dx,e⟩:=h.ins;⟨_,b,a,C,dx,_,_,rfl,e,c.cl,c.nP,an9 r p x,q⟩
theorem wK (c:cA K mg C) (h:TRd C H a r p x T) (b:σ[i]? =some (some (.ref a))) (q:Q (.ref x) H):dZ K (bA i) "homes" σ H Q:=let ⟨dx,e⟩:=h.ins;⟨_,b,a,C,dx,_,_,rfl,e,c.cl,c.nX,an_ r p x,q⟩
theorem dg (h:Rd H a (.dK (dI d))) (e:ak d k=some v):oO H a (.int k) (some (.int v)):= .inl ⟨_,bI k,h,rfl,by rw[Ju,e];rfl⟩
theorem dg0 (h:Rd H a (.dK (dI d))):oO H a (.int k) ((ak d k).map V.int):= .inl ⟨_,bI k,h,rfl,by rw[Ju]⟩
theorem dp (h:H a=some (.dK (dI d))) (l:d.length < 100000):rP H a (.int k) (.int v) (upd H a (.dK (dI (dput d k v)))):= .inl ⟨_,bI k,h,rfl,by rw[rT];exact rA l (by decide),by rw[alh]⟩
end
theorem fC (h:upd H r o p=none):p≠r/\H p=none:=by
 by_cases e:p=r;.rw[e,aH]at h;cases h
 .rw[aC e]at h;exact⟨e,h⟩
theorem ae8 {C:Addr} {H:Hp} {r p x a b:Addr} {T:cG} (j:H r=none) (i:upd H r (.dK (dI T.R)) p=none) (l:upd (upd H r (.dK (dI T.R))) p (.dK (dI T.P)) x=none)
  (g:upd (upd (upd H r (.dK (dI T.R))) p (.dK (dI T.P))) x (.dK (dI T.X)) a=none) (h:upd (upd (upd H r (.dK (dI T.R))) p (.dK (dI T.P))) x (.dK (dI T.X)) b=none) (E:b≠a):
  Same H (upd (upd (upd (upd (upd H r (.dK (dI T.R))) p (.dK (dI T.P))) x (.dK (dI T.X))) b (.own a)) a (.ins C b (fsT r p x)))/\
  bQ C (upd (upd (upd (upd (upd H r (.dK (dI T.R))) p (.dK (dI T.P))) x (.dK (dI T.X))) b (.own a)) a (.ins C b (fsT r p x))) a r p x T/\(H a=none/\H r=none/\H p=none/\H x=none):=by
 obtain⟨m,F⟩:=fC i;obtain⟨n,G⟩:=fC l;obtain⟨q,I⟩:=fC G;obtain⟨t,s⟩:=fC g;obtain⟨u,c⟩:=fC s;obtain⟨v,w⟩:=fC c;obtain⟨z,y⟩:=fC h;obtain⟨A,d⟩:=fC y;obtain⟨B,J⟩:=fC d;have f:=(Same.upd (o:= .dK (dI T.R)) j).trans ((Same.upd (o:= .dK (dI T.P)) i).trans (Same.upd (o:= .dK (dI T.X)) l));have e:upd (upd (upd (upd H r (.dK (dI T.R))) p (.dK (dI T.P))) x (.dK (dI T.X))) b (.own a) a=none:=by rw[aC E.symm];exact g
 refine⟨f.trans ((Same.upd h).trans (Same.upd e)),⟨⟨b,aH⟩,?_,?_,?_,m.symm,q.symm,n.symm⟩,w,j,F,I⟩;.rw[aC v.symm,aC B.symm,aC q.symm,aC m.symm,aH]
 .rw[aC u.symm,aC A.symm,aC n.symm,aH]
 .rw[aC t.symm,aC z.symm,aH]
section
variable {P:Program} {w:World} {K:aW} {mg:Str->Option Value} {base:Heap} {f C fI:Addr} {fd fdI:FuncData}
inductive Mf (C:Addr) (vs:List V) (H:Hp) (Q:VK) (E:XK):Prop
 | mk q dx r p x:vs=[.ref q,.ref r,.ref p,.ref x]->H q=some (.ins C dx [])->Q .non (upd H q (.ins C dx (fsT r p x)))->Mf C vs H Q E
theorem aof (F:Fun K "__init__" "Tree.__init__" Td f fd) (c:cA K mg C):aY P w K mg base CX0 1 f fd Ds (Mf C):=by
 refine F.ok al3 (by walk_at "l") (λ_ A _ s H h Q E g d=> ?_);obtain⟨q,a,r,p,x,e,b,k⟩:=d;subst e;refine⟨_,aF (jF (pv 0) (pv 1) rfl) (aF (jF (pv 0) (pv 2) rfl) (aD (jF (pv 0) (pv 3) rfl))),?_⟩;refine⟨_,rfl,_,rfl,q,C,a,_,rfl,b,c.cl,c.nR,(by show 0 < 1000;decide),?_⟩;refine⟨_,rfl,_,rfl,q,C,a,_,rfl,aH,c.cl,c.nP,(by show 1 < 1000;decide),?_⟩;refine⟨_,rfl,_,rfl,q,C,a,_,rfl,aH,c.cl,c.nX,?_,?_⟩;.have:=QX "parents" (V.ref p) (fj "ranks" (V.ref r) []);have:(fj "ranks" (V.ref r) []).length=1:=rfl;omega
 .rw[mq,mq];exact k
structure MkT (P:Program) (w:World) (K:aW) (mg:Str->Option Value) (base:Heap) (C:Addr):Prop where
 c:cA K mg C
 ex:∃fI fdI,Mk K C fI/\aY P w K mg base CX0 1 fI fdI Ds (Mf C)/\Binds K fdI Ds []
theorem ae9 (m:MkT X.prog X.w X.K X.mg X.base C) (i:eF k X.A) (h:2<=k) (d:PA X (e::es) t) (g:Gl X "Tree" :=by rfl)
  (f:starEach (e::es) X.env=(false,eval e X.env)::starEach es X.env:=by rfl) (a:(backTo pos (starEach es X.env)).any (·.1)=false:=by rfl):PE X (.Call (.Name "Tree" p) (e::es) [] pos) (vN C (Mf C) [] E0 t):=by
 obtain⟨fI,fdI,M,F,b⟩:=m.ex;exact acq M F (i.mono h) g m.c.mgC b .nil vZ d (by decide) f a
def newT (C:Addr) (T:cG) (H:Hp) (Q:VK):Prop:=∀a r p x b,H a=none/\H r=none/\H p=none/\H x=none->Same H b->bQ C b a r p x T->Q (.ref a) b
def El (C:Addr):Sp:=λa H Q _=>a=[]/\newT C ⟨[],[],[]⟩ H Q
theorem aog (F:Fun K "empty_tree" "empty_tree" Te f fd) (m:MkT P w K mg base C):aY P w K mg base CX0 3 f fd wG (El C):=by refine F.ok al5 (by walk_at "l") (λ_ A _ s H t Q E b o=> ?_);obtain⟨e,k⟩:=o;subst e;refine⟨_,aD (aK (ae9 m b (by decide) (ao vV (ao vV (ao vV aA))))),?_⟩;intro r b p l x n a c i j q;refine⟨a,c,r,p,x,rfl,aH,rfl,?_⟩;rw[mq];obtain⟨d,g,h⟩:=ae8 (T:=⟨[],[],[]⟩) b l n i j q;exact k a r p x _ h d g
inductive Mg (C:Addr) (vs:List V) (H:Hp) (Q:VK) (E:XK):Prop
 | mk b r p x T:vs=[.ref b]->TRd C H b r p x T->newT C T H Q->Mg C vs H Q E
theorem aoh (F:Fun K "copy_tree" "copy_tree" Tf f fd) (m:MkT P w K mg base C) (i:mg "dict" =none):aY P w K mg base CX0 3 f fd Dt (Mg C):=by refine F.ok al7 (by walk_at "l") (λ_ A _ s H L Q E g B=> ?_);obtain⟨b,J,I,N,T,e,h,k⟩:=B;subst e;refine⟨_,aD (aK (ae9 m g (by decide) (ao (mF zL rfl i boot_dict (ao (aO (pv 0) rfl) aA)) (ao (mF zL rfl i boot_dict (ao (aO (pv 0) rfl) aA)) (ao (mF zL rfl i boot_dict (ao (aO (pv 0) rfl) aA)) aA))))),?_⟩;refine rZ m.c h rfl ⟨_,_,rfl,h.hr,λr g=> ?_⟩;have j:=h.same (Same.upd (o:= .dK (dI T.R)) g);refine su m.c j rfl ⟨_,_,rfl,j.hp,λp l=> ?_⟩;have d:=j.same (Same.upd (o:= .dK (dI T.P)) l);refine wK m.c d rfl ⟨_,_,rfl,d.hx,λx z=> ?_⟩;intro a n v y G;refine⟨a,n,r,p,x,rfl,aH,rfl,?_⟩;rw[mq];obtain⟨q,t,u⟩:=ae8 g l z v y G;exact k a r p x _ u q t
inductive Ws (C:Addr) (vs:List V) (H:Hp) (Q:VK) (E:XK):Prop
 | mk a r p x b r' p' x' T U:vs=[.ref a,.ref b]->TRd C H a r p x T->TRd C H b r' p' x' U->(ND T.R/\ND T.P/\ND T.X)->(ND U.R/\ND U.P/\ND U.X)->(∀bb:Bool,(bb=true↔T.R.Perm U.R/\T.P.Perm U.P/\T.X.Perm U.X)->Q (.bl bb) H)->Ws C vs H Q E
theorem Wt (b:ND d) (c:ND e):(decide (d.length=e.length)&&d.all λp=>decide (ak e p.1=some p.2))=true↔d.Perm e:=by rw[alg b c,dY,cH,m5];exact and_congr lZ ⟨λh p a=>dz (h p a),λh p a=>cF (h p a)⟩
theorem aoi (F:Fun K "are_same" "are_same" Tg f fd) (c:cA K mg C):aY P w K mg base CX0 1 f fd JC (Ws C):=by
 refine F.ok al9 (by walk_at "l") (λ_ A _ s H y Q E g t=> ?_);obtain⟨a,r,p,x,b,v,u,B,T,U,e,h,d,n,i,k⟩:=t;subst e;refine⟨_,aD (aK (oH (gY (Sx g.units) (aO (pv 0) rfl) (aO (pv 1) rfl)) (oH (gY (Sx g.units) (aO (pv 0) rfl) (aO (pv 1) rfl)) (mz (gY (Sx g.units) (aO (pv 0) rfl) (aO (pv 1) rfl)))))),?_⟩;refine bL (ae6 (jM ?_));refine rZ c h rfl ?_;refine rZ c d rfl ?_;refine⟨_,_,_,_,rfl,rfl,h.hr,d.hr,_,rfl,?_⟩;have m:=Wt n.1 i.1;have o:=Wt n.2.1 i.2.1;have q:=Wt n.2.2 i.2.2;refine Rr (λj=> ?_) λj=> ?_
 .refine ae6 (jM ?_);refine su c h rfl ?_;refine su c d rfl ?_;refine⟨_,_,_,_,rfl,rfl,h.hp,d.hp,_,rfl,?_⟩;refine Rr (λl=> ?_) λl=> ?_;.refine jM ?_;refine wK c h rfl ?_;refine wK c d rfl ?_;refine⟨_,_,_,_,rfl,rfl,h.hx,d.hx,?_⟩;exact k _ ⟨λz=>⟨m.mp j,o.mp l,q.mp z⟩,λz=>q.mpr z.2.2⟩
  .exact k false ⟨(λz=>by cases z),λz=>absurd (o.mpr z.2.1) l⟩
 .exact k false ⟨(λz=>by cases z),λz=>absurd (m.mpr z.1) j⟩
theorem bQ.aoj {H:Hp} {a r p x y:Addr} {T U:cG} {b:Addr} (h:bQ C H a r p x T) (c:H y=none):upd H y (.dK (dI U.R)) a=some (.ins C b (fsT r p x))->bQ C (upd (upd H y (.dK (dI U.R))) a (.ins C b (fsT y p x))) a y p x ⟨U.R,T.P,T.X⟩:=λe=>by
 have g:y≠a:=λz=>by obtain⟨_,q⟩:=h.ins;rw[<-z,c]at q;cases q
 have d:=aX h.hp c;have f:=aX h.hx c;exact⟨⟨b,aH⟩,by rw[aC g,aH],by rw[aC h.ap.symm,aC d];exact h.hp,by rw[aC h.ax.symm,aC f];exact h.hx,d.symm,f.symm,h.px⟩
theorem bQ.aok {H:Hp} {a r p x y:Addr} {T U:cG} {b:Addr} (h:bQ C H a r p x T) (c:H y=none):upd H y (.dK (dI U.P)) a=some (.ins C b (fsT r p x))->bQ C (upd (upd H y (.dK (dI U.P))) a (.ins C b (fsT r y x))) a r y x ⟨T.R,U.P,T.X⟩:=λe=>by
 have g:y≠a:=λz=>by obtain⟨_,q⟩:=h.ins;rw[<-z,c]at q;cases q
 have d:=aX h.hr c;have f:=aX h.hx c;exact⟨⟨b,aH⟩,by rw[aC h.ar.symm,aC d];exact h.hr,by rw[aC g,aH],by rw[aC h.ax.symm,aC f];exact h.hx,d,h.rx,f.symm⟩
theorem bQ.aol {H:Hp} {a r p x y:Addr} {T U:cG} {b:Addr} (h:bQ C H a r p x T) (c:H y=none):upd H y (.dK (dI U.X)) a=some (.ins C b (fsT r p x))->bQ C (upd (upd H y (.dK (dI U.X))) a (.ins C b (fsT r p y))) a r p y ⟨T.R,T.P,U.X⟩:=λe=>by
 have g:y≠a:=λz=>by obtain⟨_,q⟩:=h.ins;rw[<-z,c]at q;cases q
 have d:=aX h.hr c;have f:=aX h.hp c;exact⟨⟨b,aH⟩,by rw[aC h.ar.symm,aC d];exact h.hr,by rw[aC h.ap.symm,aC f];exact h.hp,by rw[aC g,aH],h.rp,d,f⟩
theorem TRd.over (h:TRd C H b r p x U) (j:b≠a) (i:H a=some (.ins C dx fs)) (g:∀c o,H c=some o->c≠a->H' c=some o):TRd C H' b r p x U:=by
 have f:∀{c:Addr} {d:D},Rd H c (.dK (dI d))->Rd H' c (.dK (dI d)):=λ{c d} q=>by
  rcases q with q | ⟨o,q⟩;.exact .inl (g _ _ q (cJ q i (by intro z;cases z)))
  .exact .inr ⟨o,g _ _ q (cJ q i (by intro z;cases z))⟩
 exact⟨let ⟨dx,e⟩:=h.ins;⟨dx,g _ _ e j⟩,f h.hr,f h.hp,f h.hx⟩
def But (a:Addr) (H c:Hp):Prop:=∀b o,H b=some o->b≠a->c b=some o
theorem But.put (c:H y=none):But a H (upd (upd H y o) a u):=λb q e n=>by rw[aC n,aC (aX e c)];exact e
theorem But.trans {H c d:Hp} {a:Addr} (h:But a H c) (k:But a c d):But a H d:=λb o e n=>k b o (h b o e n) n
inductive zO (C:Addr) (vs:List V) (H:Hp) (Q:VK) (E:XK):Prop
 | mk a r p x b r' p' x' T U t u:vs=[.ref a,.ref b]->bQ C H a r p x T->TRd C H b r' p' x' U->a≠b->Srt t->Srt u->Rel T t->Rel U u->(t=u->Q (.int (-6)) H)->(t≠u->∀y1 y2 y3 H',H y1=none/\H y2=none/\H y3=none->But a H H'->bQ C H' a y1 y2 y3 U->Q (.int 0) H')->zO C vs H Q E
theorem aom (F:Fun K "replace_tree" "replace_tree" Ti f fd) (c:cA K mg C) (bd:mg "dict" =none) (c0:CI mg "DONE" 0) (c6:CI mg "NO_CHANGE" (-6)) (d:Df P w K mg base "are_same" JC 1 (Ws C)):aY P w K mg base CX0 2 f fd zy (zO C):=by
 refine F.ok ama (by walk_at "l") (λ_ A _ s H vs Q E hr hz=> ?_);obtain⟨a,r,p,x,b,r',p',x',T,U,t,u,e,h,G,I,N,O,J,L,k1,k2⟩:=hz;subst e;refine⟨_,aF (aR (ae4 d hr (by decide) (ao (pv 0) (ao (pv 1) aA))) (aD (aK (aN c6))) aV)
  (aF (jF (pv 0) (mF zL rfl bd boot_dict (ao (aO (pv 1) rfl) aA)) rfl) (aF (jF (pv 0) (mF zL rfl bd boot_dict (ao (aO (pv 1) rfl) aA)) rfl)
  (aF (jF (pv 0) (mF zL rfl bd boot_dict (ao (aO (pv 1) rfl) aA)) rfl) (aD (aK (aN c0)))))),?_⟩
 refine⟨_,rfl,_,rfl,a,r,p,x,b,r',p',x',T,U,rfl,h.rd,G,⟨J.nr N,J.np N,J.nx N⟩,⟨L.nr O,L.np O,L.nx O⟩,λbb hb=>⟨bb,rfl,?_⟩⟩;rw[same_iff N O J L]at hb;refine Rr (λq=>k1 (hb.mp q)) λq=> ?_;refine rZ c G rfl ⟨_,_,rfl,G.hr,λS j=> ?_⟩;obtain⟨l,e1⟩:=id h.ins;have m:=(Same.upd (o:= .dK (dI U.R)) j) _ _ e1;refine⟨_,rfl,a,C,l,_,rfl,m,c.cl,c.nR,Wn _ _ _,?_⟩;rw[aoa];have g1:=h.aoj (U:=U) j m;have Y:But a H _:=But.put (u:= .ins C l (fsT S p x)) (o:= .dK (dI U.R)) j;have h1:=G.over I.symm e1 Y;refine su c h1 rfl ⟨_,_,rfl,h1.hp,λy2 g=> ?_⟩;have v:=(Same.upd (o:= .dK (dI U.P)) g) _ _ aH;refine⟨_,rfl,a,C,l,_,rfl,v,c.cl,c.nP,Wn _ _ _,?_⟩;rw[aob];have g2:=g1.aok (U:=U) g v;have Z:=Y.trans (But.put (u:= .ins C l (fsT S y2 x)) (o:= .dK (dI U.P)) g);have h2:=G.over I.symm e1 Z;refine wK c h2 rfl ⟨_,_,rfl,h2.hx,λy3 i=> ?_⟩;have B:=(Same.upd (o:= .dK (dI U.X)) i) _ _ aH;refine⟨_,rfl,a,C,l,_,rfl,B,c.cl,c.nX,Wn _ _ _,?_⟩;rw[aoc];have g3:=g2.aol (U:=U) i B;have b3:=Z.trans (But.put (u:= .ins C l (fsT S y2 y3)) (o:= .dK (dI U.X)) i);have fr:∀{y:Addr} {W:Hp},But a H W->W y=none->y≠a->H y=none:=λ{y W} bb hy n=>by
  cases q:H y with
  | none=>rfl
  | some o=>rw[bb y o q n]at hy;cases hy
 refine k2 (λz=>q (hb.mpr z)) S y2 y3 _ ⟨j,fr Y g ?_,fr Z i ?_⟩ b3 g3;.exact λz=>by rw[z,aH]at g;cases g
 .exact λz=>by rw[z,aH]at i;cases i
end
section
variable {σ:L2.St} {H:Hp} {D:Ends}
theorem wL (h:tv σ H λv c=>td σ c λx d=>ty σ d λy e=>∃a b,x= .ref a/\rP e a y v b/\D.nx σ b):Ia td ty tv D σ H:=h
theorem ae_ (h:td σ H λx b=>∃a,x= .ref a/\IsD b a/\ty σ b λy c=>∃kvs k v,c a=some (.dK kvs)/\y=kV k/\eG kvs k=some v/\Q v (upd c a (.dK (uo kvs k)))):Ib td ty σ H Q:=h
theorem wM (h:H d=some u) (m:Mut (some u)) (k:∀b,t σ (upd H d (.frz b u)) λv a=>a d=some (.frz b u)/\Q v (upd a d u)):ac2 t σ H Q:=⟨d,u,h,m,k⟩
theorem Wu (h:H d=some u) (m:Mut (some u)) (k:∀b,t ⟨λc a=>a d=some (.frz b u)/\D.nx c (upd a d u),λv a=>a d=some (.frz b u)/\D.rt v (upd a d u),λc a=>a d=some (.frz b u)/\D.bk c (upd a d u),λc a=>a d=some (.frz b u)/\D.ct c (upd a d u)⟩ σ (upd H d (.frz b u))):Cz t D σ H:=⟨d,u,h,m,k⟩
theorem nH (h:wi σ H λJ e=>∀D,e D=none->∃W:Nat->Nat->Hp->Prop,(∃m,W 0 m (upd e D (.lst [])))/\∀i m H,W i m H->
 (J.stop i H/\Q (.ref D) H)\/(J.go i H/\∃c:Hp->Prop,(∀a,c a->∃l,l < m/\W (i+1) l a)/\∀x a,J.yld i H x a->g x (wipe σ vs) a λd n=>wipe d vs=wipe σ vs/\tt d n λb f=>
  if b=true then te d f λy j=>∃acc,j D=some (.lst acc)/\acc.length < sizeLine/\c (upd j D (.lst (acc++[y])))else c f)):tLc wi g tt te vs σ H Q:=h
theorem qQ (h:td σ H λx a=>∃d o,x= .ref d/\((∃kvs,a d=some (.frz o (.dK kvs))/\R (Itk d o kvs) a)\/∃kvs,a d=some (.frz o (.dT kvs))/\R (Rp d o kvs) a)):CJ td σ H R:=h
theorem Mh (h:wi σ H λJ d=>∃W:Nat->Nat->L2.St->Hp->Prop,(∃m,W 0 m σ d)/\∀i m σ H,W i m σ H->
 (J.stop i H/\D.nx σ H)\/(J.go i H/\∃N:L2.St->Hp->Prop,(∀c a,N c a->∃b,b < m/\W (i+1) b c a)/\∀x a,J.yld i H x a->g x σ a λf e=>tb {D with nx:=N,ct:=N,bk:=D.nx} f e)):ud wi g tb D σ H:=h
theorem Mi {K:aW} {c:TE} {R:It->Hp->Prop} (h:c σ H λx b=>∃a,x= .ref a/\(∃xs,SqL K b a xs)/\R (Itl K a) b):vJ K c σ H R:=h
theorem afa:decide (V.int i=V.int j)=decide (i=j):=fH ⟨λz=>by injection z,λz=>by rw[z]⟩
theorem Em (q:Q (.bl (decide (i=j))) H):rEq (.int i) (.int j) H Q:=⟨rfl,by rw[afa];exact q⟩
theorem aon (q:Q (.bl (!decide (i=j))) H):rNe (.int i) (.int j) H Q:=⟨rfl,by rw[afa];exact q⟩
end
theorem En {X:Cx} (K:aW) {e:Expr} {f:Str} {a:Pos} {b:TE} (g:PE X e b) (c:X.K=K:=by rfl) (d:attributeBase e f X.env (eval e X.env)=eval e X.env:=by rfl):PE X (.Attribute e f a) (dZ K b f):=c▸aO g d
theorem cu (b:PE X o td) (a:PE X i ty) (d:X.A.units+1 < cLine) (c:Rj i:=by exact λ_ _=>rfl):PE X (.Subscript o i pos) (gZ td ty):=aju d b a c
section
variable {C:Addr} {H H':Hp} {a r p x:Addr} {T:cG}
theorem bQ.wR (h:bQ C H a r p x T) (d:D):bQ C (upd H r (.dK (dI d))) a r p x ⟨d,T.P,T.X⟩:=
 ⟨let ⟨dx,e⟩:=h.ins;⟨dx,by rw[aC h.ar];exact e⟩,aH,by rw[aC h.rp.symm];exact h.hp,by rw[aC h.rx.symm];exact h.hx,h.rp,h.rx,h.px⟩
theorem bQ.wP (h:bQ C H a r p x T) (d:D):bQ C (upd H p (.dK (dI d))) a r p x ⟨T.R,d,T.X⟩:=
 ⟨let ⟨dx,e⟩:=h.ins;⟨dx,by rw[aC h.ap];exact e⟩,by rw[aC h.rp];exact h.hr,aH,by rw[aC h.px.symm];exact h.hx,h.rp,h.rx,h.px⟩
theorem bQ.wX (h:bQ C H a r p x T) (d:D):bQ C (upd H x (.dK (dI d))) a r p x ⟨T.R,T.P,d⟩:=
 ⟨let ⟨dx,e⟩:=h.ins;⟨dx,by rw[aC h.ax];exact e⟩,by rw[aC h.rx];exact h.hr,by rw[aC h.px];exact h.hp,aH,h.rp,h.rx,h.px⟩
def bG (r p x:Addr) (H H':Hp):Prop:=∀b o,H b=some o->b≠r->b≠p->b≠x->H' b=some o
theorem bG.refl:bG r p x H H:=λ_ _ e _ _ _=>e
theorem bG.trans {a c:Hp} (h:bG r p x H a) (k:bG r p x a c):bG r p x H c:=λb o e d f g=>k b o (h b o e d f g) d f g
theorem bG.uR (o:HO):bG r p x H (upd H r o):=λb u e n _ _=>by rw[aC n];exact e
theorem bG.uP (o:HO):bG r p x H (upd H p o):=λb u e _ n _=>by rw[aC n];exact e
theorem bG.uX (o:HO):bG r p x H (upd H x o):=λb u e _ _ n=>by rw[aC n];exact e
theorem Same.only (s:Same H H'):bG r p x H H':=λb o e _ _ _=>s b o e
end
section
inductive sE (C:Addr) (vs:List V) (H:Hp) (Q:VK) (E:XK):Prop
 | mk a r p x T k v q:vs=[.ref a,.int k,.int v,.int q]->bQ C H a r p x T->T.R.length < 100000->T.P.length < 100000->Q .non (upd (upd H r (.dK (dI (dput T.R k v)))) p (.dK (dI (dput T.P k q))))->sE C vs H Q E
theorem aoo (F:Fun K "set_group" "set_group" Tj f fd) (c:cA K mg C):aY P w K mg base CX0 1 f fd qN (sE C):=by refine F.ok amc (by walk_at "l") (λ_ A _ s H n Q E g i=> ?_);obtain⟨a,r,p,x,T,k,v,q,e,h,l,m,j⟩:=i;subst e;have d:=bw g;refine⟨_,aF (jQ d (aO (pv 0) rfl) (pv 1) (pv 2) rfl) (aD (jQ d (aO (pv 0) rfl) (pv 1) (pv 3) rfl)),?_⟩;refine aZ (wL (kj rfl ?_));refine rZ c h.rd rfl (kj rfl ⟨r,_,rfl,dp h.hr l,?_⟩);have b:=h.wR (dput T.R k v);refine wL (kj rfl ?_);refine su c b.rd rfl (kj rfl ⟨p,_,rfl,dp b.hp m,j⟩)
inductive zP (C:Addr) (vs:List V) (H:Hp) (Q:VK) (E:XK):Prop
 | mk a r p x T k:vs=[.ref a,.int k]->bQ C H a r p x T->(ak T.R k).isSome=true->(ak T.P k).isSome=true->Q .non (upd (upd H r (.dK (dI (dU T.R k)))) p (.dK (dI (dU T.P k))))->zP C vs H Q E
theorem Wv (h:ak d k=some v):eG (dI d) (bI k:Key)=some (.int v):=by rw[Ju,h];rfl
theorem aop (F:Fun K "drop_group" "drop_group" Tn f fd) (c:cA K mg C):aY P w K mg base CX0 1 f fd wH (zP C):=by refine F.ok ame (by walk_at "l") (λ_ A _ s H t Q E n i=> ?_);obtain⟨a,r,p,x,T,k,e,h,l,m,j⟩:=i;subst e;obtain⟨o,d⟩:=gj.mp l;obtain⟨q,g⟩:=gj.mp m;refine⟨_,aF (eE (Ie (aO (pv 0) rfl) (pv 1) ⟨rfl,rfl,rfl,rfl⟩)) (aD (eE (Ie (aO (pv 0) rfl) (pv 1) ⟨rfl,rfl,rfl,rfl⟩))),?_⟩;refine aZ (oZ (ae_ ?_));refine rZ c h.rd rfl ⟨r,rfl,.inl ⟨_,.inl h.hr⟩,kj rfl ⟨_,bI k,_,h.hr,rfl,Wv d,?_⟩⟩;rw[Sw];have b:=h.wR (dU T.R k);dsimp only;refine oZ (ae_ ?_);refine su c b.rd rfl ⟨p,rfl,.inl ⟨_,.inl b.hp⟩,kj rfl ⟨_,bI k,_,b.hp,rfl,Wv g,?_⟩⟩;rw[Sw];exact j
def newL (ns:List Int) (H:Hp) (Q:VK):Prop:=∀l,H l=none->Q (.ref l) (upd H l (.lst (ns.map V.int)))
inductive jt (C:Addr) (g:cG->D) (vs:List V) (H:Hp) (Q:VK) (E:XK):Prop
 | mk a r p x T k:vs=[.ref a,.int k]->bQ C H a r p x T->(g T).length < 100000->ND (g T)->newL (kin (g T) k) H Q->jt C g vs H Q E
def isIn (d:D) (k:Int):V->Bool
 | .int j=>decide (ak d j=some k)
 | _=>false
theorem Ww (d:D) (b:ND d) (k:Int):(((dI d).map λa=>kV a.1).filter (isIn d k)).map id=(kin d k).map V.int:=by
 unfold kin dI;rw[Ph,bC,bC];have e:((λa:Key×V=>kV a.1)∘λp:Int×Int=>((bI p.1:Key),V.int p.2))=λp=>V.int p.1:=rfl;rw[e,j4]
 congr 1
 apply j5;intro p f;have c:=(bY b).mp f;show decide (ak d p.1=some k)=decide (p.2=k);rw[c];exact fH ⟨λz=>by injection z,λz=>by rw[z]⟩
theorem mem_keys (h:y∈(dI d).map λb=>kV b.1):∃j v,y=V.int j/\(j,v)∈d:=by obtain⟨b,a,rfl⟩:=aQ.mp h;obtain⟨q,c,rfl⟩:=aQ.mp a;exact⟨q.1,q.2,rfl,c⟩
theorem aoq (F:Fun K "groups_in" "groups_in" Tp f fd) (c:cA K mg C):aY P w K mg base CX0 1 f fd qO (jt C cG.P):=by
 refine F.ok Tq (by walk_at "l") (λ_ A _ s H Z Q E U W=> ?_);obtain⟨a,r,p,x,T,k,e,h,l,N,X⟩:=W;subst e;refine'⟨_,aD (aK (vX (lE (own:=[("key",2)]) rfl Tq.nd (mG (aO (pv 0) rfl)) (lF rfl) ?g ?t ?e))),?_⟩
 case g=>exact λ_ _ _ _ _=>cQ (i:=2) Tq.nd
 case t=>exact λ_ _ _ _ _=>vP (bF bU (cu (En K (pv 0)) (pv 2) (bw U)) (pv 1))
 case e=>exact λ_ _ _ _ _=>pv 2
 refine bL (wM h.hp gK λG=> ?_);have o:=h.Wo G;refine nH (qQ ?_);refine su c o rfl ⟨_,G,rfl,.inl ⟨_,aH,λl u=> ?_⟩⟩;refine oM (isIn T.P k) id u (by rw[aJ,rT];exact rA (by assumption) (by decide)) (zK aH) (λy L O I R q=> ?_) (λy L _ O I R q=>kj rfl q) ?_
 .obtain⟨j,v,rfl,S⟩:=mem_keys L;have J:=(bY N).mp S;refine Wr (jM (Ek ?_));refine su c (o.same I) rfl (kj rfl ⟨p,_,rfl,dg (o.same I).hp J,kj rfl (Em ⟨_,rfl,?_⟩)⟩);have e:isIn T.P k (V.int j)=decide (v=k):=by show decide (ak T.P j=some k)=_;rw[J];exact fH ⟨λz=>by injection z,λz=>by rw[z]⟩
  rw[<-e];exact q
 .have d:=aX aH u;refine⟨by rw[aC d,aH],?_⟩;obtain⟨_,B⟩:=fC u;have e:upd (upd (upd H p (.frz G (.dK (dI T.P)))) l (.lst (((((dI T.P).map λY=>kV Y.1).filter (isIn T.P k)).map id)))) p (.dK (dI T.P))=upd H l (.lst ((kin T.P k).map V.int)):=by
   rw[Ww _ N];funext b;by_cases m:b=p;.subst m;rw[aH,aC d,h.hp]
   .rw[aC m];by_cases n:b=l;.subst n;rw[aH,aH]
    .rw[aC n,aC m,aC n]
  rw[e];exact X l B
end
def TC (K:aW) (mg:Str->Option Value) (x:Str) (ns:List Int):Prop:=∃a,mg x=some (.ref a)/\∀H,SqT K H a (ns.map V.int)
structure Cs (K:aW) (mg:Str->Option Value):Prop where
 iQ:CI mg "DONE" 0
 ju:CI mg "BAD_VALUE" (-1)
 Mj:CI mg "THERE_ALREADY" (-2)
 aor:CI mg "SPECIMEN_TWICE" (-3)
 kE:CI mg "NOT_THERE" (-4)
 wN:CI mg "MISFIT" (-5)
 zQ:CI mg "NO_CHANGE" (-6)
 aos:CI mg "NO_VERSION" (-7)
 aot:CI mg "NOTHING_EARLIER" (-8)
 FULL:CI mg "FULL" (-9)
 Wx:CI mg "MOST_KEY" 1000000000
 Wy:CI mg "MOST_RANK" 8
 aou:CI mg "MOST_FAMILY" 3
 aov:CI mg "MOST_DAY" 1000000
 aow:CI mg "MOST_SCHOOL" 3
 Wz:CI mg "MOST_GROUPS" 32
 afb:CI mg "MOST_SPECIMENS" 64
 aox:CI mg "MOST_EARLIER" 12
 aoy:CI mg "MOST_VERSIONS" 16
 aoz:CI mg "MOST_BYTES" 2000
 aoA:CI mg "MOST_BRACES" 7
 WD:CI mg "DRAFT_DAY" (-1)
 afc:CI mg "NO_DAY" (-1)
 BLANK:CI mg "BLANK" 32
 COMMA:CI mg "COMMA" 44
 afd:CI mg "DIGIT_ZERO" 48
 aoB:CI mg "DIGIT_NINE" 57
 COLON:CI mg "COLON" 58
 aoC:CI mg "LEFT_BRACKET" 91
 aoD:CI mg "RIGHT_BRACKET" 93
 aoE:CI mg "LEFT_BRACE" 123
 aoF:CI mg "RIGHT_BRACE" 125
 Ml:CI mg "SET_GROUP" 1
 Eo:CI mg "DROP_GROUP" 2
 WK:CI mg "SET_SPECIMEN" 3
 WL:CI mg "DROP_SPECIMEN" 4
 WM:CI mg "ROW_LENGTH" 4
 GROUP:CI mg "GROUP" 0
 PUT:CI mg "PUT" 1
 TAKE:CI mg "TAKE" 2
 MOVE:CI mg "MOVE" 3
 aoG:CI mg "LUMP" 4
 SPLIT:CI mg "SPLIT" 5
 aoH:CI mg "RANK" 6
 DISSOLVE:CI mg "DISSOLVE" 7
 aoI:CI mg "LOAD" 8
 aoJ:CI mg "FETCH" 9
 aoK:CI mg "APPLY" 10
 UNDO:CI mg "UNDO" 12
 aoL:CI mg "PUBLISH" 13
 TEXT:CI mg "TEXT" 14
 HOLDS:CI mg "HOLDS" 15
 PATH:CI mg "PATH" 16
 COMMON:CI mg "COMMON" 17
 LEVEL:CI mg "LEVEL" 18
 aoM:CI mg "TOPMOST" 19
 afe:CI mg "DIFF" 20
 afg:CI mg "CLASHES" 21
 aoN:CI mg "DISTANCE" 22
 aoO:CI mg "CLOSER" 23
 VERSIONS:CI mg "VERSIONS" 24
 CHECK:CI mg "CHECK" 26
 WQ:TC K mg "FAMILIES_OF_RANKS" [1,1,1,1,2,2,3,3]
 WR:TC K mg "NUMBERS_OF_CALLS" [4,3,2,3,3,3,3,2,1,3,1,5,1,2,2,3,3,2,3,4,4,4,4,5,1,2,0]
 WT:TC K mg "ROWS_OF_CALLS" [0,0,0,0,0,2,0,0,1,0,1,0,0,0,0,0,0,1,0,0,0,0,0,0,0,0,1]
 len:mg "len" =none
 set:mg "set" =none
 dict:mg "dict" =none
 sorted:mg "sorted" =none
 tuple:mg "tuple" =none
 list:mg "list" =none
 reversed:mg "reversed" =none
 str:mg "str" =none
 sum:mg "sum" =none
 ord:mg "ord" =none
 max:mg "max" =none
 range:mg "range" =none
theorem o7:bootBuiltins "sorted" =some (.builtin "sorted"):=by decide+kernel
theorem afh:bootBuiltins "set" =some (.type "set"):=by decide+kernel
theorem afi:bootBuiltins "tuple" =some (.type "tuple"):=by decide+kernel
theorem WW:bootBuiltins "str" =some (.type "str"):=by decide+kernel
theorem aoP:bootBuiltins "sum" =some (.builtin "sum"):=by decide+kernel
theorem aoQ:bootBuiltins "ord" =some (.builtin "ord"):=by decide+kernel
section
variable {X:Cx}
theorem WX (h:TC X.K X.mg x ns) (b:Gl X x:=by rfl) (a:(x==("__debug__" :Str))=false:=by decide):PE X (.Name x pos) (tC (.ref h.choose)):=abX b h.choose_spec.1 rfl a
inductive Mt (P:Program) (w:World) (K:aW) (mg:Str->Option Value) (base:Heap) (C:Addr) (m:Str) (ps:List Str) (k:Nat) (sp:Sp):Prop
 | mk f fd:Cls K C->Meth K C m f->aY P w K mg base CX0 k f fd ps sp->Binds K fd ps []->Mt P w K mg base C m ps k sp
end
def PE0 (a:TE) (σ:L2.St) (H:Hp) (v:V):Prop:=∀Q:VK,Q v H->a σ H Q
def PT0 (a:TT) (σ:L2.St) (H:Hp) (b:Bool):Prop:=∀Q:Bool->Hp->Prop,Q b H->a σ H Q
def PA0 (a:TA) (σ:L2.St) (H:Hp) (vs:List V):Prop:=∀Q:List V->Hp->Prop,Q vs H->a σ H Q
section
variable {σ:L2.St} {H:Hp} {D:Ends} {K:aW} {mg:Str->Option Value} {C a r p x:Addr} {T:cG} {i:Nat}
theorem aj (h:σ[i]? =some (some v)):PE0 (bA i) σ H v:=λQ q=>⟨v,h,q⟩
theorem p_c:PE0 (tC v) σ H v:=λQ q=>q
theorem p_R (h:σ[i]? =some (some (.ref a))) (t:TRd C H a r p x T) (c:cA K mg C):PE0 (dZ K (bA i) "ranks") σ H (.ref r):=λQ q=>rZ c t h q
theorem p_P (h:σ[i]? =some (some (.ref a))) (t:TRd C H a r p x T) (c:cA K mg C):PE0 (dZ K (bA i) "parents") σ H (.ref p):=λQ q=>su c t h q
theorem p_X (h:σ[i]? =some (some (.ref a))) (t:TRd C H a r p x T) (c:cA K mg C):PE0 (dZ K (bA i) "homes") σ H (.ref x):=λQ q=>wK c t h q
theorem WY (b:PE0 td σ H (.ref a)) (c:PE0 ty σ H (.int k)) (e:Rd H a (.dK (dI d))) (f:ak d k=some v):PE0 (gZ td ty) σ H (.int v):=λQ q=>b _ (c _ ⟨a,_,rfl,dg e f,q⟩)
theorem aoR (b:PE0 td σ H (.ref a)) (c:PE0 ty σ H (.int k)) (e:Rd H a (.dK (dI d))):PE0 (H_ ty td) σ H (.bl (ak d k).isSome):=λQ q=>c _ (b _ ⟨a,_,rfl,dg0 e,by rw[pJ];exact q⟩)
theorem W2 (b:PE0 td σ H (.ref a)) (c:PE0 ty σ H (.int k)) (e:Rd H a (.dK (dI d))):PE0 (vU ty td) σ H (.bl (!(ak d k).isSome)):=λQ q=>c _ (b _ ⟨a,_,rfl,dg0 e,by rw[pJ];exact q⟩)
section
variable {ty:TE} {k v:Int} (h:σ[i]? =some (some (.ref a))) (t:TRd C H a r p x T) (c:cA K mg C) (h2:PE0 ty σ H (.int k))
theorem mO (h:σ[i]? =some (some (.ref a))) (t:TRd C H a r p x T) (c:cA K mg C) (h2:PE0 ty σ H (.int k)) (e:ak T.R k=some v):PE0 (gZ (dZ K (bA i) "ranks") ty) σ H (.int v):=WY (p_R h t c) h2 t.hr e
theorem o8 (h:σ[i]? =some (some (.ref a))) (t:TRd C H a r p x T) (c:cA K mg C) (h2:PE0 ty σ H (.int k)) (e:ak T.P k=some v):PE0 (gZ (dZ K (bA i) "parents") ty) σ H (.int v):=WY (p_P h t c) h2 t.hp e
theorem sG (h:σ[i]? =some (some (.ref a))) (t:TRd C H a r p x T) (c:cA K mg C) (h2:PE0 ty σ H (.int k)) (e:ak T.X k=some v):PE0 (gZ (dZ K (bA i) "homes") ty) σ H (.int v):=WY (p_X h t c) h2 t.hx e
theorem W3 (h:σ[i]? =some (some (.ref a))) (t:TRd C H a r p x T) (c:cA K mg C) (h2:PE0 ty σ H (.int k)):PE0 (H_ ty (dZ K (bA i) "ranks")) σ H (.bl (ak T.R k).isSome):=aoR (p_R h t c) h2 t.hr
theorem wO (h:σ[i]? =some (some (.ref a))) (t:TRd C H a r p x T) (c:cA K mg C) (h2:PE0 ty σ H (.int k)):PE0 (vU ty (dZ K (bA i) "ranks")) σ H (.bl (!(ak T.R k).isSome)):=W2 (p_R h t c) h2 t.hr
theorem wQ (h:σ[i]? =some (some (.ref a))) (t:TRd C H a r p x T) (c:cA K mg C) (h2:PE0 ty σ H (.int k)):PE0 (vU ty (dZ K (bA i) "homes")) σ H (.bl (!(ak T.X k).isSome)):=W2 (p_X h t c) h2 t.hx
end
theorem aG:PA0 fW σ H []:=λQ q=>q
theorem aq (a:PE0 te σ H v) (b:PA0 ta σ H vs):PA0 (gw te ta) σ H (v::vs):=λQ q=>a _ (b _ q)
theorem p_eq {a b:TE} {i j:Int} (c:PE0 a σ H (.int i)) (d:PE0 b σ H (.int j)):PE0 (tOp rEq a b) σ H (.bl (decide (i=j))):=λQ q=>c _ (d _ (Em q))
theorem gn {a b:TE} {i j:Int} (c:PE0 a σ H (.int i)) (d:PE0 b σ H (.int j)):PE0 (tOp rNe a b) σ H (.bl (!decide (i=j))):=λQ q=>c _ (d _ (aon q))
theorem p_i {a b:TE} {i j:Int} {g:Int->Int->V} (c:PE0 a σ H (.int i)) (d:PE0 b σ H (.int j)):PE0 (tOp (rI0 g) a b) σ H (g i j):=λQ q=>c _ (d _ ⟨i,j,rfl,rfl,q⟩)
theorem o9 (a:PE0 ta σ H (.bl b)) (d:b=true->PE0 tb σ H (.bl c)):PE0 (Hs ta tb) σ H (.bl (b&&c)):=λQ q=>a _ ⟨b,rfl,by cases b;exact q;exact d rfl _ q⟩
theorem Mp (a:PE0 ta σ H (.bl b)) (d:b=false->PE0 tb σ H (.bl c)):PE0 (abZ ta tb) σ H (.bl (b||c)):=λQ q=>a _ ⟨b,rfl,by cases b;exact d rfl _ q;exact q⟩
theorem W4 (a:PE0 ta σ H (.bl b)):PE0 (QF ta) σ H (.bl (!b)):=λQ q=>a _ ⟨b,rfl,q⟩
theorem uI (a:PT0 t σ H b) (d:b=true->PT0 u σ H c):PT0 (yE t u) σ H (b&&c):=λQ q=>a _ (by cases b;exact q;exact d rfl _ q)
theorem nJ (a:PT0 t σ H b) (d:b=false->PT0 u σ H c):PT0 (tOr t u) σ H (b||c):=λQ q=>a _ (by cases b;exact d rfl _ q;exact q)
theorem gM (a:PT0 t σ H b):PT0 (Ca t) σ H (!b):=λQ q=>a _ q
theorem p_b (h:PE0 te σ H (.bl b)):PT0 (tB te) σ H b:=λQ q=>h _ ⟨b,rfl,q⟩
theorem bM (h:PE0 te σ H (.bl b)):PT0 (mD te) σ H b:=λQ q=>h _ ⟨b,rfl,q⟩
theorem afj:PT0 Rh σ H true:=λQ q=>q
theorem mQ [DecidablePred φ] (h:PA0 ta σ H [.int n]):PE0 (lD (spB φ) [] E0 ta) σ H (.bl (decide (φ n))):=λQ q=>h _ ⟨n,rfl,q⟩
def spP (R:List V->Hp->V->Prop):Sp:=λa H Q _=>∃v,R a H v/\Q v H
theorem jw (h:PA0 ta σ H vs) (a:R vs H v):PE0 (lD (spP R) [] E0 ta) σ H v:=λQ q=>h _ ⟨v,by rw[gH];exact a,q⟩
theorem Ep (h:PA0 ta σ H [.ref a]) (b:H a=some (.dK (dI d))):PE0 (tCB (λxs H Q=>∃a kvs,xs=[V.ref a]/\H a=some (.dK kvs)/\Q (.int kvs.length) H) ta) σ H (.int d.length):=λQ q=>h _ ⟨a,_,rfl,b,by rw[rT];exact q⟩
theorem f9 (h:PA0 ta σ H [.ref a]) (b:SqL K H a xs):PE0 (tCB (λxs H Q=>∃p ys,xs=[V.ref p]/\(SqL K H p ys\/SqT K H p ys)/\Q (.int ys.length) H) ta) σ H (.int xs.length):=λQ q=>h _ ⟨a,_,rfl,.inl b,q⟩
theorem gO (h:PT0 c σ H b) (a:b=true->t D σ H) (d:b=false->u D σ H):oJ c t u D σ H:=h _ (by cases b;exact d rfl;exact a rfl)
theorem aU (h:PE0 te σ H v) (q:D.rt v H):Ce te D σ H:=h _ q
theorem afk (h:PE0 te σ H v) (q:D.nx (σ.set j (some v)) H):Cg te (jC j) D σ H:=h _ q
theorem uJ (b:PE0 tv σ H (.int v)) (c:PE0 td σ H (.ref a)) (e:PE0 ty σ H (.int k)) (f:H a=some (.dK (dI d))) (l:d.length < 100000) (q:D.nx σ (upd H a (.dK (dI (dput d k v))))):Ia td ty tv D σ H:=b _ (c _ (e _ ⟨a,_,rfl,dp f l,q⟩))
theorem afl (c:PE0 td σ H (.ref a)) (e:PE0 ty σ H (.int k)) (b:H a=some (.dK (dI d))) (f:ak d k=some v) (q:D.nx σ (upd H a (.dK (dI (dU d k))))):pP (Ib td ty) D σ H:=
 c _ ⟨a,rfl,.inl ⟨_,.inl b⟩,e _ ⟨_,bI k,_,b,rfl,Wv f,by rw[Sw];exact q⟩⟩
end
local macro_rules | `(tactic| walk_at "p1") => `(tactic| first
 | assumption
 | with_reducible exact p_c
 | with_reducible exact aG
 | with_reducible exact afj
 | (with_reducible apply aj)
 | (with_reducible apply aq)
 | (with_reducible apply mO)
 | (with_reducible apply o8)
 | (with_reducible apply sG)
 | (with_reducible apply W3)
 | (with_reducible apply avB)
 | (with_reducible apply wO)
 | (with_reducible apply wQ)
 | (with_reducible apply p_R)
 | (with_reducible apply p_P)
 | (with_reducible apply p_X)
 | (with_reducible apply p_b)
 | (with_reducible apply bM)
 | (with_reducible apply gM)
 | (with_reducible apply uI)
 | (with_reducible apply nJ)
 | (with_reducible apply W4)
 | (with_reducible apply o9)
 | (with_reducible apply Mp)
 | (with_reducible apply p_eq)
 | (with_reducible apply gn)
 | (with_reducible apply p_i)
 | (with_reducible apply mQ)
 | (with_reducible apply Ep)
 | (with_reducible apply f9)
 | (with_reducible exact bQ.rd (by assumption))
 | (with_reducible exact bQ.hr (by assumption))
 | (with_reducible exact bQ.hp (by assumption))
 | (with_reducible exact bQ.hx (by assumption))
 | (with_reducible exact TRd.hr (by assumption))
 | (with_reducible exact TRd.hp (by assumption))
 | (with_reducible exact TRd.hx (by assumption))
 | rfl
 | (with_reducible intro _))
local macro_rules | `(tactic| walk_at "p") => `(tactic| repeat' walk_at "p1")
section
variable {K:aW} {H:Hp} {σ:L2.St} {D:Ends} {j:Nat} {tb:TS}
theorem aoS (b:V->Prop) (m:SqL K H a xs) (o:∃v,σ=σ.set j v)
  (turn:∀x∈xs,∀N:L2.St->Hp->Prop,(b x->N (σ.set j (some x)) H)->tb {D with nx:=N,ct:=N,bk:=D.nx} (σ.set j (some x)) H)
  (fin:∀v,(∀x∈xs,b x)->D.nx (σ.set j v) H):ud (vJ K (λσ H Q=>Q (.ref a) H)) (jC j) tb D σ H:=by
 refine⟨a,rfl,⟨_,m⟩,yF (λi f c=>c=H/\(∃v,f=σ.set j v)/\∀x∈xs.take i,b x) ⟨rfl,o,by simp⟩ (λi σ c _ h=>by rw[h.1];exact m) ?_ ?_⟩
 .rintro i y f c l ⟨rfl,⟨v,rfl⟩,d⟩;have e:(σ.set j v).set j (some y)=σ.set j (some y):=qp ..;show tb _ ((σ.set j v).set j (some y)) c;rw[e];refine turn y (gq l) _ λg=>⟨rfl,⟨_,rfl⟩,λx n=> ?_⟩;rw[j6,l]at n;rcases dO.mp n with z | z;.exact d x z
  .rw[dX.mp z];exact g
 .rintro f c ⟨rfl,⟨v,rfl⟩,d⟩;rw[fM]at d;exact fin v d
theorem Mq (b:V->Prop) (d:PE0 te σ H (.ref a)) (e:SqL K H a xs) (c:∃v,σ=σ.set j v)
  (turn:∀x∈xs,∀N:L2.St->Hp->Prop,(b x->N (σ.set j (some x)) H)->tb {D with nx:=N,ct:=N,bk:=D.nx} (σ.set j (some x)) H)
  (fin:∀v,(∀x∈xs,b x)->D.nx (σ.set j v) H):ud (vJ K te) (jC j) tb D σ H:=d _ (aoS b e c turn fin)
theorem W5 (b:Int->Prop) (u:H a=some (.dK (dI d))) (C:∀o,PE0 te σ (upd H a (.frz o (.dK (dI d)))) (.ref a)) (B:∃v,σ=σ.set j v)
  (turn:∀k w,(k,w)∈d->∀o N n,(∀v c,n.rt v c=(c a=some (.frz o (.dK (dI d)))/\D.rt v (upd c a (.dK (dI d)))))->n.nx=N->(b k->N (σ.set j (some (.int k))) (upd H a (.frz o (.dK (dI d)))))->tb n (σ.set j (some (.int k))) (upd H a (.frz o (.dK (dI d)))))
  (fin:∀v,(∀k w,(k,w)∈d->b k)->D.nx (σ.set j v) H):Cz (ud (CJ te) (jC j) tb) D σ H:=by
 refine Wu u gK λo=>Mh (qQ (C o _ ⟨a,o,rfl,.inl ⟨_,aH,?_⟩⟩));refine Wm (λi s c=>c=upd H a (.frz o (.dK (dI d)))/\(∃v,s=σ.set j v)/\∀k w,(k,w)∈d.take i->b k) ⟨rfl,B,by simp⟩ (λi σ c h=>by rw[h.1];exact aH) ?_ ?_
 .rintro i k w s c q ⟨rfl,⟨v,rfl⟩,l⟩;unfold dI at q;rw[dM]at q;obtain⟨⟨m,E⟩,f,A⟩:=iT.mp q;injection A with p t;subst p;subst t;have e:(σ.set j v).set j (some (kV (bI m)))=σ.set j (some (.int m)):=qp ..;show tb _ ((σ.set j v).set j (some (kV (bI m)))) _;rw[e];refine turn m E (gq f) o _ _ (λ_ _=>rfl) rfl λg=>⟨rfl,⟨_,rfl⟩,λx w y=> ?_⟩;rw[j6,f]at y;rcases dO.mp y with z | z;.exact l x w z
  .have:=dX.mp z;injection this with p t;rw[p];exact g
 .rintro s c ⟨rfl,⟨v,rfl⟩,l⟩;refine⟨aH,?_⟩;rw[zN u];rw[rT,fM]at l;exact fin v l
end
section
def wU (n:Int):Prop:=1<=n/\n<=3
instance (n:Int):Decidable (wU n):=by unfold wU;infer_instance
theorem aoT (F:Fun K "is_family" "is_family" SX f fd) (a:Cs K mg):aY P w K mg base CX0 1 f fd JB (spB wU):=by refine F.ok alT (by walk_at "l") (λ_ A _ s H d Q E c b=> ?_);obtain⟨n,e,q⟩:=b;subst e;exact⟨_,(aD (aK (vK mC mC aM (pv 0) (aN a.aou)))),zJ ⟨_,rfl,rfl,vb q (fH lZ)⟩ Ef⟩
theorem afm (ns:List Int) (n:Int):inV (.int n) (ns.map V.int)=decide (n∈ns):=by
 unfold inV;rw[GC]
 induction ns with
 | nil=>rfl
 | cons m ns a=>
  rw[u5,a];have:((λy=>eqV y (V.int n))∘V.int) m=decide (m=n):=by simp[eqV,PB]
  rw[this,<-yc];exact fH (by simp[eq_comm])
theorem afn (ns:List Int):(ns.map V.int).all rO=true:=by
 rw[aaP]
 induction ns with
 | nil=>rfl
 | cons m ns a=>rw[Gy,a];rfl
theorem aoU {σ:L2.St} {H:Hp} {b c:TE} {n:Int} {ns:List Int} {a:Addr} (d:PE0 b σ H (.int n)) (e:PE0 c σ H (.ref a)) (f:SqL K H a (ns.map V.int)):PE0 (tOp (rIn K false) b c) σ H (.bl (decide (n∈ns))):=λQ q=>
 d _ (e _ ⟨a,_,rfl,.inl f,rfl,afn ns,by rw[afm];exact q⟩)
theorem afo {σ:L2.St} {H:Hp} {b c:TE} {n:Int} {ns:List Int} {a:Addr} (d:PE0 b σ H (.int n)) (e:PE0 c σ H (.ref a)) (f:SqL K H a (ns.map V.int)):PE0 (tOp (rIn K true) b c) σ H (.bl (!decide (n∈ns))):=λQ q=>
 d _ (e _ ⟨a,_,rfl,.inl f,rfl,afn ns,by rw[afm];exact q⟩)
inductive wV (K:aW) (vs:List V) (H:Hp) (v:V):Prop
 | mk (a b:Addr) (ns:List Int) (bb:Bool):vs=[.ref a,.ref b]->SqL K H a (ns.map V.int)->v= .bl bb->((∃ms:List Int,SqL K H b (ms.map V.int)/\(bb=true↔∀n∈ns,n∈ms))\/∃d:D,Rd H b (.dK (dI d))/\(bb=true↔∀n∈ns,(ak d n).isSome=true))->wV K vs H v
theorem W6 {ns:List Int} {x:V} (h:x∈ns.map V.int):∃n∈ns,x= .int n:=by obtain⟨n,a,rfl⟩:=aQ.mp h;exact⟨n,a,rfl⟩
theorem uK {p:Prop} (h:b=true↔p):(p->b=true)/\(¬p->b=false):=⟨h.mpr,λn=>by cases b;rfl;exact absurd (h.mp rfl) n⟩
theorem aoV (F:Fun K "are_all_in" "are_all_in" S9 f fd):aY P w K mg base CX0 1 f fd wF (spP (wV K)):=by
 refine F.ok S_ (by walk_at "l") (λ_ A _ s H J Q E y B=> ?_);obtain⟨v,⟨a,b,I,G,e,o,p,h⟩,q⟩:=B;subst e;subst p;rcases h with ⟨C,u,j⟩ | ⟨d,t,j⟩
 .refine⟨_,(aF (d7 dG rfl (eV (pv 0)) (cQ (i:=2) S_.nd) (aD (aR (bF acE (pv 2) (pv 1) rfl) (aD (aK fO)) aV)))
   (aD (aK fO))),?_⟩
  refine aZ (Mq (λx=>∃n,x= .int n/\n∈C) (aj rfl) o ⟨none,rfl⟩ (λx l N g=> ?_) λv h=> ?_)
  .obtain⟨n,c,rfl⟩:=W6 l;refine gO (bM (afo (aj rfl) (aj rfl) u)) (λh=> ?_) λh=> ?_;.refine aU p_c ?_;have:=(uK j).2 (λz=>by simp at h;exact h (z n c));rw[this]at q;exact q
   .exact g ⟨n,rfl,by simpa using h⟩
  .dsimp only;refine aU p_c ?_;have:=j.mpr (λn c=>by obtain⟨m,e,h⟩:=h _ (aQ.mpr ⟨n,c,rfl⟩);injection e with e;rw[e];exact h);rw[this]at q;exact q
 .refine⟨_,(aF (d7 dG rfl (eV (pv 0)) (cQ (i:=2) S_.nd) (aD (aR (gA (g8 (bw y) (pv 2) (pv 1))) (aD (aK fO)) aV)))
   (aD (aK fO))),?_⟩
  refine aZ (Mq (λx=>∃n,x= .int n/\(ak d n).isSome=true) (aj rfl) o ⟨none,rfl⟩ (λx l N g=> ?_) λv h=> ?_)
  .obtain⟨n,c,rfl⟩:=W6 l;refine gO (p_b (W2 (aj rfl) (aj rfl) t)) (λh=> ?_) λh=> ?_;.refine aU p_c ?_;have:=(uK j).2 (λz=>by simp at h;have:=z n c;rw[h]at this;cases this);rw[this]at q;exact q
   .exact g ⟨n,rfl,by simpa using h⟩
  .dsimp only;refine aU p_c ?_;have:=j.mpr (λn c=>by obtain⟨m,e,h⟩:=h _ (aQ.mpr ⟨n,c,rfl⟩);injection e with e;rw[e];exact h);rw[this]at q;exact q
inductive zR (C:Addr) (vs:List V) (H:Hp) (v:V):Prop
 | mk a r p x T rk pr:vs=[.ref a,.int rk,.int pr]->TRd C H a r p x T->(pr=0\/(ak T.R pr).isSome=true)->v= .bl (decide (pr=0\/(ak T.R pr).getD 0 < rk))->zR C vs H v
theorem aoW (F:Fun K "may_stand_in" "may_stand_in" TJ f fd) (c:cA K mg C):aY P w K mg base CX0 1 f fd wI (spP (zR C)):=by
 refine F.ok amj (by walk_at "l") (λ_ A _ s H t Q E l n=> ?_);obtain⟨v,⟨a,r,p,x,T,o,g,e,h,j,i⟩,q⟩:=n;subst e;subst i;refine⟨_,(aD (aK (Cd (gY bU (pv 2) aM) (mz (gY yG (cu (aO (pv 0) rfl) (pv 2) (bw l)) (pv 1)))))),?_⟩;by_cases d:g=0
 .refine aU (Mp (b:=true) (c:=false) ?_ (λz=>by cases z)) ?_
  .have:PE0 (tOp rEq (bA 2) (tC (V.int 0))) (start aex [.ref a,.int o,.int g]) H (.bl (decide (g=0))):=by walk_at "p"
   rw[cF d]at this;exact this
  .rw[cF (.inl d)]at q;exact q
 .obtain⟨u,m⟩:=gj.mp (j.resolve_left d);refine' aU ?h ?_
  case h=>walk_at "p"
  refine vb q ?_;rw[<-yc,m];rfl
end
section
variable {K:aW} {H:Hp} {σ:L2.St} {D:Ends} {j:Nat} {tb:TS}
def LoopAt (K:aW) (a:Addr) (g:TG) (tb:TS) (D:Ends) (σ:L2.St) (H:Hp):Prop:=(∃f,SqL K H a f)/\∃W:Nat->Nat->L2.St->Hp->Prop,(∃m,W 0 m σ H)/\∀i m σ H,W i m σ H->
 ((Itl K a).stop i H/\D.nx σ H)\/((Itl K a).go i H/\∃N:L2.St->Hp->Prop,(∀d b,N d b->∃c,c < m/\W (i+1) c d b)/\∀x b,(Itl K a).yld i H x b->g x σ b λh e=>tb {D with nx:=N,ct:=N,bk:=D.nx} h e)
theorem gQ (h:te σ H λx b=>∃a,x= .ref a/\LoopAt K a g tb D σ b):ud (vJ K te) g tb D σ H:=h
theorem jN (I:Nat->Hp->Prop) (f:I 0 H) (g:∀i b,I i b->SqL K b a xs) (n:∃v,σ=σ.set j v)
  (turn:∀i x b,xs[i]? =some x->I i b->∀N:L2.St->Hp->Prop,(∀c,I (i+1) c->N (σ.set j (some x)) c)->tb {D with nx:=N,ct:=N,bk:=D.nx} (σ.set j (some x)) b)
  (fin:∀v b,I xs.length b->D.nx (σ.set j v) b):LoopAt K a (jC j) tb D σ H:=by
 refine⟨⟨_,g 0 H f⟩,yF (λi d b=>I i b/\∃v,d=σ.set j v) ⟨f,n⟩ (λi σ b _ h=>g i b h.1) ?_ ?_⟩;.rintro i y d b m ⟨h,⟨v,rfl⟩⟩;have e:(σ.set j v).set j (some y)=σ.set j (some y):=qp ..;show tb _ ((σ.set j v).set j (some y)) b;rw[e];exact turn i y b m h _ λc l=>⟨l,_,rfl⟩
 .rintro d b ⟨h,⟨v,rfl⟩⟩;exact fin v b h
theorem afp (o:j≠k) (I:Nat->Option V->Hp->Prop) (g:I 0 v0 H) (l:∀i u b,I i u b->SqL K b a xs) (p:∃v,σ=(σ.set k v0).set j v)
  (turn:∀i x u b,xs[i]? =some x->I i u b->∀N:L2.St->Hp->Prop,(∀c d,I (i+1) c d->N ((σ.set k c).set j (some x)) d)->tb {D with nx:=N,ct:=N,bk:=D.nx} ((σ.set k u).set j (some x)) b)
  (fin:∀v u b,I xs.length u b->D.nx ((σ.set k u).set j v) b):LoopAt K a (jC j) tb D σ H:=by
 refine⟨⟨_,l 0 _ H g⟩,yF (λi f b=>∃u,I i u b/\∃v,f=(σ.set k u).set j v) ⟨v0,g,p⟩ (λi σ b _ ⟨u,h,_⟩=>l i u b h) ?_ ?_⟩;.rintro i y f b n ⟨u,h,⟨v,rfl⟩⟩;have e:((σ.set k u).set j v).set j (some y)=(σ.set k u).set j (some y):=qp ..;show tb _ (((σ.set k u).set j v).set j (some y)) b;rw[e];exact turn i y u b n h _ λc d m=>⟨c,m,_,rfl⟩
 .rintro f b ⟨u,h,⟨v,rfl⟩⟩;exact fin v u b h
end
section
theorem aoX (F:Fun K "specimens_in" "specimens_in" Tv f fd) (c:cA K mg C):aY P w K mg base CX0 1 f fd rW (jt C cG.X):=by
 refine F.ok Tw (by walk_at "l") (λ_ A _ s H vs Q E U W=> ?_);obtain⟨a,r,p,x,T,k,e,h,l,N,Y⟩:=W;subst e;refine'⟨_,aD (aK (vX (lE (own:=[("x",2)]) rfl Tw.nd (mG (aO (pv 0) rfl)) (lF rfl) ?g ?t ?e))),?_⟩
 case g=>exact λ_ _ _ _ _=>cQ (i:=2) Tw.nd
 case t=>exact λ_ _ _ _ _=>vP (bF bU (cu (En K (pv 0)) (pv 2) (bw U)) (pv 1))
 case e=>exact λ_ _ _ _ _=>pv 2
 refine bL (wM h.hx gK λG=> ?_);have o:=h.Wq G;refine nH (qQ ?_);refine wK c o rfl ⟨_,G,rfl,.inl ⟨_,aH,λl u=> ?_⟩⟩;refine oM (isIn T.X k) id u (by rw[aJ,rT];exact rA (by assumption) (by decide)) (zK aH) (λy L O I R q=> ?_) (λy L _ O I R q=>kj rfl q) ?_
 .obtain⟨j,v,rfl,S⟩:=mem_keys L;have J:=(bY N).mp S;refine Wr (jM (Ek ?_));refine wK c (o.same I) rfl (kj rfl ⟨x,_,rfl,dg (o.same I).hx J,kj rfl (Em ⟨_,rfl,?_⟩)⟩);have e:isIn T.X k (V.int j)=decide (v=k):=by show decide (ak T.X j=some k)=_;rw[J];exact fH ⟨λz=>by injection z,λz=>by rw[z]⟩
  rw[<-e];exact q
 .have d:=aX aH u;refine⟨by rw[aC d,aH],?_⟩;obtain⟨_,B⟩:=fC u;have e:upd (upd (upd H x (.frz G (.dK (dI T.X)))) l (.lst (((((dI T.X).map λZ=>kV Z.1).filter (isIn T.X k)).map id)))) x (.dK (dI T.X))=upd H l (.lst ((kin T.X k).map V.int)):=by
   rw[Ww _ N];funext b;by_cases m:b=x;.subst m;rw[aH,aC d,h.hx]
   .rw[aC m];by_cases n:b=l;.subst n;rw[aH,aH]
    .rw[aC n,aC m,aC n]
  rw[e];exact Y l B
theorem aoY (F:Fun K "groups_of_rank" "groups_of_rank" Tr f fd) (c:cA K mg C):aY P w K mg base CX0 1 f fd Du (jt C cG.R):=by
 refine F.ok Tt (by walk_at "l") (λ_ A _ s H vs Q E W X=> ?_);obtain⟨a,r,p,x,T,k,e,h,l,N,Y⟩:=X;subst e;refine'⟨_,aD (aK (vX (lE (own:=[("key",2)]) rfl Tt.nd (mG (aO (pv 0) rfl)) (lF rfl) ?g ?t ?e))),?_⟩
 case g=>exact λ_ _ _ _ _=>cQ (i:=2) Tt.nd
 case t=>exact λ_ _ _ _ _=>vP (bF bU (cu (En K (pv 0)) (pv 2) (bw W)) (pv 1))
 case e=>exact λ_ _ _ _ _=>pv 2
 refine bL (wM h.hr gK λG=> ?_);have o:=h.Ei G;refine nH (qQ ?_);refine rZ c o rfl ⟨_,G,rfl,.inl ⟨_,aH,λl u=> ?_⟩⟩;refine oM (isIn T.R k) id u (by rw[aJ,rT];exact rA (by assumption) (by decide)) (zK aH) (λy L O I S q=> ?_) (λy L _ O I S q=>kj rfl q) ?_
 .obtain⟨j,v,rfl,U⟩:=mem_keys L;have J:=(bY N).mp U;refine Wr (jM (Ek ?_));refine rZ c (o.same I) rfl (kj rfl ⟨r,_,rfl,dg (o.same I).hr J,kj rfl (Em ⟨_,rfl,?_⟩)⟩);have e:isIn T.R k (V.int j)=decide (v=k):=by show decide (ak T.R j=some k)=_;rw[J];exact fH ⟨λz=>by injection z,λz=>by rw[z]⟩
  rw[<-e];exact q
 .have d:=aX aH u;refine⟨by rw[aC d,aH],?_⟩;obtain⟨_,B⟩:=fC u;have e:upd (upd (upd H r (.frz G (.dK (dI T.R)))) l (.lst (((((dI T.R).map λZ=>kV Z.1).filter (isIn T.R k)).map id)))) r (.dK (dI T.R))=upd H l (.lst ((kin T.R k).map V.int)):=by
   rw[Ww _ N];funext b;by_cases m:b=r;.subst m;rw[aH,aC d,h.hr]
   .rw[aC m];by_cases n:b=l;.subst n;rw[aH,aH]
    .rw[aC n,aC m,aC n]
  rw[e];exact Y l B
theorem wW (o:bG r p x H H') (h:H l=some (.lst ns)) (a:H r=some (.dK u)) (b:H p=some (.dK v)) (c:H x=some (.dK y)):H' l=some (.lst ns):=
 o l _ h (cJ h a (by intro z;cases z)) (cJ h b (by intro z;cases z)) (cJ h c (by intro z;cases z))
inductive Er (C:Addr) (vs:List V) (H:Hp) (Q:VK) (E:XK):Prop
 | mk a r p x T o n:vs=[.ref a,.int o,.int n]->bQ C H a r p x T->T.P.length < 1000->T.X.length < 1000->ND T.P->ND T.X->(∀H',bQ C H' a r p x ⟨T.R,lN T.P o n,lN T.X o n⟩->bG r p x H H'->Q .non H')->Er C vs H Q E
theorem zT (d:D) (k v:Int):(dput d k v).length<=d.length+1:=by have:=congrArg iR (Rw d k v);rw[aJ]at this;rw[this];split <;> simp
theorem Es (v:Int):∀ks d,(iK d ks v).length<=d.length+ks.length
 | [],d=>by show d.length<=_;simp
 | k::ks,d=>by rw[ady];have:=Es v ks (dput d k v);have:=zT d k v;rw[bR];omega
theorem Mr (d:D) (ks:List Int) (k v:Int):iK d (ks++[k]) v=dput (iK d ks v) k v:=by unfold iK;rw[Pj];rfl
theorem i_ {ks:List Int} {i:Nat} {k:Int} (h:ks[i]? =some k):ks.take (i+1)=ks.take i++[k]:=by rw[j6,h];rfl
theorem Ms (d:D) (o:Int):(kin d o).length<=d.length:=by unfold kin;rw[aJ];exact fG _ _
theorem aoZ (F:Fun K "hand_over" "hand_over" Tz f fd) (c:cA K mg C) (nO:Df P w K mg base "groups_in" qO 1 (jt C cG.P)) (pW:Df P w K mg base "specimens_in" rW 1 (jt C cG.X)):aY P w K mg base CX0 2 f fd zA (Er C):=by
 refine F.ok TF (by walk_at "l") (λ_ A _ s H vs Q E z U=> ?_);obtain⟨a,r,p,x,T,o,n,e,h,l1,G,n1,n2,q⟩:=U;subst e;refine⟨_,(aF (d7 dG rfl (eV (aL nO z (ao (pv 0) (ao (pv 1) aA)))) (cQ (i:=3) TF.nd) (aD (jQ (bw z) (aO (pv 0) rfl) (pv 3) (pv 2) rfl)))
   (aD (d7 dG rfl (eV (aL pW z (ao (pv 0) (ao (pv 1) aA)))) (cQ (i:=4) TF.nd) (aD (jQ (bw z) (aO (pv 0) rfl) (pv 4) (pv 2) rfl))))),?_⟩
 refine aZ (gQ ?_);refine(aq (aj rfl) (aq (aj rfl) aG)) _ ⟨a,r,p,x,T,o,rfl,h,by omega,n1,λl L=>⟨l,rfl,?_⟩⟩;have t:=h.same (Same.upd (o:= .lst ((kin T.P o).map V.int)) L);refine jN (λi b=>bQ C b a r p x ⟨T.R,iK T.P ((kin T.P o).take i) n,T.X⟩/\bG r p x (upd H l (.lst ((kin T.P o).map V.int))) b) ⟨t,.refl⟩ (λi b d=>SqL.of (wW d.2 aH t.hr t.hp t.hx)) ⟨none,rfl⟩ ?_ ?_
 .rintro i y b d ⟨g,I⟩ N nx;obtain⟨k,B,rfl⟩:=get_map d;have W:=Es n ((kin T.P o).take i) T.P;have Y:=Ms T.P o;have Z:((kin T.P o).take i).length<=(kin T.P o).length:=by rw[fD];omega
  refine uJ (by walk_at "p") (by walk_at "p") (aj rfl) g.hp (by show(iK _ _ _).length < _;omega) (nx _ ?_);rw[i_ B,Mr];exact⟨g.wP _,I.trans (.uP _)⟩
 .rintro v O ⟨g,I⟩;rw[aJ,fM]at g;dsimp only;refine gQ ?_;refine(aq (aj rfl) (aq (aj rfl) aG)) _ ⟨a,r,p,x,_,o,rfl,g,by show T.X.length < _;omega,n2,λG m=>⟨G,rfl,?_⟩⟩;have u:=g.same (Same.upd (o:= .lst ((kin T.X o).map V.int)) m);refine jN (λi b=>bQ C b a r p x ⟨T.R,lN T.P o n,iK T.X ((kin T.X o).take i) n⟩/\bG r p x (upd O G (.lst ((kin T.X o).map V.int))) b) ⟨u,.refl⟩ (λi b d=>SqL.of (wW d.2 aH u.hr u.hp u.hx)) ⟨none,rfl⟩ ?_ ?_
  .rintro i y b d ⟨j,J⟩ N nx;obtain⟨k,B,rfl⟩:=get_map d;have W:=Es n ((kin T.X o).take i) T.X;have Y:=Ms T.X o;have Z:((kin T.X o).take i).length<=(kin T.X o).length:=by rw[fD];omega
   refine uJ (by walk_at "p") (by walk_at "p") (aj rfl) j.hx (by show(iK _ _ _).length < _;omega) (nx _ ?_);rw[i_ B,Mr];exact⟨j.wX _,J.trans (.uX _)⟩
  .rintro v' S ⟨j,J⟩;rw[aJ,fM]at j;exact q S j (((Same.only (Same.upd L)).trans I).trans ((Same.only (Same.upd m)).trans J))
end
def PE1 (b:TE) (σ:L2.St) (H:Hp) (v:V):Prop:=∀Q:VK,(∀a,Same H a->Q v a)->b σ H Q
def PT1 (c:TT) (σ:L2.St) (H:Hp) (b:Bool):Prop:=∀Q:Bool->Hp->Prop,(∀a,Same H a->Q b a)->c σ H Q
theorem Same.eO:Same H H:=λ_ _ e=>e
section
variable {σ:L2.St} {H:Hp} {D:Ends}
theorem PT0.up (h:PT0 tt σ H b):PT1 tt σ H b:=λQ q=>h Q (q H Same.eO)
theorem afq (g:PT1 t σ H b) (h:∀d,Same H d->b=true->PT1 u σ d c):PT1 (yE t u) σ H (b&&c):=λQ q=>g _ λe a=>by
 cases b;.exact q e a
 .exact h e a rfl _ λf i=>q f (a.trans i)
theorem Et (g:PT1 t σ H b) (h:∀d,Same H d->b=false->PT1 u σ d c):PT1 (tOr t u) σ H (b||c):=λQ q=>g _ λe a=>by
 cases b;.exact h e a rfl _ λf i=>q f (a.trans i)
 .exact q e a
theorem sI (a:PT1 t σ H b):PT1 (Ca t) σ H (!b):=λQ q=>a _ q
theorem q_b (h:PE1 te σ H (.bl b)):PT1 (tB te) σ H b:=λQ q=>h _ λa s=>⟨b,rfl,q a s⟩
theorem W7 (h:PE1 te σ H (.bl b)):PT1 (mD te) σ H b:=λQ q=>h _ λa s=>⟨b,rfl,q a s⟩
theorem ao0 (h:PT1 c σ H b) (d:∀a,Same H a->b=true->t D σ a) (e:∀a,Same H a->b=false->u D σ a):oJ c t u D σ H:=h _ (λa s=>by cases b;exact e a s rfl;exact d a s rfl)
theorem bD (h:PT0 c σ H b) (a:b=true->t {D with nx:=u D} σ H) (d:b=false->u D σ H):nu (oJ c t t_) u D σ H:=h _ (by cases b;exact d rfl;exact a rfl)
theorem qR (h:PT1 c σ H b) (d:∀a,Same H a->b=true->t {D with nx:=u D} σ a) (e:∀a,Same H a->b=false->u D σ a):nu (oJ c t t_) u D σ H:=h _ (λa s=>by cases b;exact e a s rfl;exact d a s rfl)
theorem o_ (h:PE0 te σ H v) (q:u D (σ.set j (some v)) H):nu (Cg te (jC j)) u D σ H:=h _ q
theorem W8 (b:PE0 tv σ H (.int v)) (c:PE0 td σ H (.ref a)) (e:PE0 ty σ H (.int k)) (f:H a=some (.dK (dI d))) (l:d.length < 100000) (q:u D σ (upd H a (.dK (dI (dput d k v))))):nu (Ia td ty tv) u D σ H:=uJ b c e f l q
theorem ao1 (b:PE0 td σ H (.ref a)) (c:PE0 ty σ H (.int k)) (e:H a=some (.dK (dI d))) (f:ak d k=some v) (q:u D σ (upd H a (.dK (dI (dU d k))))):nu (pP (Ib td ty)) u D σ H:=afl b c e f q
theorem zU (h:PA0 ta σ H vs) (q:sp (vs++[]) H (λ_ a=>u D σ a) E0):nu (pP (lD sp [] E0 ta)) u D σ H:=h _ q
def gU (R:List V->Hp->V->Prop):Sp:=λb H Q _=>∃v,R b H v/\∀a,Same H a->Q v a
theorem kJ (h:PA0 ta σ H vs) (a:R vs H v):PE1 (lD (gU R) [] E0 ta) σ H v:=λQ q=>h _ ⟨v,by rw[gH];exact a,q⟩
theorem ao2 (c:PE0 td σ H (.ref a)) (f:PE0 ty σ H (.int k)) (g:PE0 tx σ H (.int z)) (b:Rd H a (.dK (dI d))):PE0 (ac1 td ty tx) σ H (.int ((ak d k).getD z)):=λQ q=>
 c _ ⟨a,rfl,.inl ⟨_,b⟩,f _ (g _ ⟨_,dg0 b,by cases e:ak d k <;> rw[e]at q <;> exact q⟩)⟩
end
def qT (a r p x:Addr) (H c:Hp):Prop:=∀b o,H b=some o->b≠a->b≠r->b≠p->b≠x->c b=some o
theorem Same.o4 (s:Same H H'):qT a r p x H H':=λb o e _ _ _ _=>s b o e
theorem bG.o4 (s:bG r p x H H'):qT a r p x H H':=λb o e _ c d f=>s b o e c d f
theorem qT.trans {a r p x:Addr} {H c d:Hp} (h:qT a r p x H c) (k:qT a r p x c d):qT a r p x H d:=λb o e f g i j=>k b o (h b o e f g i j) f g i j
def Fr3 (H:Hp) (r p x b a c:Addr):Prop:=(b=r\/H b=none)/\(a=p\/H a=none)/\(c=x\/H c=none)
theorem fr0:Fr3 H r p x r p x:=⟨.inl rfl,.inl rfl,.inl rfl⟩
def EdQ (C a r p x:Addr) (c:Except Int b_) (H:Hp) (Q:VK):Prop:=(∀n,c= .error n->∀b,qT a r p x H b->Q (.int n) b)/\
 ∀d,c= .ok d->∀b g f h e,Fr3 H r p x g f h->qT a r p x H b->bQ C b a g f h e->Rel e d->WF d->Q (.int 0) b
structure TAt (C:Addr) (H:Hp) (a r p x:Addr) (T:cG) (t:b_):Prop where
 own:bQ C H a r p x T
 rel:Rel T t
 wf:WF t
theorem TAt.same {C:Addr} {H b:Hp} {a r p x:Addr} {T:cG} {t:b_} (h:TAt C H a r p x T t) (s:Same H b):TAt C b a r p x T t:=⟨h.own.same s,h.rel,h.wf⟩
section
variable {C:Addr} {H:Hp} {a r p x:Addr} {T:cG} {t:b_}
theorem TAt.gr (h:TAt C H a r p x T t) (k:Int):ak T.R k=ak (gR t) k:=h.rel.gr h.wf.toSrt k
theorem TAt.gp (h:TAt C H a r p x T t) (k:Int):ak T.P k=ak (gP t) k:=h.rel.gp h.wf.toSrt k
theorem TAt.gx (h:TAt C H a r p x T t) (k:Int):ak T.X k=ak (gX t) k:=h.rel.gx h.wf.toSrt k
theorem TAt.lR (h:TAt C H a r p x T t):T.R.length<=32:=by rw[h.rel.qI];exact h.wf.ng
theorem TAt.lP (h:TAt C H a r p x T t):T.P.length<=32:=by rw[h.rel.adx];exact h.wf.ng
theorem TAt.lX (h:TAt C H a r p x T t):T.X.length<=64:=by rw[h.rel.uw];exact h.wf.nx
theorem TAt.nP (h:TAt C H a r p x T t):ND T.P:=h.rel.np h.wf.toSrt
theorem TAt.nX (h:TAt C H a r p x T t):ND T.X:=h.rel.nx h.wf.toSrt
theorem TAt.nR (h:TAt C H a r p x T t):ND T.R:=h.rel.nr h.wf.toSrt
theorem TAt.both (h:TAt C H a r p x T t) (e:ak (gR t) k=some v):ak T.R k=some v/\∃q,ak T.P k=some q/\ak (gP t) k=some q:=by refine⟨by rw[h.gr];exact e,?_⟩;have:=jR t k;rw[e]at this;obtain⟨q,b⟩:=gj.mp this;exact⟨q,by rw[h.gp];exact b,b⟩
theorem TAt.par (h:TAt C H a r p x T t) (e:ak (gP t) k=some q):q=0\/(ak T.R q).isSome=true:=by
 rcases h.wf.par k q e with z | ⟨u,_,z,_⟩;.exact .inl z
 .exact .inr (by rw[h.gr,z];rfl)
theorem TAt.isR (h:TAt C H a r p x T t) (e:¬ak (gR t) k=none):∃v q,ak (gR t) k=some v/\ak T.R k=some v/\ak T.P k=some q/\ak (gP t) k=some q:=by obtain⟨v,b⟩:=none_or.resolve_left e;obtain⟨c,q,d,f⟩:=h.both b;exact⟨v,q,b,c,d,f⟩
end
section
variable {A B E F:Prop} [Decidable A] [Decidable B] [Decidable E] [Decidable F]
theorem n2t:(!decide A|| !decide B)=true↔¬(A/\B):=by by_cases a:A <;> by_cases b:B <;> simp[a,b]
theorem n2f:(!decide A|| !decide B)=false↔(A/\B):=by by_cases a:A <;> by_cases b:B <;> simp[a,b]
theorem n3t:(!decide A||(!decide B|| !decide E))=true↔¬(A/\B/\E):=by by_cases a:A <;> by_cases b:B <;> by_cases e:E <;> simp[a,b,e]
theorem n3f:(!decide A||(!decide B|| !decide E))=false↔(A/\B/\E):=by by_cases a:A <;> by_cases b:B <;> by_cases e:E <;> simp[a,b,e]
theorem n1t:(!decide A)=true↔¬A:=by by_cases a:A <;> simp[a]
theorem n1f:(!decide A)=false↔A:=by by_cases a:A <;> simp[a]
end
theorem isN:(!o.isSome)=true↔o=none:=by cases o <;> simp
theorem isS:(!o.isSome)=false↔¬o=none:=by cases o <;> simp
section
inductive Mu (C:Addr) (vs:List V) (H:Hp) (v:V):Prop
 | mk a r p x T pr:vs=[.ref a,.int pr]->TRd C H a r p x T->v= .bl (decide (pr≠0/\ak T.R pr=none))->Mu C vs H v
theorem ao3 (F:Fun K "is_parent_missing" "is_parent_missing" Uv f fd) (c:cA K mg C):aY P w K mg base CX0 1 f fd DK (spP (Mu C)):=by
 refine F.ok amE (by walk_at "l") (λ_ A _ s H j Q E d g=> ?_);obtain⟨v,⟨a,r,p,x,T,i,e,h,b⟩,q⟩:=g;subst e;subst b;refine⟨_,(aD (aK (oH (gY jE (pv 1) aM) (mz (abY (g8 (bw d) (pv 1) (aO (pv 0) rfl))))))),?_⟩;refine' aU ?h ?_
 case h=>walk_at "p"
 refine vb q ?_;cases e:ak T.R i <;> simp
section
variable (gB:Df P w K mg base "is_key" qM 1 (spB isKey)) (pX:Df P w K mg base "is_rank" uz 1 (spB iy)) (sJ:Df P w K mg base "is_parent" wC 2 (spB jr))
 (Eu:Df P w K mg base "is_parent_missing" DK 1 (spP (Mu C))) (qU:Df P w K mg base "may_stand_in" wI 1 (spP (zR C))) (nQ:Df P w K mg base "set_group" qN 1 (sE C))
 (uL:Df P w K mg base "drop_group" wH 1 (zP C)) (zV:Df P w K mg base "hand_over" zA 2 (Er C)) (nO:Df P w K mg base "groups_in" qO 1 (jt C cG.P)) (pW:Df P w K mg base "specimens_in" rW 1 (jt C cG.X))
inductive W9 (C:Addr) (vs:List V) (H:Hp) (Q:VK) (E:XK):Prop
 | mk a r p x T t s k rk pr:vs=[.ref a,.int k,.int rk,.int pr]->TAt C H a r p x T t->EdQ C a r p x (jB s t (.group k rk pr)) H Q->W9 C vs H Q E
include gB pX sJ Eu qU nQ in
theorem ao4 (F:Fun K "add_group" "add_group" Uw f fd) (c:cA K mg C) (m:Cs K mg):aY P w K mg base CX0 3 f fd J6 (W9 C):=by
 refine F.ok amG (by walk_at "l") (λ_ A _ s H U Q E o J=> ?_);obtain⟨a,r,p,x,T,t,s,k,y,n,e,h,q⟩:=J;subst e;have u:=h.own;refine⟨_,(aF (aR (PW.pt (gW (cN (bV (aL gB o (ao (pv 1) aA)))) (gW (cN (bV (aL pX o (ao (pv 2) aA)))) (jm (cN (bV (aL sJ o (ao (pv 3) aA)))))))) (aD (aK (aN m.ju))) aV)
   (aF (aR (gA (Cw (bw o) (pv 1) (aO (pv 0) rfl))) (aD (aK (aN m.Mj))) aV)
   (aF (aR (bV (aL Eu o (ao (pv 0) (ao (pv 3) aA)))) (aD (aK (aN m.kE))) aV)
   (aF (aR (cN (bV (aL qU o (ao (pv 0) (ao (pv 2) (ao (pv 3) aA)))))) (aD (aK (aN m.wN))) aV)
   (aF (aR (bF Hv (cB qG rfl m.len dF (ao (aO (pv 0) rfl) aA)) (aN m.Wz)) (aD (aK (aN m.FULL))) aV)
   (aF (eE (aL nQ o (ao (pv 0) (ao (pv 1) (ao (pv 2) (ao (pv 3) aA))))))
   (aD (aK (aN m.iQ))))))))),?_⟩
 rw[akc]at q;refine' bD ?h1 (λb=> ?_) λi=> ?_
 case h1=>walk_at "p"
 .rw[aB (n3t.mp b)]at q;exact aU p_c (q.1 _ rfl _ (Same.o4 Same.eO))
 have i:=n3f.mp i;rw[au (oE i)]at q;refine' bD ?h2 (λb=> ?_) λd=> ?_
 case h2=>walk_at "p"
 .rw[h.gr]at b;rw[aB b]at q;exact aU p_c (q.1 _ rfl _ (Same.o4 Same.eO))
 rw[h.gr]at d;have d:¬(ak (gR t) k).isSome=true:=by rw[d];simp
 rw[au d]at q;refine bD (p_b (jw (aq (aj rfl) (aq (aj rfl) aG)) ⟨a,r,p,x,T,n,rfl,u.rd,rfl⟩)) (λb=> ?_) λj=> ?_;.rw[h.gr,cH]at b;rw[aB b]at q;exact aU p_c (q.1 _ rfl _ (Same.o4 Same.eO))
 rw[h.gr,iu]at j;rw[au j]at q;have I:n=0\/(ak T.R n).isSome=true:=by
  by_cases z:n=0;.exact .inl z
  .refine .inr ?_;rw[h.gr];cases e:ak (gR t) n with
   | none=>exact absurd ⟨z,e⟩ j
   | some v=>rfl
 refine bD (gM (p_b (jw (aq (aj rfl) (aq (aj rfl) (aq (aj rfl) aG))) ⟨a,r,p,x,T,y,n,rfl,u.rd,I,rfl⟩))) (λb=> ?_) λg=> ?_;.rw[h.gr]at b;rw[aB (not_or.mp (n1t.mp b))]at q;exact aU p_c (q.1 _ rfl _ (Same.o4 Same.eO))
 rw[h.gr]at g;have g:=λz=>not_or.mpr z (n1f.mp g);rw[au g]at q;refine' bD ?h5 (λb=> ?_) λl=> ?_
 case h5=>walk_at "p"
 .rw[cH,h.rel.qI]at b;rw[aB (by omega)]at q;exact aU p_c (q.1 _ rfl _ (Same.o4 Same.eO))
 rw[iu,h.rel.qI]at l;have l:¬32<=t.groups.length:=by omega
 rw[au l]at q;have O:=h.lR;have S:=h.lP;refine zU (aq (aj rfl) (aq (aj rfl) (aq (aj rfl) (aq (aj rfl) aG)))) ⟨a,r,p,x,T,k,y,n,rfl,u,by omega,by omega,?_⟩;have B:=u.wR (dput T.R k y);have G:=B.wP (dput T.P k n);obtain⟨L,N⟩:=akd h.wf i d j g l h.rel;exact aU p_c (q.2 _ rfl _ r p x _ fr0 (bG.o4 ((bG.uR _).trans (bG.uP _))) G N L)
end
end
section
variable (gB:Df P w K mg base "is_key" qM 1 (spB isKey)) (pX:Df P w K mg base "is_rank" uz 1 (spB iy)) (sJ:Df P w K mg base "is_parent" wC 2 (spB jr))
 (Eu:Df P w K mg base "is_parent_missing" DK 1 (spP (Mu C))) (qU:Df P w K mg base "may_stand_in" wI 1 (spP (zR C))) (nQ:Df P w K mg base "set_group" qN 1 (sE C))
 (uL:Df P w K mg base "drop_group" wH 1 (zP C)) (zV:Df P w K mg base "hand_over" zA 2 (Er C)) (nO:Df P w K mg base "groups_in" qO 1 (jt C cG.P)) (pW:Df P w K mg base "specimens_in" rW 1 (jt C cG.X))
inductive W_ (C:Addr) (vs:List V) (H:Hp) (Q:VK) (E:XK):Prop
 | mk a r p x T t s k g:vs=[.ref a,.int k,.int g]->TAt C H a r p x T t->EdQ C a r p x (jB s t (.put k g)) H Q->W_ C vs H Q E
include gB in
theorem ao5 (F:Fun K "put_specimen" "put_specimen" Ux f fd) (c:cA K mg C) (l:Cs K mg):aY P w K mg base CX0 3 f fd J7 (W_ C):=by
 refine F.ok amI (by walk_at "l") (λ_ A _ s H G Q E m u=> ?_);obtain⟨a,r,p,x,T,t,s,k,g,e,h,q⟩:=u;subst e;have o:=h.own;refine⟨_,(aF (aR (PW.pt (gW (cN (bV (aL gB m (ao (pv 1) aA)))) (jm (cN (bV (aL gB m (ao (pv 2) aA))))))) (aD (aK (aN l.ju))) aV)
   (aF (aR (gA (g8 (bw m) (pv 2) (aO (pv 0) rfl))) (aD (aK (aN l.kE))) aV)
   (aF (aR (bF bU (ajD (bw m) (aO (pv 0) rfl) (pv 1) aM ⟨rfl,rfl,rfl,rfl⟩) (pv 2)) (aD (aK (aN l.zQ))) aV)
   (aF (aR (PW.pt (pO (gA (g8 (bw m) (pv 1) (aO (pv 0) rfl))) (pN (bF Hv (cB qG rfl l.len dF (ao (aO (pv 0) rfl) aA)) (aN l.afb))))) (aD (aK (aN l.FULL))) aV)
   (aF (jQ (bw m) (aO (pv 0) rfl) (pv 1) (pv 2) rfl)
   (aD (aK (aN l.iQ)))))))),?_⟩
 rw[ake h.wf]at q;refine' bD ?h1 (λi=> ?_) λj=> ?_
 case h1=>walk_at "p"
 .rw[aB (n2t.mp i)]at q;exact aU p_c (q.1 _ rfl _ (Same.o4 Same.eO))
 have j:=n2f.mp j;rw[au (oE j)]at q;refine' bD ?h2 (λi=> ?_) λb=> ?_
 case h2=>walk_at "p"
 .rw[h.gr]at i;rw[aB (isN.mp i)]at q;exact aU p_c (q.1 _ rfl _ (Same.o4 Same.eO))
 rw[h.gr]at b;have b:=isS.mp b;rw[au b]at q;refine bD (bM (p_eq (ao2 (p_X rfl o.rd c) (aj rfl) p_c o.rd.hx) (aj rfl))) (λi=> ?_) λn=> ?_;.rw[h.gx,cH]at i;rw[aB i]at q;exact aU p_c (q.1 _ rfl _ (Same.o4 Same.eO))
 rw[h.gx,iu]at n;rw[au n]at q;refine' bD ?h4 (λi=> ?_) λd=> ?_
 case h4=>walk_at "p"
 .rw[h.gx,h.rel.uw,dY,isN,cH]at i;rw[aB ⟨i.1,by omega⟩]at q;exact aU p_c (q.1 _ rfl _ (Same.o4 Same.eO))
 have d:¬(ak (gX t) k=none/\64<=t.specimens.length):=λz=>by rw[h.gx,h.rel.uw,z.1]at d;simp at d;omega
 rw[au d]at q;have B:=h.lX;obtain⟨v,y⟩:=akf h.wf j b d h.rel;refine W8 (aj rfl) (p_X rfl o.rd c) (aj rfl) o.hx (by omega) ?_;exact aU p_c (q.2 _ rfl _ r p x _ fr0 (bG.o4 (bG.uX _)) (o.wX _) y v)
inductive Xa (C:Addr) (vs:List V) (H:Hp) (Q:VK) (E:XK):Prop
 | mk a r p x T t s k:vs=[.ref a,.int k]->TAt C H a r p x T t->EdQ C a r p x (jB s t (.take k)) H Q->Xa C vs H Q E
include gB in
theorem ao6 (F:Fun K "take_specimen" "take_specimen" Uy f fd) (c:cA K mg C) (i:Cs K mg):aY P w K mg base CX0 3 f fd J8 (Xa C):=by
 refine F.ok amK (by walk_at "l") (λ_ A _ s H y Q E l n=> ?_);obtain⟨a,r,p,x,T,t,s,k,e,h,q⟩:=n;subst e;have j:=h.own;refine⟨_,(aF (aR (cN (bV (aL gB l (ao (pv 1) aA)))) (aD (aK (aN i.ju))) aV)
   (aF (aR (gA (g8 (bw l) (pv 1) (aO (pv 0) rfl))) (aD (aK (aN i.kE))) aV)
   (aF (eE (Ie (aO (pv 0) rfl) (pv 1) ⟨rfl,rfl,rfl,rfl⟩))
   (aD (aK (aN i.iQ)))))),?_⟩
 rw[akg h.wf]at q;refine' bD ?h1 (λg=> ?_) λd=> ?_
 case h1=>walk_at "p"
 .rw[aB (n1t.mp g)]at q;exact aU p_c (q.1 _ rfl _ (Same.o4 Same.eO))
 have d:=n1f.mp d;rw[au (oE d)]at q;refine' bD ?h2 (λg=> ?_) λb=> ?_
 case h2=>walk_at "p"
 .rw[h.gx]at g;rw[aB (isN.mp g)]at q;exact aU p_c (q.1 _ rfl _ (Same.o4 Same.eO))
 rw[h.gx]at b;have b:=isS.mp b;rw[au b]at q;obtain⟨v,m⟩:=none_or.resolve_left b;obtain⟨o,u⟩:=akh h.wf d h.rel;refine ao1 (p_X rfl j.rd c) (aj rfl) j.hx (by rw[h.gx];exact m) ?_;exact aU p_c (q.2 _ rfl _ r p x _ fr0 (bG.o4 (bG.uX _)) (j.wX _) u o)
inductive Xb (C:Addr) (vs:List V) (H:Hp) (Q:VK) (E:XK):Prop
 | mk a r p x T t s k pr:vs=[.ref a,.int k,.int pr]->TAt C H a r p x T t->EdQ C a r p x (jB s t (.move k pr)) H Q->Xb C vs H Q E
include gB sJ Eu qU in
theorem ao7 (F:Fun K "move_group" "move_group" Uz f fd) (c:cA K mg C) (n:Cs K mg):aY P w K mg base CX0 3 f fd J9 (Xb C):=by
 refine F.ok amM (by walk_at "l") (λ_ A _ s H U Q E m L=> ?_);obtain⟨a,r,p,x,T,t,s,k,g,e,h,q⟩:=L;subst e;have l:=h.own;refine⟨_,(aF (aR (PW.pt (gW (cN (bV (aL gB m (ao (pv 1) aA)))) (jm (cN (bV (aL sJ m (ao (pv 2) aA))))))) (aD (aK (aN n.ju))) aV)
   (aF (aR (PW.pt (gW (gA (g8 (bw m) (pv 1) (aO (pv 0) rfl))) (jm (bV (aL Eu m (ao (pv 0) (ao (pv 2) aA))))))) (aD (aK (aN n.kE))) aV)
   (aF (aR (cN (bV (aL qU m (ao (pv 0) (ao (cu (aO (pv 0) rfl) (pv 1) (bw m)) (ao (pv 2) aA)))))) (aD (aK (aN n.wN))) aV)
   (aF (aR (bF bU (cu (aO (pv 0) rfl) (pv 1) (bw m)) (pv 2)) (aD (aK (aN n.zQ))) aV)
   (aF (jQ (bw m) (aO (pv 0) rfl) (pv 1) (pv 2) rfl)
   (aD (aK (aN n.iQ)))))))),?_⟩
 rw[aki]at q;refine' bD ?h1 (λi=> ?_) λj=> ?_
 case h1=>walk_at "p"
 .rw[aB (n2t.mp i)]at q;exact aU p_c (q.1 _ rfl _ (Same.o4 Same.eO))
 have j:=n2f.mp j;rw[au (oE j)]at q;refine bD (nJ (p_b (wO rfl l.rd c (aj rfl))) λ_=>p_b (jw (aq (aj rfl) (aq (aj rfl) aG)) ⟨a,r,p,x,T,g,rfl,l.rd,rfl⟩)) (λi=> ?_) λb=> ?_;.rw[h.gr,h.gr,m6,isN,cH]at i;rw[aB i]at q;exact aU p_c (q.1 _ rfl _ (Same.o4 Same.eO))
 have b:¬(ak (gR t) k=none\/(g≠0/\ak (gR t) g=none)):=by rw[h.gr,h.gr,tQ,isS,iu]at b;exact not_or.mpr b
 rw[au b]at q;obtain⟨v,u,y,G,I,B⟩:=h.isR (λz=>b (.inl z));have J:g=0\/(ak T.R g).isSome=true:=by
  by_cases z:g=0;.exact .inl z
  .refine .inr ?_;rw[h.gr];cases e:ak (gR t) g with
   | none=>exact absurd (.inr ⟨z,e⟩) b
   | some v=>rfl
 refine bD (gM (p_b (jw (aq (aj rfl) (aq (mO rfl l.rd c (aj rfl) G) (aq (aj rfl) aG))) ⟨a,r,p,x,T,v,g,rfl,l.rd,J,rfl⟩))) (λi=> ?_) λd=> ?_;.rw[h.gr]at i;rw[aB (by rw[lK y];exact not_or.mp (n1t.mp i))]at q;exact aU p_c (q.1 _ rfl _ (Same.o4 Same.eO))
 have d:¬(g≠0/\¬(ak (gR t) g).getD 0 < (ak (gR t) k).getD 0):=by rw[h.gr]at d;rw[lK y];exact λz=>not_or.mpr z (n1f.mp d)
 rw[au d]at q;refine bD (bM (p_eq (o8 rfl l.rd c (aj rfl) I) (aj rfl))) (λi=> ?_) λo=> ?_;.rw[aB (by rw[lK B];exact dz i)]at q;exact aU p_c (q.1 _ rfl _ (Same.o4 Same.eO))
 rw[au (by rw[lK B];exact iw o)]at q;have S:=h.lP;obtain⟨N,O⟩:=akj h.wf j b d h.rel;refine W8 (aj rfl) (p_P rfl l.rd c) (aj rfl) l.hp (by omega) ?_;exact aU p_c (q.2 _ rfl _ r p x _ fr0 (bG.o4 (bG.uP _)) (l.wP _) O N)
inductive Xc (C:Addr) (vs:List V) (H:Hp) (Q:VK) (E:XK):Prop
 | mk a r p x T t s k b:vs=[.ref a,.int k,.int b]->TAt C H a r p x T t->EdQ C a r p x (jB s t (.lump k b)) H Q->Xc C vs H Q E
theorem afr (n:ND d) (o m j:Int):(ak (lN d o m) j).isSome=(ak d j).isSome:=by rw[RK n,pJ]
include gB uL zV in
theorem ao8 (F:Fun K "lump_groups" "lump_groups" UG f fd) (c:cA K mg C) (n:Cs K mg):aY P w K mg base CX0 3 f fd J_ (Xc C):=by
 refine F.ok amO (by walk_at "l") (λ_ A _ s H vs Q E m O=> ?_);obtain⟨a,r,p,x,T,t,s,k,b,e,h,q⟩:=O;subst e;have G:=h.own;refine⟨_,(aF (aR (PW.pt (gW (cN (bV (aL gB m (ao (pv 1) aA)))) (jm (cN (bV (aL gB m (ao (pv 2) aA))))))) (aD (aK (aN n.ju))) aV)
   (aF (aR (PW.pt (gW (gA (g8 (bw m) (pv 1) (aO (pv 0) rfl))) (jm (gA (g8 (bw m) (pv 2) (aO (pv 0) rfl)))))) (aD (aK (aN n.kE))) aV)
   (aF (aR (bF bU (pv 1) (pv 2)) (aD (aK (aN n.zQ))) aV)
   (aF (aR (bF jE (cu (aO (pv 0) rfl) (pv 1) (bw m)) (cu (aO (pv 0) rfl) (pv 2) (bw m))) (aD (aK (aN n.wN))) aV)
   (aF (eE (aL zV m (ao (pv 0) (ao (pv 2) (ao (pv 1) aA)))))
   (aF (eE (aL uL m (ao (pv 0) (ao (pv 2) aA))))
   (aD (aK (aN n.iQ))))))))),?_⟩
 rw[akm]at q;refine' bD ?h1 (λl=> ?_) λg=> ?_
 case h1=>walk_at "p"
 .rw[aB (n2t.mp l)]at q;exact aU p_c (q.1 _ rfl _ (Same.o4 Same.eO))
 have g:=n2f.mp g;rw[au (oE g)]at q;refine' bD ?h2 (λl=> ?_) λd=> ?_
 case h2=>walk_at "p"
 .rw[h.gr,h.gr,m6,isN,isN]at l;rw[aB l]at q;exact aU p_c (q.1 _ rfl _ (Same.o4 Same.eO))
 have d:¬(ak (gR t) k=none\/ak (gR t) b=none):=by rw[h.gr,h.gr,tQ,isS,isS]at d;exact not_or.mpr d
 rw[au d]at q;obtain⟨v,u,I,L,Y,Z⟩:=h.isR (λz=>d (.inl z));obtain⟨v',u',o,y,B,N⟩:=h.isR (λz=>d (.inr z));refine' bD ?h3 (λl=> ?_) λi=> ?_
 case h3=>walk_at "p"
 .rw[aB (dz l)]at q;exact aU p_c (q.1 _ rfl _ (Same.o4 Same.eO))
 have i:=iw i;rw[au i]at q;refine bD (bM (gn (mO rfl G.rd c (aj rfl) L) (mO rfl G.rd c (aj rfl) y))) (λl=> ?_) λj=> ?_;.rw[aB (by rw[lK I,lK o];exact n1t.mp l)]at q;exact aU p_c (q.1 _ rfl _ (Same.o4 Same.eO))
 have j:¬(ak (gR t) k).getD 0≠(ak (gR t) b).getD 0:=by rw[lK I,lK o];exact oE (n1f.mp j)
 rw[au j]at q;have l1:=h.lP;have l2:=h.lX;obtain⟨U,W⟩:=akn h.wf g d i j h.rel _ rfl;refine zU (aq (aj rfl) (aq (aj rfl) (aq (aj rfl) aG))) ⟨a,r,p,x,T,b,k,rfl,G,by omega,by omega,h.nP,h.nX,λX J S=> ?_⟩;refine zU (aq (aj rfl) (aq (aj rfl) aG)) ⟨a,r,p,x,_,b,rfl,J,by show(ak T.R b).isSome=true;rw[y];rfl,by show(ak (lN T.P b k) b).isSome=true;rw[afr h.nP,B];rfl,?_⟩;exact aU p_c (q.2 _ rfl _ r p x _ fr0 (bG.o4 (S.trans ((bG.uR _).trans (bG.uP _)))) ((J.wR _).wP _) W U)
end
section
variable {K:aW} {H:Hp} {σ:L2.St} {D:Ends} {j:Nat} {tb:TS}
theorem exb (p:Prop):∃b:Bool,b=true↔p:=by
 by_cases h:p;.exact⟨true,by simp[h]⟩
 .exact⟨false,by simp[h]⟩
theorem ao9 (b:V->Prop) (m:SqL K H a xs) (l:∃v,σ=σ.set j v)
  (turn:∀x∈xs,∀N:L2.St->Hp->Prop,(b x->N (σ.set j (some x)) H)->tb {D with nx:=N,ct:=N,bk:=D.nx} (σ.set j (some x)) H)
  (fin:∀v,(∀x∈xs,b x)->D.nx (σ.set j v) H):LoopAt K a (jC j) tb D σ H:=by
 refine jN (λi c=>c=H/\∀x∈xs.take i,b x) ⟨rfl,by simp⟩ (λi c h=>by rw[h.1];exact m) l ?_ ?_
 .rintro i y c e ⟨rfl,d⟩ N nx;refine turn y (gq e) N λg=>nx _ ⟨rfl,λx f=> ?_⟩;rw[j6,e]at f;rcases dO.mp f with z | z;.exact d x z
  .rw[dX.mp z];exact g
 .rintro v c ⟨rfl,d⟩;rw[fM]at d;exact fin v d
end
section
inductive Mv (C:Addr) (vs:List V) (H:Hp) (v:V):Prop
 | mk a r p x T:vs=[.ref a]->bQ C H a r p x T->v= .bl (!decide (T.R.length<=32/\T.X.length<=64))->Mv C vs H v
theorem ao_ (F:Fun K "is_too_big" "is_too_big" TV f fd) (c:cA K mg C) (b:Cs K mg):aY P w K mg base CX0 1 f fd Dy (spP (Mv C)):=by
 refine F.ok amm (by walk_at "l") (λ_ A _ s H j Q E i g=> ?_);obtain⟨v,⟨a,r,p,x,T,e,h,d⟩,q⟩:=g;subst e;subst d;refine⟨_,(aD (aK (Cd (gY qF (cB qG rfl b.len dF (ao (aO (pv 0) rfl) aA)) (aN b.Wz)) (mz (gY qF (cB qG rfl b.len dF (ao (aO (pv 0) rfl) aA)) (aN b.afb)))))),?_⟩;refine' aU ?h ?_
 case h=>walk_at "p"
 refine vb q ?_;rw[<-yc,<-decide_not];exact fH (by omega)
def Ew (T:cG):Prop:=∀k a b,ak T.P k=some a->ak T.R k=some b->a=0\/(ak T.R a).getD 0 < b
inductive Mw (C:Addr) (vs:List V) (H:Hp) (v:V):Prop
 | mk a r p x T bb:vs=[.ref a]->bQ C H a r p x T->ND T.R->(∀k rk,ak T.R k=some rk->∃pr,ak T.P k=some pr/\(pr=0\/(ak T.R pr).isSome=true))->v= .bl bb->(bb=true↔Ew T)->Mw C vs H v
theorem apa (F:Fun K "are_ranks_right" "are_ranks_right" TQ f fd) (c:cA K mg C) (qU:Df P w K mg base "may_stand_in" wI 1 (spP (zR C))):aY P w K mg base CX0 2 f fd Dv (spP (Mw C)):=by
 refine F.ok aey (by walk_at "l") (λ_ A _ s H vs Q E J Z=> ?_);obtain⟨v,⟨a,r,p,x,T,bb,e,h,S,Y,W,O⟩,q⟩:=Z;subst e;subst W;refine⟨_,(aF (vW (d7 dG rfl (mG (aO (pv 0) rfl)) (cQ (i:=1) aey.nd) (aD (aR (cN (bV (aL qU J (ao (pv 0) (ao (cu (aO (pv 0) rfl) (pv 1) (bw J)) (ao (cu (aO (pv 0) rfl) (pv 1) (bw J)) aA)))))) (aD (aK fO)) aV))))
   (aD (aK fO))),?_⟩
 refine aZ (W5 (λk=>∀b l,ak T.P k=some b->ak T.R k=some l->b=0\/(ak T.R b).getD 0 < l) h.hr (λo=>p_R rfl (h.Ei o) c) ⟨none,rfl⟩ (λk u X o N U L I g=> ?_) λv j=> ?_)
 .have n:=(bY S).mp X;obtain⟨b,d,m⟩:=Y k u n;have B:=h.Ei o;refine gO (gM (p_b (jw (aq (aj rfl) (aq (mO rfl B c (aj rfl) n) (aq (o8 rfl B c (aj rfl) d) aG))) ⟨a,r,p,x,T,u,b,rfl,B,m,rfl⟩))) (λG=> ?_) λG=> ?_;.refine aU p_c ?_;rw[L];refine⟨aH,?_⟩;rw[zN h.hr];have:=(uK O).2 λz=>n1t.mp G (z k b u d n);rw[this]at q;exact q
  .show U.nx _ _;rw[I];refine g λpr' rk' t y=> ?_;rw[d]at t;rw[n]at y;injection t with t;injection y with y;rw[<-t,<-y];exact n1f.mp G
 .dsimp only;refine aU p_c ?_;have:=O.mpr λk b l d m=>j k l ((bY S).mpr m) b l d m;rw[this]at q;exact q
variable (gB:Df P w K mg base "is_key" qM 1 (spB isKey)) (pX:Df P w K mg base "is_rank" uz 1 (spB iy)) (sJ:Df P w K mg base "is_parent" wC 2 (spB jr))
 (qU:Df P w K mg base "may_stand_in" wI 1 (spP (zR C))) (nQ:Df P w K mg base "set_group" qN 1 (sE C)) (uM:Df P w K mg base "are_keys_once" wD 2 (wJ K)) (sO:Df P w K mg base "are_all_in" wF 1 (spP (wV K)))
 (uL:Df P w K mg base "drop_group" wH 1 (zP C)) (zV:Df P w K mg base "hand_over" zA 2 (Er C)) (nO:Df P w K mg base "groups_in" qO 1 (jt C cG.P)) (pW:Df P w K mg base "specimens_in" rW 1 (jt C cG.X))
inductive Xd (C:Addr) (vs:List V) (H:Hp) (v:V):Prop
 | mk a r p x T t g rk pr bb:vs=[.ref a,.int g,.int rk]->TAt C H a r p x T t->ak (gP t) g=some pr->v= .bl bb->(bb=true↔¬((pr≠0/\¬(ak (gR t) pr).getD 0 < rk)\/∃j v,ak (gP t) j=some g/\ak (gR t) j=some v/\v<=rk))->Xd C vs H v
include qU nO in
theorem apb (F:Fun K "may_have_rank" "may_have_rank" UW f fd) (c:cA K mg C) (cs:Cs K mg):aY P w K mg base CX0 2 f fd Kc (gU (Xd C)):=by
 refine F.ok aeG (by walk_at "l") (λ_ A _ s H vs Q E n hz=> ?_);obtain⟨v,⟨a,r,p,x,T,t,g,X,W,bb,e,h,U,Y,G⟩,q⟩:=hz;subst e;subst Y;have m:=h.own;refine⟨_,(aF (aR (cN (bV (aL qU n (ao (pv 0) (ao (pv 2) (ao (cu (aO (pv 0) rfl) (pv 1) (bw n)) aA)))))) (aD (aK fO)) aV)
   (aF (d7 dG rfl (eV (aL nO n (ao (pv 0) (ao (pv 1) aA)))) (cQ (i:=3) aeG.nd) (aD (aR (bF mC (cu (aO (pv 0) rfl) (pv 3) (bw n)) (pv 2)) (aD (aK fO)) aV)))
   (aD (aK fO)))),?_⟩
 have Z:ak T.P g=some W:=by rw[h.gp];exact U
 refine bD (gM (p_b (jw (aq (aj rfl) (aq (aj rfl) (aq (o8 rfl m.rd c (aj rfl) Z) aG))) ⟨a,r,p,x,T,X,W,rfl,m.rd,h.par U,rfl⟩))) (λb=> ?_) λb=> ?_;.refine aU p_c ?_;have:=(uK G).2 λz=>z (.inl (by rw[h.gr]at b;exact not_or.mp (n1t.mp b)));rw[this]at q;exact q H Same.eO
 have b:=n1f.mp b;rw[h.gr]at b;have l1:=h.lP;refine aZ (gQ ?_);refine(aq (aj rfl) (aq (aj rfl) aG)) _ ⟨a,r,p,x,T,g,rfl,m,by omega,h.nP,λl hl=>⟨l,rfl,?_⟩⟩;have O:Same H (upd H l (.lst ((kin T.P g).map V.int))):=Same.upd hl;refine ao9 (λy=>∃j u,y= .int j/\ak (gR t) j=some u/\¬u<=X) (SqL.of aH) ⟨none,rfl⟩ (λy hy N gd=> ?_) λv d=> ?_
 .obtain⟨j,hj,rfl⟩:=W6 hy;have B:=(lM h.nP).mp hj;rw[h.gp]at B;obtain⟨u,J⟩:∃u,ak (gR t) j=some u:=by have:=jR t j;rw[B]at this;exact gj.mp this.symm
  have L:ak T.R j=some u:=by rw[h.gr];exact J
  refine gO (bM (p_i (mO rfl (m.same O).rd c (aj rfl) L) (aj rfl))) (λI=> ?_) λI=> ?_;.refine aU p_c ?_;have:=(uK G).2 λz=>z (.inr ⟨j,u,B,J,dz I⟩);rw[this]at q;exact q _ O
  .exact gd ⟨j,u,rfl,J,iw I⟩
 .dsimp only;refine aU p_c ?_;have:=G.mpr λz=>by
   rcases z with z | ⟨j,u,z1,z2,z3⟩
   .rcases b with y | y;.exact z.1 y
    .exact z.2 y
   .have:=(lM h.nP).mpr (by rw[h.gp];exact z1);obtain⟨j',u',S,o,y3⟩:=d _ (aQ.mpr ⟨j,this,rfl⟩);injection S with S;rw[<-S,z2]at o;injection o with o;exact y3 (o▸z3)
  rw[this]at q;exact q _ O
inductive Xe (C:Addr) (vs:List V) (H:Hp) (Q:VK) (E:XK):Prop
 | mk a r p x T t s g rk:vs=[.ref a,.int g,.int rk]->TAt C H a r p x T t->EdQ C a r p x (jB s t (.rank g rk)) H Q->Xe C vs H Q E
include gB pX in
theorem apc (F:Fun K "change_rank" "change_rank" U0 f fd) (c:cA K mg C) (o:Cs K mg) (G:Df P w K mg base "may_have_rank" Kc 2 (gU (Xd C))):aY P w K mg base CX0 3 f fd Kd (Xe C):=by
 refine F.ok amS (by walk_at "l") (λ_ A _ s H vs Q E n X=> ?_);obtain⟨a,r,p,x,T,t,s,g,L,e,h,q⟩:=X;subst e;have W:=h.own;refine⟨_,(aF (aR (PW.pt (gW (cN (bV (aL gB n (ao (pv 1) aA)))) (jm (cN (bV (aL pX n (ao (pv 2) aA))))))) (aD (aK (aN o.ju))) aV)
   (aF (aR (gA (g8 (bw n) (pv 1) (aO (pv 0) rfl))) (aD (aK (aN o.kE))) aV)
   (aF (aR (cN (bV (aL G n (ao (pv 0) (ao (pv 1) (ao (pv 2) aA)))))) (aD (aK (aN o.wN))) aV)
   (aF (aR (bF bU (cu (aO (pv 0) rfl) (pv 1) (bw n)) (pv 2)) (aD (aK (aN o.zQ))) aV)
   (aF (jQ (bw n) (aO (pv 0) rfl) (pv 1) (pv 2) rfl)
   (aD (aK (aN o.iQ)))))))),?_⟩
 rw[akk h.wf]at q;refine' bD ?h1 (λd=> ?_) λi=> ?_
 case h1=>walk_at "p"
 .rw[aB (n2t.mp d)]at q;exact aU p_c (q.1 _ rfl _ (Same.o4 Same.eO))
 have i:=n2f.mp i;rw[au (oE i)]at q;refine' bD ?h2 (λd=> ?_) λb=> ?_
 case h2=>walk_at "p"
 .rw[h.gr]at d;rw[aB (isN.mp d)]at q;exact aU p_c (q.1 _ rfl _ (Same.o4 Same.eO))
 rw[h.gr]at b;have b:=isS.mp b;rw[au b]at q;obtain⟨v,u,S,U,e3,I⟩:=h.isR b;rw[lK I]at q;have O:=λz=>akl h.wf i b z h.rel;rw[lK I]at O;obtain⟨N,m⟩:=exb (¬((u≠0/\¬(ak (gR t) u).getD 0 < L)\/∃j v,ak (gP t) j=some g/\ak (gR t) j=some v/\v<=L));refine qR (sI (q_b (kJ (aq (aj rfl) (aq (aj rfl) (aq (aj rfl) aG))) ⟨a,r,p,x,T,t,g,L,u,N,rfl,h,I,rfl,m⟩))) (λR y d=> ?_) λR y l=> ?_;.rw[aB (BP.mp λz=>by rw[m.mpr z]at d;cases d)]at q;exact aU p_c (q.1 _ rfl _ (Same.o4 y))
 have l:=m.mp (by cases N;cases l;rfl);rw[au l,lK S]at q;have B:=W.same y;refine bD (bM (p_eq (mO rfl B.rd c (aj rfl) U) (aj rfl))) (λd=> ?_) λJ=> ?_;.rw[aB (dz d)]at q;exact aU p_c (q.1 _ rfl _ (Same.o4 y))
 rw[au (iw J)]at q;have l1:=h.lR;obtain⟨Y,Z⟩:=O l;refine W8 (aj rfl) (p_R rfl B.rd c) (aj rfl) B.hr (by omega) ?_;exact aU p_c (q.2 _ rfl _ r p x _ fr0 (bG.o4 ((Same.only y).trans (bG.uR _))) (B.wR _) Z Y)
inductive Xf (C:Addr) (vs:List V) (H:Hp) (Q:VK) (E:XK):Prop
 | mk a r p x T t s g:vs=[.ref a,.int g]->TAt C H a r p x T t->EdQ C a r p x (jB s t (.dissolve g)) H Q->Xf C vs H Q E
theorem afs (n:ND d):0 < (kin d g).length↔∃x,ak d x=some g:=by
 constructor;.intro z;exact⟨(kin d g)[0],(lM n).mp (O_ _)⟩
 .rintro⟨x,a⟩;exact Pk ((lM n).mpr a)
include gB zV uL pW in
theorem ape (F:Fun K "dissolve_group" "dissolve_group" U3 f fd) (c:cA K mg C) (G:Cs K mg):aY P w K mg base CX0 3 f fd Ke (Xf C):=by
 refine F.ok aeH (by walk_at "l") (λ_ A _ s H vs Q E o Z=> ?_);obtain⟨a,r,p,x,T,t,s,g,e,h,q⟩:=Z;subst e;have I:=h.own;refine⟨_,(aF (aR (cN (bV (aL gB o (ao (pv 1) aA)))) (aD (aK (aN G.ju))) aV)
   (aF (aR (gA (g8 (bw o) (pv 1) (aO (pv 0) rfl))) (aD (aK (aN G.kE))) aV)
   (aF (bO (i:=2) aeH.nd (cu (aO (pv 0) rfl) (pv 1) (bw o)))
   (aF (aR (PW.pt (pO (bF bU (pv 2) aM) (pN (bF qF (cB fK rfl G.len dF (ao (aL pW o (ao (pv 0) (ao (pv 1) aA))) aA)) aM)))) (aD (aK (aN G.wN))) aV)
   (aF (eE (aL zV o (ao (pv 0) (ao (pv 1) (ao (pv 2) aA)))))
   (aF (eE (aL uL o (ao (pv 0) (ao (pv 1) aA))))
   (aD (aK (aN G.iQ))))))))),?_⟩
 rw[ako h.wf]at q;refine' bD ?h1 (λn=> ?_) λj=> ?_
 case h1=>walk_at "p"
 .rw[aB (n1t.mp n)]at q;exact aU p_c (q.1 _ rfl _ (Same.o4 Same.eO))
 have j:=n1f.mp j;rw[au (oE j)]at q;refine' bD ?h2 (λn=> ?_) λd=> ?_
 case h2=>walk_at "p"
 .rw[h.gr]at n;rw[aB (isN.mp n)]at q;exact aU p_c (q.1 _ rfl _ (Same.o4 Same.eO))
 rw[h.gr]at d;have d:=isS.mp d;rw[au d]at q;obtain⟨v,u,e1,U,N,W⟩:=h.isR d;have S:=λz=>akp h.wf j d z h.rel _ rfl;rw[lK W]at q S;have l1:=h.lP;have l2:=h.lX;refine o_ (o8 rfl I.rd c (aj rfl) N) ?_;refine qR (b:=decide (u=0)&&decide (0 < ((kin T.X g).length:Int))) (afq (PT0.up (bM (p_eq (aj rfl) p_c))) λL B _=>W7 λQ1 q1=> ?_) (λL B n=> ?_) λL B m=> ?_;.refine jM (iz (dj (bx ((aq (aj rfl) (aq (aj rfl) aG)) _ ⟨a,r,p,x,T,g,rfl,I.same B,by omega,h.nX,λl Y=> ?_⟩))));refine⟨l,_,rfl,.inl (SqL.of aH),?_⟩;rw[aJ];exact⟨_,_,rfl,rfl,q1 _ (Same.upd Y)⟩
 .rw[dY,cH,cH]at n;have:0 < (kin T.X g).length:=by have:=n.2;omega
  obtain⟨y,J⟩:=(afs h.nX).mp this;rw[aB ⟨n.1,y,by rw[<-h.gx];exact J⟩]at q;exact aU p_c (q.1 _ rfl _ (Same.o4 B))
 have m:¬(u=0/\∃y,ak (gX t) y=some g):=by rintro⟨z,y,J⟩;have:=(afs h.nX).mpr ⟨y,by rw[h.gx];exact J⟩;rw[cF z,rC,iu]at m;omega
 rw[au m]at q;obtain⟨w1,w2⟩:=S m;refine zU (aq (aj rfl) (aq (aj rfl) (aq (aj rfl) aG))) ⟨a,r,p,x,T,g,u,rfl,I.same B,by omega,by omega,h.nP,h.nX,λH2 O o1=> ?_⟩;refine zU (aq (aj rfl) (aq (aj rfl) aG)) ⟨a,r,p,x,_,g,rfl,O,by show(ak T.R g).isSome=true;rw[U];rfl,by show(ak (lN T.P g u) g).isSome=true;rw[afr h.nP,N];rfl,?_⟩;exact aU p_c (q.2 _ rfl _ r p x _ fr0 (bG.o4 ((Same.only B).trans (o1.trans ((bG.uR _).trans (bG.uP _))))) ((O.wR _).wP _) w2 w1)
end
section
variable (gB:Df P w K mg base "is_key" qM 1 (spB isKey))
 (nQ:Df P w K mg base "set_group" qN 1 (sE C)) (uM:Df P w K mg base "are_keys_once" wD 2 (wJ K)) (sO:Df P w K mg base "are_all_in" wF 1 (spP (wV K)))
 (nO:Df P w K mg base "groups_in" qO 1 (jt C cG.P)) (pW:Df P w K mg base "specimens_in" rW 1 (jt C cG.X))
inductive Xg (K:aW) (C:Addr) (vs:List V) (H:Hp) (Q:VK) (E:XK):Prop
 | mk a r p x ga xa T t s g k gs xs:vs=[.ref a,.int g,.int k,.ref ga,.ref xa]->TAt C H a r p x T t->SqL K H ga (gs.map V.int)->SqL K H xa (xs.map V.int)->gs.length<=2100->xs.length<=2100->EdQ C a r p x (jB s t (.split g k gs xs)) H Q->Xg K C vs H Q E
theorem Xh (h:PA0 ta σ H [.ref a]) (i:SqL K H a (ns.map V.int)) (g:ns.length<=4000) (e:b=true↔mJ ns):PE1 (lD (wJ K) [] E0 ta) σ H (.bl b):=λQ q=>
 h _ ⟨a,ns,rfl,i,g,λf d j c=>by
  have:d=b:=by
   cases b <;> cases d;.rfl
   .exact absurd (e.mpr (c.mp rfl)) (by decide)
   .exact absurd (c.mpr (e.mp rfl)) (by decide)
   .rfl
  rw[this];exact q f j⟩
theorem Ey (o:bG r p x H H') (h:SqL K H l ns) (a:H r=some (.dK u)) (b:H p=some (.dK v)) (c:H x=some (.dK y)):SqL K H' l ns:=by
 rcases h with (h | ⟨d,h⟩) | h;.exact .inl (.inl (o l _ h (cJ h a (by intro z;cases z)) (cJ h b (by intro z;cases z)) (cJ h c (by intro z;cases z))))
 .exact .inl (.inr ⟨d,o l _ h (cJ h a (by intro z;cases z)) (cJ h b (by intro z;cases z)) (cJ h c (by intro z;cases z))⟩)
 .exact .inr h
include gB nQ uM sO nO pW in
theorem apf (F:Fun K "split_group" "split_group" UJ f fd) (c:cA K mg C) (o:Cs K mg):aY P w K mg base CX0 3 f fd Ka (Xg K C):=by
 refine F.ok UL (by walk_at "l") (λ_ A _ s H vs Q E j hz=> ?_);obtain⟨a,r,p,x,ga,xa,T,t,s,g,k,L,I,e,h,hg,hx,lg,lx,q⟩:=hz;subst e;have ho:=h.own;refine⟨_,(aF (aR (PW.pt (gW (cN (bV (aL gB j (ao (pv 1) aA)))) (gW (cN (bV (aL gB j (ao (pv 2) aA)))) (gW (cN (bV (aL uM j (ao (pv 3) aA)))) (jm (cN (bV (aL uM j (ao (pv 4) aA))))))))) (aD (aK (aN o.ju))) aV)
   (aF (aR (gA (Cw (bw j) (pv 2) (aO (pv 0) rfl))) (aD (aK (aN o.Mj))) aV)
   (aF (aR (gA (g8 (bw j) (pv 1) (aO (pv 0) rfl))) (aD (aK (aN o.kE))) aV)
   (aF (aR (PW.pt (gW (cN (bV (aL sO j (ao (pv 3) (ao (aL nO j (ao (pv 0) (ao (pv 1) aA))) aA))))) (jm (cN (bV (aL sO j (ao (pv 4) (ao (aL pW j (ao (pv 0) (ao (pv 1) aA))) aA)))))))) (aD (aK (aN o.kE))) aV)
   (aF (aR (PW.pt (pO (bF bU (cB fK rfl o.len dF (ao (pv 3) aA)) aM) (pN (bF bU (cB fK rfl o.len dF (ao (pv 4) aA)) aM)))) (aD (aK (aN o.zQ))) aV)
   (aF (aR (bF Hv (cB qG rfl o.len dF (ao (aO (pv 0) rfl) aA)) (aN o.Wz)) (aD (aK (aN o.FULL))) aV)
   (aF (eE (aL nQ j (ao (pv 0) (ao (pv 2) (ao (cu (aO (pv 0) rfl) (pv 1) (bw j)) (ao (cu (aO (pv 0) rfl) (pv 1) (bw j)) aA))))))
   (aF (d7 dG rfl (eV (pv 3)) (cQ (i:=5) UL.nd) (aD (jQ (bw j) (aO (pv 0) rfl) (pv 5) (pv 2) rfl)))
   (aF (d7 dG rfl (eV (pv 4)) (cQ (i:=6) UL.nd) (aD (jQ (bw j) (aO (pv 0) rfl) (pv 6) (pv 2) rfl)))
   (aD (aK (aN o.iQ)))))))))))),?_⟩
 rw[akq]at q;obtain⟨b1,Y⟩:=exb (mJ L);obtain⟨b2,Z⟩:=exb (mJ I);have l1:=h.lP;have l2:=h.lX;have l3:=h.lR;refine qR (Et (PT0.up (gM (p_b (mQ (aq (aj rfl) aG))))) λH1 m _=>Et (PT0.up (gM (p_b (mQ (aq (aj rfl) aG))))) λH2 O _=>
  Et (sI (q_b (Xh (aq (aj rfl) aG) ((m.trans O).seq hg) (by omega) Y))) λH3 s3 _=>sI (q_b (Xh (aq (aj rfl) aG) (((m.trans O).trans s3).seq hx) (by omega) Z))) (λH1 m d=> ?_) λH1 m d=> ?_
 .rw[aB (by rintro⟨z1,z2,z3,z4⟩;rw[cF z1,cF z2,Y.mpr z3,Z.mpr z4]at d;cases d)]at q
  exact aU p_c (q.1 _ rfl _ (Same.o4 m))
 have k1:isKey g/\isKey k/\mJ L/\mJ I:=by rw[tQ,tQ,tQ,n1f,n1f]at d;exact⟨d.1,d.2.1,Y.mp (by simpa using d.2.2.1),Z.mp (by simpa using d.2.2.2)⟩
 rw[au (oE k1)]at q;have g1:=ho.same m;refine' bD ?h2 (λd=> ?_) λk2=> ?_
 case h2=>walk_at "p"
 .rw[h.gr]at d;rw[aB d]at q;exact aU p_c (q.1 _ rfl _ (Same.o4 m))
 rw[h.gr]at k2;have k2:¬(ak (gR t) k).isSome=true:=by rw[k2];simp
 rw[au k2]at q;refine' bD ?h3 (λd=> ?_) λk3=> ?_
 case h3=>walk_at "p"
 .rw[h.gr]at d;rw[aB (.inl (isN.mp d))]at q;exact aU p_c (q.1 _ rfl _ (Same.o4 m))
 rw[h.gr]at k3;have k3:=isS.mp k3;obtain⟨b3,hb3⟩:=exb (∀n∈L,n∈kin T.P g);obtain⟨b4,hb4⟩:=exb (∀n∈I,n∈kin T.X g);refine qR (b:= !b3|| !b4) (Et (sI (q_b λQ1 q1=> ?_)) λH2 O _=>sI (q_b λQ1 q1=> ?_)) (λH2 O d=> ?_) λH2 O d=> ?_;.refine bx (dj ((aj rfl) _ (dj (bx ((aq (aj rfl) (aq (aj rfl) aG)) _ ⟨a,r,p,x,T,g,rfl,g1,by omega,h.nP,λl hl=> ?_⟩)))));exact⟨.bl b3,⟨ga,l,L,b3,rfl,(m.trans (Same.upd hl)).seq hg,rfl,.inl ⟨_,SqL.of aH,hb3⟩⟩,q1 _ (Same.upd hl)⟩
 .refine bx (dj ((aj rfl) _ (dj (bx ((aq (aj rfl) (aq (aj rfl) aG)) _ ⟨a,r,p,x,T,g,rfl,g1.same O,by omega,h.nX,λl hl=> ?_⟩)))));exact⟨.bl b4,⟨xa,l,I,b4,rfl,((m.trans O).trans (Same.upd hl)).seq hx,rfl,.inl ⟨_,SqL.of aH,hb4⟩⟩,q1 _ (Same.upd hl)⟩
 .rw[aB (.inr (by
   rw[m6]at d;rcases d with z | z;.refine .inl (jk λy=> ?_);rw[hb3.mpr (λn B=>(lM h.nP).mpr (by rw[h.gp];exact jk λu=>y ⟨n,B,u⟩))]at z;cases z
   .refine .inr (jk λy=> ?_);rw[hb4.mpr (λn B=>(lM h.nX).mpr (by rw[h.gx];exact jk λu=>y ⟨n,B,u⟩))]at z;cases z))]at q
  exact aU p_c (q.1 _ rfl _ (Same.o4 (m.trans O)))
 have k4:¬(ak (gR t) g=none\/(∃n∈L,ak (gP t) n≠some g)\/∃n∈I,ak (gX t) n≠some g):=by
  rw[tQ]at d;rintro(z | ⟨n,B,z⟩ | ⟨n,B,z⟩);.exact k3 z
  .exact z (by rw[<-h.gp];exact(lM h.nP).mp (hb3.mp (by simpa using d.1) n B))
  .exact z (by rw[<-h.gx];exact(lM h.nX).mp (hb4.mp (by simpa using d.2) n B))
 rw[au k4]at q;have G:=m.trans O;have J:=g1.same O;have hg2:=G.seq hg;have hx2:=G.seq hx;refine bD (uI (bM (p_eq (f9 (aq (aj rfl) aG) hg2) p_c)) λ_=>bM (p_eq (f9 (aq (aj rfl) aG) hx2) p_c)) (λd=> ?_) λd=> ?_
 .rw[aB (by rw[dY,cH,cH,aJ,aJ]at d;exact⟨qm.mp (by have:=d.1;omega),qm.mp (by have:=d.2;omega)⟩)]at q
  exact aU p_c (q.1 _ rfl _ (Same.o4 G))
 rw[au (by rintro⟨z1,z2⟩;rw[z1,z2]at d;cases d)]at q;refine' bD ?h5 (λd=> ?_) λk5=> ?_
 case h5=>walk_at "p"
 .rw[cH,h.rel.qI]at d;rw[aB (by omega)]at q;exact aU p_c (q.1 _ rfl _ (Same.o4 G))
 rw[iu,h.rel.qI]at k5;have k5:¬32<=t.groups.length:=by omega
 rw[au k5]at q;obtain⟨v,u,e1,e2,e3,e4⟩:=h.isR k3;obtain⟨w1,w2⟩:=akr h.wf k1 k2 k4 k5 h.rel _ rfl;rw[lK e1,lK e4]at w2;refine zU (aq (aj rfl) (aq (aj rfl) (aq (mO rfl J.rd c (aj rfl) e2) (aq (o8 rfl J.rd c (aj rfl) e3) aG)))) ⟨a,r,p,x,T,k,v,u,rfl,J,by omega,by omega,?_⟩;have W:=(J.wR (dput T.R k v)).wP (dput T.P k u);have o3:bG r p x H2 _:=(bG.uR (.dK (dI (dput T.R k v)))).trans (bG.uP (.dK (dI (dput T.P k u))));have hg3:=Ey o3 hg2 J.hr J.hp J.hx;have hx3:=Ey o3 hx2 J.hr J.hp J.hx;have l4:=zT T.P k u;generalize hH3:upd (upd H2 r (.dK (dI (dput T.R k v)))) p (.dK (dI (dput T.P k u)))=H3 at W o3 hg3 hx3 ⊢;refine aZ (gQ ((aj rfl) _ ⟨ga,rfl,?_⟩));refine jN (λi S=>bQ C S a r p x ⟨dput T.R k v,iK (dput T.P k u) (L.take i) k,T.X⟩/\bG r p x H3 S) ⟨W,.refl⟩ (λi S hi=>Ey hi.2 hg3 W.hr W.hp W.hx) ⟨none,rfl⟩ ?_ ?_
 .rintro i y S hi ⟨U,o4⟩ N nx;obtain⟨n,B,rfl⟩:=get_map hi;have l5:=Es k (L.take i) (dput T.P k u);have l6:(L.take i).length<=L.length:=by rw[fD];omega
  refine uJ (aj rfl) (p_P rfl U.rd c) (aj rfl) U.hp (by show(iK _ _ _).length < _;omega) (nx _ ?_);rw[i_ B,Mr];exact⟨U.wP _,o4.trans (.uP _)⟩
 .rintro y H4 ⟨U,o4⟩;rw[aJ,fM]at U;have hx4:=Ey o4 hx3 W.hr W.hp W.hx;refine aZ (gQ ((aj rfl) _ ⟨xa,rfl,?_⟩));refine jN (xs:=I.map V.int) (λi S=>bQ C S a r p x ⟨dput T.R k v,iK (dput T.P k u) L k,iK T.X (I.take i) k⟩/\bG r p x H4 S) ⟨U,.refl⟩ (λi S hi=>Ey hi.2 hx4 U.hr U.hp U.hx) ⟨none,rfl⟩ ?_ ?_
  .rintro i y S hi ⟨g5,o5⟩ N nx;obtain⟨n,B,rfl⟩:=get_map hi;have l5:=Es k (I.take i) T.X;have l6:(I.take i).length<=I.length:=by rw[fD];omega
   refine uJ (aj rfl) (p_X rfl g5.rd c) (aj rfl) g5.hx (by show(iK _ _ _).length < _;omega) (nx _ ?_);rw[i_ B,Mr];exact⟨g5.wX _,o5.trans (.uX _)⟩
  .rintro y' H5 ⟨g5,o5⟩;rw[aJ,fM]at g5;dsimp only;exact aU p_c (q.2 _ rfl _ r p x _ fr0 (bG.o4 ((Same.only G).trans (o3.trans (o4.trans o5)))) g5 w2 w1)
end
theorem sS (h:a≠b):upd (upd H a o) b u=upd (upd H b u) a o:=by
 funext c;by_cases d:c=a;.subst d;rw[aC h,aH,aH]
 .by_cases e:c=b;.subst e;rw[aH,aC d,aH]
  .rw[aC e,aC d,aC d,aC e]
structure Ez (C:Addr) (H:Hp) (a r p x:Addr) (T:cG) (t:b_):Prop where
 rd:TRd C H a r p x T
 rel:Rel T t
 wf:WF t
theorem TAt.r {C:Addr} {H:Hp} {a r p x:Addr} {T:cG} {t:b_} (h:TAt C H a r p x T t):Ez C H a r p x T t:=⟨h.own.rd,h.rel,h.wf⟩
section
variable {K:aW} {H:Hp} {σ:L2.St} {D:Ends} {j:Nat} {tb:TS}
theorem EY (b:PE0 to σ H (.ref l)) (c:PE0 te σ H y) (a:H l=some (.lst xs)) (d:xs.length < sizeLine) (q:D.nx σ (upd H l (.lst (xs++[y])))):pP (tBM K "list" Q5 to (gw te fW)) D σ H:=
 b _ ⟨.inl ⟨rfl,_,SqL.of a⟩,c _ ⟨l,_,_,rfl,rfl,a,d,q⟩⟩
theorem apg (I:Nat->Hp->Prop) (q:I 0 H) (s:∀i b,I i b->b a=some (.dK (dI d))) (z:∀o,PE0 te σ (upd H a (.frz o (.dK (dI d)))) (.ref a)) (A:∃v,σ=σ.set j v)
  (turn:∀i k w b,d[i]? =some (k,w)->I i b->∀o N l,(∀v b,l.rt v b=(b a=some (.frz o (.dK (dI d)))/\D.rt v (upd b a (.dK (dI d)))))->l.nx=N->
   (∀g,I (i+1) g->N (σ.set j (some (.int k))) (upd g a (.frz o (.dK (dI d)))))->tb l (σ.set j (some (.int k))) (upd b a (.frz o (.dK (dI d)))))
  (fin:∀v b,I d.length b->D.nx (σ.set j v) b):Cz (ud (CJ te) (jC j) tb) D σ H:=by
 refine Wu (s 0 H q) gK λo=>Mh (qQ (z o _ ⟨a,o,rfl,.inl ⟨_,aH,?_⟩⟩));refine Wm (λi p b=>(∃c,I i c/\b=upd c a (.frz o (.dK (dI d))))/\∃v,p=σ.set j v) ⟨⟨H,q,rfl⟩,A⟩ (λi σ b ⟨⟨c,_,e⟩,_⟩=>by rw[e];exact aH) ?_ ?_;.rintro i k w p b m ⟨⟨c,f,rfl⟩,⟨v,rfl⟩⟩;unfold dI at m;rw[dM]at m;obtain⟨⟨h,B⟩,n,t⟩:=iT.mp m;injection t with u x;subst u;subst x;have e:(σ.set j v).set j (some (kV (bI h)))=σ.set j (some (.int h)):=qp ..;show tb _ ((σ.set j v).set j (some (kV (bI h)))) _;rw[e];exact turn i h B c n f o _ _ (λ_ _=>rfl) rfl λg y=>⟨⟨g,y,rfl⟩,_,rfl⟩
 .rintro p b ⟨⟨c,f,rfl⟩,⟨v,rfl⟩⟩;refine⟨aH,?_⟩;rw[zN (s _ _ f)];rw[rT]at f;exact fin v c f
end
section
inductive wY (C:Addr) (vs:List V) (H:Hp) (Q:VK) (E:XK):Prop
 | mk a r p x T t g:vs=[.ref a,.int g]->Ez C H a r p x T t->(g=0\/∃v,ak (gR t) g=some v)->newL (upI t g) H Q->wY C vs H Q E
def aph (t:b_) (σ:List (Option V)):Nat:=match σ[1]? with
 | some (some (V.int g))=>(upI t g).length
 | _=>0
theorem apj (F:Fun K "groups_from" "groups_from" TY f fd) (c:cA K mg C):aY P w K mg base CX0 1 f fd uE (wY C):=by
 refine F.ok T3 (by walk_at "l") (λ_ A _ s H vs Q E W X=> ?_);obtain⟨a,r,p,x,T,t,g,e,h,N,q⟩:=X;subst e;refine⟨_,(aF (bO (i:=2) T3.nd (cT aA))
   (aF (uc dG (bF jE (pv 1) aM) (aF (eE (jo iD m8 n_ oK (pv 2) (ao (pv 1) aA)))
   (aD (bO (i:=1) T3.nd (cu (aO (pv 0) rfl) (pv 1) (bw W))))))
   (aD (aK (pv 2))))),?_⟩
 refine aZ ⟨fU _,λl O=> ?_⟩;refine aZ (ab2 (λσ L=>∃d b,σ=[some (.ref a),some (.int d),some (.ref l)]/\L=upd H l (.lst (b.map V.int))/\upI t g=b++upI t d/\(d=0\/∃v,ak (gR t) d=some v)) (λσ _=>aph t σ) ⟨g,[],rfl,rfl,rfl,N⟩ ?_
  (λσ H Q Z f ⟨v,e,s,k,S,q⟩=>⟨v,e,s,k,S,f _ _ q⟩))
 rintro σ L ⟨d,b,rfl,rfl,j,B⟩;refine(bM (gn (aj rfl) p_c)) _ ?_;by_cases n:d=0;.rw[au (by rw[cF n];decide)];dsimp only;refine aU (aj rfl) ?_;subst n;rw[ad8,gH]at j;rw[<-j];exact q l O
 .rw[aB (by rw[cY n];rfl)];obtain⟨v,R⟩:=B.resolve_left n;have U:(ak (gP t) d).isSome=true:=by rw[jR,R];rfl
  obtain⟨o,G⟩:=gj.mp U;have y:=ad9 h.wf R G;have I:ak T.P d=some o:=by rw[h.rel.gp h.wf.toSrt];exact G
  have m:b.length < 1000:=by
   rcases N with z | ⟨u,z⟩;.subst z;rw[ad8,y]at j;exact absurd j (by simp)
   .have:=ad_ h.wf z;rw[j,cV]at this;omega
  refine aZ (EY (aj rfl) (aj rfl) aH (by rw[aJ];exact rA m (by decide)) ?_);rw[mq];have Y:Same H (upd H l (.lst (b.map V.int++[V.int d]))):=Same.upd O;have J:=h.rd.same Y;dsimp only;refine afk (o8 rfl J c (aj rfl) I) ⟨⟨o,b++[d],rfl,by rw[dw];rfl,by rw[j,y];simp,?_⟩,?_⟩
  .rcases h.wf.par d o G with z | ⟨u,_,z,_⟩;.exact .inl z
   .exact .inr ⟨u,z⟩
  .show(upI t o).length < (upI t d).length;rw[y];simp
end
def dA (a:List (Int×Addr)):List (Key×V):=a.map λq=>(bI q.1,V.ref q.2)
theorem zW (a:List (Int×Addr)):(dA a).length=a.length:=aJ _
theorem Xi (a:List (Int×Addr)):(dA a).map (·.1)=(a.map (·.1)).map bI:=by unfold dA;rw[bC,bC];rfl
theorem zX:∀{b:List (Int×Addr)} {k:Int} {a:Addr},(b.map (·.1)).Nodup->(k,a)∈b->eG (dA b) (bI k:Key)=some (.ref a)
 | q::b,k,a,d,h=>by
  have c:=je.mp d;rcases cD.mp h with e | h;.subst e;exact lH rfl
  .show eG ((bI q.1,V.ref q.2)::dA b) (bI k:Key)=_;rw[j8 (by intro z;injection z with z;exact c.1 (aQ.mpr ⟨_,h,z.symm⟩))];exact zX c.2 h
theorem aft (h:k∉kas.map (·.1)):eG (dA kas) (bI k:Key)=none:=by
 induction kas with
 | nil=>rfl
 | cons q kas a=>show eG ((bI q.1,V.ref q.2)::dA kas) (bI k:Key)=_;rw[j8 (by intro z;injection z with z;exact h (by rw[bT,z];exact cU))];exact a λz=>h (by rw[bT];exact cO _ z)
structure HeldAt (H:Hp) (d:Addr) (kas:List (Int×Addr)) (g:Int->List Int):Prop where
 dk:Rd H d (.dK (dA kas))
 ndk:(kas.map (·.1)).Nodup
 nda:(kas.map (·.2)).Nodup
 at_:∀q∈kas,H q.2=some (.lst ((g q.1).map V.int))
theorem HeldAt.same (h:HeldAt H d kas g) (s:Same H H'):HeldAt H' d kas g:=⟨Rd.same h.dk s,h.ndk,h.nda,λq a=>s _ _ (h.at_ q a)⟩
theorem HeldAt.congr (h:HeldAt H d kas g) (e:∀q∈kas,g q.1=g' q.1):HeldAt H d kas g':=⟨h.dk,h.ndk,h.nda,λq a=>by rw[<-e q a];exact h.at_ q a⟩
theorem apl {a:List (Int×Addr)} (h:(a.map (·.2)).Nodup):∀{q b:Int×Addr},q∈a->b∈a->q.2=b.2->q=b:=by
 induction a with
 | nil=>intro q b i;cases i
 | cons p a m=>
  intro q b i c e;have g:=je.mp h;rcases cD.mp i with j | l
  .rcases cD.mp c with d | f;.rw[j,d]
   .exact absurd (aQ.mpr ⟨b,f,by rw[<-e,j]⟩) g.1
  .rcases cD.mp c with d | f;.exact absurd (aQ.mpr ⟨q,l,by rw[e,d]⟩) g.1
   .exact m g.2 l f e
theorem Rd.E_ (h:Rd H a (.dK kvs)) (k:H b=some (.lst xs)):a≠b:=by
 rcases h with h | ⟨o,h⟩;.exact cJ h k (by intro z;cases z)
 .exact cJ h k (by intro z;cases z)
theorem Rd.aC (h:Rd H a u) (n:a≠b):Rd (upd H b o) a u:=by
 rcases h with h | ⟨c,h⟩;.exact .inl (by rw[L2.aC n];exact h)
 .exact .inr ⟨c,by rw[L2.aC n];exact h⟩
theorem HeldAt.app {H:Hp} {d:Addr} {b:List (Int×Addr)} {g:Int->List Int} (h:HeldAt H d b g) {k:Int} {i:Addr} (f:(k,i)∈b) (x:Int):HeldAt (upd H i (.lst ((g k++[x]).map V.int))) d b (λj=>if j=k then g k++[x]else g j):=by
 refine⟨Rd.aC h.dk (Rd.E_ h.dk (h.at_ _ f)),h.ndk,h.nda,λq a=> ?_⟩;by_cases e:q.2=i;.have:=apl h.nda a f e;subst this;rw[aH,aB rfl]
 .rw[aC e];by_cases l:q.1=k;.exfalso;have c:=zX h.ndk (a);rw[l,zX h.ndk f]at c;injection c with c;injection c with c;exact e c.symm
  .rw[au l];exact h.at_ q a
def pY (a:List (Int×Addr)) (H c:Hp):Prop:=∀b o,H b=some o->(∀q∈a,b≠q.2)->c b=some o
theorem pY.refl:pY kas H H:=λ_ _ e _=>e
theorem pY.trans {a:List (Int×Addr)} {H c d:Hp} (h:pY a H c) (k:pY a c d):pY a H d:=λb o e n=>k b o (h b o e n) n
theorem Same.apm (s:Same H H'):pY kas H H':=λb o e _=>s b o e
theorem pY.same (h:pY kas H H') (s:Same H0 H) (fr:∀q∈kas,H0 q.2=none):Same H0 H':=λb o e=>h b o (s b o e) λq a=>aX e (fr q a)
theorem qW (b:PE0 td σ H (.ref d)) (c:PE0 ty σ H (.int k)) (e:Rd H d (.dK (dA kas))) (g:(kas.map (·.1)).Nodup) (f:(k,a)∈kas):PE0 (gZ td ty) σ H (.ref a):=λQ q=>
 b _ (c _ ⟨d,_,rfl,.inl ⟨_,bI k,e,rfl,(zX g f).symm⟩,q⟩)
section
inductive sU (C:Addr) (vs:List V) (H:Hp) (Q:VK) (E:XK):Prop
 | mk a r p x T t:vs=[.ref a]->TAt C H a r p x T t->(∀d kas H',Same H H'->H d=none->(∀q∈kas,H q.2=none)->H' d=some (.dK (dA kas))->HeldAt H' d kas (bK t)->kas.map (·.1)=T.R.map (·.1)->Q (.ref d) H')->sU C vs H Q E
theorem apn (F:Fun K "held_specimens" "held_specimens" T4 f fd) (c:cA K mg C) (cs:Cs K mg) (sV:Df P w K mg base "groups_from" uE 1 (wY C)):aY P w K mg base CX0 2 f fd qP (sU C):=by
 refine F.ok Dz (by walk_at "l") (λ_ A _ s H vs Q E hr hz=> ?_);obtain⟨a,r,p,x,T,t,e,h,q⟩:=hz;subst e;refine⟨_,(aF (bO (i:=1) Dz.nd vV)
   (aF (vW (d7 dG rfl (mG (aO (pv 0) rfl)) (cQ (i:=2) Dz.nd) (aD (jQ (bw hr) (pv 1) (pv 2) (cT aA) rfl))))
   (aF (d7 dG rfl (eV (cB (rR rfl) rfl cs.sorted o7 (ao (aO (pv 0) rfl) aA))) (cQ (i:=3) Dz.nd) (aD (d7 dG rfl (eV (aL sV hr (ao (pv 0) (ao (cu (aO (pv 0) rfl) (pv 3) (bw hr)) aA)))) (cQ (i:=2) Dz.nd) (aD (eE (jo iD m8 n_ oK (cu (pv 1) (pv 2) (bw hr)) (ao (pv 3) aA)))))))
   (aD (aK (pv 1)))))),?_⟩
 have lR:=h.lR;have lX:=h.lX;refine aZ λd hd=> ?_;have s0:Same H (upd H d (.dK [])):=Same.upd hd;have h0:=h.same s0;have ndr:d≠r:=λz=>by rw[z,h.own.hr]at hd;cases hd
 dsimp only;refine aZ (apg (a:=r) (d:=T.R) (λi J=>J r=some (.dK (dI T.R))/\∃B,J d=some (.dK (dA B))/\HeldAt J d B (λ_=>[])/\B.map (·.1)=(T.R.take i).map (·.1)/\Same H J/\∀q∈B,H q.2=none)
  ⟨h0.own.hr,[],aH,⟨.inl aH,k_,k_,λq I=>by cases I⟩,rfl,s0,λq I=>by cases I⟩ (λi J z=>z.1) (λo=>p_R rfl (h0.own.Ei o) c) ⟨none,rfl⟩ ?_ ?_)
 .rintro i k v J hi ⟨hr',B,U,W,Z,s1,fr⟩ o N D' hrt hnx g;have e1:∀{b u},J b=some u->b≠r->upd J r (.frz o (.dK (dI T.R))) b=some u:=λe n=>by rw[aC n];exact e
  refine wL ⟨fU _,λl hl=> ?_⟩;obtain⟨nlr,Y⟩:=fC hl;have ndl:d≠l:=aX U Y;have kn:k∉B.map (·.1):=by
   rw[Z];intro z;have nd:=h.nR;unfold ND at nd;have e2:T.R.map (·.1)=(T.R.take i).map (·.1)++(T.R.drop i).map (·.1):=by rw[<-dw,Pn]
   rw[e2,nZ]at nd;refine nd.2.2 k z k ?_ rfl;have:T.R.drop i=(k,v)::T.R.drop (i+1):=by have hlt:=(jX.mp hi).1;rw[aaQ hlt,(jX.mp hi).2]
   rw[this];exact cU
  have hlen:(dA B).length < sizeLine:=by have:=congrArg iR Z;rw[aJ,aJ,fD]at this;rw[zW,this];exact gD (cI (Nat.min_le_right _ _) lR) (by decide)
  refine(aj rfl) _ ((aj rfl) _ ⟨d,_,rfl,rP.k (k:=bI k) (show _=some (HO.dK (dA B))by rw[aC ndl,aC ndr];exact U) hlen,?_⟩);rw[hnx,HW _ (aft kn),sS nlr.symm,sS ndr.symm];have sl:Same J (upd J l (.lst [])):=Same.upd Y;refine g _ ⟨by rw[aC ndr.symm,aC nlr.symm];exact hr',B++[(k,l)],?_,⟨.inl ?_,?_,?_,?_⟩,?_,?_,?_⟩;.rw[aH];unfold dA;rw[dw];rfl
  .rw[aH];unfold dA;rw[dw];rfl
  .rw[dw,nZ];exact⟨W.ndk,by simp,λx hx y hy e=>by simp at hy;rw[hy]at e;exact kn (e▸hx)⟩
  .rw[dw,nZ];refine⟨W.nda,by simp,λx hx y hy e=> ?_⟩;simp at hy;obtain⟨q,I,rfl⟩:=aQ.mp hx;exact aX (W.at_ q I) Y (e.trans hy)
  .intro q I;rcases dO.mp I with z | z;.rw[aC (Rd.E_ W.dk (W.at_ q z)).symm];exact sl _ _ (W.at_ q z)
   .rw[dX.mp z,aC ndl.symm,aH];rfl
  .rw[dw,Z,j6,hi,dw];rfl
  .intro b u e;rw[aC (aX e hd)];exact sl _ _ (s1 _ _ e)
  .intro q I;rcases dO.mp I with z | z;.exact fr q z
   .rw[dX.mp z];exact s1.free Y
 .rintro v0 H1 ⟨hr1,B,U,W,Z,s1,fr⟩;rw[fM]at Z;have h1:=h.same s1;dsimp only;refine aZ (gQ (iz ((aq (p_X rfl h1.own.rd c) aG) _ ⟨x,_,T.X.map (·.1),rfl,h1.own.rd.hx,zu _,λO l hp hs hl=>⟨l,rfl,?_⟩⟩)));have ens:O=dJ t:=oX (hp.trans (Jo h.rel)) hs (Jl h.wf.toSrt);have sB:Same H1 (upd H1 l (.lst (O.map V.int))):=Same.upd hl;have nl:∀q∈B,l≠q.2:=λq I=>(aX (W.at_ q I) hl).symm;have ndl:d≠l:=aX U hl;refine afp (k:=2) (xs:=O.map V.int) (by decide) (λi _ J=>J d=some (.dK (dA B))/\HeldAt J d B (λj=>(O.take i).filter (pR t j))/\pY B (upd H1 l (.lst (O.map V.int))) J) ⟨sB _ _ U,W.same sB,.refl⟩
   (λi u J z=>SqL.of (z.2.2 l _ aH nl)) ⟨none,rfl⟩ ?_ ?_
  .rintro i y u H2 hi ⟨hd2,hA2,o2⟩ N nx;obtain⟨y,hy,rfl⟩:=get_map hi;have ym:y∈dJ t:=ens▸gq hy;obtain⟨L,ehm⟩:=(Dn h.wf.toSrt).mp ym;obtain⟨_,rk,erk⟩:=h.wf.spc y L ehm;have s2:Same H H2:=o2.same (s1.trans sB) fr;have h2:=h.same s2;have Xj:ak T.X y=some L:=by rw[h.gx];exact ehm
   refine gQ (bx ((aq (aj rfl) (aq (sG rfl h2.own.rd c (aj rfl) Xj) aG)) _ ⟨a,r,p,x,T,t,L,rfl,h2.r,.inr ⟨rk,erk⟩,λl2 hl2=>⟨l2,rfl,?_⟩⟩));have sC:Same H2 (upd H2 l2 (.lst ((upI t L).map V.int))):=Same.upd hl2;have nl2:∀q∈B,l2≠q.2:=λq I=>(aX (hA2.at_ q I) hl2).symm;have nup:=ak0 h.wf erk;refine jN (xs:=(upI t L).map V.int) (λm J=>J d=some (.dK (dA B))/\HeldAt J d B (λj=>if j∈(upI t L).take m then(O.take i).filter (pR t j)++[y]else(O.take i).filter (pR t j))/\pY B (upd H2 l2 (.lst ((upI t L).map V.int))) J)
    ⟨sC _ _ hd2,(hA2.same sC).congr (λq _=>by simp),.refl⟩ (λm J z=>SqL.of (z.2.2 l2 _ aH nl2)) ⟨u,rfl⟩ ?_ ?_
   .rintro m k H3 hmk ⟨S,G,o3⟩ N' nx';obtain⟨k,hk',rfl⟩:=get_map hmk;obtain⟨rk',apo⟩:=zc h.wf erk (gq hk');have:k∈B.map (·.1):=by rw[Z];have:=(bY h.nR).mpr (show ak T.R k=some rk' by rw[h.gr];exact apo);exact aQ.mpr ⟨_,this,rfl⟩
    obtain⟨⟨k0,la⟩,I,rfl⟩:=aQ.mp this;refine EY (qW (aj rfl) (aj rfl) G.dk G.ndk I) (aj rfl) (G.at_ _ I) ?_ (nx' _ ?_)
    .rw[aJ];have l1:∀b:Bool,((O.take i).filter (pR t k0)).length<=64:=λ_=>by
      have:=fG (pR t k0) (O.take i);have l2:(O.take i).length<=O.length:=by rw[fD];omega
      have l3:O.length<=64:=by rw[ens];unfold dJ;rw[aJ];exact h.wf.nx
      omega
     have:=l1 true;dsimp only;split;.rw[cV];exact gD (show _<=65 by simp;omega) (by decide)
     .exact gD this (by decide)
    .have kn:k0∉(upI t L).take m:=by intro z;obtain⟨j,hj,e⟩:=pH z;rw[aaR]at e;rw[fD]at hj;have:=ac8 nup (i:=j) (j:=m) (x:=k0) (by rw[ql (by omega)];rw[e]) hk';omega
     have ap:=G.app I y;rw[au kn]at ap;dsimp only;rw[au kn,<-List.map_singleton (f:=V.int),<-dw];refine⟨by rw[aC (Rd.E_ G.dk (G.at_ _ I))];exact S,ap.congr λq hq'=> ?_,o3.trans λb o e n=>by rw[aC (n _ I)];exact e⟩;rw[i_ hk'];by_cases e:q.1=k0;.rw[aB e,aB (by rw[e];simp),e]
     .rw[au e];have:q.1∈(upI t L).take m++[k0]↔q.1∈(upI t L).take m:=by simp[e]
      by_cases e2:q.1∈(upI t L).take m;.rw[aB e2,aB (this.mpr e2)]
      .rw[au e2,au λz=>e2 (this.mp z)]
   .rintro v3 H3 ⟨S,G,o3⟩;rw[aJ,fM]at G;dsimp only;refine nx _ _ ⟨S,G.congr λq I=> ?_,o2.trans ((Same.apm sC).trans o3)⟩;rw[i_ hy,xZ];have:pR t q.1 y=decide (q.1∈upI t L):=by unfold pR;rw[ehm];rfl
    by_cases e:q.1∈upI t L;.rw[aB e,xX (by rw[this];exact cF e),vf]
    .rw[au e,xY (by rw[this,cY e];decide),vf,gH]
  .rintro v3 u3 H3 ⟨S,G,o3⟩;rw[aJ,fM]at G;dsimp only;refine aU (aj rfl) (q d B H3 (o3.same (s1.trans sB) fr) hd fr S (G.congr λq I=> ?_) Z);rw[ens];refine aea h.wf ?_;have:q.1∈T.R.map (·.1):=Z▸aQ.mpr ⟨q,I,rfl⟩;obtain⟨⟨k0,v0⟩,L,e⟩:=aQ.mp this;have:=(bY h.nR).mp L;rw[h.gr]at this;have:=(h.wf.key _ _ this).1.1;have e:k0=q.1:=e;omega
end
section
variable {K:aW} {H:Hp} {σ:L2.St} {D:Ends} {j:Nat} {tb:TS}
theorem Xk (I:Nat->Hp->Prop) (l:I 0 H) (m:∀i b,I i b->b a=some (.dK kvs)) (p:∀o,PE0 te σ (upd H a (.frz o (.dK kvs))) (.ref a)) (s:∃v,σ=σ.set j v)
  (turn:∀i k w b,kvs[i]? =some (k,w)->I i b->∀o N g,(∀v b,g.rt v b=(b a=some (.frz o (.dK kvs))/\D.rt v (upd b a (.dK kvs))))->g.nx=N->
   (∀d,I (i+1) d->N (σ.set j (some (kV k))) (upd d a (.frz o (.dK kvs))))->tb g (σ.set j (some (kV k))) (upd b a (.frz o (.dK kvs))))
  (fin:∀v b,I kvs.length b->D.nx (σ.set j v) b):Cz (ud (CJ te) (jC j) tb) D σ H:=by
 refine Wu (m 0 H l) gK λo=>Mh (qQ (p o _ ⟨a,o,rfl,.inl ⟨_,aH,?_⟩⟩));refine Wm (λi h b=>(∃c,I i c/\b=upd c a (.frz o (.dK kvs)))/\∃v,h=σ.set j v) ⟨⟨H,l,rfl⟩,s⟩ (λi σ b ⟨⟨c,_,e⟩,_⟩=>by rw[e];exact aH) ?_ ?_;.rintro i k w h b q ⟨⟨c,f,rfl⟩,⟨v,rfl⟩⟩;have e:(σ.set j v).set j (some (kV k))=σ.set j (some (kV k)):=qp ..;show tb _ ((σ.set j v).set j (some (kV k))) _;rw[e];exact turn i k w c q f o _ _ (λ_ _=>rfl) rfl λd n=>⟨⟨d,n,rfl⟩,_,rfl⟩
 .rintro h b ⟨⟨c,f,rfl⟩,⟨v,rfl⟩⟩;refine⟨aH,?_⟩;rw[zN (m _ _ f)];exact fin v c f
end
def dS (S:List (List Int)):List (List Key×V):=S.map λl=>(l.map bI,V.bl true)
theorem afu:∀{l m:List Int},(l.map bI:List Key)=m.map bI->l=m
 | [],[],_=>rfl
 | [],_::_,h=>by cases h
 | _::_,[],h=>by cases h
 | a::l,b::m,h=>by rw[bT,bT]at h;injection h with c d;injection c with c;rw[c,afu d]
theorem Mx (S:List (List Int)) (l:List Int):eG (dS S) (l.map bI:List Key)=if l∈S then some (.bl true)else none:=by
 unfold dS
 induction S with
 | nil=>rfl
 | cons m S b=>
  rw[bT];by_cases e:m=l;.rw[lH (by rw[e]),aB (by rw[e];exact cU)]
  .rw[j8 (λz=>e (afu z)),b];have:l∈m::S↔l∈S:=by simp[lB e,show ¬l=m from λz=>e z.symm]
   by_cases a:l∈S;.rw[aB a,aB (this.mpr a)]
   .rw[au a,au λz=>a (this.mp z)]
theorem apq (S:List (List Int)) (l:List Int):putK (dS S) (l.map bI:List Key) (.bl true)=dS (if l∈S then S else S++[l]):=by
 by_cases e:l∈S
 .rw[aB e];unfold putK;rw[aB (by rw[vQ,Mx,aB e];rfl)];unfold dS;rw[bC];apply gJ;intro m _;show(if(m.map bI:List Key)=l.map bI then _ else _)=_;split;.rfl
  .rfl
 .rw[au e,HW _ (by rw[Mx,au e])];unfold dS;rw[dw];rfl
section
theorem afv (l:List Int):(l.map bI:List Key).map kV=l.map V.int:=by rw[bC];rfl
inductive zY (C:Addr) (vs:List V) (H:Hp) (Q:VK) (E:XK):Prop
 | mk a r p x T t:vs=[.ref a]->TAt C H a r p x T t->(∀d S H',Same H H'->H d=none->H' d=some (.dT (dS S))->S.Nodup->S.length<=32->(∀l,l∈S↔l≠[]/\∃k v,ak (gR t) k=some v/\l=bK t k)->Q (.ref d) H')->zY C vs H Q E
theorem apr (F:Fun K "sets_of" "sets_of" T5 f fd) (cs:Cs K mg) (mU:Df P w K mg base "held_specimens" qP 2 (sU C)):aY P w K mg base CX0 3 f fd zB (zY C):=by
 refine F.ok JD (by walk_at "l") (λ_ A _ s H vs Q E hr hz=> ?_);obtain⟨a,r,p,x,T,t,e,h,q⟩:=hz;subst e;refine⟨_,(aF (bO (i:=1) JD.nd ajy)
   (aF (bO (i:=2) JD.nd (aL mU hr (ao (pv 0) aA)))
   (aF (vW (d7 dG rfl (mG (pv 2)) (cQ (i:=3) JD.nd) (aD (aR (bF qF (cB fK rfl cs.len dF (ao (cu (pv 2) (pv 3) (bw hr)) aA)) aM) (aD (jQ (bw hr) (pv 1) (mF acF rfl cs.tuple afi (ao (cu (pv 2) (pv 3) (bw hr)) aA)) fO rfl)) aV))))
   (aD (aK (pv 1)))))),?_⟩
 have lR:=h.lR;refine aZ λd hd=> ?_;have s0:Same H (upd H d (.dT [])):=Same.upd hd;dsimp only;refine aZ (bx ((aq (aj rfl) aG) _ ⟨a,r,p,x,T,t,rfl,h.same s0,λL c H1 s1 U fka hdh hA G=> ?_⟩));have hd1:H1 d=some (.dT (dS [])):=s1 _ _ aH;have J:L≠d:=λz=>by rw[z,aH]at U;cases U
 have nd1:=hA.ndk;have hlk:c.length<=32:=by have:=congrArg iR G;rw[aJ,aJ]at this;omega
 refine aZ (Xk (λi j=>j L=some (.dK (dA c))/\∃S,j d=some (.dT (dS S))/\S.Nodup/\S.length<=i/\HeldAt j L c (bK t)/\Same H j/\∀l,l∈S↔l≠[]/\∃k∈(c.map (·.1)).take i,l=bK t k)
  ⟨hdh,[],hd1,k_,bW _,hA,s0.trans s1,λl=>by simp⟩ (λi j z=>z.1) (λo=>aj rfl) ⟨none,rfl⟩ ?_ ?_)
 .rintro i k u j hi ⟨pZ,S,I,Z,lS,m,s',R⟩ o N D' hrt X g;obtain⟨⟨B,Y⟩,O,e0⟩:∃q,c[i]? =some q/\((bI q.1:Key),V.ref q.2)=(k,u):=by unfold dA at hi;rw[dM]at hi;exact iT.mp hi
  injection e0 with e1 e2;subst e1;subst e2;have hm:(B,Y)∈c:=gq O;have W:=m.at_ _ hm;have nla:Y≠L:=(Rd.E_ (.inl pZ) W).symm;have Mz:upd j L (.frz o (.dK (dA c))) Y=some (.lst ((bK t B).map V.int)):=by rw[aC nla];exact W
  have get:PE0 (gZ (bA 2) (bA 3)) (eZ (eZ (eZ (start aez [V.ref a]) 1 (some (.ref d))) 2 (some (.ref L))) 3 (some (kV (bI B)))) (upd j L (.frz o (.dK (dA c)))) (.ref Y):=qW (aj rfl) (aj rfl) (.inr ⟨o,aH⟩) nd1 hm;have ht:(c.map (·.1)).take (i+1)=(c.map (·.1)).take i++[B]:=i_ (by rw[dM,O];rfl);have llen:=zj h.wf B;refine gO (bM (p_i (f9 (aq get aG) (SqL.of Mz)) p_c)) (λhb=> ?_) λhb=> ?_
  .have hne:bK t B≠[]:=λz=>by rw[z]at hb;cases hb
   refine wL (p_c _ ((aj rfl) _ (iz ((aq get aG) _ ⟨Y,_,rfl,.inl ⟨SqL.of Mz,λtp htp=> ?_⟩⟩))));obtain⟨ntd,zZ⟩:=fC htp;have aps:d≠tp:=aX I zZ;have hdt:upd (upd j L (.frz o (.dK (dA c)))) tp (.tup ((bK t B).map V.int)) d=some (.dT (dS S)):=by rw[aC aps,aC J.symm];exact I
   refine⟨d,_,rfl,.inr ⟨_,(bK t B).map bI,tp,hdt,rfl,by rw[aH,afv],?_,rfl⟩,?_⟩;.unfold dS;rw[aJ];have hlt:=(jX.mp O).1;exact gD (show S.length<=32 by omega) (by decide)
   rw[apq,X,sS ntd.symm,sS J];have st:Same j (upd j tp (.tup ((bK t B).map V.int))):=Same.upd zZ;have fr:∀{b u},j b=some u->b≠d->∀z,upd (upd j tp (.tup ((bK t B).map V.int))) d z b=some u:=λe n z=>by rw[aC n];exact st _ _ e
   refine g _ ⟨fr pZ J _,if bK t B∈S then S else S++[bK t B],aH,?_,?_,⟨.inl (fr pZ J _),m.ndk,m.nda,λq hq=>fr (m.at_ q hq) (cJ (m.at_ q hq) I (by intro z;cases z)) _⟩,λb u e=>fr (s' _ _ e) (aX e hd) _,λl=> ?_⟩
   .split;.exact Z
    .rename_i z;rw[nZ];exact⟨Z,by simp,λx hx y hy e=>by simp at hy;rw[hy]at e;exact z (e▸hx)⟩
   .split;.omega
    .rw[cV];simp;omega
   .rw[ht];by_cases z:bK t B∈S
    .rw[aB z,R];refine qC λhn=>⟨λ⟨k,G,e⟩=>⟨k,qg _ G,e⟩,λ⟨k,G,e⟩=> ?_⟩;rcases dO.mp G with y | y;.exact⟨k,y,e⟩
     .rw[dX.mp y]at e;rw[e];exact((R _).mp z).2
    .rw[au z,dO,R,dX];constructor
     .rintro(⟨y1,k,y2,y3⟩ | y);.exact⟨y1,k,qg _ y2,y3⟩
      .exact⟨by rw[y];exact hne,B,by simp,y⟩
     .rintro⟨y1,k,y2,y3⟩;rcases dO.mp y2 with y | y;.exact .inl ⟨y1,k,y,y3⟩
      .rw[dX.mp y]at y3;exact .inr y3
  .show D'.nx _ _;rw[X];have he:bK t B=[]:=by rw[aJ,iu]at hb;exact qm.mp (by omega)
   refine g j ⟨pZ,S,I,Z,by omega,m,s',λl=> ?_⟩;rw[R,ht];refine qC λhn=>⟨λ⟨k,G,e⟩=>⟨k,qg _ G,e⟩,λ⟨k,G,e⟩=> ?_⟩;rcases dO.mp G with y | y;.exact⟨k,y,e⟩
   .rw[dX.mp y,he]at e;exact absurd e hn
 .rintro v j ⟨pZ,S,I,Z,lS,m,s',R⟩;rw[zW]at lS R;dsimp only;refine aU (aj rfl) (q d S j s' hd I Z (by omega) λl=> ?_);rw[R,qj (by rw[aJ];exact bW _),G];refine qC λ_=>⟨λ⟨k,G,e⟩=> ?_,λ⟨k,v,G,e⟩=>⟨k,?_,e⟩⟩;.obtain⟨⟨k',v'⟩,hm,rfl⟩:=aQ.mp G;exact⟨_,v',by rw[<-h.gr];exact(bY h.nR).mp hm,e⟩
  .exact aQ.mpr ⟨(k,v),(bY h.nR).mpr (by rw[h.gr];exact G),rfl⟩
end
def MT (t:TT):Prop:=∀σ H Q c,(∀b a,Q b a->c b a)->t σ H Q->t σ H c
def ME (t:TE):Prop:=∀σ H Q b,(∀v a,Q v a->b v a)->t σ H Q->t σ H b
theorem Xl:ME (bA i):=λσ H Q a f ⟨v,e,q⟩=>⟨v,e,f _ _ q⟩
theorem apt:ME (tC v):=λσ H Q a f q=>f _ _ q
theorem apu (h:ME te):MT (tB te):=λσ H Q c f q=>h σ H _ _ (λv a ⟨b,e,z⟩=>⟨b,e,f _ _ z⟩) q
theorem apv (h:ME te):MT (mD te):=λσ H Q c f q=>h σ H _ _ (λv a ⟨b,e,z⟩=>⟨b,e,f _ _ z⟩) q
theorem apw (h:MT t) (k:MT u):MT (yE t u):=λσ H Q c f q=>h σ H _ _ (λb a z=>by cases b;exact f _ _ z;exact k σ a _ _ f z) q
theorem apx (h:ME ta) (k:ME tb):ME (tOp rNe ta tb):=λσ H Q c f q=>h σ H _ _ (λx a z=>k σ a _ _ (λy b ⟨s,z⟩=>⟨s,f _ _ z⟩) z) q
theorem apy (h:ME ty) (k:ME td):ME (vU ty td):=λσ H Q d f q=>h σ H _ _ (λx b z=>k σ b _ _ (λy c ⟨a,o,e,g,z⟩=>⟨a,o,e,g,f _ _ z⟩) z) q
def dB (ks:List Int):List (Key×V):=ks.map λk=>(bI k,V.bl true)
theorem afw (ks:List Int) (k:Int):eG (dB ks) (bI k:Key)=if k∈ks then some (.bl true)else none:=by
 unfold dB
 induction ks with
 | nil=>rfl
 | cons m S b=>
  rw[bT];by_cases e:m=k;.rw[lH (by rw[e]),aB (by rw[e];exact cU)]
  .rw[j8 (λz=>e (by injection z)),b];have:k∈m::S↔k∈S:=by simp[show ¬k=m from λz=>e z.symm]
   by_cases a:k∈S;.rw[aB a,aB (this.mpr a)]
   .rw[au a,au λz=>a (this.mp z)]
theorem apz (a:PE0 td σ H (.ref d)) (b:PE0 ty σ H (.int k)) (c:Rd H d (.dK (dB ks))):PE0 (vU ty td) σ H (.bl (!decide (k∈ks))):=λQ q=>
 b _ (a _ ⟨d,_,rfl,.inl ⟨_,bI k,c,rfl,rfl⟩,by
  rw[afw];by_cases e:k∈ks;.rw[aB e];rw[cF e]at q;exact q
  .rw[au e];rw[cY e]at q;exact q⟩)
section
inductive Xm (C:Addr) (vs:List V) (H:Hp) (Q:VK) (E:XK):Prop
 | mk a r p x b r' p' x' T U t u:vs=[.ref a,.ref b]->TAt C H a r p x T t->TAt C H b r' p' x' U u->(∀d ks H',Same H H'->H d=none->H' d=some (.dK (dB ks))->ks.Nodup->ks.length<=32->(∀k,k∈ks↔kI t u k)->Q (.ref d) H')->Xm C vs H Q E
theorem apA (F:Fun K "kept_groups" "kept_groups" Vl f fd) (cs:Cs K mg) (mU:Df P w K mg base "held_specimens" qP 2 (sU C)) (z8:Df P w K mg base "sets_of" zB 3 (zY C)):aY P w K mg base CX0 4 f fd Kv (Xm C):=by
 refine F.ok DW (by walk_at "l") (λ_ A _ s H vs Q E hr hz=> ?_);obtain⟨a,r,p,x,b,r',p',x',T,U,t,u,e,h,h',q⟩:=hz;subst e;refine⟨_,(aF (bO (i:=2) DW.nd (aL z8 hr (ao (pv 1) aA)))
   (aF (bO (i:=3) DW.nd (aL mU hr (ao (pv 0) aA)))
   (aF (bO (i:=4) DW.nd vV)
   (aF (vW (d7 dG rfl (mG (pv 3)) (cQ (i:=5) DW.nd) (aD (aR (gA (Cw (bw hr) (mF acF rfl cs.tuple afi (ao (cu (pv 3) (pv 5) (bw hr)) aA)) (pv 2))) (aD (jQ (bw hr) (pv 4) (pv 5) fO rfl)) aV))))
   (aD (aK (pv 4))))))),?_⟩
 have lR:=h.lR;refine aZ (bx ((aq (aj rfl) aG) _ ⟨b,r',p',x',U,u,rfl,h',λds S H1 s1 fds hds nS lS mS=> ?_⟩));refine aZ (bx ((aq (aj rfl) aG) _ ⟨a,r,p,x,T,t,rfl,h.same s1,λY c H2 s2 fdh fka Z hA hk=> ?_⟩));refine aZ λd hd=> ?_;have s3:Same H2 (upd H2 d (.dK [])):=Same.upd hd;have s03:=(s1.trans s2).trans s3;have nds:ds≠d:=aX (s2 _ _ hds) hd;have W:=aX Z hd;have Xn:=s3 _ _ (s2 _ _ hds);have hlk:c.length<=32:=by have:=congrArg iR hk;rw[aJ,aJ]at this;omega
 have nsh:=cJ (s2 _ _ hds) Z (by intro z;cases z);dsimp only;refine aZ (Xk (a:=Y) (kvs:=dA c) (λi m=>m Y=some (.dK (dA c))/\m ds=some (.dT (dS S))/\HeldAt m Y c (bK t)/\Same H m/\∃ks,m d=some (.dK (dB ks))/\ks.Nodup/\ks.length<=i/\∀k,k∈ks↔k∈(c.map (·.1)).take i/\bK t k∈S)
  ⟨s3 _ _ Z,Xn,hA.same s3,s03,[],aH,k_,bW _,λk=>by simp⟩ (λi m z=>z.1) (λo=>aj rfl) ⟨none,rfl⟩ ?_ ?_)
 .rintro i k u' m hi ⟨pZ,Fb,l,s',ks,G,X,lks,I⟩ o N D' hrt hnx g;obtain⟨⟨B,la⟩,O,e0⟩:∃q,c[i]? =some q/\((bI q.1:Key),V.ref q.2)=(k,u'):=by unfold dA at hi;rw[dM]at hi;exact iT.mp hi
  injection e0 with e1 e2;subst e1;subst e2;have hm:(B,la)∈c:=gq O;have hla:=l.at_ _ hm;have nla:la≠Y:=(Rd.E_ (.inl pZ) hla).symm;have Mz:upd m Y (.frz o (.dK (dA c))) la=some (.lst ((bK t B).map V.int)):=by rw[aC nla];exact hla
  have ht:(c.map (·.1)).take (i+1)=(c.map (·.1)).take i++[B]:=i_ (by rw[dM,O];rfl);have kn:B∉(c.map (·.1)).take i:=by intro z;obtain⟨j,hj,e⟩:=pH z;rw[aaR]at e;rw[fD]at hj;have:=ac8 l.ndk (i:=j) (j:=i) (x:=B) (by rw[ql (by omega)];rw[e]) (by rw[dM,O];rfl);omega
  refine pU (r_b (iz ((aq (qW (aj rfl) (aj rfl) (.inr ⟨o,aH⟩) l.ndk hm) aG) _ ⟨la,_,rfl,.inl ⟨SqL.of Mz,λtp htp=> ?_⟩⟩)));obtain⟨ntd,zZ⟩:=fC htp;have st:Same m (upd m tp (.tup ((bK t B).map V.int))):=Same.upd zZ;have apB:upd (upd m Y (.frz o (.dK (dA c)))) tp (.tup ((bK t B).map V.int)) ds=some (.dT (dS S)):=by rw[aC (aX Fb zZ),aC nsh];exact Fb
  refine(aj rfl) _ ⟨ds,_,rfl,.inr ⟨_,(bK t B).map bI,tp,.inl apB,rfl,by rw[aH,afv],rfl⟩,_,rfl,?_⟩;rw[Mx];by_cases R:bK t B∈S
  .rw[aB R,aB (show(some (V.bl true)).isSome=true from rfl)];have hdt:upd (upd m Y (.frz o (.dK (dA c)))) tp (.tup ((bK t B).map V.int)) d=some (.dK (dB ks)):=by rw[aC (aX G zZ),aC W.symm];exact G
   have hlt:=(jX.mp O).1;refine wL (p_c _ ((aj rfl) _ ((aj rfl) _ ⟨d,_,rfl,rP.k (k:=bI B) hdt (by unfold dB;rw[aJ];exact gD (show ks.length<=32 by omega) (by decide)),?_⟩)));have kn2:B∉ks:=λz=>kn ((I B).mp z).1;rw[hnx,HW _ (by rw[afw,au kn2]),sS ntd.symm,sS W];have fr:∀{b u},m b=some u->b≠d->∀z,upd (upd m tp (.tup ((bK t B).map V.int))) d z b=some u:=λe n z=>by rw[aC n];exact st _ _ e
   refine g _ ⟨fr pZ W _,fr Fb nds _,⟨.inl (fr pZ W _),l.ndk,l.nda,λq hq=>fr (l.at_ q hq) (cJ (l.at_ q hq) G (by intro z;cases z)) _⟩,λb u e=>fr (s' _ _ e) (λz=>by rw[z]at e;rw[(s1.trans s2) _ _ e]at hd;cases hd) _,ks++[B],?_,?_,?_,λk=> ?_⟩;.rw[aH];unfold dB;rw[dw];rfl
   .rw[nZ];exact⟨X,by simp,λx hx y hy e=>by simp at hy;rw[hy]at e;exact kn2 (e▸hx)⟩
   .rw[cV];simp;omega
   .rw[dO,I,ht,dO,dX];constructor
    .rintro(⟨J,L⟩ | z);.exact⟨.inl J,L⟩
     .exact⟨.inr z,by rw[z];exact R⟩
    .rintro⟨J | J,L⟩;.exact .inl ⟨J,L⟩
     .exact .inr J
  .rw[au R,au (show ¬(none:Option V).isSome=true by decide)];show D'.nx _ _;rw[hnx,sS ntd.symm];refine g _ ⟨st _ _ pZ,st _ _ Fb,l.same st,s'.trans st,ks,st _ _ G,X,by omega,λk=> ?_⟩;rw[I,ht,dO,dX];exact⟨λ⟨J,L⟩=>⟨.inl J,L⟩,λ⟨J,L⟩=>⟨J.resolve_right λz=>R (z▸L),L⟩⟩
 .rintro v m ⟨pZ,Fb,l,s',ks,G,X,lks,I⟩;rw[zW]at lks I;dsimp only;refine aU (aj rfl) (q d ks m s' ((s1.trans s2).free hd) G X (by omega) λk=> ?_);rw[I,qj (by rw[aJ];exact bW _),hk,mS];unfold kI;refine and_congr ?_ (qC λ_=>⟨λ⟨j,v,J,L⟩=>⟨j,v,J,L⟩,λ⟨j,v,J,L⟩=>⟨j,v,J,L⟩⟩);constructor;.intro z;obtain⟨⟨k',v'⟩,hm,rfl⟩:=aQ.mp z;exact⟨v',by rw[<-h.gr];exact(bY h.nR).mp hm⟩
  .rintro⟨v,hv⟩;exact aQ.mpr ⟨(k,v),(bY h.nR).mpr (by rw[h.gr];exact hv),rfl⟩
inductive MF (C:Addr) (vs:List V) (H:Hp) (v:V):Prop
 | mk a r p x d T t u g ks:vs=[.ref a,.ref d,.int g]->Ez C H a r p x T t->WF u->Rd H d (.dK (dB ks))->(∀k,k∈ks↔kI t u k)->(g=0\/∃v,ak (gR t) g=some v)->v= .int (gk t u g)->MF C vs H v
def apC (t:b_) (σ:List (Option V)):Nat:=match σ[2]? with
 | some (some (V.int g))=>(upI t g).length
 | _=>0
theorem apD (F:Fun K "nearest_kept" "nearest_kept" Vm f fd) (c:cA K mg C):aY P w K mg base CX0 1 f fd Kw (spP (MF C)):=by
 refine F.ok aeJ (by walk_at "l") (λ_ A _ s H X Q E L W=> ?_);obtain⟨v,⟨a,r,p,x,d,T,t,u,g,ks,e,h,N,S,mk,U,R⟩,q⟩:=W;subst e;subst R;refine⟨_,(aF (uc dG (PW.pt (pO (bF jE (pv 2) aM) (pN (gA (g8 (bw L) (pv 2) (pv 1)))))) (aD (bO (i:=2) aeJ.nd (cu (aO (pv 0) rfl) (pv 2) (bw L)))))
   (aD (aK (pv 2)))),?_⟩
 refine aZ (ab2 (λσ J=>∃b,σ=[some (.ref a),some (.ref d),some (.int b)]/\J=H/\gk t u g=gk t u b/\(b=0\/∃v,ak (gR t) b=some v)) (λσ _=>apC t σ) ⟨g,rfl,rfl,rfl,U⟩ ?_ (apw (apv (apx Xl apt)) (apu (apy Xl Xl))));rintro σ J ⟨b,rfl,rfl,o,B⟩;refine(uI (bM (gn (aj rfl) p_c)) λ_=>p_b (apz (aj rfl) (aj rfl) S)) _ ?_;by_cases l:b=0;.rw[au (by rw[cF l];simp)];refine aU (aj rfl) ?_;subst l;rw[o,ak1]at q;exact q
 .obtain⟨v,I⟩:=B.resolve_left l;by_cases j:b∈ks;.rw[au (by rw[cF j];simp)];refine aU (aj rfl) ?_;rw[o,ak2 h.wf N ((mk b).mp j)]at q;exact q
  .rw[aB (by rw[cY j,cY l];rfl)];have y:(ak (gP t) b).isSome=true:=by rw[jR,I];rfl
   obtain⟨n,m⟩:=gj.mp y;have O:=ad9 h.wf I m;have G:ak T.P b=some n:=by rw[h.rel.gp h.wf.toSrt];exact m
   refine afk (o8 rfl h.rd c (aj rfl) G) ⟨⟨n,rfl,rfl,o.trans (ak3 h.wf N I m λz=>j ((mk b).mpr z)),?_⟩,?_⟩
   .rcases h.wf.par b n m with z | ⟨u,_,z,_⟩;.exact .inl z
    .exact .inr ⟨u,z⟩
   .show(upI t n).length < (upI t b).length;rw[O];simp
end
theorem Fd:∀(l m:List Int),l.Nodup->(∀x∈l,x∈m)->l.length<=m.length
 | [],m,_,_=>fU _
 | a::l,m,g,d=>by have b:=je.mp g;have f:=Fd l (m.erase a) b.2 λy e=>(Pb (show y≠a from λz=>b.1 (z▸e))).mpr (d y (cO _ e));have c:=d a cU;rw[aaO c]at f;have:=Pk c;rw[bR];omega
theorem Xo {d:D} (b:ND d) {ks:List Int} (h:∀j v,ak d j=some v->j∈ks):d.length<=ks.length:=by
 have a:(d.map (·.1)).length<=ks.length:=by refine Fd _ _ b λj c=> ?_;obtain⟨⟨k,v⟩,e,rfl⟩:=aQ.mp c;exact h _ v ((bY b).mp e)
 rw[aJ]at a;exact a
section
inductive Xp (C:Addr) (vs:List V) (H:Hp) (Q:VK) (E:XK):Prop
 | mk a r p x b r' p' x' T U t u:vs=[.ref a,.ref b]->TAt C H a r p x T t->TAt C H b r' p' x' U u->(∀e r1 p1 x1 V H',Same H H'->H e=none->TAt C H' e r1 p1 x1 V (abD t u)->Q (.ref e) H')->Xp C vs H Q E
theorem apE (F:Fun K "agreed_tree" "agreed_tree" Vn f fd) (c:cA K mg C) (cs:Cs K mg) (apF:Df P w K mg base "kept_groups" Kv 4 (Xm C)) (afx:Df P w K mg base "nearest_kept" Kw 1 (spP (MF C)))
  (wZ:Df P w K mg base "empty_tree" wG 3 (El C)) (nQ:Df P w K mg base "set_group" qN 1 (sE C)):aY P w K mg base CX0 5 f fd Ky (Xp C):=by
 refine F.ok zF (by walk_at "l") (λ_ A _ s H vs Q E hr hz=> ?_);obtain⟨a,r,p,x,b,r',p',x',T,U,t,u,e,h,h',q⟩:=hz;subst e;refine⟨_,(aF (bO (i:=2) zF.nd (aL apF hr (ao (pv 0) (ao (pv 1) aA))))
   (aF (bO (i:=3) zF.nd (LR wZ hr (by decide)))
   (aF (vW (d7 dG rfl (mG (pv 2)) (cQ (i:=4) zF.nd) (aD (eE (aL nQ hr (ao (pv 3) (ao (pv 4) (ao (cu (aO (pv 0) rfl) (pv 4) (bw hr)) (ao (aL afx hr (ao (pv 0) (ao (pv 2) (ao (cu (aO (pv 0) rfl) (pv 4) (bw hr)) aA)))) aA)))))))))
   (aF (d7 dG rfl (eV (cB (rR rfl) rfl cs.sorted o7 (ao (aO (pv 0) rfl) aA))) (cQ (i:=5) zF.nd) (aF (bO (i:=6) zF.nd (aL afx hr (ao (pv 0) (ao (pv 2) (ao (cu (aO (pv 0) rfl) (pv 5) (bw hr)) aA)))))
   (aD (aR (bF jE (pv 6) aM) (aD (jQ (bw hr) (aO (pv 3) rfl) (pv 5) (pv 6) rfl)) aV))))
   (aD (aK (pv 3))))))),?_⟩
 have lR:=h.lR;have lX:=h.lX;obtain⟨cS,cR,cP,cX⟩:=ak4 h.wf h'.wf;refine aZ (bx ((aq (aj rfl) (aq (aj rfl) aG)) _ ⟨a,r,p,x,b,r',p',x',T,U,t,u,rfl,h,h',λd ks H1 s1 fd1 hd1 nks lks G=> ?_⟩));dsimp only;refine aZ (bx (aG _ ⟨rfl,λe Y W Z H2 fr s2 ho=> ?_⟩));have s12:=s1.trans s2;have hd2:=s2 _ _ hd1;have nrd:Y≠d:=λz=>by rw[z,hd1]at fr;cases fr.2.1
 have npd:W≠d:=λz=>by rw[z,hd1]at fr;cases fr.2.2.1
 have nxd:Z≠d:=λz=>by rw[z,hd1]at fr;cases fr.2.2.2
 have f0:H Y=none/\H W=none/\H Z=none:=⟨s1.free fr.2.1,s1.free fr.2.2.1,s1.free fr.2.2.2⟩;have o2s:∀{m},bG Y W Z H2 m->Same H m:=λo b u e=>o b u (s12 _ _ e) (aX e f0.1) (aX e f0.2.1) (aX e f0.2.2);dsimp only;refine aZ (Xk (a:=d) (kvs:=dB ks) (λi m=>m d=some (.dK (dB ks))/\bG Y W Z H2 m/\∃B:cG,bQ C m e Y W Z B/\B.X=[]/\ND B.R/\ND B.P/\(∀j,ak B.R j=if j∈ks.take i then ak (gR t) j else none)/\∀j,ak B.P j=if j∈ks.take i then(ak (gP t) j).map (gk t u)else none)
  ⟨hd2,.refl,⟨[],[],[]⟩,ho,rfl,k_,k_,λj=>by simp[lJ],λj=>by simp[lJ]⟩ (λi m z=>z.1) (λo=>aj rfl) ⟨none,rfl⟩ ?_ ?_)
 .rintro i k u' m hi ⟨I,o',B,O,eX,nR,nP,mR,mP⟩ o N D' hrt hnx g;obtain⟨S,hi',e0⟩:∃q,ks[i]? =some q/\((bI q:Key),V.bl true)=(k,u'):=by unfold dB at hi;rw[dM]at hi;exact iT.mp hi
  injection e0 with e1 e2;subst e1;subst e2;obtain⟨⟨v,hv⟩,_⟩:=(G S).mp (gq hi');obtain⟨z1,pr,L,z3⟩:=h.both hv;have s':=o2s o';have hs:=h.same s';have na:∀{z:Addr} {w},H z=some w->z≠d:=λe=>aX e fd1;have rdL:∀{z:Addr} {dd:D},m z=some (.dK (dI dd))->z≠d->Rd (upd m d (.frz o (.dK (dB ks)))) z (.dK (dI dd)):=λe n=> .inl (by rw[aC n];exact e);have hrd:Ez C (upd m d (.frz o (.dK (dB ks)))) a r p x T t:=by obtain⟨dx,e0⟩:=h.own.ins;exact⟨⟨⟨dx,by rw[aC (na e0)];exact s' _ _ e0⟩,rdL hs.own.hr (na h.own.hr),rdL hs.own.hp (na h.own.hp),rdL hs.own.hx (na h.own.hx)⟩,h.rel,h.wf⟩
  have hV':bQ C (upd m d (.frz o (.dK (dB ks)))) e Y W Z B:=by obtain⟨dx,e0⟩:=O.ins;exact⟨⟨dx,by rw[aC (cJ e0 I (by intro z;cases z))];exact e0⟩,by rw[aC nrd];exact O.hr,by rw[aC npd];exact O.hp,by rw[aC nxd];exact O.hx,O.rp,O.rx,O.px⟩
  have kin:∀j v,ak B.R j=some v->j∈ks:=λj v e=>by
   rw[mR]at e;split at e;.rename_i z;exact GJ z
   .cases e
  have apG:∀j v,ak B.P j=some v->j∈ks:=λj v e=>by
   rw[mP]at e;split at e;.rename_i z;exact GJ z
   .cases e
  have l1:=Xo nR kin;have l2:=Xo nP apG;have near:PE0 (lD (spP (MF C)) [] E0 (gw (bA 0) (gw (bA 2) (gw (gZ (dZ K (bA 0) "parents") (bA 4)) fW)))) (eZ (eZ (eZ (start aeK [V.ref a,V.ref b]) 2 (some (.ref d))) 3 (some (.ref e))) 4 (some (kV (bI S)))) (upd m d (.frz o (.dK (dB ks)))) (.int (gk t u pr)):=
   jw (aq (aj rfl) (aq (aj rfl) (aq (o8 rfl hrd.rd c (aj rfl) L) aG))) ⟨a,r,p,x,d,T,t,u,pr,ks,rfl,hrd,h'.wf,.inr ⟨o,aH⟩,G,(h.wf.par S pr z3).imp id λ⟨q,_,y,_⟩=>⟨q,y⟩,rfl⟩
  refine oZ (bx ((aq (aj rfl) (aq (aj rfl) (aq (mO rfl hrd.rd c (aj rfl) z1) (aq near aG)))) _ ⟨e,Y,W,Z,B,S,v,gk t u pr,rfl,hV',by omega,by omega,?_⟩));rw[hnx,sS nrd.symm,sS npd.symm];have ht:=i_ hi';refine g _ ⟨by rw[aC npd.symm,aC nrd.symm];exact I,o'.trans ((bG.uR _).trans (bG.uP _)),_,(O.wR _).wP _,eX,j9 nR _ _,j9 nP _ _,λj=> ?_,λj=> ?_⟩
  .show ak (dput B.R S v) j=_;rw[iJ,mR,ht];by_cases y:j=S;.rw[aB y,aB (by rw[y];simp),y,hv]
   .rw[au y];have:j∈ks.take i++[S]↔j∈ks.take i:=by simp[y]
    by_cases y2:j∈ks.take i;.rw[aB y2,aB (this.mpr y2)]
    .rw[au y2,au λz=>y2 (this.mp z)]
  .show ak (dput B.P S (gk t u pr)) j=_;rw[iJ,mP,ht];by_cases y:j=S;.rw[aB y,aB (by rw[y];simp),y,z3];rfl
   .rw[au y];have:j∈ks.take i++[S]↔j∈ks.take i:=by simp[y]
    by_cases y2:j∈ks.take i;.rw[aB y2,aB (this.mpr y2)]
    .rw[au y2,au λz=>y2 (this.mp z)]
 .rintro v0 H3 ⟨hd3,o3,B,O,eX,nR,nP,mR,mP⟩;have apH:(dB ks).length=ks.length:=aJ _;rw[apH,fM]at mR mP;have s3:=o2s o3;have h3:=h.same s3;dsimp only;refine aZ (gQ (iz ((aq (p_X rfl h3.own.rd c) aG) _ ⟨x,_,T.X.map (·.1),rfl,h3.own.rd.hx,zu _,λJ l hp hs hl=>⟨l,rfl,?_⟩⟩)));have ens:J=dJ t:=oX (hp.trans (Jo h.rel)) hs (Jl h.wf.toSrt);have sB:Same H3 (upd H3 l (.lst (J.map V.int))):=Same.upd hl;have hVB:=O.same sB;refine afp (k:=6) (xs:=J.map V.int) (by decide) (λi _ m=>m d=some (.dK (dB ks))/\bG Y W Z (upd H3 l (.lst (J.map V.int))) m/\∃X,bQ C m e Y W Z ⟨B.R,B.P,X⟩/\ND X/\∀j,ak X j=if j∈J.take i then(ak (gX t) j).bind λh=>if gk t u h=0 then none else some (gk t u h)else none)
   ⟨sB _ _ hd3,.refl,[],by have:=hVB;rw[<-eX];exact this,k_,λj=>by simp[lJ]⟩ (λi u' m z=>SqL.of (wW z.2.1 aH hVB.hr hVB.hp hVB.hx)) ⟨none,rfl⟩ ?_ ?_
  .rintro i y u' m hi ⟨I,o',X,hX,nX,mX⟩ N nx;obtain⟨y,hy,rfl⟩:=get_map hi;have ym:y∈dJ t:=ens▸gq hy;obtain⟨hm,ehm⟩:=(Dn h.wf.toSrt).mp ym;obtain⟨_,rk,erk⟩:=h.wf.spc y hm ehm;have s':Same H m:=o2s (o3.trans ((Same.only sB).trans o'));have hs':=h.same s';have Xj:ak T.X y=some hm:=by rw[h.gx];exact ehm
   have ht:=i_ hy;have lX2:X.length<=J.length:=Xo nX λj v e=>by
    rw[mX]at e;split at e;.rename_i z;exact GJ z
    .cases e
   have lns:J.length<=64:=by rw[ens];unfold dJ;rw[aJ];exact h.wf.nx
   have step:∀j,j≠y->(j∈J.take i++[y]↔j∈J.take i):=λj n=>by simp[n]
   refine o_ (jw (aq (aj rfl) (aq (aj rfl) (aq (sG rfl hs'.own.rd c (aj rfl) Xj) aG))) ⟨a,r,p,x,d,T,t,u,hm,ks,rfl,hs'.r,h'.wf,.inl I,G,.inr ⟨rk,erk⟩,rfl⟩) ?_;refine gO (bM (gn (aj rfl) p_c)) (λhb=> ?_) λhb=> ?_
   .have hn:=n1t.mp hb;refine uJ (aj rfl) (p_X rfl hX.rd c) (aj rfl) hX.hx (by show X.length < _;omega) ?_;refine nx _ _ ⟨by rw[aC nxd.symm];exact I,o'.trans (bG.uX _),_,hX.wX _,j9 nX _ _,λj=> ?_⟩;rw[iJ,mX,ht];by_cases z:j=y;.rw[aB z,aB (by rw[z];simp),z,ehm];show _=if gk t u hm=0 then none else some (gk t u hm);rw[au hn]
    .rw[au z];by_cases L:j∈J.take i;.rw[aB L,aB ((step j z).mpr L)]
     .rw[au L,au λq=>L ((step j z).mp q)]
   .have hn:=n1f.mp hb;refine nx _ _ ⟨I,o',X,hX,nX,λj=> ?_⟩;rw[mX,ht];by_cases z:j=y
    .rw[aB (show j∈J.take i++[y]by rw[z];simp),z,ehm];show _=if gk t u hm=0 then none else some (gk t u hm);rw[aB hn];split;.show(if gk t u hm=0 then none else some (gk t u hm))=none;rw[aB hn]
     .rfl
    .by_cases L:j∈J.take i;.rw[aB L,aB ((step j z).mpr L)]
     .rw[au L,au λq=>L ((step j z).mp q)]
  .rintro v1 u1 H4 ⟨hd4,o4,X,hX,nX,mX⟩;rw[aJ,fM]at mX;dsimp only;refine aU (aj rfl) (q e Y W Z _ H4 (o2s (o3.trans ((Same.only sB).trans o4))) (s1.free fr.1) ⟨hX,?_,akP h.wf⟩);refine Rel.of cS nR nP nX (λj=> ?_) (λj=> ?_) λj=> ?_
   .show ak B.R j=_;rw[mR,cR];by_cases z:kI t u j;.rw[aB z,aB ((G j).mpr z)]
    .rw[au z,au λy=>z ((G j).mp y)]
   .show ak B.P j=_;rw[mP,cP];by_cases z:kI t u j;.rw[aB z,aB ((G j).mpr z)]
    .rw[au z,au λy=>z ((G j).mp y)]
   .show ak X j=_;rw[mX,cX];by_cases z:j∈J;.rw[aB z]
    .rw[au z];cases e2:ak (gX t) j with
     | none=>rfl
     | some v=>exact absurd (ens▸(Dn h.wf.toSrt).mpr ⟨v,e2⟩) z
end
section
variable {X:Cx} {C:Addr} {m x:Str} {ps:List Str} {k k':Nat} {sp:Sp} {o e:Expr} {es:List Expr} {ta:TE} {t:TA} {p pos apos:Pos}
theorem pq (d:Mt X.prog X.w X.K X.mg X.base C m ps k sp) (n:eF k' X.A) (j:k<=k') (i:PE X o ta) (g:PA X (e::es) t)
  (b:starEach (e::es) X.env=(false,eval e X.env)::starEach es X.env:=by rfl) (a:(backTo pos (starEach es X.env)).any (·.1)=false:=by rfl)
  (p:eval (.Call (.Attribute o m apos) (e::es) [] pos) X.env=(do
   let ov <-eval o X.env
   standAt apos.atName
   let (f,first) <-holding [ov] (getMethod ov m pl)
   callWith pos f first (backTo pos (starEach (e::es) X.env)) (backToKw pos (keywordEach [] X.env))):=by rfl):
  PE X (.Call (.Attribute o m apos) (e::es) [] pos) (rM C m sp [] E0 ta t):=by
 obtain⟨f,fd,c,l,F,h⟩:=d;exact aiO i c l F (n.mono j) h .nil vZ g b a p
theorem w6 (d:Mt X.prog X.w X.K X.mg X.base C m ps k sp) (h:eF k' X.A) (e:k<=k') (b:PE X o ta)
  (i:eval (.Call (.Attribute o m apos) [] [] pos) X.env=(do
   let ov <-eval o X.env
   standAt apos.atName
   let (f,first) <-holding [ov] (getMethod ov m pl)
   callWith pos f first (backTo pos (starEach [] X.env)) (backToKw pos (keywordEach [] X.env))):=by rfl):
  PE X (.Call (.Attribute o m apos) [] [] pos) (rM C m sp [] E0 ta fW):=by
 obtain⟨f,fd,c,g,F,a⟩:=d;exact aiP b c g F (h.mono e) a .nil vZ i
inductive sW (P:Program) (w:World) (K:aW) (mg:Str->Option Value) (base:Heap) (C:Addr) (x:Str) (ps:List Str) (k:Nat) (sp:Sp):Prop
 | mk f fd:Mk K C f->aY P w K mg base CX0 k f fd ps sp->Binds K fd ps []->mg x=some (.ref C)->sW P w K mg base C x ps k sp
theorem afy (d:sW X.prog X.w X.K X.mg X.base C x ps k sp) (m:eF k' X.A) (j:k+1<=k') (c:PA X (e::es) t) (i:Gl X x:=by rfl) (a:(x==("__debug__" :Str))=false:=by decide)
  (h:starEach (e::es) X.env=(false,eval e X.env)::starEach es X.env:=by rfl) (b:(backTo pos (starEach es X.env)).any (·.1)=false:=by rfl):PE X (.Call (.Name x p) (e::es) [] pos) (vN C sp [] E0 t):=by
 obtain⟨f,fd,M,F,g,l⟩:=d;exact acq M F (m.mono j) i l g .nil vZ c a h b
theorem Fe (d:sW X.prog X.w X.K X.mg X.base C x ps k sp) (h:eF k' X.A) (e:k+1<=k') (c:Gl X x:=by rfl) (a:(x==("__debug__" :Str))=false:=by decide):PE X (.Call (.Name x p) [] [] pos) (vN C sp [] E0 fW):=by obtain⟨f,fd,M,F,b,g⟩:=d;exact aiQ M F (h.mono e) c g b .nil vZ a
end
structure sX (K:aW) (C:Addr):Prop where
 cl:Cls K C
 nT:eY K C "text"
 nP:eY K C "place"
def fsR (a:Addr) (n:Int):List (Str×V):=[("text",.ref a),("place",.int n)]
theorem apI (a:Addr) (n:Int):(fsR a n).lookup ("text" :Str)=some (.ref a):=by rfl
theorem Xq (a:Addr) (n:Int):(fsR a n).lookup ("place" :Str)=some (.int n):=by rfl
theorem afz (a:Addr) (n m:Int):fj "place" (.int m) (fsR a n)=fsR a m:=by unfold fsR;rw[mL (by decide+kernel),zM]
structure RAt (K:aW) (C:Addr) (H:Hp) (a tx:Addr) (bs r:List Nat):Prop where
 ins:∃dx n,H a=some (.ins C dx (fsR tx (n:Nat)))/\bs.drop n=r/\n<=bs.length
 txt:SqL K H tx ((zs bs).map V.int)
section
variable {K:aW} {C:Addr} {H H':Hp} {a tx:Addr} {bs r:List Nat} {σ:L2.St} {i:Nat}
theorem RAt.same (h:RAt K C H a tx bs r) (s:Same H H'):RAt K C H' a tx bs r:=⟨let ⟨dx,n,e,z⟩:=h.ins;⟨dx,n,s _ _ e,z⟩,s.seq h.txt⟩
theorem afA (b:But a H H') (h:SqL K H l ns) (c:H a=some u) (e:∀xs,u≠ .lst xs) (d:∀o w,u≠ .frz o w):SqL K H' l ns:=by
 rcases h with (h | ⟨f,h⟩) | h;.exact .inl (.inl (b l _ h (λz=>by rw[z,c]at h;injection h with h;exact e _ h)))
 .exact .inl (.inr ⟨f,b l _ h (λz=>by rw[z,c]at h;injection h with h;exact d _ _ h)⟩)
 .exact .inr h
theorem RAt.move (h:RAt K C H a tx bs r) (e:H a=some (.ins C dx (fsR tx (n:Nat)))) (c:m<=bs.length):RAt K C (upd H a (.ins C dx (fsR tx (m:Nat)))) a tx bs (bs.drop m):=
 ⟨⟨dx,m,aH,rfl,c⟩,afA (λb o z n=>by rw[aC n];exact z) h.txt e (by intro _ z;cases z) (by intro _ _ z;cases z)⟩
theorem Xr:But a H (upd H a o):=λb u z n=>by rw[aC n];exact z
theorem p_T (c:sX K C) (b:σ[i]? =some (some (.ref a))) (e:H a=some (.ins C dx (fsR tx (n:Nat)))):PE0 (dZ K (bA i) "text") σ H (.ref tx):=λQ q=>⟨_,b,a,C,dx,_,_,rfl,e,c.cl,c.nT,apI tx n,q⟩
theorem afB (c:sX K C) (b:σ[i]? =some (some (.ref a))) (e:H a=some (.ins C dx (fsR tx (n:Nat)))):PE0 (dZ K (bA i) "place") σ H (.int n):=λQ q=>⟨_,b,a,C,dx,_,_,rfl,e,c.cl,c.nP,Xq tx n,q⟩
theorem mV (l:List Nat):(zs l).length=l.length:=aJ _
theorem drop_nil (h:n<=bs.length):bs.drop n=[]↔n=bs.length:=by rw[List.drop_eq_nil_iff];omega
theorem Xu (c:sX K C) (f:σ[i]? =some (some (.ref a))) (e:H a=some (.ins C dx (fsR tx (n:Nat)))) (j:SqL K H tx ((zs bs).map V.int)) (h:bs.drop n=b::r'):
  PE0 (tOp (jG K) (dZ K (bA i) "text") (dZ K (bA i) "place")) σ H (.int b):=λQ q=>(p_T c f e) _ ((afB c f e) _ ⟨tx,_,_,_,rfl,rfl,j,at_of rfl (by
   have d:(bs.drop n)[0]? =some b:=by rw[h];rfl
   rw[aaS]at d;rw[dM];unfold zs;rw[dM];have g:bs[n]? =some b:=d;rw[g];rfl),q⟩)
end
section
inductive Xv (C:Addr) (vs:List V) (H:Hp) (Q:VK) (E:XK):Prop
 | mk q dx tx:vs=[.ref q,.ref tx]->H q=some (.ins C dx [])->Q .non (upd H q (.ins C dx (fsR tx (0:Nat))))->Xv C vs H Q E
theorem apJ (F:Fun K "__init__" "Reader.__init__" U5 f fd) (c:sX K C):aY P w K mg base CX0 1 f fd Kg (Xv C):=by
 refine F.ok amX (by walk_at "l") (λ_ A _ s H i Q E g d=> ?_);obtain⟨q,a,h,e,b,k⟩:=d;subst e;refine⟨_,(aF (jF (pv 0) (pv 1) rfl)
   (aD (jF (pv 0) aM rfl))),?_⟩
 refine⟨_,rfl,_,rfl,q,C,a,_,rfl,b,c.cl,c.nT,(by show 0 < 1000;decide),?_⟩;refine⟨_,rfl,q,C,a,_,rfl,aH,c.cl,c.nP,(by show 1 < 1000;decide),?_⟩;rw[mq,nF,mL (by decide+kernel),nF];exact k
inductive xg (K:aW) (C:Addr) (vs:List V) (H:Hp) (v:V):Prop
 | mk a tx bs r:vs=[.ref a]->RAt K C H a tx bs r->v= .bl (decide (r=[]))->xg K C vs H v
theorem apK (F:Fun K "is_at_end" "Reader.is_at_end" U6 f fd) (c:sX K C) (b:Cs K mg):aY P w K mg base CX0 1 f fd DN (spP (xg K C)):=by refine F.ok amZ (by walk_at "l") (λ_ A _ s H p Q E m j=> ?_);obtain⟨v,⟨a,o,bs,r,e,h,d⟩,q⟩:=j;subst e;subst d;refine⟨_,(aD (aK (gY bU (aO (pv 0) rfl) (cB fK rfl b.len dF (ao (aO (pv 0) rfl) aA))))),?_⟩;obtain⟨l,n,e,i,g⟩:=h.ins;refine aU (p_eq (afB c rfl e) (f9 (aq (p_T c rfl e) aG) h.txt)) (vb q ?_);rw[aJ,mV,<-i];exact fH (by rw[drop_nil g];omega)
variable (xq:Mt P w K mg base C "is_at_end" DN 1 (spP (xg K C)))
theorem xr (h:PE0 ta σ H (.ref a)) (e:H a=some (.ins C dx fs)) (c:fs.lookup m=none) (b:R [.ref a] H v):PE0 (rM C m (spP R) [] E0 ta fW) σ H v:=λQ q=>
 h _ ⟨a,dx,fs,rfl,e,c,v,b,q⟩
inductive z9 (K:aW) (C:Addr) (vs:List V) (H:Hp) (Q:VK) (E:XK):Prop
 | mk (a tx:Addr) (bs r:List Nat) (b:Nat):vs=[.ref a,.int b]->RAt K C H a tx bs r->(¬r.head? =some b->Q (.bl false) H)->(r.head? =some b->∀H',RAt K C H' a tx bs r.tail->But a H H'->Q (.bl true) H')->z9 K C vs H Q E
include xq in
theorem apL (F:Fun K "passes" "Reader.passes" U7 f fd) (c:sX K C) (v:Cs K mg):aY P w K mg base CX0 2 f fd DP (z9 K C):=by
 refine F.ok am1 (by walk_at "l") (λ_ A _ s H B Q E p t=> ?_);obtain⟨a,j,bs,r,b,e,h,o,u⟩:=t;subst e;refine⟨_,(aF (aR (PW.pt (gW (bV (w6 xq p (by decide) (pv 0))) (jm (bF jE (bB bH (aO (pv 0) rfl) (aO (pv 0) rfl) (λ_ _=>rfl)) (pv 1))))) (aD (aK fO)) aV)
   (aF (Hw (pv 0) aM Hx)
   (aD (aK fO)))),?_⟩
 obtain⟨l,n,e,g,y⟩:=h.ins;cases r with
 | nil=>refine bD (nJ (c:=false) (p_b (xr (aj rfl) e rfl ⟨a,j,bs,[],rfl,h,rfl⟩)) (λz=>by cases z)) (λ_=> ?_) (λz=>by cases z);exact aU p_c (o (by simp))
 | cons x r=>
  refine bD (nJ (b:=false) (p_b (xr (aj rfl) e rfl ⟨a,j,bs,x::r,rfl,h,rfl⟩)) (λ_=>bM (gn (Xu c rfl e h.txt g) (aj rfl)))) (λd=> ?_) λd=> ?_;.refine aU p_c (o λz=> ?_);rw[List.head?_cons]at z;injection z with z;rw[z]at d;simp at d
  .rw[Bq]at d;have q:x=b:=by have:=n1f.mp d;omega
   have i:n < bs.length:=by refine Gv λz=> ?_;rw[aaT z]at g;cases g
   refine aZ ((aj rfl) _ ⟨a,C,l,_,_,rfl,e,c.cl,c.nP,Xq j n,p_c _ ⟨_,_,rfl,rfl,l,_,e,(by show 2 < 1000;decide),?_⟩⟩);rw[afz];have m:=h.move e i;have:bs.drop (n+1)=r:=by rw[<-u_,g];rfl
   rw[this]at m;dsimp only;refine aU p_c ?_;exact u (by rw[q];rfl) _ m Xr
inductive MJ (K:aW) (C:Addr) (vs:List V) (H:Hp) (v:V):Prop
 | mk a tx bs r:vs=[.ref a]->RAt K C H a tx bs r->(v= .bl (match r with | []=>false | b::_=>yq b))->MJ K C vs H v
include xq in
theorem apM (F:Fun K "is_at_digit" "Reader.is_at_digit" U8 f fd) (c:sX K C) (m:Cs K mg):aY P w K mg base CX0 2 f fd Kh (spP (MJ K C)):=by
 refine F.ok am3 (by walk_at "l") (λ_ A _ s H vs Q E L N=> ?_);obtain⟨v,⟨a,o,bs,r,e,h,B⟩,q⟩:=N;subst e;subst B;refine⟨_,(aD (aK (oH (QG (w6 xq L (by decide) (pv 0))) (mz (vK mC mC (aN m.afd) (bB bH (aO (pv 0) rfl) (aO (pv 0) rfl) (λ_ _=>rfl)) (aN m.aoB)))))),?_⟩;obtain⟨dx,n,e,J,hl⟩:=h.ins;cases r with
 | nil=>exact aU (o9 (c:=false) (W4 (xr (aj rfl) e rfl ⟨a,o,bs,[],rfl,h,rfl⟩)) (λz=>by cases z)) q
 | cons x r=>
  refine aU (o9 (b:=true) (c:=yq x) (W4 (b:=false) (xr (R:=xg K C) (aj rfl) e rfl ⟨a,o,bs,x::r,rfl,h,rfl⟩)) (λ_ Q1 T=> ?_)) q;refine zJ (b:=(x:Int)) ((Xu c rfl e h.txt J) _ ⟨rfl,vb T ?_⟩) ?_;.unfold yq;rw[<-lW];exact fH (by omega)
  .intro Q Q' f z;obtain⟨v,G,u,p,d,i,U,z1,z2,z3,z4,z5,W,I,y,t,g,j,X,y1,y2,y3,y4,y5,S,l,O,Y,Z,x2,x3,x4,z⟩:=z;exact⟨v,G,u,p,d,i,U,z1,z2,z3,z4,z5,W,I,y,t,g,j,X,y1,y2,y3,y4,y5,S,l,O,Y,Z,x2,x3,x4,f _ _ z⟩
end
section
theorem apO (a:PE0 ta σ H (.int i)) (b:PE0 tb σ H (.int j)) (c:Ck i j):PE0 (tOp (rI Ck λi j=> .int (i * j)) ta tb) σ H (.int (i * j)):=λQ q=>a _ (b _ ⟨i,j,rfl,rfl,c,q⟩)
inductive Fg (K:aW) (C:Addr) (vs:List V) (H:Hp) (Q:VK) (E:XK):Prop
 | mk (a tx:Addr) (bs r:List Nat) (most:Nat):vs=[.ref a,.int most]->most<=1000000000->RAt K C H a tx bs r->(∀H',RAt K C H' a tx bs (h_ most 0 r).2->But a H H'->Q (.int ((h_ most 0 r).1:Nat)) H')->Fg K C vs H Q E
theorem apP (F:Fun K "read_number" "Reader.read_number" U9 f fd) (c:sX K C) (U:Cs K mg) (B:Mt P w K mg base C "is_at_digit" Kh 2 (spP (MJ K C))):aY P w K mg base CX0 3 f fd DQ (Fg K C):=by
 refine F.ok U_ (by walk_at "l") (λ_ A _ s H vs Q E Y hz=> ?_);obtain⟨a,u,bs,r,b,e,hm,h,q⟩:=hz;subst e;refine⟨_,(aF (bO (i:=2) U_.nd aM)
   (aF (uc dG (bV (w6 B Y (by decide) (pv 0))) (aF (bO (i:=2) U_.nd (jD QM (jD ab5 (jD aiA (pv 2) aM) (bB bH (aO (pv 0) rfl) (aO (pv 0) rfl) (λ_ _=>rfl))) (aN U.afd)))
   (aF (Hw (pv 0) aM Hx)
   (aD (aR (PW.pt (gW (bF bU (pv 2) aM) (jm (bF qF (pv 2) (pv 1))))) (aD (aK aM)) aV)))))
   (aD (aK (pv 2))))),?_⟩
 refine o_ p_c ?_;refine aZ ⟨λm σ l=>∃(n:Nat) (d:List Nat),σ=[some (.ref a),some (.int b),some (.int n)]/\RAt K C l a u bs d/\But a H l/\h_ b 0 r=h_ b n d/\n<=b/\m=d.length,⟨_,0,r,rfl,h,λ_ _ e _=>e,rfl,fU _,rfl⟩,?_⟩;rintro m σ O ⟨n,d,rfl,j,G,v,hn,rfl⟩;obtain⟨I,t,e,y,hl⟩:=j.ins;refine(p_b (xr (R:=MJ K C) (aj rfl) e rfl ⟨a,u,bs,d,rfl,j,rfl⟩)) _ ?_;cases d with
 | nil=>rw[au (by decide)];dsimp only;refine aU (aj rfl) ?_;rw[v]at q;exact q O j G
 | cons x d=>
  by_cases p:yq x=true
  .rw[aB p];refine⟨λσ' l=>∃T,T < (x::d).length/\∃(n:Nat) (d:List Nat),σ'=[some (.ref a),some (.int b),some (.int n)]/\RAt K C l a u bs d/\But a H l/\h_ b 0 r=h_ b n d/\n<=b/\T=d.length,λ_ _ z=>z,?_⟩;have Z:=adD p;have L:t < bs.length:=by refine Gv λz=> ?_;rw[aaT z]at y;cases y
   refine o_ (p_i (p_i (apO (aj rfl) p_c (.inl ⟨by omega,by omega⟩)) (Xu c rfl e j.txt y)) p_c) ?_;refine aZ ((aj rfl) _ ⟨a,C,I,_,_,rfl,e,c.cl,c.nP,Xq u t,p_c _ ⟨_,_,rfl,rfl,I,_,e,(by show 2 < 1000;decide),?_⟩⟩);rw[afz];have N:=j.move e (m:=t+1) L;have W:bs.drop (t+1)=d:=by rw[<-u_,y];rfl
   rw[W]at N;have S:But a H _:=G.trans (Xr (o:= .ins C I (fsR u ((t+1:Nat):Int))));have X:((n:Int) * 10+(x:Int)-48)=((n * 10+(x-48):Nat):Int):=by omega
   dsimp only;rw[X];have g:h_ b n (x::d)=if n * 10+(x-48)=0\/b < n * 10+(x-48)then(0,d)else h_ b (n * 10+(x-48)) d:=by show(if yq x=true then _ else _)=_;rw[aB p]
   refine gO (nJ (bM (p_eq (aj rfl) p_c)) λ_=>bM (p_i (aj rfl) (aj rfl))) (λJ=> ?_) λJ=> ?_;.rw[<-yc,cH]at J;rw[aB (by omega)]at g;rw[v,g]at q;exact aU p_c (q _ N S)
   .rw[<-yc,iu]at J;rw[au (by omega)]at g;exact⟨d.length,by simp,n * 10+(x-48),d,rfl,N,S,v.trans g,by omega,rfl⟩
  .rw[au p];dsimp only;refine aU (aj rfl) ?_;have g:h_ b n (x::d)=(n,x::d):=by show(if yq x=true then _ else _)=_;rw[au p]
   rw[v,g]at q;exact q O j G
structure xu (K:aW) (C:Addr):Prop where
 cl:Cls K C
 nG:eY K C "groups"
 nS:eY K C "specimens"
def fsF (a b:Addr):List (Str×V):=[("groups",.ref a),("specimens",.ref b)]
theorem apR (a b:Addr):(fsF a b).lookup ("groups" :Str)=some (.ref a):=by rfl
theorem apS (b a:Addr):(fsF b a).lookup ("specimens" :Str)=some (.ref a):=by rfl
def jU (H:Hp) (l:Addr) (rows:List (List V)):Prop:=∃a:List (Addr×List V),H l=some (.lst (a.map λq=>V.ref q.1))/\a.map (·.2)=rows/\∀q∈a,H q.1=some (.tup q.2)
structure FAt (C:Addr) (H:Hp) (fo lg ls:Addr) (gs xs:List (List V)):Prop where
 ins:∃dx,H fo=some (.ins C dx (fsF lg ls))
 tg:jU H lg gs
 ts:jU H ls xs
 ne:lg≠ls
inductive Xw (C:Addr) (vs:List V) (H:Hp) (Q:VK) (E:XK):Prop
 | mk q dx:vs=[.ref q]->H q=some (.ins C dx [])->(∀lg ls H',H lg=none->H ls=none->FAt C H' q lg ls [] []->But q H H'->Q .non H')->Xw C vs H Q E
theorem apT (F:Fun K "__init__" "Found.__init__" U4 f fd) (c:xu K C):aY P w K mg base CX0 1 f fd Kf (Xw C):=by
 refine F.ok amV (by walk_at "l") (λ_ A _ s H B Q E y v=> ?_);obtain⟨q,h,e,a,k⟩:=v;subst e;refine⟨_,(aF (jF (pv 0) (cT aA) rfl)
   (aD (jF (pv 0) (cT aA) rfl))),?_⟩
 refine⟨fU _,λl d=> ?_⟩;have i:=(Same.upd (o:= .lst []) d) _ _ a;refine(aj rfl) _ ⟨q,C,h,_,rfl,i,c.cl,c.nG,(by show 0 < 1000;decide),?_⟩;refine⟨fU _,λx u=> ?_⟩;obtain⟨m,j⟩:=fC u;obtain⟨p,g⟩:=fC j;refine(aj rfl) _ ⟨q,C,h,_,rfl,(by rw[aC m.symm];exact aH),c.cl,c.nS,(by show 1 < 1000;decide),?_⟩;rw[nF,mL (by decide+kernel),nF];have t:l≠q:=λz=>by rw[z,a]at d;cases d
 refine k l x _ d g ⟨⟨h,aH⟩,⟨[],?_,rfl,λq a=>by cases a⟩,⟨[],?_,rfl,λq a=>by cases a⟩,p.symm⟩ ?_;.rw[aC t,aC p.symm,aC t,aH];rfl
 .rw[aC m,aH];rfl
 .intro b o e n;rw[aC n,aC (aX e g),aC n,aC (aX e d)];exact e
end
section
variable {K:aW} {CR CF:Addr} {H H':Hp} {a tx fo lg ls:Addr} {bs r r':List Nat} {gs xs:List (List V)}
theorem jU.but (h:jU H l rows) (b:But a H H') (f:H a=some u) (j:∀xs,u≠ .lst xs) (m:∀xs,u≠ .tup xs):jU H' l rows:=by obtain⟨d,c,i,e⟩:=h;exact⟨d,b _ _ c (λz=>by rw[z,f]at c;injection c with c;exact j _ c),i,λq g=>b _ _ (e q g) (λz=>by have:=e q g;rw[z,f]at this;injection this with this;exact m _ this)⟩
theorem jU.same (h:jU H l rows) (s:Same H H'):jU H' l rows:=by obtain⟨a,b,c,d⟩:=h;exact⟨a,s _ _ b,c,λq e=>s _ _ (d q e)⟩
theorem Rd.but {t:Addr} {ns:List V} {C d:Addr} {fs:List (Str×V)} (h:Rd H t (.lst ns)) (b:But a H H') (c:H a=some (.ins C d fs)):Rd H' t (.lst ns):=by
 rcases h with h | ⟨o,h⟩;.exact .inl (b _ _ h (cJ h c (by intro z;cases z)))
 .exact .inr ⟨o,b _ _ h (cJ h c (by intro z;cases z))⟩
structure FS (K:aW) (CR CF:Addr) (H:Hp) (a tx fo lg ls:Addr) (bs r:List Nat) (gs xs:List (List V)):Prop where
 rd:RAt K CR H a tx bs r
 trk:Rd H tx (.lst ((zs bs).map V.int))
 fd:FAt CF H fo lg ls gs xs
 ne:fo≠a
 n1:tx≠lg
 n2:tx≠ls
 l0:bs.length<=2000
 l1:gs.length+r.length<=bs.length
 l2:xs.length+r.length<=bs.length
theorem FS.move (h:FS K CR CF H a tx fo lg ls bs r gs xs) (f:RAt K CR H' a tx bs r') (b:But a H H') (i:r'.length<=r.length):FS K CR CF H' a tx fo lg ls bs r' gs xs:=by obtain⟨g,n,e,_⟩:=h.rd.ins;obtain⟨c,d⟩:=h.fd.ins;have:=h.l1;have:=h.l2;exact⟨f,Rd.but h.trk b e,⟨⟨c,b _ _ d h.ne⟩,h.fd.tg.but b e (by intro _ z;cases z) (by intro _ z;cases z),h.fd.ts.but b e (by intro _ z;cases z) (by intro _ z;cases z),h.fd.ne⟩,h.ne,h.n1,h.n2,h.l0,by omega,by omega⟩
theorem But.o3 (b:But a H H'):bG a p q H H':=λc o e n _ _=>b c o e n
theorem Xx (h:SqL K H t ns) (n:t≠l):SqL K (upd H l u) t ns:=by
 rcases h with (h | ⟨a,h⟩) | h;.exact .inl (.inl (by rw[aC n];exact h))
 .exact .inl (.inr ⟨a,by rw[aC n];exact h⟩)
 .exact .inr h
theorem jU.add (h:jU H l rows) (e:H tp=none):∃a,H l=some (.lst a)/\a.length=rows.length/\jU (upd (upd H tp (.tup row)) l (.lst (a++[.ref tp]))) l (rows++[row]):=by
 obtain⟨b,c,f,d⟩:=h;have i:tp≠l:=λz=>by rw[z,c]at e;cases e
 refine⟨_,c,by rw[<-f,aJ,aJ],b++[(tp,row)],?_,?_,λq g=> ?_⟩;.rw[aH,dw];rfl
 .rw[dw,f];rfl
 .rcases dO.mp g with z | z;.rw[aC (cJ (d q z) c (by intro y;cases y)),aC (aX (d q z) e)];exact d q z
  .rw[dX.mp z,aC i,aH]
theorem jU.aC (h:jU H l rows) (e:H tp=none) (g:H m=some (.lst olds)) (n:l≠m):jU (upd (upd H tp (.tup row)) m (.lst nw)) l rows:=by obtain⟨a,d,f,b⟩:=h;refine⟨a,by rw[L2.aC n,L2.aC (aX d e)];exact d,f,λq c=> ?_⟩;rw[L2.aC (cJ (b q c) g (by intro y;cases y)),L2.aC (aX (b q c) e)];exact b q c
theorem FS.apU (h:FS K CR CF H a tx fo lg ls bs r gs xs) (c:H tp=none) (p:xs.length+1+r.length<=bs.length):∃b,H ls=some (.lst b)/\b.length<=2000/\
  FS K CR CF (upd (upd H tp (.tup row)) ls (.lst (b++[.ref tp]))) a tx fo lg ls bs r gs (xs++[row]):=by
 obtain⟨b,d,o,j⟩:=h.fd.ts.add c;obtain⟨i,n,e,l,m⟩:=h.rd.ins;obtain⟨f,g⟩:=h.fd.ins;have q:=h.l0;have s:Same H (upd H tp (.tup row)):=Same.upd c;refine⟨b,d,by omega,⟨⟨i,n,?_,l,m⟩,Xx (s.seq h.rd.txt) h.n2⟩,Rd.aC (Rd.same h.trk s) h.n2,⟨⟨f,?_⟩,h.fd.tg.aC c d h.fd.ne,j,h.fd.ne⟩,h.ne,h.n1,h.n2,h.l0,h.l1,by rw[cV];simp;omega⟩;.rw[L2.aC (cJ e d (by intro y;cases y)),L2.aC (aX e c)];exact e
 .rw[L2.aC (cJ g d (by intro y;cases y)),L2.aC (aX g c)];exact g
theorem FS.apV (h:FS K CR CF H a tx fo lg ls bs r gs xs) (c:H tp=none) (p:gs.length+1+r.length<=bs.length):∃b,H lg=some (.lst b)/\b.length<=2000/\
  FS K CR CF (upd (upd H tp (.tup row)) lg (.lst (b++[.ref tp]))) a tx fo lg ls bs r (gs++[row]) xs:=by
 obtain⟨b,d,o,j⟩:=h.fd.tg.add c;obtain⟨i,n,e,l,m⟩:=h.rd.ins;obtain⟨f,g⟩:=h.fd.ins;have q:=h.l0;have s:Same H (upd H tp (.tup row)):=Same.upd c;refine⟨b,d,by omega,⟨⟨i,n,?_,l,m⟩,Xx (s.seq h.rd.txt) h.n1⟩,Rd.aC (Rd.same h.trk s) h.n1,⟨⟨f,?_⟩,j,h.fd.ts.aC c d h.fd.ne.symm,h.fd.ne⟩,h.ne,h.n1,h.n2,h.l0,by rw[cV];simp;omega,h.l2⟩;.rw[L2.aC (cJ e d (by intro y;cases y)),L2.aC (aX e c)];exact e
 .rw[L2.aC (cJ g d (by intro y;cases y)),L2.aC (aX g c)];exact g
theorem apW (c:H tp=none):bG a lg ls H (upd (upd H tp o) ls u):=λb v e _ _ n=>by rw[L2.aC n,L2.aC (aX e c)];exact e
theorem apY (c:H tp=none):bG a lg ls H (upd (upd H tp o) lg u):=λb v e _ n _=>by rw[L2.aC n,L2.aC (aX e c)];exact e
variable {σ:L2.St} {i:Nat} {ta:TA}
theorem afC (h:PA0 ta σ H vs) (l:vs.length<=sizeLine) (q:∀p,H p=none->Q (.ref p) (upd H p (.tup vs))):acn ta σ H Q:=h _ ⟨l,q⟩
theorem afD {T:String} {r:V->List V->Hp->VK->Prop} {a:TE} {x:V} {Q:VK} (h:PE0 a σ H x) (q:tyV K T x H/\ta σ H λxs b=>r x xs b Q):tBM K T r a ta σ H Q:=h _ q
theorem Xy (a:xu K CF) (b:σ[i]? =some (some (.ref fo))) (e:H fo=some (.ins CF dx (fsF lg ls))):PE0 (dZ K (bA i) "specimens") σ H (.ref ls):=λQ q=>⟨_,b,fo,CF,dx,_,_,rfl,e,a.cl,a.nS,apS lg ls,q⟩
theorem Xz (a:xu K CF) (b:σ[i]? =some (some (.ref fo))) (e:H fo=some (.ins CF dx (fsF lg ls))):PE0 (dZ K (bA i) "groups") σ H (.ref lg):=λQ q=>⟨_,b,fo,CF,dx,_,_,rfl,e,a.cl,a.nG,apR lg ls,q⟩
theorem XC {Q:VK} {most:Nat} (d:σ[i]? =some (some (.ref a))) (h:RAt K CR H a tx bs r) (c:PA0 ta σ H [.int most]) (f:most<=1000000000) (q:∀H',RAt K CR H' a tx bs (h_ most 0 r).2->But a H H'->Q (.int ((h_ most 0 r).1:Nat)) H'):rM CR "read_number" (Fg K CR) [] E0 (bA i) ta σ H Q:=by obtain⟨b,n,e,_⟩:=h.ins;exact⟨_,d,a,b,_,rfl,e,rfl,c _ ⟨a,tx,bs,r,most,rfl,f,h,q⟩⟩
theorem xG {Q:Bool->Hp->Prop} {b:Nat} (g:σ[i]? =some (some (.ref a))) (h:RAt K CR H a tx bs r) (f:PA0 ta σ H [.int b]) (j:¬r.head? =some b->Q false H) (l:r.head? =some b->∀H',RAt K CR H' a tx bs r.tail->But a H H'->Q true H'):tB (rM CR "passes" (z9 K CR) [] E0 (bA i) ta) σ H Q:=by obtain⟨d,n,e,_⟩:=h.ins;exact⟨_,g,a,d,_,rfl,e,rfl,f _ ⟨a,tx,bs,r,b,rfl,h,λz=>⟨false,rfl,j z⟩,λz H' r' c=>⟨true,rfl,l z H' r' c⟩⟩⟩
end
section
theorem afE {j pos}:PT X (.Constant (.bool true) j pos) (tB (tC (.bl true))):=bV fO
def pA (h:Int) (x:Nat):List V:=[.int x,.int h]
inductive XD (K:aW) (CR CF:Addr) (vs:List V) (H:Hp) (Q:VK) (E:XK):Prop
 | mk a tx fo lg ls bs r gs xs h:vs=[.ref a,.int h,.ref fo]->FS K CR CF H a tx fo lg ls bs r gs xs->(RO r=none->∀H',bG a lg ls H H'->Q (.bl false) H')->(∀ys r',RO r=some (ys,r')->∀H',bG a lg ls H H'->FS K CR CF H' a tx fo lg ls bs r' gs (xs++ys.map (pA h))->Q (.bl true) H')->XD K CR CF vs H Q E
variable (z_:Mt P w K mg base CR "read_number" DQ 3 (Fg K CR)) (p7:Mt P w K mg base CR "passes" DP 2 (z9 K CR))
include z_ p7 in
theorem apZ (F:Fun K "read_specimens" "read_specimens" Va f fd) (cf:xu K CF) (O:Cs K mg):aY P w K mg base CX0 4 f fd Kl (XD K CR CF):=by
 refine F.ok aeI (by walk_at "l") (λ_ A _ s H vs Q E W hz=> ?_);obtain⟨a,tx,fo,X,J,bs,r,gs,Y,j,e,h,q1,q2⟩:=hz;subst e;refine⟨_,(aD (uc dG afE (aF (bO (i:=3) aeI.nd (pq z_ W (by decide) (pv 0) (ao (aN O.Wx) aA)))
   (aF (aR (bF bU (pv 3) aM) (aD (aK fO)) aV)
   (aF (eE (jo iD m8 n_ oK (aO (pv 2) rfl) (ao (aco (ao (pv 3) (ao (pv 1) aA))) aA)))
   (aF (aR (bV (pq p7 W (by decide) (pv 0) (ao (aN O.aoD) aA))) (aD (aK fO)) aV)
   (aD (aR (cN (bV (pq p7 W (by decide) (pv 0) (ao (aN O.BLANK) aA)))) (aD (aK fO)) aV)))))))),?_⟩
 refine⟨λm σ Z=>∃v y done,σ=[some (.ref a),some (.int j),some (.ref fo),v]/\FS K CR CF Z a tx fo X J bs y gs (Y++done.map (pA j))/\bG a X J H Z/\RO r=(RO y).map (λp=>(done++p.1,p.2))/\m=y.length,
  ⟨_,none,r,[],rfl,by simpa using h,.refl,by cases RO r <;> rfl,rfl⟩,?_⟩
 rintro m σ H1 ⟨v,y,done,rfl,S,o1,b,rfl⟩;refine(p_b p_c) _ ?_;rw[aB rfl];refine⟨_,λ_ _ z=>z,?_⟩;refine aZ (XC rfl S.rd (aq p_c aG) (by decide) λH2 l N=> ?_);have c:=yX (most:=Qg) (by decide) (by decide) y;have eK:Qg=1000000000:=rfl;rw[eK]at c;rw[aks y,eK]at b;dsimp only;cases G:Qh 1000000000 y with
 | none=>have R:=c.1 G;rw[R];rw[G]at b;refine bD (bM (p_eq (aj rfl) p_c)) (λ_=> ?_) (λz=>absurd (iw z) (by simp));exact aU p_c (q1 b H2 (o1.trans N.o3))
 | some pr=>
  obtain⟨n,L⟩:=pr;obtain⟨R,n1,n2,n3⟩:=c.2 n L G;rw[R]at l ⊢;rw[G]at b;dsimp only at b l ⊢;have T:=S.move l N (by omega);refine bD (bM (p_eq (aj rfl) p_c)) (λz=>absurd (dz z) (by omega)) (λ_=> ?_);obtain⟨dx',ef⟩:=T.fd.ins;have l2:=S.l2;obtain⟨ars,ea,_⟩:=id T.fd.ts;refine aZ (oZ (afD (Xy cf rfl ef) ⟨.inl ⟨rfl,_,SqL.of ea⟩,dj (afC (aq (aj rfl) (aq (aj rfl) aG)) (by show 2<=sizeLine;decide) λtp x=> ?_)⟩));obtain⟨d,eo,lo,C⟩:=T.apU (row:=pA j n) x (by omega);refine⟨J,d,_,rfl,rfl,(Same.upd x) _ _ eo,gD lo (by decide),?_⟩;have o3:bG a X J H _:=(o1.trans N.o3).trans (apW (o:= .tup (pA j n)) (u:= .lst (d++[V.ref tp])) x);dsimp only;have ed:(Y++done.map (pA j))++[pA j n]=Y++(done++[n]).map (pA j):=by simp
  rw[ed]at C;refine aZ (pU (xG rfl C.rd (aq p_c aG) (λI=> ?_) λI H4 t B=> ?_))
  .rw[au (by decide)];dsimp only;refine pU (Ej (xG rfl C.rd (aq p_c aG) (λg=> ?_) λg H4 t B=> ?_));.rw[aB (by decide)];rw[au I,au g]at b;exact aU p_c (q1 b _ o3)
   .rw[au (by decide)];rw[au I,aB g]at b;have U:=C.move t B (by rw[dW];omega);refine⟨L.tail.length,by rw[dW];omega,_,L.tail,done++[n],rfl,U,o3.trans B.o3,?_,rfl⟩;rw[b];cases RO L.tail with
    | none=>rfl
    | some q=>simp
  .rw[aB (by decide)];rw[aB I]at b;have U:=C.move t B (by rw[dW];omega);exact aU p_c (q2 _ _ b H4 (o3.trans B.o3) U)
end
section
def Aa (b a parent:Nat):List V:=[.int b,.int a,.int parent]
inductive XF (K:aW) (CR CF:Addr) (vs:List V) (H:Hp) (Q:VK) (E:XK):Prop
 | mk (a tx fo lg ls:Addr) (bs r:List Nat) (gs xs:List (List V)) (p:Nat):vs=[.ref a,.int p,.ref fo]->FS K CR CF H a tx fo lg ls bs r gs xs->(RH r=none->∀H',bG a lg ls H H'->Q (.int 0) H')->(∀rank key ys r',RH r=some ((rank,key,ys),r')->∀H',bG a lg ls H H'->FS K CR CF H' a tx fo lg ls bs r' (gs++[Aa key rank p]) (xs++ys.map (pA (key:Nat)))->Q (.int (key:Nat)) H')->XF K CR CF vs H Q E
variable (z_:Mt P w K mg base CR "read_number" DQ 3 (Fg K CR)) (p7:Mt P w K mg base CR "passes" DP 2 (z9 K CR)) (xq:Mt P w K mg base CR "is_at_end" DN 1 (spP (xg K CR)))
include z_ p7 in
theorem ap0 (F:Fun K "read_group" "read_group" Vb f fd) (cf:xu K CF) (J:Cs K mg) (R:Df P w K mg base "read_specimens" Kl 4 (XD K CR CF)):aY P w K mg base CX0 5 f fd Km (XF K CR CF):=by
 refine F.ok Vc (by walk_at "l") (λ_ A _ s H vs Q E C hz=> ?_);obtain⟨a,tx,fo,N,Z,bs,r,gs,xs,p,e,h,b,l⟩:=hz;subst e;refine⟨_,(aF (bO (i:=3) Vc.nd (pq z_ C (by decide) (pv 0) (ao (aN J.Wy) aA)))
   (aF (aR (PW.pt (gW (bF bU (pv 3) aM) (jm (cN (bV (pq p7 C (by decide) (pv 0) (ao (aN J.COLON) aA))))))) (aD (aK aM)) aV)
   (aF (bO (i:=4) Vc.nd (pq z_ C (by decide) (pv 0) (ao (aN J.Wx) aA)))
   (aF (aR (bF bU (pv 4) aM) (aD (aK aM)) aV)
   (aF (eE (jo iD m8 n_ oK (aO (pv 2) rfl) (ao (aco (ao (pv 4) (ao (pv 3) (ao (pv 1) aA)))) aA)))
   (aF (aR (PW.pt (pO (bV (pq p7 C (by decide) (pv 0) (ao (aN J.aoC) aA))) (pN (cN (bV (aL R C (ao (pv 0) (ao (pv 4) (ao (pv 2) aA))))))))) (aD (aK aM)) aV)
   (aD (aK (pv 4))))))))),?_⟩
 refine aZ (XC rfl h.rd (aq p_c aG) (by decide) λH1 v I=> ?_);have eK:Qg=1000000000:=rfl;have eR:abE=8:=rfl;have q:=yX (most:=8) (by decide) (by decide) r;unfold RH at b l;rw[eR]at b l;cases L:Qh 8 r with
 | none=>rw[q.1 L];rw[L]at b;refine bD (nJ (c:=false) (bM (p_eq (i:=0) (j:=0) (aj rfl) p_c)) (λz=>by cases z)) (λ_=> ?_) (λz=>by cases z);exact aU p_c (b rfl H1 I.o3)
 | some pr=>
  obtain⟨d,G⟩:=pr;obtain⟨e0,n1,n2,n3⟩:=q.2 d G L;rw[e0]at v ⊢;rw[L]at b l;dsimp only at b l v ⊢;have h1:=h.move v I (by omega);refine aZ (pU (aoe ((bM (p_eq (aj rfl) p_c)) _ ?_)));rw[au (by rw[cH];omega)];refine Ej (xG rfl h1.rd (aq p_c aG) (λt=> ?_) λt H2 X b2=> ?_);.rw[aB (by decide)];rw[au t]at b;exact aU p_c (b rfl H1 I.o3)
  rw[au (by decide)];rw[aB t]at b l;have h2:=h1.move X b2 (by rw[dW];omega);dsimp only;refine aZ (XC rfl h2.rd (aq p_c aG) (by decide) λH3 x b3=> ?_);have B:=yX (most:=1000000000) (by decide) (by decide) G.tail;rw[eK]at b l;have o3:bG a N Z H H3:=(I.o3.trans b2.o3).trans b3.o3;dsimp only;cases m:Qh 1000000000 G.tail with
  | none=>rw[B.1 m];rw[m]at b;refine bD (bM (p_eq (aj rfl) p_c)) (λ_=> ?_) (λz=>absurd (iw z) (by simp));exact aU p_c (b rfl H3 o3)
  | some pr2=>
   obtain⟨g,r2⟩:=pr2;obtain⟨e2,m1,m2,m3⟩:=B.2 g r2 m;rw[e2]at x ⊢;rw[m]at b l;dsimp only at b l x ⊢;have U:=h2.move x b3 (by omega);refine bD (bM (p_eq (aj rfl) p_c)) (λz=>absurd (dz z) (by omega)) (λ_=> ?_);obtain⟨dx',ef⟩:=U.fd.ins;have l1:=h.l1;have l4:G.tail.length<=G.length:=by rw[dW];omega
   obtain⟨ars,ea,_⟩:=id U.fd.tg;refine aZ (oZ (afD (Xz cf rfl ef) ⟨.inl ⟨rfl,_,SqL.of ea⟩,dj (afC (aq (aj rfl) (aq (aj rfl) (aq (aj rfl) aG))) (by show 3<=sizeLine;decide) λtp y=> ?_)⟩));obtain⟨n,eo,lo,W⟩:=U.apV (row:=Aa g d p) y (by omega);refine⟨N,n,_,rfl,rfl,(Same.upd y) _ _ eo,gD lo (by decide),?_⟩;have o4:bG a N Z H _:=o3.trans (apY (o:= .tup (Aa g d p)) (u:= .lst (n++[V.ref tp])) y);dsimp only;refine aZ (pU (ae7 (xG rfl W.rd (aq p_c aG) (λt=> ?_) λt H5 Y S=> ?_)));.rw[au (by decide),au (by decide)];dsimp only;rw[au t]at l;exact aU (aj rfl) (l d g [] r2 rfl _ o4 (by rw[xW,gH];exact W))
   .rw[aB (by decide)];have h5:=W.move Y S (by rw[dW];omega);rw[aB t]at b l;refine Ej (r_b (bx ((aq (aj rfl) (aq (aj rfl) (aq (aj rfl) aG))) _ ⟨a,tx,fo,N,Z,bs,_,_,_,(g:Int),rfl,h5,λT O o6=>⟨false,rfl,?_⟩,λys r' T O o6 h6=>⟨true,rfl,?_⟩⟩)));.rw[aB (by decide)];rw[T]at b;exact aU p_c (b rfl O (o4.trans (S.o3.trans o6)))
    .rw[au (by decide)];dsimp only;rw[T]at l;exact aU (aj rfl) (l d g ys r' rfl O (o4.trans (S.o3.trans o6)) h6)
def jx (l:vA):List (List V):=l.map λq=>Aa q.1.key q.1.rank q.1.parent
def iB (l:vA):List (List V):=l.flatMap λq=>q.2.map (pA (q.1.key:Nat))
inductive XH (K:aW) (CR CF:Addr) (vs:List V) (H:Hp) (Q:VK) (E:XK):Prop
 | mk a tx fo lg ls bs r gs xs:vs=[.ref a,.ref fo]->FS K CR CF H a tx fo lg ls bs r gs xs->(goG 0 [] r=none->∀H',bG a lg ls H H'->Q (.bl false) H')->(∀l,goG 0 [] r=some l->∀H',bG a lg ls H H'->FS K CR CF H' a tx fo lg ls bs [] (gs++jx l) (xs++iB l)->Q (.bl true) H')->XH K CR CF vs H Q E
def stk (p:Nat) (ps:List Nat):List V:=((p::ps).reverse.map λ(n:Nat)=>V.int (n:Int))
theorem Ab (p:Nat) (ps:List Nat):(stk p ps).length=ps.length+1:=by unfold stk;rw[aJ,lA];rfl
theorem ap2 (p:Nat) (ps:List Nat):(stk p ps)[(stk p ps).length-1]? =some (V.int p):=by rw[Ab];unfold stk;rw[dM,vg,Nat.add_sub_cancel,O1 (by rw[lA];exact bW _),lA,aay];rfl
theorem afG (p q:Nat) (ps:List Nat):stk q (p::ps)=stk p ps++[V.int q]:=by unfold stk;rw[vg,dw];rfl
theorem ap3 (p:Nat) (ps:List Nat):stk p ps=(ps.reverse.map λ(n:Nat)=>V.int (n:Int))++[V.int p]:=by unfold stk;rw[vg,dw];rfl
theorem ap4 (p q:Nat) (ps:List Nat):(stk p (q::ps)).dropLast=stk q ps:=by rw[afG,aaU]
theorem s_pop {σ:L2.St} {H:Hp} {D:Ends} {b:TE} {l:Addr} {y:V} {xs:List V} (c:PE0 b σ H (.ref l)) (a:H l=some (.lst xs)) (d:xs[xs.length-1]? =some y) (q:D.nx σ (upd H l (.lst xs.dropLast))):pP (acH K "list" acK b) D σ H:=
 c _ ⟨.inl ⟨rfl,_,SqL.of a⟩,l,xs,y,rfl,rfl,a,d,q⟩
theorem afH (h:PE0 ta σ H (.int i)):PE0 (tUn (rU λi=> .int (-i)) ta) σ H (.int (-i)):=λQ q=>h _ ⟨i,rfl,q⟩
theorem gC (b:PE0 ta σ H (.ref a)) (c:PE0 tb σ H (.int i)) (d:SqL K H a xs) (e:atI xs i=some v):PE0 (tOp (jG K) ta tb) σ H v:=λQ q=>b _ (c _ ⟨a,xs,i,v,rfl,rfl,d,e,q⟩)
theorem FS.same (h:FS K CR CF H a tx fo lg ls bs r gs xs) (s:Same H H'):FS K CR CF H' a tx fo lg ls bs r gs xs:=
 ⟨h.rd.same s,Rd.same h.trk s,⟨let ⟨dx,e⟩:=h.fd.ins;⟨dx,s _ _ e⟩,h.fd.tg.same s,h.fd.ts.same s,h.fd.ne⟩,h.ne,h.n1,h.n2,h.l0,h.l1,h.l2⟩
theorem FS.afI (h:FS K CR CF H a tx fo lg ls bs r gs xs) (d:H pa=some (.lst o)) (p:pa≠lg) (s:pa≠ls) (i:pa≠tx):FS K CR CF (upd H pa (.lst n)) a tx fo lg ls bs r gs xs:=by obtain⟨m,k,e,w,x⟩:=h.rd.ins;obtain⟨c,f⟩:=h.fd.ins;have lt:∀{l rows},jU H l rows->l≠pa->jU (upd H pa (.lst n)) l rows:=λ{l rows} ⟨b,u,v,j⟩ t=>⟨b,by rw[L2.aC t];exact u,v,λq g=>by rw[L2.aC (cJ (j q g) d (by intro y;cases y))];exact j q g⟩;exact⟨⟨⟨m,k,by rw[L2.aC (cJ e d (by intro y;cases y))];exact e,w,x⟩,Xx h.rd.txt i.symm⟩,Rd.aC h.trk i.symm,⟨⟨c,by rw[L2.aC (cJ f d (by intro y;cases y))];exact f⟩,lt h.fd.tg p.symm,lt h.fd.ts s.symm,h.fd.ne⟩,h.ne,h.n1,h.n2,h.l0,h.l1,h.l2⟩
theorem ap5 (l:vA) (q:Qi×List Nat):jx (l++[q])=jx l++[Aa q.1.key q.1.rank q.1.parent]:=by unfold jx;rw[dw];rfl
theorem ap6 (l:vA) (q:Qi×List Nat):iB (l++[q])=iB l++q.2.map (pA (q.1.key:Nat)):=by unfold iB;rw[Bh];simp
include p7 xq in
theorem ap7 (F:Fun K "read_groups" "read_groups" Vd f fd) (Y:Cs K mg) (ap8:Df P w K mg base "read_group" Km 5 (XF K CR CF)):aY P w K mg base CX0 6 f fd Ko (XH K CR CF):=by
 refine F.ok Ve (by walk_at "l") (λ_ A _ s H vs Q E hr hz=> ?_);obtain⟨a,U,L,S,T,bs,r,gs,xs,e,h,q1,q2⟩:=hz;subst e;refine⟨_,(aF (bO (i:=2) Ve.nd (cT (ao aM aA)))
   (aD (uc dG afE (aF (bO (i:=3) Ve.nd (aL ap8 hr (ao (pv 0) (ao (bB bH (pv 2) (ab3 ab6 aM) (λ_ _=>rfl)) (ao (pv 1) aA)))))
   (aF (aR (bF bU (pv 3) aM) (aD (aK fO)) aV)
   (aD (aR (bV (pq p7 hr (by decide) (pv 0) (ao (aN Y.aoE) aA))) (aF (aR (bF bU (jD QM (cB fK rfl Y.len dF (ao (pv 2) aA)) aM) (aN Y.aoA)) (aD (aK fO)) aV)
   (aD (eE (jo iD m8 n_ oK (pv 2) (ao (pv 3) aA))))) (aF (uc dG (PW.pt (pO (bF qF (cB fK rfl Y.len dF (ao (pv 2) aA)) aM) (pN (bV (pq p7 hr (by decide) (pv 0) (ao (aN Y.aoF) aA)))))) (aD (eE (acI iD Bt P_ acL (pv 2)))))
   (aD (aR (cN (bV (pq p7 hr (by decide) (pv 0) (ao (aN Y.COMMA) aA)))) (aD (aK (oH (gY bU (cB fK rfl Y.len dF (ao (pv 2) aA)) aM) (mz (w6 xq hr (by decide) (pv 0)))))) aV)))))))))),?_⟩
 refine aZ ⟨by show 1<=sizeLine;decide,λI y=> ?_⟩;obtain⟨arg,eg,_⟩:=id h.fd.tg;obtain⟨ars,es,_⟩:=id h.fd.ts;have n1:=(aX eg y).symm;have n2:=(aX es y).symm;obtain⟨dxa,na,ea,_⟩:=id h.rd.ins;have n0:I≠a:=(aX ea y).symm;have n3:I≠U:=by
  rcases h.trk with z | ⟨o,z⟩;.exact(aX z y).symm
  .exact(aX z y).symm
 have s0:Same H (upd H I (.lst [.int 0])):=Same.upd y;have h0:=h.same s0;refine⟨λm σ W=>∃(v:Option V) (p:Nat) (B O:List Nat) (done:vA),σ=[some (.ref a),some (.ref L),some (.ref I),v]/\W I=some (.lst (stk p B))/\FS K CR CF W a U L S T bs O (gs++jx done) (xs++iB done)/\bG a S T H W/\goG 0 [] r=(goG p B O).map (λl=>done++l)/\B.length<=7/\m=O.length,
  ⟨_,none,0,[],r,[],rfl,aH,by simpa [jx,iB]using h0,λb o e _ _ _=>s0 b o e,by cases goG 0 [] r <;> rfl,fU _,rfl⟩,?_⟩
 rintro m σ H1 ⟨v,p,B,O,done,rfl,hp1,h1,o1,j,lps,rfl⟩;refine(p_b p_c) _ ?_;rw[aB rfl];refine⟨_,λ_ _ z=>z,?_⟩;rw[akv p B O]at j;have hix:PE0 (tOp (jG K) (bA 2) (tUn (rU λi=>V.int (-i)) (tC (.int 1)))) [some (.ref a),some (.ref L),some (.ref I),v] H1 (.int p):=gC (aj rfl) (afH p_c) (SqL.of hp1) (by rw[ap3];exact aiY _ _);refine aZ (bx ((aq (aj rfl) (aq hix (aq (aj rfl) aG))) _ ⟨a,U,L,S,T,bs,O,_,_,p,rfl,h1,λe2 H2 o2=> ?_,λrank G ys c e2 H2 o2 h2=> ?_⟩));.rw[e2]at j;dsimp only;refine bD (bM (p_eq (aj rfl) p_c)) (λ_=> ?_) (λz=>absurd (iw z) (by simp));exact aU p_c (q1 j H2 (o1.trans o2))
 rw[e2]at j;dsimp only at j ⊢;have hk:=(adH e2 p).1;have hlt:=Dd e2;have hp2:H2 I=some (.lst (stk p B)):=o2 _ _ hp1 n0 n1 n2;have o12:=o1.trans o2;generalize hrow:((⟨G,rank,p⟩:Qi),ys)=row at j;have h2:FS K CR CF H2 a U L S T bs c (gs++jx (done++[row])) (xs++iB (done++[row])):=by rw[ap5,ap6,<-lU,<-lU,<-hrow];exact h2
 refine bD (bM (p_eq (aj rfl) p_c)) (λz=>absurd (dz z) (by have:1<=G:=hk.1;omega)) (λ_=> ?_);refine pU (xG rfl h2.rd (aq p_c aG) (λhb=> ?_) λhb C hr3 b3=> ?_)
 .rw[au (by decide)];rw[au hb]at j;have after:∀(N:Nat) (d t:List Nat) (C:Hp),C I=some (.lst (stk N d))->FS K CR CF C a U L S T bs t (gs++jx (done++[row])) (xs++iB (done++[row]))->bG a S T H C->goE p B c=goE N d t->d.length<=7->t.length<=c.length->(d=[]\/¬t.head? =some 125)->
    oJ (Ca (tB (rM CR "passes" (z9 K CR) [] E0 (bA 0) (gw (tC (.int 44)) fW)))) (Ce (Hs (tOp rEq (tCB (λxs H Q=>∃p ys,xs=[V.ref p]/\(SqL K H p ys\/SqT K H p ys)/\Q (.int ys.length) H) (gw (bA 2) fW)) (tC (.int 1))) (rM CR "is_at_end" (spP (xg K CR)) [] E0 (bA 0) fW))) t_
     {nx:=λx x_1=>∃m',m' < O.length/\∃(v:Option V) (p:Nat) (B O:List Nat) (done:vA),x=[some (.ref a),some (.ref L),some (.ref I),v]/\x_1 I=some (.lst (stk p B))/\FS K CR CF x_1 a U L S T bs O (gs++jx done) (xs++iB done)/\bG a S T H x_1/\goG 0 [] r=(goG p B O).map (λl=>done++l)/\B.length<=7/\m'=O.length,rt:=Q}
     [some (.ref a),some (.ref L),some (.ref I),some (.int (G:Nat))] C:=by
   intro N d t C g J o3 e3 l3 l4 ex;rw[e3]at j;unfold goE at j;refine pU (Ej (xG rfl J.rd (aq p_c aG) (λu=> ?_) λu H4 hr4 X=> ?_))
   .rw[aB (by decide)];rw[au u]at j;obtain⟨dx,n,e,_⟩:=J.rd.ins;refine aU (o9 (p_eq (f9 (aq (aj rfl) aG) (SqL.of g)) p_c) λ_=>xr (R:=xg K CR) (aj rfl) e rfl ⟨a,U,bs,t,rfl,J.rd,rfl⟩) ?_;rw[Ab];cases d with
    | nil=>
     by_cases hc:t=[];.subst hc;refine q2 (done++[row]) ?_ C o3 J;rw[j];simp[fin]
     .rw[cY hc,Py];refine q1 ?_ C o3;rw[j];simp[fin,hc]
    | cons q qs=>have:decide (((q::qs).length+1:Nat)=(1:Int))=false:=cY (by simp;omega);rw[this,GQ];refine q1 ?_ C o3;rw[j,RQ,au (ex.resolve_left (by simp))];rfl
   .rw[au (by decide)];rw[aB u]at j;have h4:=J.move hr4 X (by rw[dW];omega);refine⟨t.tail.length,by rw[dW];omega,_,N,d,t.tail,done++[row],rfl,X _ _ g n0,h4,o3.trans X.o3,?_,l3,rfl⟩;rw[j];cases goG N d t.tail with
    | none=>rfl
    | some l=>simp
  refine aZ ⟨λm σ W=>∃(N:Nat) (d t:List Nat),σ=[some (.ref a),some (.ref L),some (.ref I),some (.int (G:Nat))]/\W I=some (.lst (stk N d))/\FS K CR CF W a U L S T bs t (gs++jx (done++[row])) (xs++iB (done++[row]))/\bG a S T H W/\goE p B c=goE N d t/\d.length<=7/\t.length<=c.length/\m=d.length,
   ⟨_,p,B,c,rfl,hp2,h2,o12,rfl,lps,bW _,rfl⟩,?_⟩
  rintro m σ C ⟨N,d,t,rfl,g,J,o3,e3,l3,l4,rfl⟩;refine ae7 ((bM (p_i (f9 (aq (aj rfl) aG) (SqL.of g)) p_c)) _ ?_);rw[Ab];cases d with
  | nil=>rw[au (by simp),au (by decide)];exact after N [] t C g J o3 e3 l3 l4 (.inl rfl)
  | cons q qs=>
   rw[aB (by simp;omega)];refine xG rfl J.rd (aq p_c aG) (λu=> ?_) λu H4 hr4 X=> ?_;.rw[au (by decide)];exact after N (q::qs) t C g J o3 e3 l3 l4 (.inr u)
   .rw[aB (by decide)];refine⟨_,λ_ _ z=>z,?_⟩;have h4:=J.move hr4 X (by rw[dW];omega);have hp4:=X _ _ g n0;refine s_pop (aj rfl) hp4 (ap2 _ _) ?_;rw[ap4];refine⟨qs.length,by simp,q,qs,t.tail,rfl,aH,h4.afI hp4 n1 n2 n3,λb o e y1 y2 y3=> ?_,?_,by simp at l3;omega,by rw[dW];omega,rfl⟩;.rw[L2.aC (aX e y)];exact X _ _ (o3 b o e y1 y2 y3) y1
    .rw[e3]
     conv=>lhs;unfold goE
     rw[au (by rw[u];decide),RQ,aB u]
 .rw[aB (by decide)];rw[aB hb]at j;have J:=h2.move hr3 b3 (by rw[dW];omega);have g:=b3 _ _ hp2 n0;have o3:=o12.trans b3.o3;refine bD (bM (p_eq (p_i (f9 (aq (aj rfl) aG) (SqL.of g)) p_c) p_c)) (λZ=> ?_) λZ=> ?_;.rw[Ab,cH]at Z;rw[aB (by omega)]at j;exact aU p_c (q1 j C o3)
  .rw[Ab,iu]at Z;have l7:¬7<=B.length:=by omega
   rw[au l7]at j;refine EY (aj rfl) (aj rfl) g (by rw[Ab];exact gD (show _<=8 by omega) (by decide)) ?_;rw[<-afG];refine⟨c.tail.length,by rw[dW];omega,_,G,p::B,c.tail,done++[row],rfl,aH,J.afI g n1 n2 n3,λb o e y1 y2 y3=>by rw[L2.aC (aX e y)];exact o3 b o e y1 y2 y3,?_,by simp;omega,rfl⟩;rw[j];cases goG G (p::B) c.tail with
   | none=>rfl
   | some l=>simp
end
theorem XJ:∀{b:List Int},(∀z∈b,0<=z/\z<=255)->zs (rE b)=b
 | [],_=>rfl
 | z::b,h=>by
  have d:=h z cU;have e:(if jh z 0 255=true then z.toNat else 0)=z.toNat:=aB (by unfold jh;simp;omega);have c:=XJ λy a=>h y (cO _ a);show((if jh z 0 255=true then z.toNat else 0:Nat):Int)::zs (rE b)=z::b;rw[e,c];have:((z.toNat:Nat):Int)=z:=by omega
  rw[this]
theorem XM (d e:D) (p:Int×Int):fB d (e++[p])=dput (fB d e) p.1 p.2:=by unfold fB;rw[Pj];rfl
theorem MK:∀e d,(fB d e).length<=d.length+e.length
 | [],d=>by show d.length<=_;simp
 | p::e,d=>by rw[adK];have:=MK e (dput d p.1 p.2);have:=zT d p.1 p.2;rw[bR];omega
section
variable {K:aW} {H:Hp} {σ:L2.St}
theorem Ac (b:PE0 ta σ H (.ref a)) (c:PE0 tb σ H (.int i)) (d:H a=some (.tup xs)) (e:atI xs i=some v):PE0 (tOp (uh K) ta tb) σ H v:=λQ q=>b _ (c _ ⟨a,xs,i,v,rfl,rfl,SqT.of d,e,q⟩)
theorem afJ {l:Addr} {rows:List (List V)} {ns:List Int} {j:Nat} {B:TE} {Q:VK} (J:j < σ.length) (I:PE0 B σ H (.ref l)) (h:jU H l rows) (x:rows.map (λr=>r.head?)=ns.map λn=>some (V.int n)) (L:rows.length<=4000)
  (q:∀D,H D=none->Q (.ref D) (upd H D (.lst (ns.map V.int)))):tLc (vJ K B) (jC j) Rh (tOp (uh K) (bA j) (tC (.int 0))) [j] σ H Q:=by
 obtain⟨b,t,p,u⟩:=h;refine nH (Mi (I _ ⟨l,rfl,⟨_,SqL.of t⟩,λD w=> ?_⟩));have s:b.length=rows.length:=by rw[<-p,aJ]
 refine oM (λ_=>true) (λy=>match y with | .ref a=>(match H a with | some (.tup (v::_))=>v | _=> .non) | _=> .non) w (by rw[aJ,s];exact gD L (by decide)) (Ma (SqL.of t)) (λy z C A E q=>q) (λy z _ C A E q=> ?_) ?_
 .obtain⟨d,g,rfl⟩:=aQ.mp z;have f:=u d g;obtain⟨v,c,i⟩:∃v c,d.2=v::c:=by
   have:=p▸aQ.mpr ⟨d,g,rfl⟩;obtain⟨n,P,e⟩:=aQ.mp (x▸aQ.mpr ⟨_,this,rfl⟩:d.2.head?∈ns.map λn=>some (V.int n));cases o:d.2 with
   | nil=>rw[o]at e;cases e
   | cons v c=>exact⟨v,c,rfl⟩
  rw[i]at f;dsimp only at q;rw[f]at q;exact(Ac (aj (by show((σ.set j none).set j _)[j]? =_;rw[qp,xV J])) p_c (A _ _ f) (at_of rfl rfl)) _ q
 .have G:(b.map λq=>V.ref q.1).filter (λ_=>true)=b.map λq=>V.ref q.1:=by rw[Bj];intros;rfl
  rw[G,bC];have:∀(b:List (Addr×List V)) (ns:List Int),(∀q∈b,H q.1=some (.tup q.2))->(b.map (·.2)).map (λr=>r.head?)=ns.map (λn=>some (V.int n))->b.map ((λy=>match y with | .ref a=>(match H a with | some (.tup (v::_))=>v | _=> .non) | _=> .non)∘λq=>V.ref q.1)=ns.map V.int:=by
   intro b
   induction b with
   | nil=>
    intro ns _ e;have:ns=[]:=by simpa using e.symm
    rw[this];rfl
   | cons d b O=>
    intro ns f e;cases ns with
    | nil=>simp at e
    | cons n ns=>
     rw[bT,bT,bT]at e;injection e with m F;rw[bT,bT,O ns (λq N=>f q (cO _ N)) F]
     congr 1
     show(match H d.1 with | some (.tup (v::_))=>v | _=>V.non)=_;rw[f d cU];cases o:d.2 with
     | nil=>rw[o]at m;cases m
     | cons v c=>rw[o]at m;injection m
  rw[this b ns u (by rw[p];exact x)];exact q D w
end
section
def xH (bs:List Nat):Option vA:=if bs.length<=abF then Qj bs else none
inductive XQ (CF:Addr) (vs:List V) (H:Hp) (Q:VK) (E:XK):Prop
 | mk tx fo lg ls bs:vs=[.ref tx,.ref fo]->Rd H tx (.lst ((zs bs).map V.int))->FAt CF H fo lg ls [] []->tx≠lg->tx≠ls->(xH bs=none->∀H',bG lg ls ls H H'->Q (.bl false) H')->(∀l,xH bs=some l->∀H',bG lg ls ls H H'->FAt CF H' fo lg ls (jx l) (iB l)->(jx l).length<=2000->(iB l).length<=2000->Q (.bl true) H')->XQ CF vs H Q E
theorem ap9 (F:Fun K "is_in_form" "is_in_form" Vf f fd) (x:Cs K mg) (t:sW P w K mg base CR "Reader" Kg 1 (Xv CR)) (v:Df P w K mg base "read_groups" Ko 6 (XH K CR CF)):aY P w K mg base CX0 7 f fd Kr (XQ CF):=by
 refine F.ok am9 (by walk_at "l") (λ_ A _ s H vs Q E U Z=> ?_);obtain⟨g,C,q,m,bs,e,J,j,n1,n2,O,R⟩:=Z;subst e;refine⟨_,(aF (aR (bF bU (cB fK rfl x.len dF (ao (pv 0) aA)) aM) (aD (aK fO)) aV)
   (aF (aR (bF qF (cB fK rfl x.len dF (ao (pv 0) aA)) (aN x.aoz)) (aD (aK fO)) aV)
   (aD (aK (aL v U (ao (afy t U (by decide) (ao (pv 0) aA)) (ao (pv 1) aA))))))),?_⟩
 have W:SqL K H g ((zs bs).map V.int):= .inl J;refine bD (bM (p_eq (f9 (aq (aj rfl) aG) W) p_c)) (λp=> ?_) λp=> ?_;.rw[aJ,mV,cH]at p;have:bs=[]:=qm.mp (by omega);subst this;refine aU p_c (R [] rfl H .refl j (by decide) (by decide))
 rw[aJ,mV,iu]at p;refine bD (bM (p_i (f9 (aq (aj rfl) aG) W) p_c)) (λd=> ?_) λd=> ?_;.rw[aJ,mV,cH]at d;refine aU p_c (O (au (by show ¬bs.length<=2000;omega)) H .refl)
 rw[aJ,mV,iu]at d;have T:bs.length<=2000:=by omega
 have X:xH bs=goG 0 [] bs:=(aB T).trans (aku bs (λz=>p (by rw[z];rfl)));rw[X]at O R;refine bL (bx (dj ((aq (aj rfl) aG) _ λa c G I L=>⟨a,c,g,rfl,aH,rfl,?_⟩)));rw[mq];have s1:Same H (upd H c (.own a)):=Same.upd I;have i:Same H (upd (upd H c (.own a)) a (.ins CR c (fsR g (0:Nat)))):=s1.trans (Same.upd (by rw[aC L.symm];exact G));obtain⟨y,S⟩:=j.ins;have N:C≠a:=aX S G;have Y:FS K CR CF (upd (upd H c (.own a)) a (.ins CR c (fsR g (0:Nat)))) a g C q m bs bs [] []:=
  ⟨⟨⟨c,0,aH,rfl,fU _⟩,.inl (Rd.same J i)⟩,Rd.same J i,⟨⟨y,i _ _ S⟩,j.tg.same i,j.ts.same i,j.ne⟩,N,n1,n2,T,by simp,by simp⟩
 have fr:∀{h},bG a q m (upd (upd H c (.own a)) a (.ins CR c (fsR g (0:Nat)))) h->bG q m m H h:=λo b u e y1 y2 _=>o b u (i _ _ e) (aX e G) y1 y2;refine(aq (aj rfl) aG) _ ⟨a,g,C,q,m,bs,bs,[],[],rfl,Y,λB h o=>O B h (fr o),λl B h o n=> ?_⟩;rw[Pq,Pq]at n;have l1:=n.l1;have l2:=n.l2;exact R l B h (fr o) n.fd (by rw[jY]at l1;omega) (by rw[jY]at l2;omega)
end
section
variable {X:Cx}
theorem afK (K:aW) (h:X.K=K:=by rfl):IxR X (uh K):=h▸rN
theorem afL (K:aW) (h:X.K=K:=by rfl):IxR X (jG K):=h▸bH
theorem aqb (K:aW) (h:X.K=K:=by rfl):SlR X (acC K):=h▸HB
theorem aqc (K:aW) (h:X.K=K:=by rfl):lC X (.builtin "len") (λxs H Q=>∃p ys,xs=[.ref p]/\(SqL K H p ys\/SqT K H p ys)/\Q (.int ys.length) H):=h▸fK
theorem aqd {C:Addr} {sp:Sp} {σ:L2.St} {H:Hp} {Q:VK} (h:∀x a,H x=none->H a=none->a≠x->sp [.ref x] (upd (upd H a (.own x)) x (.ins C a [])) (λv b=>v= .non/\Q (.ref x) b) E0):vN C sp [] E0 fW σ H Q:=h
end
section
theorem XR (bs:List Nat):vB bs=match xH bs with
  | none=> .error (-1)
  | some l=>if ¬(l.map λp=>p.1.key).Nodup then .error (-2)else if ¬(l.flatMap λp=>p.2).Nodup then .error (-3)else if yr (ou l)=false then .error (-5)else if Bv (ou l)=false then .error (-9)else .ok (ou l):=by
 unfold vB xH;cases(if bs.length<=abF then Qj bs else none)with
 | none=>rfl
 | some l=>refine d8 (qJ (Ja _)) (λ_=>rfl) λ_=>d8 (qJ (Ja _)) (λ_=>rfl) λ_=>rfl
theorem uN:(zs l).Nodup↔l.Nodup:=by
 constructor;.intro h;exact ahT (λh e=>h (by rw[e])) (jZ.mp h)
 .intro h;exact tU _ (λa b c e=>c (by omega)) h
theorem afM (h:xH bs=some l):Qj bs=some l:=by
 unfold xH at h;split at h;.exact h
 .cases h
inductive MN (C:Addr) (vs:List V) (H:Hp) (Q:VK) (E:XK):Prop
 | mk tx a r p x bs:vs=[.ref tx,.ref a]->Rd H tx (.lst ((zs bs).map V.int))->bQ C H a r p x ⟨[],[],[]⟩->(∀n,vB bs= .error n->∀H',bG r p x H H'->Q (.int n) H')->(∀t,vB bs= .ok t->∀H' T',bG r p x H H'->TAt C H' a r p x T' t->Q (.int 0) H')->MN C vs H Q E
theorem aqe (F:Fun K "read_tree" "read_tree" Vg f fd) (c:cA K mg C) (cf:xu K CF) (cs:Cs K mg) (aqf:sW P w K mg base CF "Found" Kf 1 (Xw CF)) (aqg:Df P w K mg base "is_in_form" Kr 7 (XQ CF))
  (Fi:Df P w K mg base "has_twice" zx 1 (Eh K)) (nQ:Df P w K mg base "set_group" qN 1 (sE C)) (XS:Df P w K mg base "are_ranks_right" Dv 2 (spP (Mw C))) (X3:Df P w K mg base "is_too_big" Dy 1 (spP (Mv C))):
  aY P w K mg base CX0 8 f fd DR (MN C):=by
 refine F.ok uG (by walk_at "l") (λ_ A _ s H vs Q E hr hz=> ?_);obtain⟨tx,a,r,p,x,bs,e,ht,ho,t,q2⟩:=hz;subst e;refine'⟨_,(aF (bO (i:=2) uG.nd (Fe aqf hr (by decide)))
   (aF (aR (cN (bV (aL aqg hr (ao (pv 0) (ao (pv 2) aA))))) (aD (aK (aN cs.ju))) aV)
   (aF (aR (bV (aL Fi hr (ao (lE (own:=[("told",3)]) rfl uG.nd (eV (aO (pv 2) rfl)) (lF rfl) ?g2 ?t2 ?e2) aA))) (aD (aK (aN cs.Mj))) aV)
   (aF (aR (bV (aL Fi hr (ao (lE (own:=[("told",3)]) rfl uG.nd (eV (aO (pv 2) rfl)) (lF rfl) ?g1 ?t1 ?e1) aA))) (aD (aK (aN cs.aor))) aV)
   (aF (d7 dG rfl (eV (aO (pv 2) rfl)) (cQ (i:=3) uG.nd) (aD (eE (aL nQ hr (ao (pv 1) (ao (bB rN (pv 3) aM (λ_ _=>rfl)) (ao (bB rN (pv 3) aM (λ_ _=>rfl)) (ao (bB rN (pv 3) aM (λ_ _=>rfl)) aA))))))))
   (aF (d7 dG rfl (eV (aO (pv 2) rfl)) (cQ (i:=3) uG.nd) (aD (jQ (bw hr) (aO (pv 1) rfl) (bB rN (pv 3) aM (λ_ _=>rfl)) (bB rN (pv 3) aM (λ_ _=>rfl)) rfl)))
   (aF (aR (cN (bV (aL XS hr (ao (pv 1) aA)))) (aD (aK (aN cs.wN))) aV)
   (aF (aR (bV (aL X3 hr (ao (pv 1) aA))) (aD (aK (aN cs.FULL))) aV)
   (aD (aK (aN cs.iQ))))))))))),?_⟩
 case g1=>exact λ_ _ _ _ _=>cQ (i:=3) uG.nd
 case t1=>exact λ_ _ _ _ _=>um
 case e1=>exact λ_ _ _ _ _=>(bB (afK K) (pv 3) aM (λ_ _=>rfl))
 case g2=>exact λ_ _ _ _ _=>cQ (i:=3) uG.nd
 case t2=>exact λ_ _ _ _ _=>um
 case e2=>exact λ_ _ _ _ _=>(bB (afK K) (pv 3) aM (λ_ _=>rfl))
 rw[XR]at t q2;refine aZ (d9 (aqd λfo dx hfo hdx ndx=>⟨fo,dx,rfl,aH,λlg ls H1 hlg hls hf b1=>⟨rfl,?_⟩⟩));have s1:Same H H1:=Same.made hfo hdx b1;obtain⟨z1,z2⟩:=fC hlg;obtain⟨_,afN⟩:=fC z2;obtain⟨z3,z4⟩:=fC hls;obtain⟨_,O⟩:=fC z4;have nt:∀{l},H l=none->tx≠l:=λe=>by
  rcases ht with z | ⟨o,z⟩;.exact aX z e
  .exact aX z e
 have ht1:=Rd.same ht s1;have fr:∀{v},bG lg ls ls H1 v->Same H v:=λo b u e=>o b u (s1 _ _ e) (aX e afN) (aX e O) (aX e O);dsimp only;refine aZ (pU (Ej (r_b (bx ((aq (aj rfl) (aq (aj rfl) aG)) _ ⟨tx,fo,lg,ls,bs,rfl,ht1,hf,nt afN,nt O,λe2 H2 o2=>⟨false,rfl,?_⟩,λl e2 H2 o2 L l1 l2=>⟨true,rfl,?_⟩⟩)))));.rw[aB (by decide)];rw[e2]at t;exact aU p_c (t _ rfl H2 (Same.only (fr o2)))
 rw[au (by decide)];rw[e2]at t q2;have s2:=fr o2;dsimp only at t q2 ⊢;obtain⟨dxf,J⟩:=L.ins;have lG:(jx l).length=l.length:=aJ _;have hkG:(jx l).map (λr=>r.head?)=(zs (l.map λq=>q.1.key)).map λn=>some (V.int n):=by unfold jx zs;rw[bC,bC,bC];rfl
 have hkS:(iB l).map (λr=>r.head?)=(zs (l.flatMap λq=>q.2)).map λn=>some (V.int n):=by
  unfold iB zs;rw[tM,bC,tM]
  congr 1
  funext q;rw[bC];rfl
 refine aZ (pU (r_b (bx (dj (afJ (ns:=zs (l.map λq=>q.1.key)) (by show 3 < 4;decide) (Xz cf rfl J) L.tg hkG (by omega) λd3 hd3=>⟨d3,_,rfl,SqL.of aH,by rw[mV,aJ];omega,λH3 s3=>⟨_,rfl,?_⟩⟩)))));have m:=(Same.upd hd3:Same H2 (upd H2 d3 (.lst ((zs (l.map λq=>q.1.key)).map V.int)))).trans s3;rcases BR (¬(l.map λq=>q.1.key).Nodup)with G | G;.rw[aB (by rw[cY (λz=>G (uN.mp z))];rfl)];rw[aB G]at t;exact aU p_c (t _ rfl H3 (Same.only (s2.trans m)))
 have G:=BP.mp G;rw[au (by rw[cF (uN.mpr G)];decide)];rw[au (oE G)]at t q2;have U:FAt CF H3 fo lg ls (jx l) (iB l):=⟨⟨dxf,m _ _ J⟩,L.tg.same m,L.ts.same m,L.ne⟩;dsimp only;refine aZ (pU (r_b (bx (dj (afJ (ns:=zs (l.flatMap λq=>q.2)) (by show 3 < 4;decide) (Xy cf rfl (m _ _ J)) U.ts hkS (by omega) λd4 hd4=>⟨d4,_,rfl,SqL.of aH,by have:=congrArg iR hkS;rw[aJ,aJ]at this;omega,λH4 s4=>⟨_,rfl,?_⟩⟩)))));have T:=(Same.upd hd4:Same H3 (upd H3 d4 (.lst ((zs (l.flatMap λq=>q.2)).map V.int)))).trans s4;have s04:=(s2.trans m).trans T;rcases BR (¬(l.flatMap λq=>q.2).Nodup)with nx | nx;.rw[aB (by rw[cY (λz=>nx (uN.mp z))];rfl)];rw[aB nx]at t;exact aU p_c (t _ rfl H4 (Same.only s04))
 have nx:=BP.mp nx;rw[au (by rw[cF (uN.mpr nx)];decide)];rw[au (oE nx)]at t q2;have hf4:FAt CF H4 fo lg ls (jx l) (iB l):=⟨⟨dxf,T _ _ (m _ _ J)⟩,U.tg.same T,U.ts.same T,U.ne⟩;have d:=ho.same s04;obtain⟨arg,eg1,eg2,eg3⟩:=hf4.tg;obtain⟨ars,es1,es2,es3⟩:=hf4.ts;have lar:arg.length=l.length:=by rw[<-lG,<-eg2,aJ]
 dsimp only;refine aZ (gQ ((Xz cf rfl (T _ _ (m _ _ J))) _ ⟨lg,rfl,?_⟩));refine jN (xs:=arg.map λq=>V.ref q.1) (λi v=>bQ C v a r p x ⟨fB [] ((lR (dH l)).take i),fB [] ((lP (dH l)).take i),[]⟩/\bG r p x H4 v) ⟨d,.refl⟩ (λi v W=>SqL.of (wW W.2 eg1 d.hr d.hp d.hx)) ⟨none,rfl⟩ ?_ ?_
 .rintro i y v W ⟨g4,o4⟩ N nx';rw[dM]at W;obtain⟨q0,R,rfl⟩:=iT.mp W;have h:(jx l)[i]? =some q0.2:=by rw[<-eg2,dM,R];rfl
  unfold jx at h;rw[dM]at h;obtain⟨B,hg0,eg0⟩:=iT.mp h;have I:v q0.1=some (.tup (Aa B.1.key B.1.rank B.1.parent)):=by have:=eg3 q0 (gq R);rw[<-eg0]at this;exact o4 _ _ this (cJ this d.hr (by intro z;cases z)) (cJ this d.hp (by intro z;cases z)) (cJ this d.hx (by intro z;cases z))
  have hR:(lR (dH l))[i]? =some ((B.1.key:Int),(B.1.rank:Int)):=by unfold lR dH;rw[dM,dM,hg0];rfl
  have hP:(lP (dH l))[i]? =some ((B.1.key:Int),(B.1.parent:Int)):=by unfold lP dH;rw[dM,dM,hg0];rfl
  have lR1:=MK ((lR (dH l)).take i) [];have lP1:=MK ((lP (dH l)).take i) [];have lR2:((lR (dH l)).take i).length<=l.length:=by rw[fD];unfold lR dH;simp;omega
  have lP2:((lP (dH l)).take i).length<=l.length:=by rw[fD];unfold lP dH;simp;omega
  rw[jY]at lR1 lP1;refine oZ (bx ((aq (aj rfl) (aq (Ac (aj rfl) p_c I (at_of (j:=0) rfl rfl)) (aq (Ac (aj rfl) p_c I (at_of (j:=1) rfl rfl)) (aq (Ac (aj rfl) p_c I (at_of (j:=2) rfl rfl)) aG)))) _
   ⟨a,r,p,x,_,(B.1.key:Int),(B.1.rank:Int),(B.1.parent:Int),rfl,g4,by show(fB _ _).length < _;omega,by show(fB _ _).length < _;omega,nx' _ ⟨?_,o4.trans ((bG.uR _).trans (bG.uP _))⟩⟩))
  rw[j6,j6,hR,hP];show bQ C _ a r p x ⟨fB [] ((lR (dH l)).take i++[((B.1.key:Int),(B.1.rank:Int))]),fB [] ((lP (dH l)).take i++[((B.1.key:Int),(B.1.parent:Int))]),[]⟩;rw[XM,XM];exact(g4.wR _).wP _
 rintro v5 H5 ⟨Y,o5⟩;have qI:(lR (dH l)).length=l.length:=by unfold lR dH;simp
 have adx:(lP (dH l)).length=l.length:=by unfold lP dH;simp
 rw[aJ,lar,qj (by omega),qj (by omega)]at Y;obtain⟨avC,ef4⟩:=hf4.ins;have S:∀{b o},H4 b=some o->(∀kvs,o≠ .dK kvs)->H5 b=some o:=λe n=>o5 _ _ e (λz=>by rw[z,d.hr]at e;injection e with e;exact n _ e.symm) (λz=>by rw[z,d.hp]at e;injection e with e;exact n _ e.symm) (λz=>by rw[z,d.hx]at e;injection e with e;exact n _ e.symm);have ef5:=S ef4 (by intro _ z;cases z);have es5:=S es1 (by intro _ z;cases z);have lsr:ars.length=(iB l).length:=by rw[<-es2,aJ]
 dsimp only;refine aZ (gQ ((Xy cf rfl ef5) _ ⟨ls,rfl,?_⟩));refine jN (xs:=ars.map λq=>V.ref q.1) (λi v=>bQ C v a r p x ⟨fB [] (lR (dH l)),fB [] (lP (dH l)),fB [] ((lX (iY l)).take i)⟩/\bG r p x H5 v) ⟨Y,.refl⟩ (λi v W=>SqL.of (wW W.2 es5 Y.hr Y.hp Y.hx)) ⟨v5,rfl⟩ ?_ ?_
 .rintro i y v W ⟨Z,o6⟩ N nx';rw[dM]at W;obtain⟨q0,R,rfl⟩:=iT.mp W;have h:(iB l)[i]? =some q0.2:=by rw[<-es2,dM,R];rfl
  have eSX:iB l=(iY l).map λq=>pA (q.2:Nat) q.1:=by
   unfold iB iY;rw[tM]
   congr 1
   funext q;rw[bC];rfl
  rw[eSX,dM]at h;obtain⟨x0,hx0,ex0⟩:=iT.mp h;have I:v q0.1=some (.tup (pA (x0.2:Nat) x0.1)):=by have:=S (es3 q0 (gq R)) (by intro _ z;cases z);rw[<-ex0]at this;exact o6 _ _ this (cJ this Y.hr (by intro z;cases z)) (cJ this Y.hp (by intro z;cases z)) (cJ this Y.hx (by intro z;cases z))
  have hX:(lX (iY l))[i]? =some ((x0.1:Int),(x0.2:Int)):=by unfold lX;rw[dM,hx0];rfl
  have lX1:=MK ((lX (iY l)).take i) [];have lX2:((lX (iY l)).take i).length<=(iB l).length:=by rw[fD,eSX];unfold lX;simp;omega
  rw[jY]at lX1;refine uJ (Ac (aj rfl) p_c I (at_of (j:=1) rfl rfl)) (p_X rfl Z.rd c) (Ac (aj rfl) p_c I (at_of (j:=0) rfl rfl)) Z.hx (by show(fB _ _).length < _;omega) (nx' _ ⟨?_,o6.trans (bG.uX _)⟩);rw[j6,hX];show bQ C _ a r p x ⟨_,_,fB [] ((lX (iY l)).take i++[((x0.1:Int),(x0.2:Int))])⟩;rw[XM];exact Z.wX _
 rintro v6 H6 ⟨Z,o6⟩;have uw:(lX (iY l)).length=(iB l).length:=by have:=congrArg iR hkS;rw[aJ,aJ,mV,<-RZ,aJ]at this;unfold lX;rw[aJ];exact this.symm
 rw[aJ,lsr,qj (by omega)]at Z;have o06:bG r p x H H6:=(Same.only s04).trans (o5.trans o6);have nR:ND (lR (dH l)):=by unfold ND lR dH;rw[bC,bC];have:=uN.mpr G;unfold zs at this;rw[bC]at this;exact this
 have nP:ND (lP (dH l)):=by unfold ND lP dH;rw[bC,bC];have:=uN.mpr G;unfold zs at this;rw[bC]at this;exact this
 have nX:ND (lX (iY l)):=by unfold ND lX;rw[bC];have:=uN.mpr nx;rw[<-RZ]at this;unfold zs at this;rw[bC]at this;exact this
 have gR':∀j,ak (fB [] (lR (dH l))) j=ak (gR (ou l)) j:=λj=>by rw[wA _ _ nR,lJ,yd,akB G nx]
 have gP':∀j,ak (fB [] (lP (dH l))) j=ak (gP (ou l)) j:=λj=>by rw[wA _ _ nP,lJ,yd,akC G nx]
 have gX':∀j,ak (fB [] (lX (iY l))) j=ak (gX (ou l)) j:=λj=>by rw[wA _ _ nX,lJ,yd,akD G nx]
 have srt:=Di G nx;have rel:Rel ⟨fB [] (lR (dH l)),fB [] (lP (dH l)),fB [] (lX (iY l))⟩ (ou l):=Rel.of srt (Dj _ k_) (Dj _ k_) (Dj _ k_) gR' gP' gX';have rok:=adI (afM e2);have par:∀k rk,ak (fB [] (lR (dH l))) k=some rk->∃pr,ak (fB [] (lP (dH l))) k=some pr/\(pr=0\/(ak (fB [] (lR (dH l))) pr).isSome=true):=by
  intro k rk e;rw[wA _ _ nR,lJ,yd]at e;have hm:=(bY nR).mpr e;obtain⟨g,hg,eg⟩:=aQ.mp hm;obtain⟨q,hq,rfl⟩:=aQ.mp hg;injection eg with eg4 eg5;refine⟨(q.1.parent:Int),?_,?_⟩;.rw[wA _ _ nP,lJ,yd,<-eg4];exact(bY nP).mp (aQ.mpr ⟨q.1,hg,rfl⟩)
  .rcases rok.2 q hq with z | ⟨q',hq',z⟩;.exact .inl (by omega)
   .refine .inr ?_;rw[wA _ _ nR,lJ,yd,<-z];have:=(bY nR).mp (aQ.mpr ⟨q'.1,aQ.mpr ⟨q',hq',rfl⟩,rfl⟩:((q'.1.key:Int),(q'.1.rank:Int))∈lR (dH l));rw[this];rfl
 obtain⟨bb,hbb⟩:=exb (Ew ⟨fB [] (lR (dH l)),fB [] (lP (dH l)),fB [] (lX (iY l))⟩);have X:bb=true↔yr (ou l)=true:=by rw[hbb,Je srt];unfold Ew;dsimp only;simp only[gR',gP']
 dsimp only;refine bD (gM (p_b (jw (aq (aj rfl) aG) ⟨a,r,p,x,_,bb,rfl,Z,Dj _ k_,par,rfl,hbb⟩))) (λhb=> ?_) λhb=> ?_
 .have:bb=false:=by cases bb;rfl;cases hb
  rw[aB (by cases e7:yr (ou l);rfl;rw[X.mpr e7]at this;cases this)]at t;exact aU p_c (t _ rfl H6 o06)
 have Fj:yr (ou l)=true:=X.mp (by cases bb;cases hb;rfl);rw[au (by rw[Fj];decide)]at t q2;have sml:Bv (ou l)=true↔(fB [] (lR (dH l))).length<=32/\(fB [] (lX (iY l))).length<=64:=by rw[Jf,<-rel.qI,<-rel.uw]
 refine bD (p_b (jw (aq (aj rfl) aG) ⟨a,r,p,x,_,rfl,Z,rfl⟩)) (λhb=> ?_) λhb=> ?_;.rw[aB (by cases e7:Bv (ou l);rfl;exact absurd (sml.mp e7) (n1t.mp hb))]at t;exact aU p_c (t _ rfl H6 o06)
 have hsm:=sml.mpr (n1f.mp hb);rw[au (by rw[hsm];decide)]at q2;exact aU p_c (q2 _ rfl H6 _ o06 ⟨Z,rel,akE (afM e2) G nx Fj hsm⟩)
end
def X4 (ns:List Int) (H:Hp) (Q:VK):Prop:=∀l a,Same H a->H l=none->a l=some (.lst (ns.map V.int))->Q (.ref l) a
section
variable {σ:L2.St} {H:Hp} {D:Ends}
theorem lO (h:PA0 ta σ H vs) (l:vs.length<=sizeLine) (q:∀p,H p=none->Q (.ref p) (upd H p (.lst vs))):ug ta σ H Q:=h _ ⟨l,q⟩
end
section
inductive X5 (C:Addr) (vs:List V) (H:Hp) (Q:VK) (E:XK):Prop
 | mk a r p x tx T t s b:vs=[.ref a,.ref tx]->TAt C H a r p x T t->Rd H tx (.lst (b.map V.int))->(∀z∈b,0<=z/\z<=255)->EdQ C a r p x (jB s t (.load b)) H Q->X5 C vs H Q E
theorem aqh (s:lY) (t:b_) (b:List Int):jB s t (.load b)=match vB (rE b)with
  | .error n=> .error n
  | .ok r=>if r=t then .error (-6)else .ok r:=rfl
theorem MP {a r p x b m l s:Addr} {T U:cG} {t u:b_} {H f:Hp} {Q:VK} (h:TAt C f a r p x T t) (i:TAt C f b m l s U u) (n:a≠b) (o:qT a r p x H f) (q:EdQ C a r p x (if u=t then .error (-6)else .ok u) H Q):zO C [.ref a,.ref b] f Q E0:=by
 refine⟨a,r,p,x,b,m,l,s,T,U,t,u,rfl,h.own,i.own.rd,n,h.wf.toSrt,i.wf.toSrt,h.rel,i.rel,λe=> ?_,λe G I J v fr w g=> ?_⟩;.rw[aB e.symm]at q;exact q.1 _ rfl _ o
 .rw[au λz=>e z.symm]at q;have j:∀y,f y=none->H y=none:=λy d=>Option.eq_none_iff_forall_ne_some.mpr λu E=>by obtain⟨L,B⟩:=h.own.ins;rw[o y u E (aX B d).symm (aX h.own.hr d).symm (aX h.own.hp d).symm (aX h.own.hx d).symm]at d;cases d
  exact q.2 _ rfl v G I J U ⟨.inr (j _ fr.1),.inr (j _ fr.2.1),.inr (j _ fr.2.2)⟩ (o.trans λc z A F _ _ _=>w c z A F) g i.rel i.wf
theorem aqi (F:Fun K "load_text" "load_text" Vh f fd) (S:Cs K mg) (wZ:Df P w K mg base "empty_tree" wG 3 (El C)) (R:Df P w K mg base "read_tree" DR 8 (MN C)) (uO:Df P w K mg base "replace_tree" zy 2 (zO C)):aY P w K mg base CX0 9 f fd Ks (X5 C):=by
 refine F.ok Vi (by walk_at "l") (λ_ A _ s H vs Q E j hz=> ?_);obtain⟨a,r,p,x,N,T,t,s,b,e,h,ht,Z,q⟩:=hz;subst e;refine⟨_,(aF (bO (i:=2) Vi.nd (LR wZ j (by decide)))
   (aF (bO (i:=3) Vi.nd (aL R j (ao (pv 1) (ao (pv 2) aA))))
   (aF (aR (bF jE (pv 3) (aN S.iQ)) (aD (aK (pv 3))) aV)
   (aD (aK (aL uO j (ao (pv 0) (ao (pv 2) aA)))))))),?_⟩
 refine aZ (d9 (bx (aG _ ⟨rfl,λo J I O y fr L ho=> ?_⟩)));have X:=XJ Z;rw[aqh]at q;have G:∀{v},bG J I O y v->Same H v:=λz c u e=>z c u (L _ _ e) (aX e fr.2.1) (aX e fr.2.2.1) (aX e fr.2.2.2);have l:Rd y N (.lst ((zs (rE b)).map V.int)):=by rw[X];exact Rd.same ht L
 obtain⟨W,Y⟩:=h.own.ins;refine aZ (d9 (bx ((aq (aj rfl) (aq (aj rfl) aG)) _ ⟨N,o,J,I,O,rE b,rfl,l,ho,λn d B m=> ?_,λu d B U m hu=> ?_⟩)))
 .rw[d]at q;have g:=G m;refine bD (bM (gn (aj rfl) p_c)) (λ_=>aU (aj rfl) (q.1 n rfl B (Same.o4 g))) (λz=> ?_);exfalso;have hn:=n1f.mp z;rw[XR]at d;subst hn;split at d;.injection d with d;cases d
  .split at d;.injection d with d;cases d
   .split at d;.injection d with d;cases d
    .split at d;.injection d with d;cases d
     .split at d;.injection d with d;cases d
      .cases d
 .rw[d]at q;have g:=G m;refine bD (bM (gn (aj rfl) p_c)) (λz=>absurd rfl (n1t.mp z)) λ_=> ?_;exact bL (bx ((aq (aj rfl) (aq (aj rfl) aG)) _ (MP (h.same g) hu (aX Y fr.1) (Same.o4 g) q)))
inductive X7 (C:Addr) (vs:List V) (H:Hp) (Q:VK) (E:XK):Prop
 | mk tx s b:vs=[.ref tx]->Rd H tx (.lst (b.map V.int))->(∀z∈b,0<=z/\z<=255)->X4 (yt s (.check b)) H Q->X7 C vs H Q E
theorem aqj (F:Fun K "check_text" "check_text" Vj f fd) (c:cA K mg C) (j:Cs K mg) (wZ:Df P w K mg base "empty_tree" wG 3 (El C)) (R:Df P w K mg base "read_tree" DR 8 (MN C)):aY P w K mg base CX0 9 f fd Ku (X7 C):=by
 refine F.ok Vk (by walk_at "l") (λ_ A _ s H vs Q E B Z=> ?_);obtain⟨L,s,b,e,Y,T,q⟩:=Z;subst e;refine⟨_,(aF (bO (i:=1) Vk.nd (LR wZ B (by decide)))
   (aF (bO (i:=2) Vk.nd (aL R B (ao (pv 0) (ao (pv 1) aA))))
   (aF (aR (bF jE (pv 2) (aN j.iQ)) (aD (aK (cT (ao (pv 2) aA)))) aV)
   (aD (aK (cT (ao (cB qG rfl j.len dF (ao (aO (pv 1) rfl) aA)) (ao (cB qG rfl j.len dF (ao (aO (pv 1) rfl) aA)) aA)))))))),?_⟩
 refine aZ (d9 (bx (aG _ ⟨rfl,λo I G N x fr J X=> ?_⟩)));have S:=XJ T;have y:∀{v},bG I G N x v->Same H v:=λz c u e=>z c u (J _ _ e) (aX e fr.2.1) (aX e fr.2.2.1) (aX e fr.2.2.2);have m:Rd x L (.lst ((zs (rE b)).map V.int)):=by rw[S];exact Rd.same Y J
 have q:X4 (match vB (rE b)with | .error n=>[n] | .ok t=>Vbnlah.ints [t.groups.length,t.specimens.length]) H Q:=q;refine aZ (d9 (bx ((aq (aj rfl) (aq (aj rfl) aG)) _ ⟨L,o,I,G,N,rE b,rfl,m,X,λn a O p=> ?_,λu a O U p d=> ?_⟩)))
 .rw[a]at q;have h:=y p;refine bD (bM (gn (aj rfl) p_c)) (λ_=>bL (lO (aq (aj rfl) aG) (by show 1<=sizeLine;decide) λl g=>q l _ (h.trans (Same.upd g)) (h.free g) aH)) (λz=> ?_);exfalso;have W:=n1f.mp z;rw[XR]at a;subst W;split at a;.injection a with a;cases a
  .split at a;.injection a with a;cases a
   .split at a;.injection a with a;cases a
    .split at a;.injection a with a;cases a
     .split at a;.injection a with a;cases a
      .cases a
 .rw[a]at q;have h:=y p;refine bD (bM (gn (aj rfl) p_c)) (λz=>absurd rfl (n1t.mp z)) λ_=> ?_;refine bL (lO (aq (Ep (aq (p_R rfl d.own.rd c) aG) d.own.hr) (aq (Ep (aq (p_X rfl d.own.rd c) aG) d.own.hx) aG)) (by show 2<=sizeLine;decide) λl g=>q l _ (h.trans (Same.upd g)) (h.free g) ?_);rw[aH,d.rel.qI,d.rel.uw];rfl
def jc (H:Hp) (l:Addr) (rows:List (List Int)):Prop:=∃a:List (Addr×List Int),H l=some (.lst (a.map λq=>V.ref q.1))/\a.map (·.2)=rows/\∀q∈a,H q.1=some (.lst (q.2.map V.int))
theorem jc.same (h:jc H l rows) (s:Same H H'):jc H' l rows:=by obtain⟨a,b,c,d⟩:=h;exact⟨a,s _ _ b,c,λq e=>s _ _ (d q e)⟩
theorem RgC.four (n:Nat) (c:n<=4000):RgC 0 (n:Int) 4 ((n+3) / 4):=by
 have e:G5 0 (n:Int) 4=(((n+3) / 4:Nat):Int):=by unfold G5;simp only[show(4:Int) > 0 by decide,if_true];split <;> omega
 refine⟨by decide,by decide,?_,e⟩;unfold abv;rw[e];have f:∀i:Int,-5000<=i->i<=5000->abw i=true:=λi a b=>by unfold abw;rw[dY,cH,cH];omega
 rw[f 0 (by omega) (by omega),f n (by omega) (by omega),f 4 (by omega) (by omega),f (((n+3) / 4:Nat):Int) (by omega) (by omega),aB (by decide),f ((n:Int)+(4-1)) (by omega) (by omega),Bool.or_true];rfl
theorem afO (l:List Int) (a b:Nat):yK (l.map V.int) (some (a:Int)) (some (b:Int))=(((l.drop a).take (b-a)).map V.int):=by
 unfold yK;rw[HT.acy,HT.acy,aJ,Pr,List.map_drop];by_cases h:a<=l.length
 .rw[aaz h];by_cases c:b<=l.length;.rw[aaz c]
  .rw[aaA (by omega)];rw[qj (by rw[rB,aJ];omega),qj (by rw[rB,aJ];omega)]
 .rw[aaA (show l.length<=a by omega),aaV (by rw[aJ];omega),aaV (by rw[aJ];omega)];simp
inductive X8 (K:aW) (vs:List V) (H:Hp) (Q:VK) (E:XK):Prop
 | mk nx l:vs=[.ref nx]->SqL K H nx (l.map V.int)->l.length<=2100->(∀d H',Same H H'->H d=none->jc H' d (cW l)->Q (.ref d) H')->X8 K vs H Q E
theorem aqk (F:Fun K "cut_rows" "cut_rows" T6 f fd) (p:Cs K mg):aY P w K mg base CX0 1 f fd JF (X8 K):=by
 refine F.ok T7 (by walk_at "l") (λ_ A _ s H X Q E W S=> ?_);obtain⟨nx,l,e,L,U,q⟩:=S;subst e;refine'⟨_,(aD (aK (lE (own:=[("start",1)]) rfl T7.nd (ac3 rfl p.range (ao aM (ao (cB fK rfl p.len dF (ao (pv 0) aA)) (ao (aN p.WM) aA)))) (lF rfl) ?g1 ?t1 ?e1))),?_⟩
 case g1=>exact λ_ _ _ _ _=>cQ (i:=1) T7.nd
 case t1=>exact λ_ _ _ _ _=>um
 case e1=>exact λ_ _ _ _ _=>(Hz (aqb K) (pv 0) (yJ (pv 1)) (yJ (jD ab5 (pv 1) (aN p.WM))))
 refine bL (nH ((aq p_c (aq (f9 (aq (aj rfl) aG) L) (aq p_c aG))) _ ⟨0,_,4,mK l,rfl,?_,λd C=> ?_⟩));.rw[aJ];exact RgC.four l.length (by omega)
 refine⟨λi m n=>m=mK l-i/\i<=mK l/\Same H n/\∃a:List (Addr×List Int),n d=some (.lst (a.map λq=>V.ref q.1))/\a.map (·.2)=(cW l).take i/\(∀q∈a,n q.1=some (.lst (q.2.map V.int)))/\∀q∈a,q.1≠d,⟨mK l,rfl,fU _,Same.upd C,[],aH,rfl,(λq j=>by cases j),λq j=>by cases j⟩,?_⟩;rintro i m n ⟨rfl,R,v,a,e1,t,x,I⟩;have J:(cW l).length=mK l:=by unfold cW;rw[aJ,aaW]
 have G:a.length=i:=by rw[<-aJ,t,fD];omega
 by_cases h:i < mK l
 .refine .inr ⟨h,λc=>Same H c/\∃a:List (Addr×List Int),c d=some (.lst (a.map λq=>V.ref q.1))/\a.map (·.2)=(cW l).take (i+1)/\(∀q∈a,c q.1=some (.lst (q.2.map V.int)))/\∀q∈a,q.1≠d,λc z=>⟨mK l- (i+1),by omega,rfl,h,z.1,z.2⟩,?_⟩;rintro y c ⟨rfl,rfl⟩;refine⟨L_ _ 1 _,?_⟩;refine(afj) _ ?_;rw[aB rfl];refine(aj rfl) _ ((aj rfl) _ ⟨_,rfl,(p_i (aj rfl) p_c) _ ⟨_,rfl,nx,_,rfl,v.seq L,λT g=>⟨_,(Same.upd g) _ _ e1,?_,?_⟩⟩⟩);.rw[aJ,G];exact gD (show i<=2100 by unfold mK at R;omega) (by decide)
  .have O:(0+(i:Int) * 4)=((4 * i:Nat):Int):=by omega
   have B:(0+(i:Int) * 4+4)=((4 * i+4:Nat):Int):=by omega
   rw[B,O,afO];have N:4 * i+4-4 * i=4:=by omega
   rw[N];have o:=aX e1 g;refine⟨λb u e=> ?_,a++[(T,rowAt l i)],?_,?_,(λq j=> ?_),λq j=> ?_⟩;.rw[aC (λz=>by rw[z]at e;rw[C]at e;cases e),aC (aX (v _ _ e) g)];exact v _ _ e
   .rw[aH,dw];rfl
   .rw[dw,t,j6];have:(cW l)[i]? =some (rowAt l i):=by unfold cW;rw[dM,List.getElem?_range h];rfl
    rw[this];rfl
   .rcases dO.mp j with z | z;.rw[aC (I q z),aC (aX (x q z) g)];exact x q z
    .rw[dX.mp z,aC o.symm,aH];rfl
   .rcases dO.mp j with z | z;.exact I q z
    .rw[dX.mp z];exact o.symm
 .have:i=mK l:=by omega
  subst this;rw[qj (by omega)]at t;exact .inl ⟨bW _,q d n v C ⟨a,e1,t,x⟩⟩
end
theorem PT0.cast (h:PT0 tt σ H b) (e:b=b'):PT0 tt σ H b':=e▸h
section
variable (gB:Df P w K mg base "is_key" qM 1 (spB isKey)) (pX:Df P w K mg base "is_rank" uz 1 (spB iy)) (sJ:Df P w K mg base "is_parent" wC 2 (spB jr))
inductive X_ (K:aW) (vs:List V) (H:Hp) (v:V):Prop
 | mk a row bb:vs=[.ref a]->SqL K H a (row.map V.int)->v= .bl bb->(bb=true↔iZ row)->X_ K vs H v
theorem aql (a b c d:Int):iZ [a,b,c,d]↔jJ a b c d:=by
 constructor;.rintro⟨l,m,n,o,e,h⟩;injection e with f e;injection e with g e;injection e with i e;injection e with j e;rw[f,g,i,j];exact h
 .exact λh=>⟨a,b,c,d,rfl,h⟩
theorem aqm (h:row.length=4):∃a b c d,row=[a,b,c,d]:=by
 match row,h with
 | [a,b,c,d],_=>exact⟨a,b,c,d,rfl⟩
theorem vb2 {Q:VK} {H:Hp} {b:Bool} {p:Prop} {a:Bool} (q:Q (.bl b) H) (h:b=true↔p) (c:a=true↔p):Q (.bl a) H:=by
 have:a=b:=by
  cases b <;> cases a;.rfl
  .exact absurd (h.mpr (c.mp rfl)) (by decide)
  .exact absurd (c.mpr (h.mp rfl)) (by decide)
  .rfl
 rw[this];exact q
include gB pX sJ in
theorem aqn (F:Fun K "is_change" "is_change" T8 f fd) (m:Cs K mg):aY P w K mg base CX0 3 f fd JG (spP (X_ K)):=by
 refine F.ok amr (by walk_at "l") (λ_ A _ s H S Q E u N=> ?_);obtain⟨v,⟨a,G,R,e,h,L,o⟩,q⟩:=N;subst e;subst L;refine⟨_,(aF (aR (PW.pt (gW (bF jE (cB fK rfl m.len dF (ao (pv 0) aA)) (aN m.WM)) (jm (cN (bV (aL gB u (ao (bB bH (pv 0) aM (λ_ _=>rfl)) aA))))))) (aD (aK fO)) aV)
   (aF (aR (bF bU (bB bH (pv 0) aM (λ_ _=>rfl)) (aN m.Ml)) (aD (aK (oH (aL pX u (ao (bB bH (pv 0) aM (λ_ _=>rfl)) aA)) (mz (aL sJ u (ao (bB bH (pv 0) aM (λ_ _=>rfl)) aA)))))) aV)
   (aF (aR (bF bU (bB bH (pv 0) aM (λ_ _=>rfl)) (aN m.WK)) (aD (aK (oH (aL gB u (ao (bB bH (pv 0) aM (λ_ _=>rfl)) aA)) (mz (gY bU (bB bH (pv 0) aM (λ_ _=>rfl)) aM))))) aV)
   (aD (aK (oH (Cd (gY bU (bB bH (pv 0) aM (λ_ _=>rfl)) (aN m.Eo)) (mz (gY bU (bB bH (pv 0) aM (λ_ _=>rfl)) (aN m.WL)))) (oH (gY bU (bB bH (pv 0) aM (λ_ _=>rfl)) aM) (mz (gY bU (bB bH (pv 0) aM (λ_ _=>rfl)) aM))))))))),?_⟩
 rcases BR (¬G.length=4)with p | p;.refine bD (b:=true) (nJ (b:=true) (c:=false) (PT0.cast (bM (gn (f9 (K:=K) (aq (aj rfl) aG) h) p_c)) (by rw[aJ,cY (by omega)];rfl)) (λz=>by cases z)) (λ_=> ?_) (λz=>by cases z);exact aU p_c (vb2 q o (by simp;rintro⟨k,b,c,d,rfl,_⟩;exact p rfl))
 have p:=BP.mp p;obtain⟨k,b,c,d,rfl⟩:=aqm p;rw[aql]at o;have y:∀{j:Nat} {n:Int},([k,b,c,d]:List Int)[j]? =some n->PE0 (tOp (jG K) (bA 0) (tC (.int j))) (start aeA [V.ref a]) H (.int n):=λ{j n} e=>gC (aj rfl) p_c h (at_of (j:=j) rfl (by rw[dM,e];rfl));have x:=y (j:=0) (n:=k) rfl;have O:=y (j:=1) (n:=b) rfl;have B:=y (j:=2) (n:=c) rfl;have C:=y (j:=3) (n:=d) rfl;refine bD (nJ (b:=false) (PT0.cast (bM (gn (f9 (K:=K) (aq (aj rfl) aG) h) p_c)) rfl) λ_=>gM (p_b (mQ (aq O aG)))) (λt=> ?_) λt=> ?_;.rw[Bq]at t;exact aU p_c (vb2 q o (by simp;exact λz=>absurd z.1 (n1t.mp t)))
 rw[Bq]at t;have g:=n1f.mp t;refine bD (bM (p_eq x p_c)) (λi=> ?_) λi=> ?_;.refine aU (o9 (mQ (aq B aG)) λ_=>mQ (aq C aG)) (vb2 q o ?_);have i:=dz i;subst i;rw[dY,cH,cH];unfold jJ;simp[g]
 have i:=iw i;refine bD (bM (p_eq x p_c)) (λl=> ?_) λl=> ?_;.refine aU (o9 (mQ (aq B aG)) λ_=>p_eq C p_c) (vb2 q o ?_);have l:=dz l;subst l;rw[dY,cH,cH];unfold jJ;simp[g]
 have l:=iw l;refine aU (o9 (Mp (p_eq x p_c) λ_=>p_eq x p_c) λ_=>o9 (p_eq B p_c) λ_=>p_eq C p_c) (vb2 q o ?_);rw[dY,m6,dY,cH,cH,cH,cH];unfold jJ;constructor
 .rintro⟨I | I,J⟩;.exact⟨g,.inr (.inl ⟨I,J⟩)⟩
  .exact⟨g,.inr (.inr (.inr ⟨I,J⟩))⟩
 .rintro⟨_,z | z | z | z⟩;.exact absurd z.1 i
  .exact⟨.inl z.1,z.2⟩
  .exact absurd z.1 l
  .exact⟨.inr z.1,z.2⟩
inductive M4 (K:aW) (vs:List V) (H:Hp) (v:V):Prop
 | mk a row:vs=[.ref a]->SqL K H a (row.map V.int)->iZ row->v= .bl (ig row)->M4 K vs H v
theorem aqo (F:Fun K "is_of_group" "is_of_group" T9 f fd) (i:Cs K mg):aY P w K mg base CX0 1 f fd JH (spP (M4 K)):=by refine F.ok ams (by walk_at "l") (λ_ A _ s H t Q E p n=> ?_);obtain⟨v,⟨a,o,e,h,g,m⟩,q⟩:=n;subst e;subst m;refine⟨_,(aD (aK (Cd (gY bU (bB bH (pv 0) aM (λ_ _=>rfl)) (aN i.Ml)) (mz (gY bU (bB bH (pv 0) aM (λ_ _=>rfl)) (aN i.Eo)))))),?_⟩;obtain⟨k,b,c,d,rfl,_⟩:=g;have l:PE0 (tOp (jG K) (bA 0) (tC (.int 0))) (start aeB [V.ref a]) H (.int k):=gC (aj rfl) p_c h (at_of (j:=0) rfl rfl);exact aU (Mp (p_eq l p_c) λ_=>p_eq l p_c) q
end
def rowOf (H:Hp):V->List Int
 | .ref a=>(match H a with | some (.lst b)=>b.map (λv=>match v with | V.int n=>n | _=>0) | _=>[])
 | _=>[]
theorem Fl (h:H a=some (.lst (row.map V.int))):rowOf H (.ref a)=row:=by show(match H a with | some (.lst b)=>b.map (λv=>match v with | V.int n=>n | _=>0) | _=>[])=row;rw[h];show(row.map V.int).map _=row;rw[bC];exact O7 row
section
variable {K:aW} {H:Hp} {σ:L2.St}
theorem afP (φ:List Int->Bool) (E:j < σ.length) (C:PE0 te σ H (.ref l)) (h:jc H l rows) (t:∀r∈rows,iZ r) (F:rows.length<=4000)
  (G:∀(a:Addr) (row:List Int) (i:Hp),row∈rows->i a=some (.lst (row.map V.int))->PT0 tt ((wipe σ [j]).set j (some (.ref a))) i (φ row))
  (q:∀D,H D=none->Q (.ref D) (upd H D (.lst (((rows.filter φ).map λr=>r.getD 1 0).map V.int)))):tLc (vJ K te) (jC j) tt (tOp (jG K) (bA j) (tC (.int 1))) [j] σ H Q:=by
 obtain⟨e,A,s,m⟩:=h;refine nH (Mi (C _ ⟨l,rfl,⟨_,SqL.of A⟩,λD B=> ?_⟩));have w:e.length=rows.length:=by rw[<-s,aJ]
 have mem:=λq u=>s▸aQ.mpr ⟨q,u,rfl⟩;refine oM (λy=>φ (rowOf H y)) (λy=> .int ((rowOf H y).getD 1 0)) B (by rw[aJ,w];exact gD F (by decide)) (Ma (SqL.of A)) (λy v i x z q=> ?_) (λy v _ i x z q=> ?_) ?_;.obtain⟨g,f,rfl⟩:=aQ.mp v;rw[Fl (m g f)]at q;exact G g.1 g.2 i (mem g f) (x _ _ (m g f)) z q
 .obtain⟨g,f,rfl⟩:=aQ.mp v;rw[Fl (m g f)]at q;obtain⟨a,b,c,d,o,_⟩:=t _ (mem g f);have n:=x _ _ (m g f);rw[o]at n q;exact(gC (aj (by show((σ.set j none).set j _)[j]? =_;rw[qp,xV E])) p_c (SqL.of n) (at_of rfl rfl)) _ q
 .have:∀(e:List (Addr×List Int)),(∀q∈e,H q.1=some (.lst (q.2.map V.int)))->((e.map λq=>V.ref q.1).filter (λy=>φ (rowOf H y))).map (λy=>V.int ((rowOf H y).getD 1 0))=(((e.map (·.2)).filter φ).map λr=>r.getD 1 0).map V.int:=by
   intro e
   induction e with
   | nil=>intro _;rfl
   | cons g e p=>
    intro n;have p:=p λq u=>n q (cO _ u);have o:=Fl (n g cU);rw[bT,bT,pG,pG,o];split;.rw[bT,bT,bT,p,o]
    .exact p
  rw[this e m,s];exact q D B
end
section
def M5 (a:List (List Int)):Prop:=(∀r∈a,iZ r)/\((a.filter ig).map λr=>r.getD 1 0).Nodup/\((a.filter λr=> !ig r).map λr=>r.getD 1 0).Nodup
inductive Yb (K:aW) (vs:List V) (H:Hp) (v:V):Prop
 | mk d rs bb:vs=[.ref d]->jc H d rs->rs.length<=2100->v= .bl bb->(bb=true↔M5 rs)->Yb K vs H v
theorem aqp (F:Fun K "are_changes" "are_changes" T_ f fd) (cs:Cs K mg) (T:Df P w K mg base "is_change" JG 3 (spP (X_ K))) (J:Df P w K mg base "is_of_group" JH 1 (spP (M4 K))) (Fi:Df P w K mg base "has_twice" zx 1 (Eh K)):aY P w K mg base CX0 4 f fd JK (gU (Yb K)):=by
 refine F.ok zE (by walk_at "l") (λ_ A _ s H vs Q E t hz=> ?_);obtain⟨v,⟨d,u,bb,e,h,hl,e',hb⟩,q⟩:=hz;subst e;subst e';refine'⟨_,(aF (d7 dG rfl (eV (pv 0)) (cQ (i:=1) zE.nd) (aD (aR (cN (bV (aL T t (ao (pv 1) aA)))) (aD (aK fO)) aV)))
   (aF (aR (bV (aL Fi t (ao (lE (own:=[("row",1)]) rfl zE.nd (eV (pv 0)) (lF rfl) ?g2 ?t2 ?e2) aA))) (aD (aK fO)) aV)
   (aD (aK (QG (aL Fi t (ao (lE (own:=[("row",1)]) rfl zE.nd (eV (pv 0)) (lF rfl) ?g1 ?t1 ?e1) aA))))))),?_⟩
 case g1=>exact λ_ _ _ _ _=>cQ (i:=1) zE.nd
 case t1=>exact λ_ _ _ _ _=>vP (cN (bV (aL J t (ao (pv 1) aA))))
 case e1=>exact λ_ _ _ _ _=>(bB (afL K) (pv 1) aM (λ_ _=>rfl))
 case g2=>exact λ_ _ _ _ _=>cQ (i:=1) zE.nd
 case t2=>exact λ_ _ _ _ _=>vP (bV (aL J t (ao (pv 1) aA)))
 case e2=>exact λ_ _ _ _ _=>(bB (afL K) (pv 1) aM (λ_ _=>rfl))
 have qf:∀{j},Same H j->¬M5 u->Q (.bl false) j:=λs n=>by rw[(uK hb).2 n]at q;exact q _ s
 obtain⟨x,e1,e2,U⟩:=id h;have mem:∀q∈x,q.2∈u:=λq hq=>e2▸aQ.mpr ⟨q,hq,rfl⟩;refine aZ (Mq (xs:=x.map λq=>V.ref q.1) (λy=>∃q∈x,y= .ref q.1/\iZ q.2) (aj rfl) (SqL.of e1) ⟨none,rfl⟩ (λy hy N g=> ?_) λv O=> ?_)
 .obtain⟨o,c,rfl⟩:=aQ.mp hy;obtain⟨b0,B⟩:=exb (iZ o.2);refine gO (gM (p_b (jw (aq (aj rfl) aG) ⟨o.1,o.2,b0,rfl,SqL.of (U o c),rfl,B⟩))) (λz=> ?_) λz=> ?_;.exact aU p_c (qf Same.eO λy=>by rw[B.mpr (y.1 _ (mem o c))]at z;cases z)
  .exact g ⟨o,c,rfl,B.mp (by cases b0;cases z;rfl)⟩
 have p:∀r∈u,iZ r:=by
  intro r t;rw[<-e2]at t;obtain⟨o,c,rfl⟩:=aQ.mp t;obtain⟨q1,Z,W,hi⟩:=O _ (aQ.mpr ⟨o,c,rfl⟩);injection W with W;have I:=U o c;have a2:=U q1 Z;rw[W,a2]at I;injection I with I;injection I with I;have:o.2=q1.2:=by
   have inj:∀{l m:List Int},l.map V.int=m.map V.int->l=m:=λ{l m} z=>by have:=congrArg (aaX λv=>match v with | V.int n=>n | _=>0) z;rw[bC,bC]at this;have i1:∀l:List Int,l.map ((λv=>match v with | V.int n=>n | _=>0)∘V.int)=l:=λl=>O7 l;rw[i1,i1]at this;exact this
   exact inj I.symm
  rw[this];exact hi
 dsimp only;have S:∀a b j σ,b∈u->j a=some (.lst (b.map V.int))->σ[1]? =some (some (.ref a))->PE0 (lD (spP (M4 K)) [] E0 (gw (bA 1) fW)) σ j (.bl (ig b)):=λa b j σ R L hs=>jw (aq (aj hs) aG) ⟨a,b,rfl,SqL.of L,p b R,rfl⟩;have lf:∀φ:List Int->Bool,((u.filter φ).map λr=>r.getD 1 0).length<=4000:=λφ=>by rw[aJ];exact cI (fG _ _) (by omega)
 refine aZ (pU (r_b (bx (dj (afP ig (by show 1 < 2;decide) (aj rfl) h p (by omega) (λa b j R L=>p_b (S a b j _ R L rfl)) λd1 X=>⟨d1,_,rfl,SqL.of aH,lf _,λH2 s2=>⟨_,rfl,?_⟩⟩)))));have G:=(Same.upd X:Same H (upd H d1 (.lst (((u.filter ig).map λr=>r.getD 1 0).map V.int)))).trans s2;rcases BR (¬((u.filter ig).map λr=>r.getD 1 0).Nodup)with C | C;.rw[aB (by rw[cY C];rfl)];exact aU p_c (qf G λz=>C z.2.1)
 have C:=BP.mp C;rw[au (by rw[cF C];decide)];dsimp only;refine bL (aod (bx (dj (afP (λr=> !ig r) (by show 1 < 2;decide) (aj rfl) (h.same G) p (by omega) (λa b j R L=>gM (p_b (S a b j _ R L rfl))) λd2 Y=>⟨d2,_,rfl,SqL.of aH,lf _,λH3 s3=>⟨_,rfl,?_⟩⟩))));have s03:=G.trans ((Same.upd Y:Same H2 (upd H2 d2 (.lst (((u.filter λr=> !ig r).map λr=>r.getD 1 0).map V.int)))).trans s3);refine vb2 (q _ s03) hb ?_;rw[aa5,cH];exact⟨λz=>⟨p,C,z⟩,λz=>z.2.2⟩
def afR (T:cG) (a:List (List Int)):Prop:=∀r∈a,(r.getD 0 0=2->(ak T.R (r.getD 1 0)).isSome=true)/\(r.getD 0 0=4->(ak T.X (r.getD 1 0)).isSome=true)
inductive Yc (C:Addr) (vs:List V) (H:Hp) (v:V):Prop
 | mk a r p x d T rs bb:vs=[.ref a,.ref d]->TRd C H a r p x T->jc H d rs->(∀r∈rs,iZ r)->v= .bl bb->(bb=true↔afR T rs)->Yc C vs H v
theorem aqr (F:Fun K "are_dropped_there" "are_dropped_there" Ua f fd) (c:cA K mg C) (Z:Cs K mg):aY P w K mg base CX0 1 f fd JL (spP (Yc C)):=by
 refine F.ok aeC (by walk_at "l") (λ_ A _ s H vs Q E L hz=> ?_);obtain⟨v,⟨a,r,p,x,d,T,rs,bb,e,ht,h,Y,e',hb⟩,q⟩:=hz;subst e;subst e';refine⟨_,(aF (d7 dG rfl (eV (pv 1)) (cQ (i:=2) aeC.nd) (aF (aR (PW.pt (pO (bF bU (bB bH (pv 2) aM (λ_ _=>rfl)) (aN Z.Eo)) (pN (gA (g8 (bw L) (bB bH (pv 2) aM (λ_ _=>rfl)) (aO (pv 0) rfl)))))) (aD (aK fO)) aV)
   (aD (aR (PW.pt (pO (bF bU (bB bH (pv 2) aM (λ_ _=>rfl)) (aN Z.WL)) (pN (gA (g8 (bw L) (bB bH (pv 2) aM (λ_ _=>rfl)) (aO (pv 0) rfl)))))) (aD (aK fO)) aV))))
   (aD (aK fO))),?_⟩
 have qf:=λn=>by rw[(uK hb).2 n]at q;exact q
 obtain⟨G,e1,e2,U⟩:=id h;have mem:=λq hq=>e2▸aQ.mpr ⟨q,hq,rfl⟩;refine aZ (Mq (λy=>∀q∈G,y= .ref q.1->(q.2.getD 0 0=2->(ak T.R (q.2.getD 1 0)).isSome=true)/\(q.2.getD 0 0=4->(ak T.X (q.2.getD 1 0)).isSome=true)) (aj rfl) (SqL.of e1) ⟨none,rfl⟩ (λy hy N g=> ?_) λv J=> ?_)
 .obtain⟨m,l,rfl⟩:=aQ.mp hy;obtain⟨k,b,c0,d0,W,_⟩:=Y _ (mem m l);have I:=U m l;rw[W]at I;have i0:PE0 (tOp (jG K) (bA 2) (tC (.int 0))) (eZ (start Ub [V.ref a,V.ref d]) 2 (some (.ref m.1))) H (.int k):=gC (aj rfl) p_c (SqL.of I) (at_of (j:=0) rfl rfl);have i1:PE0 (tOp (jG K) (bA 2) (tC (.int 1))) (eZ (start Ub [V.ref a,V.ref d]) 2 (some (.ref m.1))) H (.int b):=gC (aj rfl) p_c (SqL.of I) (at_of (j:=1) rfl rfl);have same:∀q∈G,V.ref m.1= .ref q.1->q.2=[k,b,c0,d0]:=λS o t=>by injection t with t;have B:=U S o;rw[<-t,I]at B;injection B with B;injection B with B;have:=Fl (U S o);rw[<-t,Fl I]at this;exact this.symm
  refine bD (uI (bM (p_eq i0 p_c)) λ_=>p_b (wO rfl ht c i1)) (λz=> ?_) λz=> ?_;.rw[dY,cH]at z;refine aU p_c (qf λy=> ?_);have:=(y _ (mem m l)).1;rw[W]at this;have:=this z.1;have O:=z.2;rw[show(ak T.R b).isSome=true from this]at O;cases O
  refine gO (uI (bM (p_eq i0 p_c)) λ_=>p_b (wQ rfl ht c i1)) (λu=> ?_) λu=> ?_;.rw[dY,cH]at u;refine aU p_c (qf λy=> ?_);have:=(y _ (mem m l)).2;rw[W]at this;have:=this u.1;have O:=u.2;rw[show(ak T.X b).isSome=true from this]at O;cases O
  refine g λS o t=> ?_;rw[same S o t];refine⟨λy=> ?_,λy=> ?_⟩;.have y:k=2:=y;rw[cF y,rC]at z;simpa using z
  .have y:k=4:=y;rw[cF y,rC]at u;simpa using u
 .dsimp only;refine aU p_c ?_;have:bb=true:=hb.mpr λr L=>by rw[<-e2]at L;obtain⟨m,l,rfl⟩:=aQ.mp L;exact J _ (aQ.mpr ⟨m,l,rfl⟩) m l rfl
  rw[this]at q;exact q
end
theorem aqs (T:cG) (c:G7):(pdo T c).R.length<=T.R.length+1/\(pdo T c).P.length<=T.P.length+1/\(pdo T c).X.length<=T.X.length+1:=by
 have dl:∀(d:D) k,(dU d k).length<=d.length:=λd k=>fG _ _;cases c with
 | group k r p=>exact⟨zT _ _ _,zT _ _ _,qe _⟩
 | gone k=>exact⟨Ox (dl _ _),Ox (dl _ _),qe _⟩
 | home x g=>exact⟨qe _,qe _,zT _ _ _⟩
 | out x=>exact⟨qe _,qe _,Ox (dl _ _)⟩
theorem afS:∀(a:List G7) (T:cG),(a.foldl pdo T).R.length<=T.R.length+a.length/\(a.foldl pdo T).P.length<=T.P.length+a.length/\(a.foldl pdo T).X.length<=T.X.length+a.length
 | [],T=>⟨bW _,bW _,bW _⟩
 | c::a,T=>by obtain⟨b,d,e⟩:=afS a (pdo T c);obtain⟨f,g,h⟩:=aqs T c;rw[u9,bR];exact⟨by omega,by omega,by omega⟩
section
inductive Yd (K:aW) (C:Addr) (vs:List V) (H:Hp) (Q:VK) (E:XK):Prop
 | mk a r p x ra T row:vs=[.ref a,.ref ra]->bQ C H a r p x T->T.R.length < 100000->T.P.length < 100000->T.X.length < 100000->SqL K H ra (row.map V.int)->iZ row->(row.getD 0 0=2->(ak T.R (row.getD 1 0)).isSome=true/\(ak T.P (row.getD 1 0)).isSome=true)->(row.getD 0 0=4->(ak T.X (row.getD 1 0)).isSome=true)->(∀H',bQ C H' a r p x (pdo T (fL row))->bG r p x H H'->Q .non H')->Yd K C vs H Q E
theorem aqt (F:Fun K "do_change" "do_change" Uc f fd) (c:cA K mg C) (G:Cs K mg) (nQ:Df P w K mg base "set_group" qN 1 (sE C)) (uL:Df P w K mg base "drop_group" wH 1 (zP C)):aY P w K mg base CX0 2 f fd JM (Yd K C):=by
 refine F.ok amu (by walk_at "l") (λ_ A _ s H vs Q E L hz=> ?_);obtain⟨a,r,p,x,ra,T,row,e,h,l1,l2,l3,Z,o,O,W,q⟩:=hz;subst e;refine⟨_,(aD (aR (bF bU (bB bH (pv 1) aM (λ_ _=>rfl)) (aN G.Ml)) (aD (eE (aL nQ L (ao (pv 0) (ao (bB bH (pv 1) aM (λ_ _=>rfl)) (ao (bB bH (pv 1) aM (λ_ _=>rfl)) (ao (bB bH (pv 1) aM (λ_ _=>rfl)) aA))))))) (aD (aR (bF bU (bB bH (pv 1) aM (λ_ _=>rfl)) (aN G.Eo)) (aD (eE (aL uL L (ao (pv 0) (ao (bB bH (pv 1) aM (λ_ _=>rfl)) aA))))) (aD (aR (bF bU (bB bH (pv 1) aM (λ_ _=>rfl)) (aN G.WK)) (aD (jQ (bw L) (aO (pv 0) rfl) (bB bH (pv 1) aM (λ_ _=>rfl)) (bB bH (pv 1) aM (λ_ _=>rfl)) rfl)) (aD (eE (Ie (aO (pv 0) rfl) (bB bH (pv 1) aM (λ_ _=>rfl)) ⟨rfl,rfl,rfl,rfl⟩))))))))),?_⟩;obtain⟨k,b,g,d,rfl,Y,J⟩:=o;have B:∀{j:Nat} {n:Int},([k,b,g,d]:List Int)[j]? =some n->PE0 (tOp (jG K) (bA 1) (tC (.int j))) (start aeD [V.ref a,V.ref ra]) H (.int n):=λ{j n} e=>gC (aj rfl) p_c Z (at_of (j:=j) rfl (by rw[dM,e];rfl));have N:=B (j:=0) (n:=k) rfl;have y:=B (j:=1) (n:=b) rfl;have S:=B (j:=2) (n:=g) rfl;have i3:=B (j:=3) (n:=d) rfl;have t:=toN Y.nn;refine gO (bM (p_eq N p_c)) (λi=> ?_) λi=> ?_
 .have i:=dz i;subst i;have u:iy g/\jr d:=by
   rcases J with z | z | z | z;.exact z.2
   .exact absurd z.1 (by decide)
   .exact absurd z.1 (by decide)
   .exact absurd z.1 (by decide)
  have I:=toN u.1.nn;have U:=toN u.2.nn;refine oZ (bx ((aq (aj rfl) (aq y (aq S (aq i3 aG)))) _ ⟨a,r,p,x,T,b,g,d,rfl,h,l1,l2,?_⟩));refine q _ ?_ ((bG.uR _).trans (bG.uP _));show bQ C _ a r p x ⟨dput T.R (b.toNat:Nat) (g.toNat:Nat),dput T.P (b.toNat:Nat) (d.toNat:Nat),T.X⟩;rw[t,I,U];exact(h.wR _).wP _
 have i:=iw i;refine gO (bM (p_eq N p_c)) (λl=> ?_) λl=> ?_;.have l:=dz l;subst l;refine oZ (bx ((aq (aj rfl) (aq y aG)) _ ⟨a,r,p,x,T,b,rfl,h,(O rfl).1,(O rfl).2,?_⟩));refine q _ ?_ ((bG.uR _).trans (bG.uP _));show bQ C _ a r p x ⟨dU T.R (b.toNat:Nat),dU T.P (b.toNat:Nat),T.X⟩;rw[t];exact(h.wR _).wP _
 have l:=iw l;refine gO (bM (p_eq N p_c)) (λm=> ?_) λm=> ?_
 .have m:=dz m;subst m;have u:isKey g:=by
   rcases J with z | z | z | z;.exact absurd z.1 (by decide)
   .exact absurd z.1 (by decide)
   .exact z.2.1
   .exact absurd z.1 (by decide)
  have I:=toN u.nn;refine uJ S (p_X rfl h.rd c) y h.hx l3 (q _ ?_ (bG.uX _));show bQ C _ a r p x ⟨T.R,T.P,dput T.X (b.toNat:Nat) (g.toNat:Nat)⟩;rw[t,I];exact h.wX _
 have m:=iw m;have z4:k=4:=by
  rcases J with z | z | z | z;.exact absurd z.1 i
  .exact absurd z.1 l
  .exact absurd z.1 m
  .exact z.1
 subst z4;obtain⟨v,hv⟩:=gj.mp (W rfl);refine afl (p_X rfl h.rd c) y h.hx hv (q _ ?_ (bG.uX _));show bQ C _ a r p x ⟨T.R,T.P,dU T.X (b.toNat:Nat)⟩;rw[t];exact h.wX _
def M6 (T:cG):Prop:=(∀k p,ak T.P k=some p->p=0\/(ak T.R p).isSome=true)/\∀x h,ak T.X x=some h->(ak T.R h).isSome=true
inductive Ye (C:Addr) (vs:List V) (H:Hp) (v:V):Prop
 | mk a r p x T bb:vs=[.ref a]->bQ C H a r p x T->ND T.P->ND T.X->v= .bl bb->(bb=true↔M6 T)->Ye C vs H v
theorem aqu (F:Fun K "are_all_groups_there" "are_all_groups_there" Ud f fd) (c:cA K mg C):aY P w K mg base CX0 1 f fd JN (spP (Ye C)):=by
 refine F.ok Ue (by walk_at "l") (λ_ A _ s H vs Q E J hz=> ?_);obtain⟨v,⟨a,r,p,x,T,bb,e,h,W,Y,e',S⟩,q⟩:=hz;subst e;subst e';refine⟨_,(aF (vW (d7 dG rfl (mG (aO (pv 0) rfl)) (cQ (i:=1) Ue.nd) (aD (aR (PW.pt (pO (bF jE (cu (aO (pv 0) rfl) (pv 1) (bw J)) aM) (pN (gA (g8 (bw J) (cu (aO (pv 0) rfl) (pv 1) (bw J)) (aO (pv 0) rfl)))))) (aD (aK fO)) aV))))
   (aF (vW (d7 dG rfl (mG (aO (pv 0) rfl)) (cQ (i:=2) Ue.nd) (aD (aR (gA (g8 (bw J) (cu (aO (pv 0) rfl) (pv 2) (bw J)) (aO (pv 0) rfl))) (aD (aK fO)) aV))))
   (aD (aK fO)))),?_⟩
 have Z:=λn=>by rw[(uK S).2 n]at q;exact q
 refine aZ (W5 (λk=>∀d,ak T.P k=some d->d=0\/(ak T.R d).isSome=true) h.hp (λo=>p_P rfl (h.Wo o) c) ⟨none,rfl⟩ (λk u O o N L t m g=> ?_) λv B=> ?_)
 .have j:=(bY W).mp O;have G:=h.Wo o;have U:PE0 (gZ (dZ K (bA 0) "parents") (bA 1)) (eZ (start aeE [V.ref a]) 1 (some (.int k))) (upd H p (.frz o (.dK (dI T.P)))) (.int u):=o8 rfl G c (aj rfl) j;refine gO (uI (bM (gn U p_c)) λ_=>p_b (wO rfl G c U)) (λz=> ?_) λz=> ?_;.refine aU p_c ?_;rw[t];refine⟨aH,?_⟩;rw[zN h.hp];refine Z λy=> ?_;rw[dY,n1t]at z;have:=(y.1 k u j).resolve_left z.1;have z2:=z.2;rw[this]at z2;cases z2
  .show L.nx _ _;rw[m];refine g λd b=> ?_;rw[j]at b;injection b with b;rw[<-b];by_cases y:u=0;.exact .inl y
   .rw[cY y]at z;exact .inr (by simpa using z)
 refine aZ (W5 (λk=>∀I,ak T.X k=some I->(ak T.R I).isSome=true) h.hx (λo=>p_X rfl (h.Wq o) c) ⟨none,rfl⟩ (λk u O o N L t m g=> ?_) λv2 l=> ?_)
 .have j:=(bY Y).mp O;have G:=h.Wq o;refine gO (p_b (wO rfl G c (sG rfl G c (aj rfl) j))) (λz=> ?_) λz=> ?_;.refine aU p_c ?_;rw[t];refine⟨aH,?_⟩;rw[zN h.hx];refine Z λy=> ?_;have:=y.2 k u j;rw[this]at z;cases z
  .show L.nx _ _;rw[m];refine g λd b=> ?_;rw[j]at b;injection b with b;rw[<-b];simpa using z
 .dsimp only;refine aU p_c ?_;have:=S.mpr ⟨λk d e=>B k d ((bY W).mpr e) d e,λk I e=>l k I ((bY Y).mpr e) I e⟩;rw[this]at q;exact q
inductive Yg (K:aW) (C:Addr) (vs:List V) (H:Hp) (Q:VK) (E:XK):Prop
 | mk a r p x nx T t s l:vs=[.ref a,.ref nx]->TAt C H a r p x T t->SqL K H nx (l.map V.int)->l.length<=2100->EdQ C a r p x (jB s t (.apply l)) H Q->Yg K C vs H Q E
theorem aqv (F:Fun K "apply_rows" "apply_rows" Ug f fd) (c:cA K mg C) (cs:Cs K mg) (aqw:Df P w K mg base "cut_rows" JF 1 (X8 K)) (aqx:Df P w K mg base "are_changes" JK 4 (gU (Yb K))) (aqy:Df P w K mg base "are_dropped_there" JL 1 (spP (Yc C)))
  (Yh:Df P w K mg base "copy_tree" Dt 3 (Mg C)) (aqz:Df P w K mg base "do_change" JM 2 (Yd K C)) (aqA:Df P w K mg base "are_all_groups_there" JN 1 (spP (Ye C))) (XS:Df P w K mg base "are_ranks_right" Dv 2 (spP (Mw C))) (X3:Df P w K mg base "is_too_big" Dy 1 (spP (Mv C)))
  (uO:Df P w K mg base "replace_tree" zy 2 (zO C)):aY P w K mg base CX0 5 f fd JQ (Yg K C):=by
 refine F.ok JR (by walk_at "l") (λ_ A _ s H vs Q E m hz=> ?_);obtain⟨a,r,p,x,nx,T,t,s,l,e,h,hs,hl,q⟩:=hz;subst e;refine⟨_,(aF (bO (i:=2) JR.nd (aL aqw m (ao (pv 1) aA)))
   (aF (aR (cN (bV (aL aqx m (ao (pv 2) aA)))) (aD (aK (aN cs.ju))) aV)
   (aF (aR (cN (bV (aL aqy m (ao (pv 0) (ao (pv 2) aA))))) (aD (aK (aN cs.kE))) aV)
   (aF (bO (i:=3) JR.nd (aL Yh m (ao (pv 0) aA)))
   (aF (d7 dG rfl (eV (pv 2)) (cQ (i:=4) JR.nd) (aD (eE (aL aqz m (ao (pv 3) (ao (pv 4) aA))))))
   (aF (aR (cN (bV (aL aqA m (ao (pv 3) aA)))) (aD (aK (aN cs.kE))) aV)
   (aF (aR (cN (bV (aL XS m (ao (pv 3) aA)))) (aD (aK (aN cs.wN))) aV)
   (aF (aR (bV (aL X3 m (ao (pv 3) aA))) (aD (aK (aN cs.FULL))) aV)
   (aD (aK (aL uO m (ao (pv 0) (ao (pv 3) aA))))))))))))),?_⟩
 refine aZ (d9 (bx ((aq (aj rfl) aG) _ ⟨nx,l,rfl,hs,hl,λd H1 s1 hd xJ=> ?_⟩)));have lrs:(cW l).length<=2100:=by unfold cW mK;rw[aJ,aaW];omega
 dsimp only;obtain⟨b1,S⟩:=exb (M5 (cW l));refine qR (sI (q_b (kJ (aq (aj rfl) aG) ⟨d,cW l,b1,rfl,xJ,lrs,rfl,S⟩))) (λH2 s2 z=> ?_) λH2 s2 z=> ?_
 .have hn:¬M5 (cW l):=λy=>by rw[S.mpr y]at z;cases z
  have:jB s t (.apply l)= .error (-1):=by
   rcases BR (∀r∈cW l,iZ r)with y | y;.rw[adT y,aB];rw[R3,iu,R4 y];exact λz=>hn ⟨y,z⟩
   .exact akK (jk λz=>y λr m=>jk λu=>z ⟨r,m,u⟩)
  rw[this]at q;exact aU p_c (q.1 _ rfl _ (Same.o4 (s1.trans s2)))
 obtain⟨j,hn1,hn2⟩:=S.mp (by cases b1;cases z;rfl);have afT:=(R4 j).mpr ⟨hn1,hn2⟩;rw[adT j,au (by rw[R3,cF afT];decide)]at q;have G:=s1.trans s2;have h2:=h.same G;obtain⟨b2,W⟩:=exb (afR T (cW l));have afU:=xJ.same s2;have afV:b2=true↔((cW l).map fL).all (Qk t)=true:=by rw[W,aaP,m5];refine forall_congr' λr=>forall_congr' λm=> ?_;show _↔Qk t (fL r)=true;rw[akJ h.wf (j r m),h.gr,h.gx]
 unfold Vbnlah.applied at q;dsimp only at q;refine bD (gM (p_b (jw (aq (aj rfl) (aq (aj rfl) aG)) ⟨a,r,p,x,d,T,cW l,b2,rfl,h2.own.rd,afU,j,rfl,W⟩))) (λz=> ?_) λz=> ?_
 .have:b2=false:=by cases b2;rfl;cases z
  rw[aB (by cases e:((cW l).map fL).all (Qk t);rfl;rw[afV.mpr e]at this;cases this)]at q;exact aU p_c (q.1 _ rfl _ (Same.o4 G))
 have afW:b2=true:=by cases b2;cases z;rfl
 have v:=W.mp afW;rw[au (by rw[afV.mp afW];decide)]at q;refine aZ (d9 (bx ((aq (aj rfl) aG) _ ⟨a,r,p,x,T,rfl,h2.own.rd,λo r1 p1 x1 H3 fr s3 Z=> ?_⟩)));have s13:=G.trans s3;have aqB:=afU.same s3;obtain⟨ars,e1,e2,e3⟩:=aqB;have lar:ars.length=(cW l).length:=by rw[<-e2,aJ]
 have f3:∀{I},bG r1 p1 x1 H3 I->Same H2 I:=λz c u e=>z c u (s3 _ _ e) (aX e fr.2.1) (aX e fr.2.2.1) (aX e fr.2.2.2);dsimp only;refine aZ (gQ ((aj rfl) _ ⟨d,rfl,?_⟩));refine jN (xs:=ars.map λq=>V.ref q.1) (λi I=>bQ C I o r1 p1 x1 ((((cW l).take i).map fL).foldl pdo T)/\bG r1 p1 x1 H3 I) ⟨Z,.refl⟩ (λi I hi=>SqL.of (wW hi.2 e1 Z.hr Z.hp Z.hx)) ⟨none,rfl⟩ ?_ ?_
 .rintro i y I hi ⟨g4,o4⟩ N nx';rw[dM]at hi;obtain⟨n,hq0,rfl⟩:=iT.mp hi;have O:(cW l)[i]? =some n.2:=by rw[<-e2,dM,hq0];rfl
  have hm:n.2∈cW l:=gq O;have hsq:SqL K I n.1 (n.2.map V.int):=SqL.of (wW o4 (e3 n (gq hq0)) Z.hr Z.hp Z.hx);obtain⟨l1,l2,l3⟩:=afS (((cW l).take i).map fL) T;have l4:(((cW l).take i).map fL).length<=2100:=by rw[aJ,fD];omega
  have a1:=h.lR;have a2:=h.lP;have a3:=h.lX;have ht:(cW l).take (i+1)=(cW l).take i++[n.2]:=by rw[j6,O];rfl
  have afX:rF (fL n.2)∉(((cW l).take i).map fL).map rF:=by
   have e5:(((cW l).take (i+1)).map fL).map rF=(((cW l).take i).map fL).map rF++[rF (fL n.2)]:=by rw[ht];simp
   have sub:((((cW l).take (i+1)).map fL).map rF).Nodup:=by have:=ah5 (aaD (i+1) (((cW l).map fL).map rF)) afT;rw[<-Pr,<-Pr]at this;exact this
   rw[e5,nZ]at sub;intro z;exact sub.2.2 _ z _ (dX.mpr rfl) rfl
  have keeps:=adP (((cW l).take i).map fL) T (n.2.getD 1 0).toNat;have hkk:=(Dk (j _ hm)).2;rw[toN hkk.nn]at keeps;have sb:=(Dk (j _ hm)).1;refine oZ (bx ((aq (aj rfl) (aq (aj rfl) aG)) _ ⟨o,r1,p1,x1,n.1,_,n.2,rfl,g4,by omega,by omega,by omega,hsq,j _ hm,λz=> ?_,λz=> ?_,λH5 L o5=>nx' _ ⟨?_,o4.trans o5⟩⟩))
  .have og:ig n.2=true:=by unfold ig;rw[z];rfl
   rw[aB og]at sb;have ni:((0:Nat),(n.2.getD 1 0).toNat)∉(((cW l).take i).map fL).map rF:=sb▸afX;rw[keeps.1 ni,keeps.2.1 ni];have hd:=(v _ hm).1 z;refine⟨hd,?_⟩;rw[h.gp,jR,<-h.gr];exact hd
  .have og:¬ig n.2=true:=by unfold ig;rw[z];decide
   rw[au og]at sb;have ni:((1:Nat),(n.2.getD 1 0).toNat)∉(((cW l).take i).map fL).map rF:=sb▸afX;rw[keeps.2.2 ni];exact(v _ hm).2 z
  .rw[ht,dw,Pj];exact L
 rintro v5 H5 ⟨L,o5⟩;rw[aJ,lar,fM]at L;obtain⟨g,b⟩:=adO ((cW l).map fL) h.wf.toSrt h.rel;generalize eU:((cW l).map fL).foldl pdo T=U at L b;generalize eu:((cW l).map fL).foldl Vbnlah.changed t=u at g b q;have s25:=f3 o5;have B:=G.trans s25;have cl:M6 U↔abG u=true:=by rw[adS g];unfold M6;simp only[b.gr g,b.gp g,b.gx g]
 obtain⟨b3,Y⟩:=exb (M6 U);dsimp only;refine bD (gM (p_b (jw (aq (aj rfl) aG) ⟨o,r1,p1,x1,U,b3,rfl,L,b.np g,b.nx g,rfl,Y⟩))) (λz=> ?_) λz=> ?_;.rw[aB (by cases e:abG u;rfl;rw[Y.mpr (cl.mpr e)]at z;cases z)]at q;exact aU p_c (q.1 _ rfl _ (Same.o4 B))
 have hcl:=Y.mp (by cases b3;cases z;rfl);have afY:=cl.mp hcl;rw[au (by rw[afY];decide)]at q;obtain⟨b4,hb4⟩:=exb (Ew U);have J:b4=true↔yr u=true:=by rw[hb4,Je g];unfold Ew;simp only[b.gr g,b.gp g]
 have par:∀k rk,ak U.R k=some rk->∃pr,ak U.P k=some pr/\(pr=0\/(ak U.R pr).isSome=true):=λk rk e=>by
  have hd:(ak U.P k).isSome=true:=by rw[b.gp g,jR,<-b.gr g,e];rfl
  obtain⟨pr,hp⟩:=gj.mp hd;exact⟨pr,hp,hcl.1 k pr hp⟩
 refine bD (gM (p_b (jw (aq (aj rfl) aG) ⟨o,r1,p1,x1,U,b4,rfl,L,b.nr g,par,rfl,hb4⟩))) (λz=> ?_) λz=> ?_;.rw[aB (by cases e:yr u;rfl;rw[J.mpr e]at z;cases z)]at q;exact aU p_c (q.1 _ rfl _ (Same.o4 B))
 have Fj:=J.mp (by cases b4;cases z;rfl);rw[au (by rw[Fj];decide)]at q;have sml:Bv u=true↔U.R.length<=32/\U.X.length<=64:=by rw[Jf,<-b.qI,<-b.uw]
 refine bD (p_b (jw (aq (aj rfl) aG) ⟨o,r1,p1,x1,U,rfl,L,rfl⟩)) (λz=> ?_) λz=> ?_;.rw[aB (by cases e7:Bv u;rfl;exact absurd (sml.mp e7) (n1t.mp z))]at q;exact aU p_c (q.1 _ rfl _ (Same.o4 B))
 have hsm:=sml.mpr (n1f.mp z);rw[au (by rw[hsm];decide)]at q;have rng:Rng U:=by rw[<-eU];exact adR _ (λc hc=>by obtain⟨r,m,rfl⟩:=aQ.mp hc;exact akH (j r m)) (h.wf.rng h.rel)
 have wu:=akI g b rng afY Fj hsm;obtain⟨dxa,ea⟩:=h2.own.ins;exact bL (bx ((aq (aj rfl) (aq (aj rfl) aG)) _ (MP (h.same B) ⟨L,b,wu⟩ (aX ea fr.1) (Same.o4 B) q)))
end
def fsS (a b c:Addr):List (Str×V):=[("draft",.ref a),("earlier",.ref b),("versions",.ref c)]
theorem aqC (a b c:Addr):(fsS a b c).lookup ("draft" :Str)=some (.ref a):=by rfl
theorem aqD (b a c:Addr):(fsS b a c).lookup ("earlier" :Str)=some (.ref a):=by rfl
theorem aqE (b c a:Addr):(fsS b c a).lookup ("versions" :Str)=some (.ref a):=by rfl
theorem Yi (c a b y:Addr):fj "draft" (.ref y) (fsS c a b)=fsS y a b:=by unfold fsS;rw[zM]
def fsH (a:Addr):List (Str×V):=[("schools",.ref a)]
theorem aqF (a:Addr):(fsH a).lookup ("schools" :Str)=some (.ref a):=by rfl
structure mW (K:aW) (C:Addr):Prop where
 cl:Cls K C
 nD:eY K C "draft"
 nE:eY K C "earlier"
 nV:eY K C "versions"
structure p8 (K:aW) (C:Addr):Prop where
 cl:Cls K C
 nS:eY K C "schools"
def TX (C:Addr) (M:List Addr) (A:Addr->Prop) (H:Hp) (a:Addr) (t:b_):Prop:=A a/\∃r p x T,TAt C H a r p x T t/\r∉M/\p∉M/\x∉M
structure SAt (C CS:Addr) (M:List Addr) (A:Addr->Prop) (H:Hp) (sa er vd:Addr) (d:G8) (i:Nat) (vs:List vC):Prop where
 ins:∃dx dr,H sa=some (.ins CS dx (fsS dr er vd))/\TX C M A H dr d.draft
 ear:∃refs:List Addr,H er=some (.lst (refs.reverse.map V.ref))/\refs.length=d.back.length/\∀(j:Nat) (a:Addr) (t:b_),refs[j]? =some a->d.back[j]? =some t->TX C M A H a t
 ver:∃kas:List (Int×Addr),H vd=some (.dK (dA kas))/\(kas.map (·.1)).Perm ((vs.filter λv=>v.school==i).map λv=>(v.day:Int))/\∀v∈vs,v.school=i->∀q∈kas,q.1=(v.day:Int)->TX C M A H q.2 v.tree
structure Lay where
 h:Addr
 ds:Addr
 sa:Nat->Addr
 er:Nat->Addr
 vd:Nat->Addr
def Lay.M (L:Lay):List Addr:=[L.sa 1,L.sa 2,L.sa 3,L.er 1,L.er 2,L.er 3,L.vd 1,L.vd 2,L.vd 3]
structure HAt (C CS CH:Addr) (A:Addr->Prop) (H:Hp) (L:Lay) (s:lY):Prop where
 ok:SOk s
 nd:L.M.Nodup
 ins:∃dx,H L.h=some (.ins CH dx (fsH L.ds))
 dk:H L.ds=some (.dK (dA [(1,L.sa 1),(2,L.sa 2),(3,L.sa 3)]))
 nds:L.ds∉L.M
 sch:∀i,1<=i->i<=3->SAt C CS L.M A H (L.sa i) (L.er i) (L.vd i) (iG s i) i s.versions
section
variable {C CS CH:Addr} {M:List Addr} {A A':Addr->Prop} {H H':Hp}
theorem TX.same (h:TX C M A H a t) (s:Same H H'):TX C M A H' a t:=⟨h.1,let ⟨r,p,x,T,z,n⟩:=h.2;⟨r,p,x,T,z.same s,n⟩⟩
theorem TX.at_ (h:TX C M A H a t):∃r p x T,TAt C H a r p x T t:=let ⟨r,p,x,T,z,_⟩:=h.2;⟨r,p,x,T,z⟩
theorem TX.some_ (h:TX C M A H a t):∃u,H a=some u:=let ⟨r,p,x,T,z,_⟩:=h.2;let ⟨dx,e⟩:=z.own.ins;⟨_,e⟩
theorem TX.weak (h:TX C M A H a t) (k:∀b u,A b->H b=some u->A' b):TX C M A' H a t:=let ⟨u,e⟩:=h.some_;⟨k a u h.1 e,h.2⟩
theorem TX.upd (h:TX C M A H a t) (l:m∈M) (o:∀c r p x,H m≠some (.ins C c (fsT r p x))):TX C M A (upd H m u) a t:=by obtain⟨j,r,p,x,T,z,f,g,i⟩:=h;have d:∀{b},b∉M->b≠m:=λn e=>n (e▸l);obtain⟨c,e⟩:=z.own.ins;exact⟨j,r,p,x,T,⟨⟨⟨c,by rw[aC (λy=>o c r p x (by rw[<-y];exact e))];exact e⟩,by rw[aC (d f)];exact z.own.hr,by rw[aC (d g)];exact z.own.hp,by rw[aC (d i)];exact z.own.hx,z.own.rp,z.own.rx,z.own.px⟩,z.rel,z.wf⟩,f,g,i⟩
theorem SAt.same {l g m:Addr} {d:G8} {i:Nat} {vs:List vC} (h:SAt C CS M A H l g m d i vs) (s:Same H H'):SAt C CS M A H' l g m d i vs:=by obtain⟨⟨o,n,p,z⟩,⟨b,u,x,B⟩,c,w,y,E⟩:=h;exact⟨⟨o,n,s _ _ p,z.same s⟩,⟨b,s _ _ u,x,λj a t e f=>(B j a t e f).same s⟩,c,s _ _ w,y,λv e f q F G=>(E v e f q F G).same s⟩
theorem SAt.weak {m l n:Addr} {d:G8} {i:Nat} {vs:List vC} (h:SAt C CS M A H m l n d i vs) (k:∀b u,A b->H b=some u->A' b):SAt C CS M A' H m l n d i vs:=by obtain⟨⟨p,o,s,B⟩,⟨c,w,y,E⟩,e,x,z,F⟩:=h;exact⟨⟨p,o,s,B.weak k⟩,⟨c,w,y,λj a t f g=>(E j a t f g).weak k⟩,e,x,z,λv f g q G I=>(F v f g q G I).weak k⟩
theorem SAt.upd {n e o m:Addr} {d:G8} {i:Nat} {vs:List vC} {u:HO} (h:SAt C CS M A H n e o d i vs) (f:m∈M) (g:∀c r p x,H m≠some (.ins C c (fsT r p x))) (G:n≠m) (I:e≠m) (J:o≠m):SAt C CS M A (upd H m u) n e o d i vs:=by obtain⟨⟨c,y,z,N⟩,⟨b,B,F,O⟩,l,E,L,P⟩:=h;exact⟨⟨c,y,by rw[aC G];exact z,N.upd f g⟩,⟨b,by rw[aC I];exact B,F,λj a t s w=>(O j a t s w).upd f g⟩,l,by rw[aC J];exact E,L,λv s w q Q R=>(P v s w q Q R).upd f g⟩
theorem HAt.same {L:Lay} {s:lY} (h:HAt C CS CH A H L s) (k:Same H H'):HAt C CS CH A H' L s:=⟨h.ok,h.nd,let ⟨dx,e⟩:=h.ins;⟨dx,k _ _ e⟩,k _ _ h.dk,h.nds,λi a b=>(h.sch i a b).same k⟩
theorem HAt.weak {L:Lay} {s:lY} (h:HAt C CS CH A H L s) (k:∀b u,A b->H b=some u->A' b):HAt C CS CH A' H L s:=⟨h.ok,h.nd,h.ins,h.dk,h.nds,λi a c=>(h.sch i a c).weak k⟩
end
section
variable {σ:L2.St} {H:Hp} {i:Nat}
theorem M7 (c:mW K CS) (b:PE0 te σ H (.ref a)) (e:H a=some (.ins CS dx (fsS dr er vd))):PE0 (dZ K te "draft") σ H (.ref dr):=λQ q=>b _ ⟨a,CS,dx,_,_,rfl,e,c.cl,c.nD,aqC dr er vd,q⟩
theorem Fo (c:mW K CS) (b:PE0 te σ H (.ref a)) (e:H a=some (.ins CS dx (fsS dr er vd))):PE0 (dZ K te "earlier") σ H (.ref er):=λQ q=>b _ ⟨a,CS,dx,_,_,rfl,e,c.cl,c.nE,aqD dr er vd,q⟩
theorem Ad (c:mW K CS) (b:PE0 te σ H (.ref a)) (e:H a=some (.ins CS dx (fsS dr er vd))):PE0 (dZ K te "versions") σ H (.ref vd):=λQ q=>b _ ⟨a,CS,dx,_,_,rfl,e,c.cl,c.nV,aqE dr er vd,q⟩
theorem Yj (c:p8 K CH) (b:PE0 te σ H (.ref a)) (e:H a=some (.ins CH dx (fsH ds))):PE0 (dZ K te "schools") σ H (.ref ds):=λQ q=>b _ ⟨a,CH,dx,_,_,rfl,e,c.cl,c.nS,aqF ds,q⟩
theorem afZ (L:Lay):(([(1,L.sa 1),(2,L.sa 2),(3,L.sa 3)]:List (Int×Addr)).map (·.1)).Nodup:=by show([1,2,3]:List Int).Nodup;decide
theorem Ae (c:p8 K CH) {A:Addr->Prop} {L:Lay} {s:lY} {n:Int} {a:TE} (b:σ[i]? =some (some (.ref L.h))) (d:PE0 a σ H (.int n)) (h:HAt C CS CH A H L s) (f:iM n):PE0 (gZ (dZ K (bA i) "schools") a) σ H (.ref (L.sa n.toNat)):=by
 obtain⟨g,e⟩:=h.ins;refine qW (Yj c (aj b) e) d (.inl h.dk) (afZ L) ?_;have:n=1\/n=2\/n=3:=by unfold iM at f;omega
 rcases this with z | z | z;.subst z;exact cU
 .subst z;exact cO _ cU
 .subst z;exact cO _ (cO _ cU)
theorem Af (h:iM n):1<=n.toNat/\n.toNat<=3/\((n.toNat:Nat):Int)=n:=by unfold iM at h;omega
inductive M8 (C CS:Addr) (vs:List V) (H:Hp) (Q:VK) (E:XK):Prop
 | mk q dx:vs=[.ref q]->H q=some (.ins CS dx [])->(∀dr er vd r p x H',(H dr=none/\H er=none/\H vd=none/\H r=none/\H p=none/\H x=none)->(vd≠r/\vd≠p/\vd≠x)->H' q=some (.ins CS dx (fsS dr er vd))->TAt C H' dr r p x ⟨[],[],[]⟩ G9->H' er=some (.lst [])->H' vd=some (.dK [])->But q H H'->Q .non H')->M8 C CS vs H Q E
theorem aqG:Rel ⟨[],[],[]⟩ G9:=⟨.nil,.nil,.nil⟩
theorem aqH (F:Fun K "__init__" "School.__init__" Vo f fd) (c:mW K CS) (wZ:Df P w K mg base "empty_tree" wG 3 (El C)):aY P w K mg base CX0 4 f fd Kz (M8 C CS):=by
 refine F.ok ang (by walk_at "l") (λ_ A _ s H vs Q E Z hz=> ?_);obtain⟨q,g,e,m,k⟩:=hz;subst e;refine⟨_,(aF (jF (pv 0) (LR wZ Z (by decide)) rfl)
   (aF (jF (pv 0) (cT aA) rfl)
   (aD (jF (pv 0) vV rfl)))),?_⟩
 refine⟨rfl,λj r p x t fr v a=> ?_⟩;have N:=v _ _ m;refine(aj rfl) _ ⟨q,CS,g,_,rfl,N,c.cl,c.nD,(by show 0 < 1000;decide),?_⟩;have R:j≠q:=λz=>by rw[z,m]at fr;cases fr.1
 have T:r≠q:=λz=>by rw[z,m]at fr;cases fr.2.1
 have S:p≠q:=λz=>by rw[z,m]at fr;cases fr.2.2.1
 have W:x≠q:=λz=>by rw[z,m]at fr;cases fr.2.2.2
 refine⟨fU _,λl L=> ?_⟩;obtain⟨d,h⟩:=fC L;refine(aj rfl) _ ⟨q,CS,g,_,rfl,(by rw[aC d.symm];exact aH),c.cl,c.nE,(by show 1 < 1000;decide),?_⟩;refine λy O=> ?_;obtain⟨o,G⟩:=fC O;obtain⟨U,I⟩:=fC G;obtain⟨_,i⟩:=fC I;refine(aj rfl) _ ⟨q,CS,g,_,rfl,(by rw[aC o.symm];exact aH),c.cl,c.nV,(by show 2 < 1000;decide),?_⟩;rw[nF,mL (by decide+kernel),nF,mL (by decide+kernel),mL (by decide+kernel),nF];have B:∀{b u},t b=some u->y≠b:=λe=>(aX e i).symm;have Y:∀{b u},t b=some u->l≠b:=λe=>(aX e h).symm;have kp:∀{b u},t b=some u->b≠q->(upd (upd (upd (upd (upd t q (.ins CS g [("draft",.ref j)])) l (.lst [])) q (.ins CS g [("draft",.ref j),("earlier",.ref l)])) y (.dK [])) q (.ins CS g [("draft",.ref j),("earlier",.ref l),("versions",.ref y)])) b=some u:=λe n=>by rw[aC n,aC (B e).symm,aC n,aC (Y e).symm,aC n];exact e
 obtain⟨J,X⟩:=a.ins;refine k j l y r p x _ ⟨fr.1,v.free h,v.free i,fr.2.1,fr.2.2.1,fr.2.2.2⟩ ⟨B a.hr,B a.hp,B a.hx⟩ aH ⟨⟨⟨J,kp X R⟩,kp a.hr T,kp a.hp S,kp a.hx W,a.rp,a.rx,a.px⟩,aqG,ad3⟩ ?_ ?_ λb u e n=>kp (v _ _ e) n;.rw[aC d,aC U.symm,aC d,aH]
 .rw[aC o,aH]
end
section
structure NS (C CS:Addr) (Ha Hb:Hp) (sa er vd dr r p x:Addr):Prop where
 fr:∀z∈[sa,er,vd,dr,r,p,x],Ha z=none
 sm:Same Ha Hb
 ins:∃dx,Hb sa=some (.ins CS dx (fsS dr er vd))
 tr:TAt C Hb dr r p x ⟨[],[],[]⟩ G9
 er_:Hb er=some (.lst [])
 vd_:Hb vd=some (.dK [])
 ne:vd≠r/\vd≠p/\vd≠x
theorem NS.all (h:NS C CS Ha Hb sa er vd dr r p x):∀z∈[sa,er,vd,dr,r,p,x],∃u,Hb z=some u:=by
 intro z a;obtain⟨d,e⟩:=h.ins;obtain⟨b,c⟩:=h.tr.own.ins;simp only[cD,lV,or_false]at a;rcases a with rfl | rfl | rfl | rfl | rfl | rfl | rfl;.exact⟨_,e⟩
 .exact⟨_,h.er_⟩
 .exact⟨_,h.vd_⟩
 .exact⟨_,c⟩
 .exact⟨_,h.tr.own.hr⟩
 .exact⟨_,h.tr.own.hp⟩
 .exact⟨_,h.tr.own.hx⟩
theorem NS.apart (h:NS C CS Ha Hb sa er vd dr r p x) (s:Same Hb Hc) (a:NS C CS Hc Hd sa' er' vd' dr' r' p' x'):∀z∈[sa,er,vd,dr,r,p,x],∀y∈[sa',er',vd',dr',r',p',x'],z≠y:=λz d y c e=>by obtain⟨u,b⟩:=h.all z d;have:=a.fr y c;rw[<-e,s _ _ b]at this;cases this
theorem NS.later (h:NS C CS Ha Hb sa er vd dr r p x) (s:Same Hb Hc):NS C CS Ha Hc sa er vd dr r p x:=⟨h.fr,h.sm.trans s,let ⟨dx,e⟩:=h.ins;⟨dx,s _ _ e⟩,h.tr.same s,s _ _ h.er_,s _ _ h.vd_,h.ne⟩
theorem Yk (q:∀a i l h r p x f,NS C CS H f a i l h r p x->Q (.ref a) f):vN CS (M8 C CS) [] E0 fW σ H Q:=by
 intro a g d j v;refine⟨a,g,rfl,aH,λh i l r p x f fr u n t o s b=>⟨rfl,q a i l h r p x f ⟨λz m=> ?_,Same.made d j b,⟨g,n⟩,t,o,s,u⟩⟩⟩;have c:∀{z},upd (upd H g (.own a)) a (.ins CS g []) z=none->H z=none:=λe=>(fC (fC e).2).2;simp only[cD,lV,or_false]at m;rcases m with rfl | rfl | rfl | rfl | rfl | rfl | rfl;.exact d
 .exact c fr.2.1
 .exact c fr.2.2.1
 .exact c fr.1
 .exact c fr.2.2.2.1
 .exact c fr.2.2.2.2.1
 .exact c fr.2.2.2.2.2
inductive Yl (C CS CH:Addr) (vs:List V) (H:Hp) (Q:VK) (E:XK):Prop
 | mk q dx:vs=[.ref q]->H q=some (.ins CH dx [])->(∀L H',L.h=q->HAt C CS CH (λ_=>True) H' L abH->But q H H'->Q .non H')->Yl C CS CH vs H Q E
def Fp (h d:Addr) (a b c e f g j l m:Addr):Lay:=⟨h,d,λi=>if i=1 then a else if i=2 then b else c,λi=>if i=1 then e else if i=2 then f else g,λi=>if i=1 then j else if i=2 then l else m⟩
theorem aqK (F:Fun K "__init__" "House.__init__" Vp f fd) (c:p8 K CH) (Ym:sW P w K mg base CS "School" Kz 4 (M8 C CS)):aY P w K mg base CX0 6 f fd KC (Yl C CS CH):=by
 refine F.ok ani (by walk_at "l") (λ_ A _ s H vs Q E hr l=> ?_);obtain⟨q,dx,e,hq,k⟩:=l;subst e;refine⟨_,(aD (jF (pv 0) (ajB (Rm aM (Fe Ym hr (by decide)) (Rm aM (Fe Ym hr (by decide)) (Rm aM (Fe Ym hr (by decide)) ajz))) rfl rfl (by simp) (by decide)) rfl)),?_⟩;intro B hds;have s0:Same H (upd H B (.dK [])):=Same.upd hds;refine p_c _ (Yk λG L Y d1 r1 p1 x1 H1 T=> ?_);refine p_c _ (Yk λI S Z d2 r2 p2 x2 H2 U=> ?_);refine p_c _ (Yk λJ X v3 d3 r3 p3 x3 H3 n3=> ?_);have Xn:=n3.sm _ _ (U.sm _ _ (T.sm _ _ aH));have s03:=s0.trans (T.sm.trans (U.sm.trans n3.sm));have m1:=T.later (U.sm.trans n3.sm);have m2:=U.later n3.sm;have M9:=T.apart Same.eO U;have Yn:=T.apart U.sm n3;have Yo:=U.apart Same.eO n3;refine⟨Xn,[(bI 1,.ref G),(bI 2,.ref I),(bI 3,.ref J)],rfl,by show 3<=15;decide,?_⟩;have em:yP [] [((bI 1:Key),V.ref G),(bI 2,.ref I),(bI 3,.ref J)]=dA [(1,G),(2,I),(3,J)]:=by rfl
 rw[em];have fds:∀{z},(upd H B (.dK [])) z=none->z≠B:=λe=>(fC e).1;have Ag:∀z,(z∈[G,L,Y,d1,r1,p1,x1]\/z∈[I,S,Z,d2,r2,p2,x2]\/z∈[J,X,v3,d3,r3,p3,x3])->z≠B:=by
  rintro z (l | l | l);.exact fds (T.fr z l)
  .exact fds (T.sm.free (U.fr z l))
  .exact fds (T.sm.free (U.sm.free (n3.fr z l)))
 have nq:∀z,(z∈[G,L,Y,d1,r1,p1,x1]\/z∈[I,S,Z,d2,r2,p2,x2]\/z∈[J,X,v3,d3,r3,p3,x3])->z≠q:=by
  rintro z (l | l | l) e;.have:=T.fr z l;rw[e,s0 _ _ hq]at this;cases this
  .have:=U.fr z l;rw[e,T.sm _ _ (s0 _ _ hq)]at this;cases this
  .have:=n3.fr z l;rw[e,U.sm _ _ (T.sm _ _ (s0 _ _ hq))]at this;cases this
 have ndq:B≠q:=λe=>by rw[e,hq]at hds;cases hds
 refine(aj rfl) _ ⟨q,CH,dx,_,rfl,(by rw[aC ndq.symm];exact s03 _ _ hq),c.cl,c.nS,(by show 0 < 1000;decide),?_⟩;rw[nF];have kp:∀{z u} {o1 o2:HO},H3 z=some u->z≠B->z≠q->upd (upd H3 B o1) q o2 z=some u:=λe T U=>by rw[aC U,aC T];exact e
 have lift:∀{Ha O N R W r p x},NS C CS Ha H3 O N R W r p x->(∀z∈[O,N,R,W,r,p,x],z≠B/\z≠q)->NS C CS Ha (upd (upd H3 B (.dK (dA [(1,G),(2,I),(3,J)]))) q (.ins CH dx [("schools",.ref B)])) O N R W r p x\/True:=λ_ _=> .inr gK;have sat:∀{M:List Addr} {i O N R W r p x Ha},NS C CS Ha H3 O N R W r p x->(∀z∈[O,N,R,W,r,p,x],z≠B/\z≠q)->(r∉M/\p∉M/\x∉M)->SAt C CS M (λ_=>True) (upd (upd H3 B (.dK (dA [(1,G),(2,I),(3,J)]))) q (.ins CH dx [("schools",.ref B)])) O N R ⟨G9,[]⟩ i []:=by intro M i O N R W r p x Ha h l hM;obtain⟨dx1,L⟩:=h.ins;obtain⟨dx2,S⟩:=h.tr.own.ins;have g:∀{z u},z∈[O,N,R,W,r,p,x]->H3 z=some u->upd (upd H3 B (.dK (dA [(1,G),(2,I),(3,J)]))) q (.ins CH dx [("schools",.ref B)]) z=some u:=λm e=>kp e (l _ m).1 (l _ m).2;exact⟨⟨dx1,W,g (by simp) L,gK,r,p,x,_,⟨⟨⟨dx2,g (by simp) S⟩,g (by simp) h.tr.own.hr,g (by simp) h.tr.own.hp,g (by simp) h.tr.own.hx,h.tr.own.rp,h.tr.own.rx,h.tr.own.px⟩,h.tr.rel,h.tr.wf⟩,hM⟩,⟨[],g (by simp) h.er_,rfl,λj a t z=>by cases z⟩,[],g (by simp) h.vd_,.nil,λv hv=>by cases hv⟩
 have k1:∀{Ha O N R W r p x},NS C CS Ha H3 O N R W r p x->(O≠N/\O≠R/\N≠R)/\(∀y∈[O,N,R],r≠y/\p≠y/\x≠y):=by
  intro Ha O N R W r p x h;obtain⟨dx1,L⟩:=h.ins;have hr:=h.tr.own.hr;have hp:=h.tr.own.hp;have hx:=h.tr.own.hx;refine⟨⟨cJ L h.er_ (by intro z;cases z),cJ L h.vd_ (by intro z;cases z),cJ h.er_ h.vd_ (by intro z;cases z)⟩,λy hy=> ?_⟩;simp only[cD,lV,or_false]at hy;rcases hy with rfl | rfl | rfl;.exact⟨cJ hr L (by intro z;cases z),cJ hp L (by intro z;cases z),cJ hx L (by intro z;cases z)⟩
  .exact⟨cJ hr h.er_ (by intro z;cases z),cJ hp h.er_ (by intro z;cases z),cJ hx h.er_ (by intro z;cases z)⟩
  .exact⟨h.ne.1.symm,h.ne.2.1.symm,h.ne.2.2.symm⟩
 have q1:=k1 m1;have q2:=k1 m2;have q3:=k1 n3;have o:∀{a e v d r p x:Addr},(∀z∈[a,e,v],z∈[a,e,v,d,r,p,x])/\(∀z∈[r,p,x],z∈[a,e,v,d,r,p,x]):=by
  intro a e v d r p x;constructor;.intro z l;simp only[cD,lV,or_false]at l ⊢;rcases l with h | h | h <;> simp[h]
  .intro z l;simp only[cD,lV,or_false]at l ⊢;rcases l with h | h | h <;> simp[h]
 have M_:∀z,z∈(Fp q B G I J L S X Y Z v3).M↔z∈[G,L,Y]\/z∈[I,S,Z]\/z∈[J,X,v3]:=by
  intro z;show z∈[G,I,J,L,S,X,Y,Z,v3]↔_;simp only[cD,lV,or_false];constructor;.rintro(h | h | h | h | h | h | h | h | h) <;> simp[h]
  .rintro((h | h | h) | (h | h | h) | (h | h | h)) <;> simp[h]
 have Yp:∀z∈[r1,p1,x1],z∉(Fp q B G I J L S X Y Z v3).M:=by
  intro z l hm;rcases(M_ z).mp hm with h | h | h
  .have:=q1.2 z h;simp only[cD,lV,or_false]at l;rcases l with y | y | y;.exact this.1 y.symm
   .exact this.2.1 y.symm
   .exact this.2.2 y.symm
  .exact M9 z (o.2 z l) z (o.1 z h) rfl
  .exact Yn z (o.2 z l) z (o.1 z h) rfl
 have Yq:∀z∈[r2,p2,x2],z∉(Fp q B G I J L S X Y Z v3).M:=by
  intro z l hm;rcases(M_ z).mp hm with h | h | h;.exact M9 z (o.1 z h) z (o.2 z l) rfl
  .have:=q2.2 z h;simp only[cD,lV,or_false]at l;rcases l with y | y | y;.exact this.1 y.symm
   .exact this.2.1 y.symm
   .exact this.2.2 y.symm
  .exact Yo z (o.2 z l) z (o.1 z h) rfl
 have Yr:∀z∈[r3,p3,x3],z∉(Fp q B G I J L S X Y Z v3).M:=by
  intro z l hm;rcases(M_ z).mp hm with h | h | h;.exact Yn z (o.1 z h) z (o.2 z l) rfl
  .exact Yo z (o.1 z h) z (o.2 z l) rfl
  .have:=q3.2 z h;simp only[cD,lV,or_false]at l;rcases l with y | y | y;.exact this.1 y.symm
   .exact this.2.1 y.symm
   .exact this.2.2 y.symm
 refine k (Fp q B G I J L S X Y Z v3) _ rfl ⟨akW,?_,⟨dx,aH⟩,(by show upd (upd H3 B (.dK (dA [(1,G),(2,I),(3,J)]))) q _ B=some (HO.dK (dA [(1,G),(2,I),(3,J)]));rw[aC ndq];exact aH),?_,?_⟩ ?_
 .show [G,I,J,L,S,X,Y,Z,v3].Nodup;have A12:=M9;have B12:=λz l y hy=>M9 z (o.1 z l) y (o.1 y hy);have B13:=λz l y hy=>Yn z (o.1 z l) y (o.1 y hy);have B23:=λz l y hy=>Yo z (o.1 z l) y (o.1 y hy);have perm:[G,I,J,L,S,X,Y,Z,v3].Perm ([G,L,Y]++([I,S,Z]++[J,X,v3])):=by rw[List.perm_iff_count];intro z;simp only[List.count_cons,List.count_nil,List.count_append];omega
  rw[perm.nodup_iff,nZ,nZ];refine⟨?_,⟨?_,?_,B23⟩,λz l y hy=> ?_⟩;.simp[q1.1.1,q1.1.2.1,q1.1.2.2]
  .simp[q2.1.1,q2.1.2.1,q2.1.2.2]
  .simp[q3.1.1,q3.1.2.1,q3.1.2.2]
  .rcases dO.mp hy with h | h;.exact B12 z l y h
   .exact B13 z l y h
 .intro hm;rcases(M_ _).mp hm with h | h | h;.exact Ag _ (.inl (o.1 _ h)) rfl
  .exact Ag _ (.inr (.inl (o.1 _ h))) rfl
  .exact Ag _ (.inr (.inr (o.1 _ h))) rfl
 .intro i h1 h2;have:i=1\/i=2\/i=3:=by omega
  rcases this with rfl | rfl | rfl;.exact sat m1 (λz l=>⟨Ag z (.inl l),nq z (.inl l)⟩) ⟨Yp _ (by simp),Yp _ (by simp),Yp _ (by simp)⟩
  .exact sat m2 (λz l=>⟨Ag z (.inr (.inl l)),nq z (.inr (.inl l))⟩) ⟨Yq _ (by simp),Yq _ (by simp),Yq _ (by simp)⟩
  .exact sat n3 (λz l=>⟨Ag z (.inr (.inr l)),nq z (.inr (.inr l))⟩) ⟨Yr _ (by simp),Yr _ (by simp),Yr _ (by simp)⟩
 .intro b u e n;rw[aC n,aC (aX e hds)];exact s03 _ _ e
end
theorem Lay.apart {L:Lay} (h:L.M.Nodup) {i j:Nat} (Z:1<=i) (X:i<=3) (hj:1<=j) (Y:j<=3):(L.sa i≠L.er j/\L.sa i≠L.vd j/\L.er i≠L.vd j)/\(i≠j->L.sa i≠L.sa j/\L.er i≠L.er j/\L.vd i≠L.vd j):=by
 unfold Lay.M at h;simp only[je,cD,lV,or_false,not_or,k_,and_true,not_false_eq_true]at h;have a:i=1\/i=2\/i=3:=by omega
 have b:j=1\/j=2\/j=3:=by omega
 obtain⟨⟨c,d,e,f,g,l,m,o⟩,⟨p,q,s,t,u,v,w⟩,⟨x,y,z,A,B,C⟩,⟨E,F,G,H,I⟩,⟨J,N,O,P⟩,⟨Q,R,S⟩,⟨T,U⟩,W⟩:=h;rcases a with rfl | rfl | rfl <;> rcases b with rfl | rfl | rfl <;> refine⟨⟨?_,?_,?_⟩,λn=>⟨?_,?_,?_⟩⟩ <;> first | assumption | exact lB (by assumption) | exact absurd rfl n
theorem Lay.mem {L:Lay} {i:Nat} (c:1<=i) (b:i<=3):L.sa i∈L.M/\L.er i∈L.M/\L.vd i∈L.M:=by
 have a:i=1\/i=2\/i=3:=by omega
 unfold Lay.M;rcases a with rfl | rfl | rfl <;> simp
section
variable {σ:L2.St} {H:Hp} {D:Ends} {K:aW}
theorem aqL (h:PT0 c σ H b) (a:b=true->t {D with nx:=u D} σ H) (d:b=false->u D σ H):nu (oJ c t t_) u D σ H:=bD h a d
theorem aqM (b:PE0 to σ H (.ref l)) (c:PE0 ti σ H (.int 0)) (a:H l=some (.lst xs)) (d:0 < xs.length) (q:D.nx σ (upd H l (.lst (xs.eraseIdx 0)))):pP (tBM K "list" acM to (gw ti fW)) D σ H:=
 b _ ⟨.inl ⟨rfl,_,SqL.of a⟩,c _ ⟨l,xs,0,0,xs[0],rfl,rfl,a,by decide,by decide,by have:=(acA (n:=xs.length) (i:=0) (j:=0) (by unfold ixN;rw[aB (by decide),aB (by omega)];rfl)).1;exact this,ql d,q⟩⟩
theorem af3 {c d:TE} {f:Str} {a C b:Addr} {fs:List (Str×V)} {v:V} (g:PE0 d σ H v) (h:PE0 c σ H (.ref a)) (e:H a=some (.ins C b fs)) (cl:Cls K C) (n:eY K C f) (l:fs.length < 1000) (q:D.nx σ (upd H a (.ins C b (fj f v fs)))):Q0 K c d f D σ H:=g _ (h _ ⟨a,C,b,fs,rfl,e,cl,n,l,q⟩)
end
def qX (M:List Addr) (H a:Hp):Prop:=∀b o,H b=some o->b∉M->a b=some o
section
variable {C CS CH:Addr} {A:Addr->Prop} {H:Hp} {L:Lay} {s:lY} {k:Nat}
theorem TX.wf (h:TX C M A H a t):WF t:=let ⟨_,_,_,_,z,_⟩:=h.2;z.wf
theorem aqN (e:H a=some (.ins CS b fs)) (d:∀r p x,fs≠fsT r p x):∀b r p x,H a≠some (.ins C b (fsT r p x)):=λc r p x z=>by rw[e]at z;injection z with z;injection z with _ _ z;exact d r p x z
theorem aqO (a b c r p x:Addr):fsS a b c≠fsT r p x:=λz=>by rw[rY]at z;injection z with z;injection z with z;exact absurd z (by decide+kernel)
theorem HAt.Ys (h:HAt C CS CH A H L s) (n:1<=k) (c:k<=3) {f R:Addr} (e:H (L.sa k)=some (.ins CS f (fsS R (L.er k) (L.vd k)))) {a:Addr} {t:b_} {bk:List b_} {g:List Addr} (T:TX C L.M A H a t) (hb:g.length=bk.length)
  (y:∀(j:Nat) (b:Addr) (u:b_),g[j]? =some b->bk[j]? =some u->TX C L.M A H b u) (lb:bk.length<=12):
  HAt C CS CH A (upd (upd H (L.er k) (.lst (g.reverse.map V.ref))) (L.sa k) (.ins CS f (fsS a (L.er k) (L.vd k)))) L (G_ s k ⟨t,bk⟩):=by
 have wb:∀u∈bk,WF u:=λu hu=>by
  obtain⟨j,hj,Y⟩:=pH hu;have F:j < g.length:=by omega
  exact(y j g[j] u (ql F) (by rw[ql hj,Y])).wf
 obtain⟨I,J,m3⟩:=Lay.mem n c;obtain⟨X,S,_⟩:=(h.sch k n c).ear;have ap:=Lay.apart h.nd n c n c;have U:∀f r p x,H (L.er k)≠some (.ins C f (fsT r p x)):=λ_ _ _ _ z=>by rw[S]at z;cases z
 have W:∀f r p x,upd H (L.er k) (.lst (g.reverse.map V.ref)) (L.sa k)≠some (.ins C f (fsT r p x)):=by refine aqN (fs:=fsS R (L.er k) (L.vd k)) (by rw[aC ap.1.1];exact e) (aqO _ _ _)
 have up:∀{b u},TX C L.M A H b u->TX C L.M A (upd (upd H (L.er k) (.lst (g.reverse.map V.ref))) (L.sa k) (.ins CS f (fsS a (L.er k) (L.vd k)))) b u:=λz=>(z.upd J U).upd I W;obtain⟨B,E⟩:=h.ins;have P:L.h≠L.er k:=cJ E S (by intro z;cases z);have Q:L.h≠L.sa k:=cJ E e (by intro z;injection z with _ _ z;unfold fsH fsS at z;injection z with _ z;cases z);have N:L.ds≠L.er k:=λz=>h.nds (z▸J);have O:L.ds≠L.sa k:=λz=>h.nds (z▸I);refine⟨akX h.ok k ⟨T.wf,wb,lb⟩,h.nd,⟨B,by rw[aC Q,aC P];exact E⟩,by rw[aC O,aC N];exact h.dk,h.nds,λi o w=> ?_⟩;rw[akY h.ok ⟨n,c⟩ ⟨o,w⟩];by_cases d:i=k;.subst d;rw[aB rfl];obtain⟨G,Z,pv,tv⟩:=(h.sch i o w).ver;refine⟨⟨f,a,aH,up T⟩,⟨g,by rw[aC ap.1.1.symm,aH],hb,λj b u z1 z2=>up (y j b u z1 z2)⟩,G,by rw[aC ap.1.2.1.symm,aC ap.1.2.2.symm];exact Z,pv,λv y1 y2 q y3 y4=>up (tv v y1 y2 q y3 y4)⟩
 .rw[au d];have l:=Lay.apart h.nd o w n c;have m:=Lay.apart h.nd n c o w;exact((h.sch i o w).upd J U l.1.1 (l.2 d).2.1 m.1.2.2.symm).upd I W (l.2 d).1 m.1.1.symm m.1.2.1.symm
end
section
inductive Yt (C CS CH:Addr) (vs:List V) (H:Hp) (Q:VK) (E:XK):Prop
 | mk L s k a t A:vs=[.ref (L.sa k),.ref a]->1<=k->k<=3->HAt C CS CH A H L s->TX C L.M A H a t->(∀H',HAt C CS CH A H' L (G_ s k ⟨t,((iG s k).draft::(iG s k).back).take 12⟩)->qX L.M H H'->Q .non H')->Yt C CS CH vs H Q E
theorem aqP (F:Fun K "renew_draft" "renew_draft" Vq f fd) (c:mW K CS) (J:Cs K mg):aY P w K mg base CX0 1 f fd KD (Yt C CS CH):=by
 refine F.ok ank (by walk_at "l") (λ_ A _ s H vs Q E hr Y=> ?_);obtain⟨L,s,k,a,t,O,e,v,g,h,N,q⟩:=Y;subst e;refine⟨_,(aF (eE (jo iD m8 n_ oK (aO (pv 0) rfl) (ao (aO (pv 0) rfl) aA)))
   (aF (aR (bF qF (cB fK rfl J.len dF (ao (aO (pv 0) rfl) aA)) (aN J.aox)) (aD (eE (jo iD Bt P_ ai8 (aO (pv 0) rfl) (ao aM aA)))) aV)
   (aD (jF (pv 0) (pv 1) rfl)))),?_⟩
 obtain⟨⟨R,m,x,td⟩,⟨d,T,le,te⟩,_⟩:=h.sch k v g;have X:=h.ok.desk _ (ad4 h.ok ⟨v,g⟩).1;have lb:=X.len;obtain⟨Z,m2,m3⟩:=Lay.mem v g;have ap:=Lay.apart h.nd v g v g;refine aZ (EY (Fo c (aj rfl) x) (M7 c (aj rfl) x) T (by rw[aJ,lA];exact gD (show _<=12 by omega) (by decide)) ?_);have S:d.reverse.map V.ref++[V.ref m]=(m::d).reverse.map V.ref:=by rw[vg,dw];rfl
 rw[S];have p:upd H (L.er k) (.lst ((m::d).reverse.map V.ref)) (L.sa k)=some (.ins CS R (fsS m (L.er k) (L.vd k))):=by rw[aC ap.1.1];exact x
 have B:∀(j:Nat) (b:Addr) (u:b_),(m::d)[j]? =some b->((iG s k).draft::(iG s k).back)[j]? =some u->TX C L.M O H b u:=by
  intro j b u i l;cases j with
  | zero=>injection i with i;injection l with l;rw[<-i,<-l];exact td
  | succ j=>exact te j b u i l
 have only:∀{o1 o2:HO},qX L.M H (upd (upd H (L.er k) o1) (L.sa k) o2):=λb o z n=>by rw[aC (show b≠L.sa k from λy=>n (y▸Z)),aC (show b≠L.er k from λy=>n (y▸m2))];exact z
 dsimp only;refine aqL (bM (p_i (f9 (aq (Fo c (aj rfl) p) aG) (SqL.of aH)) p_c)) (λG=> ?_) λG=> ?_
 .rw[aJ,lA,cH,bR]at G;have I:d.length=12:=by omega
  refine aqM (Fo c (aj rfl) p) p_c aH (by rw[aJ,lA];exact aax _) ?_;rw[mq];have U:(((m::d).reverse.map V.ref).eraseIdx 0)=((m::d).take 12).reverse.map V.ref:=by
   rw[List.eraseIdx_zero,<-List.map_tail,List.tail_reverse]
   congr 2
   rw[List.dropLast_eq_take,bR,I]
  rw[U];refine af3 (aj rfl) (aj rfl) (by rw[aC ap.1.1];exact x) c.cl c.nD (by show 3 < 1000;decide) ?_;rw[Yi];refine q _ (h.Ys v g x N ?_ (λj b u i l=> ?_) ?_) only;.rw[fD,fD,bR,bR,le]
  .rw[List.getElem?_take]at i l;split at i;.rename_i y;rw[aB y]at l;exact B j b u i l
   .cases i
  .rw[fD];omega
 .rw[aJ,lA,iu,bR]at G;refine af3 (aj rfl) (aj rfl) p c.cl c.nD (by show 3 < 1000;decide) ?_;rw[Yi];have W:((iG s k).draft::(iG s k).back).take 12=(iG s k).draft::(iG s k).back:=qj (by rw[bR];omega);refine q _ ?_ only;rw[W];exact h.Ys v g x N (by rw[bR,bR,le]) B (by rw[bR];omega)
end
def Lat (b:List (Int×Addr)) (a m:Int):Prop:=(m= -1/\∀q∈b,¬q.1<=a)\/((∃q∈b,q.1=m)/\m<=a/\∀q∈b,q.1<=a->q.1<=m)
theorem af5:∀(l:List Int),l≠[]->∃m∈l,∀z∈l,z<=m
 | [a],_=>⟨a,cU,λz c=>by rw[dX.mp c];exact Bs _⟩
 | a::b::l,_=>by
  obtain⟨m,d,h⟩:=af5 (b::l) (by simp);by_cases e:m<=a;.exact⟨a,cU,λz c=>by rcases cD.mp c with rfl | c;exact Bs _;exact Int.le_trans (h z c) e⟩
  .exact⟨m,cO _ d,λz c=>by rcases cD.mp c with rfl | c;omega;exact h z c⟩
theorem af6 (b:List (Int×Addr)) (a:Int):∃m,Lat b a m:=by
 by_cases h:(b.map (·.1)).filter (λd=>decide (d<=a))=[];.refine⟨-1,.inl ⟨rfl,λq c z=> ?_⟩⟩;have:q.1∈(b.map (·.1)).filter (λd=>decide (d<=a)):=cC.mpr ⟨aQ.mpr ⟨q,c,rfl⟩,cF z⟩;rw[h]at this;cases this
 .obtain⟨m,j,l⟩:=af5 _ h;obtain⟨g,i⟩:=cC.mp j;obtain⟨q,c,e⟩:=aQ.mp g;exact⟨m,.inr ⟨⟨q,c,e⟩,dz i,λn f z=>l _ (cC.mpr ⟨aQ.mpr ⟨n,f,rfl⟩,cF z⟩)⟩⟩
theorem Lat.none_ (h:Lat kas day m) (e:(kas.map (·.1)).filter (λd=>decide (d<=day))=[]):m= -1:=by
 rcases h with h | ⟨⟨q,a,b⟩,c,_⟩;.exact h.1
 .have:q.1∈(kas.map (·.1)).filter (λd=>decide (d<=day)):=cC.mpr ⟨aQ.mpr ⟨q,a,rfl⟩,cF (by omega)⟩;rw[e]at this;cases this
theorem Lat.aqQ (h:Lat kas day m) (o:n∈(kas.map (·.1)).filter (λd=>decide (d<=day))) (p:∀z∈(kas.map (·.1)).filter (λd=>decide (d<=day)),z<=n):m=n:=by
 obtain⟨j,c⟩:=cC.mp o;have c:=dz c;obtain⟨q,g,e⟩:=aQ.mp j;rcases h with h | ⟨⟨i,f,s⟩,t,l⟩;.exact absurd (by rw[e];exact c) (h.2 q g)
 .have a:=l q g (by rw[e];exact c);have b:=p i.1 (cC.mpr ⟨aQ.mpr ⟨i,f,rfl⟩,cF (by omega)⟩);omega
section
inductive Yu (CS:Addr) (vs:List V) (H:Hp) (v:V):Prop
 | mk sa dx dr er vd kas day m:vs=[.ref sa,.int day]->H sa=some (.ins CS dx (fsS dr er vd))->H vd=some (.dK (dA kas))->kas.length<=16->v= .int m->Lat kas day m->Yu CS vs H v
theorem aqR (F:Fun K "latest_day" "latest_day" Vr f fd) (c:mW K CS) (J:Cs K mg):aY P w K mg base CX0 1 f fd KH (gU (Yu CS)):=by
 refine F.ok Vs (by walk_at "l") (λ_ A _ s H vs Q E hr hz=> ?_);obtain⟨v,⟨sa,dx,dr,er,l,a,g,m,e,N,C,lk,U,L⟩,q⟩:=hz;subst e;subst U;refine'⟨_,(aD (aK (aev J.max (vX (lE (own:=[("told",2)]) rfl Vs.nd (mG (aO (pv 0) rfl)) (lF rfl) ?g1 ?t1 ?e1)) (aN J.afc)))),?_⟩
 case g1=>exact λ_ _ _ _ _=>cQ (i:=2) Vs.nd
 case t1=>exact λ_ _ _ _ _=>vP (bF mC (pv 2) (pv 1))
 case e1=>exact λ_ _ _ _ _=>(pv 2)
 have G:=cJ N C (by intro z;cases z);refine bL (wM C gK λI=> ?_);refine nH (qQ ((Ad c (aj rfl) (show upd H l (.frz I (.dK (dA a))) sa=_ by rw[aC G];exact N)) _ ⟨l,I,rfl,.inl ⟨_,aH,λD u=> ?_⟩⟩));have j:=aX aH u;obtain⟨_,x⟩:=fC u;have mk:∀{y:V},y∈(dA a).map (λh=>kV h.1)->∃q∈a,y= .int q.1:=λ{y} o=>by obtain⟨h,B,rfl⟩:=aQ.mp o;obtain⟨q,X,rfl⟩:=aQ.mp B;exact⟨q,X,rfl⟩
 refine oM (ys:=(dA a).map λh=>kV h.1) (λy=>match y with | .int n=>decide (n<=g) | _=>false) id u (by rw[aJ,zW];exact gD lk (by decide)) (zK aH) (λy o O p R q=> ?_) (λy o _ O p R q=>kj rfl q) ?_;.obtain⟨q0,Y,rfl⟩:=mk o;exact(bM (p_i (aj rfl) (aj rfl))) _ q
 .refine⟨by rw[aC j,aH],?_⟩;have S:((((dA a).map λh=>kV h.1).filter (λy=>match y with | .int n=>decide (n<=g) | _=>false)).map id)=((a.map (·.1)).filter (λd=>decide (d<=g))).map V.int:=by unfold dA;rw[Ph,bC,j4,j4,bC];rfl
  rw[S];have T:upd (upd (upd H l (.frz I (.dK (dA a)))) D (.lst (((a.map (·.1)).filter (λd=>decide (d<=g))).map V.int))) l (.dK (dA a))=upd H D (.lst (((a.map (·.1)).filter (λd=>decide (d<=g))).map V.int)):=by
   funext b;by_cases e1:b=l;.subst e1;rw[aH,aC j,C]
   .rw[aC e1];by_cases t:b=D;.subst t;rw[aH,aH]
    .rw[aC t,aC e1,aC t]
  rw[T];have p:Same H (upd H D (.lst (((a.map (·.1)).filter (λd=>decide (d<=g))).map V.int))):=Same.upd x;refine⟨D,_,rfl,SqL.of aH,λz=> ?_,λn W Z=> ?_⟩;.rw[L.none_ z]at q;exact q _ p
  .rw[L.aqQ W Z]at q;exact q _ p
theorem Yv (h:¬(iM n/\(d= -1\/jT d))):ji s n d= .error (-1):=by unfold ji;rw[aB];unfold iM jT at h;unfold jh qt Bw;rw[<-lW,<-lW,<-lW,iu];omega
theorem Yw (h:iM n/\(d= -1\/jT d)):ji s n d=if d= -1 then .ok (iG s n.toNat).draft else match Ql s n.toNat d.toNat with | none=> .error (-7) | some t=> .ok t:=by refine(au ?_).trans rfl;unfold iM jT at h;unfold jh qt Bw;rw[<-lW,<-lW,<-lW,iu];omega
def af7 (r:Except Int b_):Int:=match r with | .error n=>n | .ok _=>0
theorem af8 (ok:SOk s) (n:(kas.map (·.1)).Perm ((s.versions.filter λv=>v.school==k).map λv=>(v.day:Int))) (w:jT d) (y:Lat kas d m)
  (B:∀v∈s.versions,v.school=k->∀q∈kas,q.1=(v.day:Int)->TX C M A H q.2 v.tree):
  (m= -1/\Ql s k d.toNat=none)\/(m≠ -1/\∃a t,(m,a)∈kas/\Ql s k d.toNat=some t/\TX C M A H a t):=by
 have x:((d.toNat:Nat):Int)=d:=by unfold jT at w;omega
 have g:∀v∈s.versions,v.school=k->∃q∈kas,q.1=(v.day:Int):=λv c f=>by have:=n.mem_iff.mpr (aQ.mpr ⟨v,cC.mpr ⟨c,by rw[f];exact beq_self_eq_true k⟩,rfl⟩);obtain⟨q,b,e⟩:=aQ.mp this;exact⟨q,b,e⟩
 have toV:∀q∈kas,∃v∈s.versions,v.school=k/\q.1=(v.day:Int):=λq b=>by have:=n.mem_iff.mp (aQ.mpr ⟨q,b,rfl⟩);obtain⟨v,c,e⟩:=aQ.mp this;obtain⟨i,h⟩:=cC.mp c;exact⟨v,i,eq_of_beq h,e.symm⟩
 rcases y with ⟨i,h⟩ | ⟨⟨q,b,e⟩,h,p⟩;.refine .inl ⟨i,akT ok.vers λv c f z=> ?_⟩;obtain⟨q,b,e⟩:=g v c f;exact h q b (by omega)
 .obtain⟨v,c,f,o⟩:=toV q b;refine .inr ⟨by omega,q.2,v.tree,by rw[<-e];exact b,akU ok.vers c f (by omega) (λu E j I=> ?_),B v c f q b o⟩;obtain⟨F,l,G⟩:=g u E j;have:=p F l (by omega);omega
theorem Nb {s:lY} {k:Nat} {a:List (Int×Addr)} (ok:SOk s) (b:(a.map (·.1)).Perm ((s.versions.filter λv=>v.school==k).map λv=>(v.day:Int))):a.length<=16:=by have:=b.length_eq;rw[aJ,aJ]at this;rw[this];exact cI (fG _ _) ok.vers.len
theorem aqS {s:lY} {k:Nat} {c:List (Int×Addr)} (ok:SOk s) (n:(c.map (·.1)).Perm ((s.versions.filter λv=>v.school==k).map λv=>(v.day:Int))):(c.map (·.1)).Nodup:=by
 rw[n.nodup_iff];have j:(s.versions.filter λv=>v.school==k).Pairwise λa b=>(a.day:Int)≠b.day:=by have o:(s.versions.filter λv=>v.school==k).Pairwise λa b=>jL a < jL b:=ok.vers.srt.sublist jf;refine abC (λ{a b} l m h e=> ?_) o;obtain⟨p,d⟩:=cC.mp l;obtain⟨q,f⟩:=cC.mp m;have g:=eq_of_beq d;have i:=eq_of_beq f;unfold jL at h;rw[g,i]at h;omega
 exact jZ.mpr j
variable (qY:Df P w K mg base "is_school" uD 1 (spB iM)) (Nf:Df P w K mg base "is_day" Dr 1 (spB jT)) (Ng:Df P w K mg base "latest_day" KH 1 (gU (Yu CS)))
inductive Nh (C CS CH:Addr) (vs:List V) (H:Hp) (v:V):Prop
 | mk L s n d A:vs=[.ref L.h,.int n,.int d]->HAt C CS CH A H L s->v= .int (af7 (ji s n d))->Nh C CS CH vs H v
include qY Nf Ng in
theorem aqT (F:Fun K "told_refusal" "told_refusal" Vt f fd) (c:mW K CS) (ch:p8 K CH) (l:Cs K mg):aY P w K mg base CX0 2 f fd DX (gU (Nh C CS CH)):=by
 refine F.ok ano (by walk_at "l") (λ_ A _ s H vs Q E x T=> ?_);obtain⟨v,⟨L,s,n,d,A0,e,h,B⟩,q⟩:=T;subst e;subst B;refine⟨_,(aF (aR (PW.pt (gW (cN (bV (aL qY x (ao (pv 1) aA)))) (jm (cN (PW.pt (gW (bF bU (pv 2) (aN l.WD)) (jm (bV (aL Nf x (ao (pv 2) aA)))))))))) (aD (aK (aN l.ju))) aV)
   (aF (aR (PW.pt (pO (bF jE (pv 2) (aN l.WD)) (pN (bF bU (aL Ng x (ao (cu (aO (pv 0) rfl) (pv 1) (bw x)) (ao (pv 2) aA))) (aN l.afc))))) (aD (aK (aN l.aos))) aV)
   (aD (aK (aN l.iQ))))),?_⟩
 refine' bD ?h1 (λg=> ?_) λg=> ?_
 case h1=>walk_at "p"
 .refine aU p_c ?_;rw[Yv (λz=> ?_)]at q;.exact q H Same.eO
  .rw[cF z.1]at g;rcases z.2 with y | y;.rw[cF y]at g;simp at g
   .rw[cF y]at g;simp at g
 have i:iM n/\(d= -1\/jT d):=by
  rw[tQ,n1f]at g;refine⟨g.1,?_⟩;have:=g.2;simp at this;by_cases y:d= -1;.exact .inl y
  .exact .inr (this y)
 rw[Yw i]at q;by_cases o:d= -1;.rw[aB o]at q;refine bD (uI (b:=false) (c:=false) (PT0.cast (bM (gn (aj rfl) p_c)) (by rw[cF o];rfl)) (λz=>by cases z)) (λz=>by cases z) λ_=> ?_;exact aU p_c (q H Same.eO)
 .rw[au o]at q;obtain⟨U,W,k3⟩:=Af i.1;obtain⟨⟨R,O,S,td⟩,_,p,B,pv,Z⟩:=h.sch n.toNat U W;obtain⟨m,G⟩:=af6 p d;have N:=i.2.resolve_left o;have I:=af8 h.ok pv N G Z;refine qR (afq (b:=true) (c:=decide (m= -1)) (PT0.up (PT0.cast (bM (gn (aj rfl) p_c)) (by rw[cY o];rfl))) λu j _=>W7 λQ1 X=> ?_) (λu j g=> ?_) λu j g=> ?_;.have h1:=h.same j;refine jM ((kJ (aq (Ae ch rfl (aj rfl) h1 i.1) (aq (aj rfl) aG)) ⟨L.sa n.toNat,R,O,L.er n.toNat,L.vd n.toNat,p,d,m,rfl,j _ _ S,j _ _ B,Nb h.ok pv,rfl,G⟩) _ λJ Y=>p_c _ (Em (X J Y)))
  .rw[rC,cH]at g;rcases I with ⟨_,e⟩ | ⟨y,_⟩;.rw[e]at q;exact aU p_c (q u j)
   .exact absurd g y
  .rw[rC,iu]at g;rcases I with ⟨y,_⟩ | ⟨_,a,t,_,e,_⟩;.exact absurd y g
   .rw[e]at q;exact aU p_c (q u j)
inductive Fq (C CS CH:Addr) (vs:List V) (H:Hp) (Q:VK) (E:XK):Prop
 | mk L s n d A t:vs=[.ref L.h,.int n,.int d]->HAt C CS CH A H L s->ji s n d= .ok t->(∀a H',Same H H'->TX C L.M A H' a t->Q (.ref a) H')->Fq C CS CH vs H Q E
include Ng in
theorem aqU (F:Fun K "told_tree" "told_tree" Vu f fd) (c:mW K CS) (ch:p8 K CH) (J:Cs K mg):aY P w K mg base CX0 2 f fd zG (Fq C CS CH):=by
 refine F.ok aeL (by walk_at "l") (λ_ A _ s H vs Q E p R=> ?_);obtain⟨L,s,n,d,Y,t,e,h,b,q⟩:=R;subst e;refine⟨_,(aF (bO (i:=3) aeL.nd (cu (aO (pv 0) rfl) (pv 1) (bw p)))
   (aF (aR (bF bU (pv 2) (aN J.WD)) (aD (aK (aO (pv 3) rfl))) aV)
   (aD (aK (cu (aO (pv 3) rfl) (aL Ng p (ao (pv 3) (ao (pv 2) aA))) (bw p)))))),?_⟩
 have g:=jk λz=>by rw[Yv z]at b;cases b
 rw[Yw g]at b;obtain⟨S,T,Z⟩:=Af g.1;obtain⟨⟨N,x,o,U⟩,_,j,y,pv,W⟩:=h.sch n.toNat S T;refine o_ (Ae ch rfl (aj rfl) h g.1) ?_;refine bD (bM (p_eq (aj rfl) p_c)) (λl=> ?_) λl=> ?_;.rw[aB (dz l)]at b;injection b with b;subst b;exact aU (M7 c (aj rfl) o) (q x H Same.eO U)
 .rw[au (iw l)]at b;have I:=g.2.resolve_left (iw l);obtain⟨m,B⟩:=af6 j d;rcases af8 h.ok pv I B W with ⟨_,e⟩ | ⟨_,a,u,O,e,X⟩;.rw[e]at b;cases b
  .rw[e]at b;injection b with b;subst b;refine bL (Ek ((Ad c (aj rfl) o) _ ((kJ (aq (aj rfl) (aq (aj rfl) aG)) ⟨L.sa n.toNat,N,x,L.er n.toNat,L.vd n.toNat,j,d,m,rfl,o,y,Nb h.ok pv,rfl,B⟩) _ λG v=> ?_)));exact⟨L.vd n.toNat,_,rfl,.inl ⟨_,bI m,.inl (v _ _ y),rfl,(zX (aqS h.ok pv) O).symm⟩,q a G v (X.same v)⟩
end
section
theorem Ni (h:ji s n d= .error e):e≠0:=by
 by_cases a:iM n/\(d= -1\/jT d)
 .rw[Yw a]at h;split at h;.cases h
  .split at h;.injection h with h;rw[<-h];decide
   .cases h
 .rw[Yv a]at h;injection h with h;rw[<-h];decide
def sY (s:lY) (n d b a:Int):Int:=match ji s n d with | .error e=>e | .ok _=>af7 (ji s b a)
variable (xK:Df P w K mg base "told_refusal" DX 2 (gU (Nh C CS CH))) (qZ:Df P w K mg base "told_tree" zG 2 (Fq C CS CH)) (uO:Df P w K mg base "replace_tree" zy 2 (zO C))
theorem aqV {σ:L2.St} {H:Hp} {D:Ends} {d e:TE} {f:Str} (h:e σ H λy g=>d σ g λx b=>∃a C c fs,x= .ref a/\b a=some (.ins C c fs)/\Cls K C/\eY K C f/\fs.length < 1000/\D.nx σ (upd b a (.ins C c (fj f y fs)))):Q0 K d e f D σ H:=h
inductive Nj (K:aW) (C CS CH:Addr) (vs:List V) (H:Hp) (v:V):Prop
 | mk L s tl n d n' d' A:vs=[.ref L.h,.ref tl]->SqL K H tl ([n,d,n',d'].map V.int)->HAt C CS CH A H L s->v= .int (sY s n d n' d')->Nj K C CS CH vs H v
theorem Ft {b:TE} {u:TS} {σ:L2.St} {H:Hp} {D:Ends} {j:Nat} {v:V} (h:PE1 b σ H v) (q:∀a,Same H a->u D (σ.set j (some v)) a):nu (Cg b (jC j)) u D σ H:=h _ q
include xK in
theorem aqW (F:Fun K "told_refusal_of_two" "told_refusal_of_two" Vv f fd) (y:Cs K mg):aY P w K mg base CX0 3 f fd DY (gU (Nj K C CS CH)):=by
 refine F.ok aeM (by walk_at "l") (λ_ A _ s H R Q E o I=> ?_);obtain⟨v,⟨L,s,O,n,d,p,m,l,e,G,h,B⟩,q⟩:=I;subst e;subst B;refine⟨_,(aF (bO (i:=2) aeM.nd (aL xK o (ao (pv 0) (ao (bB bH (pv 1) aM (λ_ _=>rfl)) (ao (bB bH (pv 1) aM (λ_ _=>rfl)) aA)))))
   (aF (aR (bF jE (pv 2) (aN y.iQ)) (aD (aK (pv 2))) aV)
   (aD (aK (aL xK o (ao (pv 0) (ao (bB bH (pv 1) aM (λ_ _=>rfl)) (ao (bB bH (pv 1) aM (λ_ _=>rfl)) aA)))))))),?_⟩
 have b:∀{c:Hp} {σ:L2.St} {j:Nat} {z:Int},Same H c->σ[1]? =some (some (.ref O))->([n,d,p,m]:List Int)[j]? =some z->PE0 (tOp (jG K) (bA 1) (tC (.int j))) σ c (.int z):=λ{c σ j z} a J e=>gC (aj J) p_c (a.seq G) (at_of rfl (by rw[dM,e];rfl));refine Ft (kJ (aq (aj rfl) (aq (b Same.eO rfl rfl) (aq (b Same.eO rfl rfl) aG))) ⟨L,s,n,d,l,rfl,h,rfl⟩) λu a=> ?_;unfold sY at q;cases g:ji s n d with
 | error e=>rw[g]at q;refine bD (bM (gn (aj rfl) p_c)) (λ_=>aU (aj rfl) (q u a)) λz=>absurd (n1f.mp z) (Ni g)
 | ok t=>rw[g]at q;refine bD (bM (gn (aj rfl) p_c)) (λz=>absurd rfl (n1t.mp z)) λ_=> ?_;exact bL ((kJ (aq (aj rfl) (aq (b a rfl rfl) (aq (b a rfl rfl) aG))) ⟨L,s,p,m,l,rfl,h.same a,rfl⟩) _ λx N=>q x (a.trans N))
inductive Yy (C CS CH:Addr) (vs:List V) (H:Hp) (Q:VK) (E:XK):Prop
 | mk L s a r p x T t n d:vs=[.ref L.h,.ref a,.int n,.int d]->(HAt C CS CH (λb=>b≠a) H L s)->TAt C H a r p x T t->EdQ C a r p x (jB s t (.fetch n d)) H Q->Yy C CS CH vs H Q E
theorem aqX (s:lY) (t:b_) (n d:Int):jB s t (.fetch n d)=match ji s n d with
  | .error n=> .error n
  | .ok r=>if r=t then .error (-6)else .ok r:=rfl
include xK qZ uO in
theorem aqY (F:Fun K "fetch_tree" "fetch_tree" Vw f fd) (v:Cs K mg):aY P w K mg base CX0 3 f fd KJ (Yy C CS CH):=by
 refine F.ok aeN (by walk_at "l") (λ_ A _ s H O Q E j B=> ?_);obtain⟨L,s,a,r,p,x,T,t,n,d,e,h,y,q⟩:=B;subst e;refine⟨_,(aF (bO (i:=4) aeN.nd (aL xK j (ao (pv 0) (ao (pv 2) (ao (pv 3) aA)))))
   (aF (aR (bF jE (pv 4) (aN v.iQ)) (aD (aK (pv 4))) aV)
   (aD (aK (aL uO j (ao (pv 1) (ao (aL qZ j (ao (pv 0) (ao (pv 2) (ao (pv 3) aA)))) aA))))))),?_⟩
 rw[aqX]at q;refine Ft (kJ (aq (aj rfl) (aq (aj rfl) (aq (aj rfl) aG))) ⟨L,s,n,d,_,rfl,h,rfl⟩) λo g=> ?_;cases c:ji s n d with
 | error e=>rw[c]at q;refine bD (bM (gn (aj rfl) p_c)) (λ_=>aU (aj rfl) (q.1 _ rfl o (Same.o4 g))) λz=>absurd (n1f.mp z) (Ni c)
 | ok u=>rw[c]at q;refine bD (bM (gn (aj rfl) p_c)) (λz=>absurd rfl (n1t.mp z)) λ_=> ?_;refine bL (bx (dj ((aj rfl) _ (dj (bx ((aq (aj rfl) (aq (aj rfl) (aq (aj rfl) aG))) _ ⟨L,s,n,d,_,u,rfl,h.same g,c,λb I l m=> ?_⟩))))));obtain⟨N,J,R,U,G⟩:=m.at_;exact MP (y.same (g.trans l)) G (lB m.1) (Same.o4 (g.trans l)) q
inductive Yz (K:aW) (C CS CH:Addr) (vs:List V) (H:Hp) (Q:VK) (E:XK):Prop
 | mk L s a r p x tl T t n d n' d':vs=[.ref L.h,.ref a,.ref tl]->SqL K H tl ([n,d,n',d'].map V.int)->(HAt C CS CH (λb=>b≠a) H L s)->TAt C H a r p x T t->EdQ C a r p x (jB s t (.agree n d n' d')) H Q->Yz K C CS CH vs H Q E
theorem aqZ (s:lY) (t:b_) (n d e c:Int):jB s t (.agree n d e c)=match ji s n d,ji s e c with
  | .ok a,.ok b=>let r:=abD a b;if r=t then .error (-6)else .ok r
  | .error n,_=> .error n
  | _,.error n=> .error n:=rfl
include qZ uO in
theorem aq0 (F:Fun K "agree_trees" "agree_trees" Vx f fd) (cs:Cs K mg) (YB:Df P w K mg base "told_refusal_of_two" DY 3 (gU (Nj K C CS CH))) (O:Df P w K mg base "agreed_tree" Ky 5 (Xp C)):aY P w K mg base CX0 6 f fd KN (Yz K C CS CH):=by
 refine F.ok aeO (by walk_at "l") (λ_ A _ s H vs Q E B hz=> ?_);obtain⟨L,s,a,r,p,x,tl,T,t,n,d,o,l,e,Z,h,Y,q⟩:=hz;subst e;refine⟨_,(aF (bO (i:=3) aeO.nd (aL YB B (ao (pv 0) (ao (pv 2) aA))))
   (aF (aR (bF jE (pv 3) (aN cs.iQ)) (aD (aK (pv 3))) aV)
   (aD (aK (aL uO B (ao (pv 1) (ao (aL O B (ao (aL qZ B (ao (pv 0) (ao (bB bH (pv 2) aM (λ_ _=>rfl)) (ao (bB bH (pv 2) aM (λ_ _=>rfl)) aA)))) (ao (aL qZ B (ao (pv 0) (ao (bB bH (pv 2) aM (λ_ _=>rfl)) (ao (bB bH (pv 2) aM (λ_ _=>rfl)) aA)))) aA))) aA))))))),?_⟩
 have J:∀{N:Hp} {σ:L2.St} {j:Nat} {z:Int},Same H N->σ[2]? =some (some (.ref tl))->([n,d,o,l]:List Int)[j]? =some z->PE0 (tOp (jG K) (bA 2) (tC (.int j))) σ N (.int z):=λ{N σ j z} v hσ e=>gC (aj hσ) p_c (v.seq Z) (at_of rfl (by rw[dM,e];rfl));rw[aqZ]at q;refine Ft (kJ (aq (aj rfl) (aq (aj rfl) aG)) ⟨L,s,tl,n,d,o,l,_,rfl,Z,h,rfl⟩) λX v=> ?_;cases m:ji s n d with
 | error e=>
  have y:sY s n d o l=e:=by unfold sY;rw[m]
  have q:EdQ C a r p x (.error e) H Q:=by rw[m]at q;cases h2:ji s o l <;> rw[h2]at q <;> exact q
  rw[y];refine bD (bM (gn (aj rfl) p_c)) (λ_=>aU (aj rfl) (q.1 _ rfl X (Same.o4 v))) λz=>absurd (n1f.mp z) (Ni m)
 | ok u=>
  cases c:ji s o l with
  | error e=>
   have y:sY s n d o l=e:=by unfold sY;rw[m,c];rfl
   rw[m,c]at q;rw[y];refine bD (bM (gn (aj rfl) p_c)) (λ_=>aU (aj rfl) (q.1 _ rfl X (Same.o4 v))) λz=>absurd (n1f.mp z) (Ni c)
  | ok u'=>
   have y:sY s n d o l=0:=by unfold sY;rw[m,c];rfl
   rw[m,c]at q;rw[y];refine bD (bM (gn (aj rfl) p_c)) (λz=>absurd rfl (n1t.mp z)) λ_=> ?_;refine bL (bx (dj ((aj rfl) _ (dj (bx (dj (bx ((aq (aj rfl) (aq (J v rfl rfl) (aq (J v rfl rfl) aG))) _ ⟨L,s,n,d,_,u,rfl,h.same v,m,λb H2 s2 tx=> ?_⟩))))))));have g:=v.trans s2;refine dj (bx ((aq (aj rfl) (aq (J g rfl rfl) (aq (J g rfl rfl) aG))) _ ⟨L,s,o,l,_,u',rfl,h.same g,c,λb' H3 s3 S=> ?_⟩));have G:=g.trans s3;obtain⟨r1,p1,x1,U,tu⟩:=(tx.same s3).at_;obtain⟨r2,p2,x2,U',R⟩:=S.at_;refine⟨b,r1,p1,x1,b',r2,p2,x2,U,U',u,u',rfl,tu,R,λe r3 p3 x3 W H4 s4 fe te=> ?_⟩;have I:=G.trans s4;obtain⟨dxa,ea⟩:=(Y.same G).own.ins;exact MP (Y.same I) te (aX ea fe) (Same.o4 I) q
inductive YC (C CS CH:Addr) (vs:List V) (H:Hp) (Q:VK) (E:XK):Prop
 | mk L s n A:vs=[.ref L.h,.int n]->HAt C CS CH A H L s->(∀H' s' c,jj s (.undo n)=(s',[c])->HAt C CS CH A H' L s'->qX L.M H H'->Q (.int c) H')->YC C CS CH vs H Q E
theorem Ah (n:Int):jh n 1 qt=decide (iM n):=by unfold jh qt iM;rw[<-lW];exact fH (by omega)
theorem aq2 (F:Fun K "undo_edit" "undo_edit" Vy f fd) (c:mW K CS) (ch:p8 K CH) (x:Cs K mg) (Z:Df P w K mg base "is_school" uD 1 (spB iM)):aY P w K mg base CX0 2 f fd KQ (YC C CS CH):=by
 refine F.ok aeP (by walk_at "l") (λ_ A _ s H vs Q E O U=> ?_);obtain⟨L,s,n,A0,e,h,q⟩:=U;subst e;refine⟨_,(aF (aR (cN (bV (aL Z O (ao (pv 1) aA)))) (aD (aK (aN x.ju))) aV)
   (aF (bO (i:=2) aeP.nd (cu (aO (pv 0) rfl) (pv 1) (bw O)))
   (aF (aR (bF bU (cB fK rfl x.len dF (ao (aO (pv 2) rfl) aA)) aM) (aD (aK (aN x.aot))) aV)
   (aF (jF (pv 2) (acI iD Bt P_ acL (aO (pv 2) rfl)) rfl)
   (aD (aK (aN x.iQ))))))),?_⟩
 have same:qX L.M H H:=λb o e _=>e;refine bD (gM (p_b (mQ (aq (aj rfl) aG)))) (λI=> ?_) λI=> ?_;.refine aU p_c (q H s _ ?_ h same);show(if jh n 1 qt=false then _ else _)=_;rw[Ah,aB (cY (n1t.mp I))]
 have J:=n1f.mp I;obtain⟨p,v,k3⟩:=Af J;obtain⟨⟨R,dr,G,td⟩,⟨d,B,le,N⟩,_⟩:=h.sch n.toNat p v;have st:jj s (.undo n)=match(iG s n.toNat).back with | []=>(s,[-8]) | t::l=>(G_ s n.toNat ⟨t,l⟩,[0]):=by show(if jh n 1 qt=false then _ else _)=_;rw[Ah,au (by rw[cF J];decide)];rfl
 rw[st]at q;have T:=h.ok.desk _ (ad4 h.ok ⟨p,v⟩).1;refine o_ (Ae (CS:=CS) ch rfl (aj rfl) h J) ?_;refine bD (bM (p_eq (f9 (K:=K) (aq (Fo c (aj rfl) G) aG) (SqL.of B)) p_c)) (λg=> ?_) λg=> ?_;.rw[aJ,lA,cH,le]at g;have:(iG s n.toNat).back=[]:=qm.mp (by omega);rw[this]at q;exact aU p_c (q H s _ rfl h same)
 .rw[aJ,lA,iu,le]at g;cases m:(iG s n.toNat).back with
  | nil=>rw[m]at g;exact absurd rfl g
  | cons t l=>
   rw[m]at q le N;cases d with
   | nil=>cases le
   | cons b d=>
    have tb:=N 0 b t rfl rfl;have W:=T.len;rw[m,bR]at W;have S:((b::d).reverse.map V.ref)=d.reverse.map V.ref++[V.ref b]:=by rw[vg,dw];rfl
    rw[S]at B;obtain⟨X,Y,m3⟩:=Lay.mem (L:=L) p v;have ap:=Lay.apart h.nd p v p v;refine aZ (aqV ((Fo c (aj rfl) G) _ ⟨.inl ⟨rfl,_,SqL.of B⟩,L.er n.toNat,_,_,rfl,rfl,B,by rw[cV,O1 (by simp)];simp;rfl,?_⟩));rw[aaU];refine(aj rfl) _ ⟨L.sa n.toNat,CS,R,_,rfl,by rw[aC ap.1.1];exact G,c.cl,c.nD,by show 3 < 1000;decide,?_⟩;rw[Yi];dsimp only;refine aU p_c ?_;refine q _ _ _ rfl (h.Ys p v G tb (by simpa using le) (λj a u z1 z2=>N (j+1) a u z1 z2) (by omega)) λz o e n=> ?_;rw[aC (show z≠L.sa _ from λy=>n (y▸X)),aC (show z≠L.er _ from λy=>n (y▸Y))];exact e
end
section
theorem aq3 (ok:SOk s):(s.versions.filter λv=>v.school==1).length+(s.versions.filter λv=>v.school==2).length+(s.versions.filter λv=>v.school==3).length=s.versions.length:=by
 have:∀a:List vC,(∀v∈a,1<=v.school/\v.school<=3)->(a.filter λv=>v.school==1).length+(a.filter λv=>v.school==2).length+(a.filter λv=>v.school==3).length=a.length:=by
  intro a
  induction a with
  | nil=>intro _;rfl
  | cons v a c=>
   intro h;have c:=c λu d=>h u (cO _ d);have b:=h v cU;have:v.school=1\/v.school=2\/v.school=3:=by omega
   simp only[pG,bR];rcases this with e | e | e <;> simp only[e] <;> simp <;> omega
 exact this s.versions λv b=>(ok.sch v b).1
inductive YD (C CS CH:Addr) (vs:List V) (H:Hp) (v:V):Prop
 | mk L s A:vs=[.ref L.h]->HAt C CS CH A H L s->v= .int (s.versions.length:Nat)->YD C CS CH vs H v
theorem aq4 (F:Fun K "count_versions" "count_versions" Vz f fd) (c:mW K CS) (ch:p8 K CH) (W:Cs K mg):aY P w K mg base CX0 1 f fd KR (gU (YD C CS CH)):=by
 refine F.ok VB (by walk_at "l") (λ_ A _ s H vs Q E hr hz=> ?_);obtain⟨v,⟨L,s,A0,e,h,g⟩,q⟩:=hz;subst e;subst g;refine'⟨_,(aD (aK (cB (aja rfl) rfl W.sum aoP (ao (vX (lE (own:=[("number",1)]) rfl VB.nd (mG (aO (pv 0) rfl)) (lF rfl) ?g1 ?t1 ?e1)) aA)))),?_⟩
 case g1=>exact λ_ _ _ _ _=>cQ (i:=1) VB.nd
 case t1=>exact λ_ _ _ _ _=>um
 case e1=>exact λ_ _ _ _ _=>(cB qG rfl W.len dF (ao (En K (cu (En K (pv 0)) (pv 1) (bw hr))) aA))
 obtain⟨B,G⟩:=h.ins;have p:L.h≠L.ds:=cJ G h.dk (by intro z;cases z);have vl:∀i,1<=i->i<=3->∃a,H (L.vd i)=some (.dK (dA a))/\a.length=(s.versions.filter λv=>v.school==i).length:=λi j l=>by obtain⟨a,g,pv,_⟩:=(h.sch i j l).ver;have:=pv.length_eq;rw[aJ,aJ]at this;exact⟨a,g,this⟩
 refine bL (iz (dj (wM h.dk gK λT=> ?_)));have I:upd H L.ds (.frz T (.dK (dA [(1,L.sa 1),(2,L.sa 2),(3,L.sa 3)]))) L.h=some (.ins CH B (fsH L.ds)):=by rw[aC p];exact G
 refine nH (qQ ((Yj ch (aj rfl) I) _ ⟨L.ds,T,rfl,.inl ⟨_,aH,λD N=> ?_⟩⟩));have o:=aX aH N;obtain⟨_,O⟩:=fC N;have R:∀{y:V},y∈(dA [(1,L.sa 1),(2,L.sa 2),(3,L.sa 3)]).map (λm=>kV m.1)->∃i:Nat,1<=i/\i<=3/\y= .int i/\((i:Int),L.sa i)∈([(1,L.sa 1),(2,L.sa 2),(3,L.sa 3)]:List (Int×Addr)):=λ{y} d=>by
  have d:y∈[V.int 1,V.int 2,V.int 3]:=d;simp only[cD,lV,or_false]at d;rcases d with rfl | rfl | rfl;.exact⟨1,by decide,by decide,rfl,by simp⟩
  .exact⟨2,by decide,by decide,rfl,by simp⟩
  .exact⟨3,by decide,by decide,rfl,by simp⟩
 let ψ:V->V:=λy=>match y with | .int n=> .int ((s.versions.filter λv=>v.school==n.toNat).length:Nat) | _=> .non
 refine oM (ys:=(dA [(1,L.sa 1),(2,L.sa 2),(3,L.sa 3)]).map λm=>kV m.1) (λ_=>true) ψ N (by show 3 < sizeLine;decide) (zK aH) (λy d t U Y q=>q) (λy d _ t U Y q=> ?_) ?_;.obtain⟨i,j,l,rfl,hm⟩:=R d;obtain⟨⟨dx,dr,J,_⟩,_⟩:=h.sch i j l;obtain⟨a,g,el⟩:=vl i j l;have X:=Lay.mem (L:=L) j l;have S:∀{b u},H b=some u->b≠L.ds->t b=some u:=λe n=>U _ _ (by rw[aC n];exact e);have x:Rd t L.ds (.dK (dA [(1,L.sa 1),(2,L.sa 2),(3,L.sa 3)])):= .inr ⟨T,U _ _ aH⟩;have g1:=qW (σ:=eZ (wipe (start aeQ [V.ref L.h]) [1]) 1 (some (.int (i:Nat)))) (Yj ch (aj (i:=0) rfl) (S G p)) (aj (i:=1) rfl) x (afZ L) hm;have ns:L.sa i≠L.ds:=λz=>h.nds (z▸X.1);have nv:L.vd i≠L.ds:=λz=>h.nds (z▸X.2.2);refine(aq (Ad c g1 (S J ns)) aG) _ ⟨L.vd i,_,rfl,S g nv,?_⟩;rw[zW,el];exact q
 .refine⟨by rw[aC o,aH],?_⟩;have Z:((((dA [(1,L.sa 1),(2,L.sa 2),(3,L.sa 3)]).map λm=>kV m.1).filter (λ_=>true)).map ψ)=([((s.versions.filter λv=>v.school==1).length:Int),((s.versions.filter λv=>v.school==2).length:Int),((s.versions.filter λv=>v.school==3).length:Int)]).map V.int:=rfl;rw[Z];refine⟨D,_,rfl,SqL.of (by rw[aC o.symm,aH]),?_⟩;have J:([((s.versions.filter λv=>v.school==1).length:Int),((s.versions.filter λv=>v.school==2).length:Int),((s.versions.filter λv=>v.school==3).length:Int)]).sum=(s.versions.length:Nat):=by have:=aq3 h.ok;simp only[lu,aaN];omega
  rw[J];refine q _ λb u e=> ?_;by_cases e1:b=L.ds;.subst e1;rw[aH,<-h.dk,e]
  .rw[aC e1,aC (aX e O),aC e1];exact e
inductive YF (C CS CH:Addr) (vs:List V) (H:Hp) (Q:VK) (E:XK):Prop
 | mk L s n d:vs=[.ref L.h,.int n,.int d]->(HAt C CS CH (λ_=>True) H L s)->(∀H' s' c,jj s (.publish n d)=(s',[c])->HAt C CS CH (λ_=>True) H' L s'->qX L.M H H'->Q (.int c) H')->YF C CS CH vs H Q E
theorem aq5 (c:PE0 td σ H (.ref d)) (f:PE0 ty σ H (.int k)) (g:Rd H d (.dK (dA kas))):PE0 (H_ ty td) σ H (.bl (decide (k∈kas.map (·.1)))):=λQ q=>
 f _ (c _ ⟨d,_,rfl,.inl ⟨_,bI k,g,rfl,rfl⟩,by
  rw[<-vQ];refine vb q ?_;rw[jA,cH,n6,aQ];constructor;.rintro⟨q,b,e⟩;exact⟨_,aQ.mpr ⟨q,b,rfl⟩,cF (by show(bI q.1:Key)=_;rw[e])⟩
  .rintro⟨h,a,e⟩;obtain⟨q,b,rfl⟩:=aQ.mp a;have:=dz e;injection this with this;exact⟨q,b,this⟩⟩)
theorem aq6 (F:Fun K "publish_draft" "publish_draft" VD f fd) (c:mW K CS) (ch:p8 K CH) (cs:Cs K mg) (qY:Df P w K mg base "is_school" uD 1 (spB iM)) (Nf:Df P w K mg base "is_day" Dr 1 (spB jT)) (aq7:Df P w K mg base "count_versions" KR 1 (gU (YD C CS CH))):aY P w K mg base CX0 2 f fd KY (YF C CS CH):=by
 refine F.ok aeR (by walk_at "l") (λ_ A _ s H vs Q E X hz=> ?_);obtain⟨L,s,n,d,e,h,q⟩:=hz;subst e;refine⟨_,(aF (aR (PW.pt (gW (cN (bV (aL qY X (ao (pv 1) aA)))) (jm (cN (bV (aL Nf X (ao (pv 2) aA))))))) (aD (aK (aN cs.ju))) aV)
   (aF (bO (i:=3) aeR.nd (cu (aO (pv 0) rfl) (pv 1) (bw X)))
   (aF (aR (gA (Cw (bw X) (pv 2) (aO (pv 3) rfl))) (aD (aK (aN cs.Mj))) aV)
   (aF (aR (bF Hv (aL aq7 X (ao (pv 0) aA)) (aN cs.aoy)) (aD (aK (aN cs.FULL))) aV)
   (aF (jQ (bw X) (aO (pv 3) rfl) (pv 2) (aO (pv 3) rfl) rfl)
   (aD (aK (aN cs.iQ)))))))),?_⟩
 have only:∀{H'},Same H H'->qX L.M H H':=λs b o e _=>s b o e;have st:jj s (.publish n d)=match abI s n d with | .error n=>(s,[n]) | .ok t=>(t,[0]):=rfl
 rw[st]at q;unfold abI at q;have hw:(jh n 1 qt&&jh d 0 Bw)=decide (iM n/\jT d):=by rw[Ah];unfold jh Bw jT;rw[<-lW,<-lW];exact fH (and_congr lZ (by omega))
 rw[hw]at q;refine bD (nJ (gM (p_b (mQ (aq (aj rfl) aG)))) λ_=>gM (p_b (mQ (aq (aj rfl) aG)))) (λhb=> ?_) λhb=> ?_;.rw[aB (cY (n2t.mp hb))]at q;exact aU p_c (q H s _ rfl h (only Same.eO))
 obtain⟨hs,hd⟩:=n2f.mp hb;rw[au (by rw[cF ⟨hs,hd⟩];decide)]at q;obtain⟨Y,Z,k3⟩:=Af hs;have d3:((d.toNat:Nat):Int)=d:=by unfold jT at hd;omega
 obtain⟨⟨dx,dr,es,td⟩,⟨refs,ee,le,te⟩,g,ev,pv,tv⟩:=h.sch n.toNat Y Z;have I:d∈g.map (·.1)↔(s.versions.any λv=>v.school==n.toNat&&v.day==d.toNat)=true:=by
  rw[pv.mem_iff,aQ,n6];constructor;.rintro⟨v,J,e⟩;obtain⟨h1,h2⟩:=cC.mp J;exact⟨v,h1,by rw[dY];exact⟨h2,beq_iff_eq.mpr (by omega)⟩⟩
  .rintro⟨v,J,e⟩;rw[dY]at e;exact⟨v,cC.mpr ⟨J,e.1⟩,by have:=eq_of_beq e.2;omega⟩
 refine o_ (Ae ch rfl (aj rfl) h hs) ?_;refine bD (p_b (aq5 (Ad c (aj rfl) es) (aj rfl) (.inl ev))) (λR=> ?_) λR=> ?_;.rw[aB (I.mp (dz R))]at q;exact aU p_c (q H s _ rfl h (only Same.eO))
 have B:=iw R;rw[au λz=>B (I.mpr z)]at q;refine qR (b:=decide ((16:Int)<=(s.versions.length:Nat))) (W7 λQ1 q1=>jM ((kJ (aq (aj rfl) aG) ⟨L,s,_,rfl,h,rfl⟩) _ λH1 l=>p_c _ ⟨_,_,rfl,rfl,q1 H1 l⟩)) (λH1 l T=> ?_) λH1 l T=> ?_;.rw[aB (by have:=dz T;show 16<=_;omega)]at q;exact aU p_c (q H1 s _ rfl (h.same l) (only l))
 have l16:s.versions.length < 16:=by have:=iw T;omega
 rw[au (by show ¬16<=_;omega)]at q;have h1:=h.same l;obtain⟨m1,m2,U⟩:=Lay.mem (L:=L) Y Z;have ap:=Lay.apart h.nd Y Z Y Z;refine aZ (wL ((M7 c (aj rfl) (l _ _ es)) _ ((Ad c (aj rfl) (l _ _ es)) _ ((aj rfl) _ ⟨L.vd n.toNat,_,rfl,rP.k (k:=bI d) (l _ _ ev) (by rw[zW];exact gD (Nb h.ok pv) (by decide)),?_⟩))));rw[HW _ (aft B)];have eA:dA g++[((bI d:Key),V.ref dr)]=dA (g++[(d,dr)]):=by unfold dA;rw[dw];rfl
 rw[eA];dsimp only;refine aU p_c ?_;have J:=akV h.ok.vers (v:=⟨n.toNat,d.toNat,(iG s n.toNat).draft⟩) (by show d.toNat<=1000000;unfold jT at hd;omega) (λu hu z=>B (I.mpr (n6.mpr ⟨u,hu,by rw[dY];exact⟨beq_iff_eq.mpr z.1,beq_iff_eq.mpr z.2⟩⟩))) l16;refine q _ _ _ rfl ?_ λb o e n=>by rw[aC (show b≠L.vd _ from λy=>n (y▸U))];exact l _ _ e
 have u1:∀dx r p x,H1 (L.vd n.toNat)≠some (.ins C dx (fsT r p x)):=λ_ _ _ _ z=>by rw[l _ _ ev]at z;cases z
 have N:(oh (λv=>v.school * (Bw+1)+v.day) ⟨n.toNat,d.toNat,(iG s n.toNat).draft⟩ s.versions).Perm (⟨n.toNat,d.toNat,(iG s n.toNat).draft⟩::s.versions):=wg _ _ _;obtain⟨dxh,eh⟩:=h1.ins;have nh:L.h≠L.vd n.toNat:=cJ eh (l _ _ ev) (by intro z;cases z);have nd:L.ds≠L.vd n.toNat:=λz=>h.nds (z▸U);refine⟨⟨h.ok.len,h.ok.desk,J.1,λv m=> ?_⟩,h.nd,⟨dxh,by rw[aC nh];exact eh⟩,by rw[aC nd];exact h1.dk,h.nds,λi i1 i2=> ?_⟩
 .rcases(J.2 v).mp m with z | z;.rw[z];exact⟨⟨Y,Z⟩,td.wf⟩
  .exact h.ok.sch v z
 .have S:=h1.sch i i1 i2;show SAt C CS L.M _ _ (L.sa i) (L.er i) (L.vd i) (iG s i) i _;by_cases G:i=n.toNat
  .subst G;obtain⟨⟨dx',dr',es',td'⟩,⟨W,ee',le',te'⟩,_⟩:=S;refine⟨⟨dx',dr',by rw[aC ap.1.2.1];exact es',td'.upd U u1⟩,⟨W,by rw[aC ap.1.2.2];exact ee',le',λj a t z1 z2=>(te' j a t z1 z2).upd U u1⟩,g++[(d,dr)],aH,?_,λv m hk q hq e=> ?_⟩;.have p1:=(N.filter λv=>v.school==n.toNat).map λv:vC=>(v.day:Int);rw[xX (by exact beq_self_eq_true _),bT]at p1;refine ah0 ?_ p1.symm;rw[dw];show(g.map (·.1)++[d]).Perm (((d.toNat:Nat):Int)::_);rw[d3];exact List.perm_append_comm.trans (pv.cons d)
   .rcases(J.2 v).mp m with z | z
    .subst z;rcases dO.mp hq with y | y;.exact absurd (aQ.mpr ⟨q,y,by rw[e];exact d3⟩) B
     .rw[dX.mp y];exact(td.same l).upd U u1
    .rcases dO.mp hq with y | y;.exact((tv v z hk q y e).same l).upd U u1
     .rw[dX.mp y]at e;have:d∈g.map (·.1):=I.mpr (n6.mpr ⟨v,z,by rw[dY];exact⟨beq_iff_eq.mpr hk,beq_iff_eq.mpr (by have e:d=(v.day:Int):=e;omega)⟩⟩);exact absurd this B
  .have O:=Lay.apart h.nd i1 i2 Y Z;obtain⟨a1,a2,aq8,ev',pv',tv'⟩:=S.upd U u1 O.1.2.1 O.1.2.2 (O.2 G).2.2 (u:= .dK (dA (g++[(d,dr)])));refine⟨a1,a2,aq8,ev',?_,λv m hk q hq e=> ?_⟩;.have p1:=(N.filter λv=>v.school==i).map λv:vC=>(v.day:Int);rw[xY (by show ¬(n.toNat==i)=true;rw[beq_iff_eq];exact λz=>G z.symm)]at p1;exact pv'.trans p1.symm
   .rcases(J.2 v).mp m with z | z;.subst z;exact absurd hk.symm G
    .exact tv' v z hk q hq e
def jd (ns:List Int) (H:Hp) (Q:VK):Prop:=∀l a,Same H a->H l=none->a l=some (.lst (ns.map V.int))->ns.length<=5000->Q (.ref l) a
inductive YG (C CS CH:Addr) (vs:List V) (H:Hp) (Q:VK) (E:XK):Prop
 | mk L s n A:vs=[.ref L.h,.int n]->HAt C CS CH A H L s->jd (yt s (.versions n)) H Q->YG C CS CH vs H Q E
theorem aq9 (F:Fun K "list_versions" "list_versions" VF f fd) (c:mW K CS) (ch:p8 K CH) (z:Cs K mg) (qY:Df P w K mg base "is_school" uD 1 (spB iM)):aY P w K mg base CX0 2 f fd KZ (YG C CS CH):=by
 refine F.ok aeS (by walk_at "l") (λ_ A _ s H vs Q E J Z=> ?_);obtain⟨L,s,n,A0,e,h,q⟩:=Z;subst e;refine⟨_,(aF (aR (cN (bV (aL qY J (ao (pv 1) aA)))) (aD (aK (cT (ao (aN z.ju) aA)))) aV)
   (aF (bO (i:=2) aeS.nd (cB (rR rfl) rfl z.sorted o7 (ao (aO (cu (aO (pv 0) rfl) (pv 1) (bw J)) rfl) aA)))
   (aD (aK (jD Cq (cT (ao (cB fK rfl z.len dF (ao (pv 2) aA)) aA)) (pv 2)))))),?_⟩
 have q:jd (if jh n 1 qt=false then [-1]else tV ((s.versions.filter λv=>v.school==n.toNat).map λv=>v.day)) H Q:=q;rw[Ah]at q;refine bD (gM (p_b (mQ (aq (aj rfl) aG)))) (λj=> ?_) λj=> ?_;.rw[aB (cY (n1t.mp j))]at q;exact bL (lO (aq p_c aG) (by show 1<=sizeLine;decide) λl u=>q l _ (Same.upd u) u aH (by decide))
 have p:=n1f.mp j;rw[au (by rw[cF p];decide)]at q;obtain⟨k1,k2,k3⟩:=Af p;obtain⟨⟨dx,dr,W,td⟩,_,t,X,pv,tv⟩:=h.sch n.toNat k1 k2;have lk:=Nb h.ok pv;refine aZ (d9 (iz ((aq (Ad c (Ae ch rfl (aj rfl) h p) W) aG) _ ⟨L.vd n.toNat,_,t.map (·.1),rfl,.inl X,Xi t,λd l I x u=> ?_⟩)));have g:d=(s.versions.filter λv=>v.school==n.toNat).map λv=>(v.day:Int):=by refine oX (I.trans pv) x ?_;have p:(s.versions.filter λv=>v.school==n.toNat).Pairwise λa b=>jL a < jL b:=h.ok.vers.srt.sublist jf;refine jZ.mpr (abC (λ{a b} Y j h=> ?_) p);obtain⟨a1,R⟩:=cC.mp Y;obtain⟨b1,S⟩:=cC.mp j;have T:=eq_of_beq R;have U:=eq_of_beq S;unfold jL at h;rw[T,U]at h;omega
 have lns:d.length<=16:=by rw[I.length_eq,aJ];exact lk
 dsimp only;refine bL (jM (lO (aq (f9 (aq (aj rfl) aG) (SqL.of aH)) aG) (by show 1<=sizeLine;decide) λN m=>(aj rfl) _ ?_));obtain⟨B,G⟩:=fC m;refine⟨N,l,_,_,rfl,rfl,aH,by rw[aC B.symm,aH],by rw[aJ,bR,jY];exact cI (show 1+d.length<=17 by omega) (by decide),λl3 o=> ?_⟩;have s1:Same H (upd H l (.lst (d.map V.int))):=Same.upd u;have O:Same H (upd (upd H l (.lst (d.map V.int))) N (.lst [.int (d.map V.int).length])):=s1.trans (Same.upd m);have y:=O.free o;refine q l3 _ (O.trans (Same.upd o)) y ?_ ?_;.rw[aH,g];unfold tV Vbnlah.ints;rw[bC,bT,bC,aJ,aJ,bT,bC];rfl
 .unfold tV Vbnlah.ints;rw[aJ,bR,aJ];have:=congrArg iR g;rw[aJ]at this;omega
end
theorem af9 (l:List Nat):tV l=(l.length:Int)::zs l:=rfl
section
variable {C:Addr} {H:Hp} {a r p x:Addr} {T:cG} {t:b_}
theorem af_ (w:WF t) (g:Int):(Bx g=false\/(tX t g.toNat).isNone=true)↔ak (gR t) g=none:=by
 constructor
 .intro h;cases e:ak (gR t) g with
  | none=>rfl
  | some v=>
   have a:=(w.key g v e).1;rcases h with z | z;.rw[g_,iu]at z;exact absurd a z
   .rw[oW (by omega),e]at z;cases z
 .intro h;by_cases a:isKey g;.exact .inr (by rw[oW a.nn,h];rfl)
  .exact .inl (by rw[g_];exact cY a)
theorem Nk (w:WF t) (y:Int):(Bx y=false\/m9 t y.toNat=0)↔ak (gX t) y=none:=by
 constructor
 .intro h;cases e:ak (gX t) y with
  | none=>rfl
  | some v=>
   have a:=(w.spc y v e).1;rcases h with z | z;.rw[g_,iu]at z;exact absurd a z
   .rw[ux w (by omega),e]at z;cases z
 .intro h;by_cases a:isKey y;.exact .inr ((ux w a.nn).mpr h)
  .exact .inl (by rw[g_];exact cY a)
theorem arb (w:WF t) (e:ak (gX t) y=some h):((m9 t y.toNat:Nat):Int)=h:=by have:=(w.spc y h e).1.1;rw[C_ (by omega),e];rfl
theorem Fv (w:WF t) (e:ak (gX t) y=some h):zs (vD t (m9 t y.toNat))=upI t h:=by unfold upI;rw[<-arb w e,jg]
end
section
variable {σ:L2.St} {H:Hp} {D:Ends} {K:aW} {i:Nat}
theorem aga (c:σ[i]? =some (some (.ref l))) (h:H l=some (.lst (ns.map V.int))) (g:ns.length<=4000) (q:jd ((ns.length:Int)::ns) H Q):
  tOp acN (ug (gw (tCB (λxs H Q=>∃p ys,xs=[V.ref p]/\(SqL K H p ys\/SqT K H p ys)/\Q (.int ys.length) H) (gw (bA i) fW)) fW)) (bA i) σ H Q:=by
 refine jM (lO (aq (f9 (aq (aj c) aG) (SqL.of h)) aG) (by show 1<=sizeLine;decide) λd a=>(aj c) _ ?_);have n:=aX h a;refine⟨d,l,_,_,rfl,rfl,aH,by rw[aC n];exact h,by rw[aJ,bR,jY];exact cI (show 1+ns.length<=4001 by omega) (by decide),λf b=> ?_⟩;have e:Same H (upd H d (.lst [.int (ns.map V.int).length])):=Same.upd a;refine q f _ (e.trans (Same.upd b)) (e.free b) ?_ (by rw[bR];omega);rw[aH,aJ];rfl
theorem jO (h:PE0 te σ H (.int n)) (q:jd [n] H Q):ug (gw te fW) σ H Q:=lO (aq h aG) (by show 1<=sizeLine;decide) λl a=>q l _ (Same.upd a) a aH (by show 1<=5000;decide)
theorem jd.same (q:jd ns H Q) (s:Same H H'):jd ns H' Q:=λl b d c e a=>q l b (s.trans d) (s.free c) e a
theorem Fw (d:PE0 to σ H (.ref l)) (c:H l=some (.lst xs)) (g:xs.length+ys.length<=100000)
  (f:∀Q:VK,(∀b a,Same H a->a b=some (.lst ys)->Q (.ref b) a)->te σ H Q) (q:∀a,Same H a->D.nx σ (upd a l (.lst (xs++ys)))):pP (tBM K "list" Q6 to (gw te fW)) D σ H:=
 d _ ⟨.inl ⟨rfl,_,SqL.of c⟩,f _ λb a s e=>⟨l,b,_,_,rfl,rfl,s _ _ c,e,cI g (by decide),q a s⟩⟩
theorem YH (h:PA0 ta σ H vs) (l:vs.length<=100):∀Q:VK,(∀b a,Same H a->a b=some (.lst vs)->Q (.ref b) a)->ug ta σ H Q:=λQ q=>lO h (cI l (by decide)) λp c=>q p _ (Same.upd c) aH
theorem agb (h:PE0 te σ H (.ref b)) (e:H b=some (.lst vs)):∀Q:VK,(∀b a,Same H a->a b=some (.lst vs)->Q (.ref b) a)->te σ H Q:=λQ q=>h _ (q b H Same.eO e)
end
theorem But.kO (b:But a H H') (s:Same H0 H) (n:H0 a=none):Same H0 H':=λc o e=>b c o (s c o e) (aX e n)
section
def YJ (t:b_) (g:Int):List Int:=if Bx g=false\/(tX t g.toNat).isNone=true then [-4]else tV (iU t g.toNat)
inductive YK (C:Addr) (vs:List V) (H:Hp) (Q:VK) (E:XK):Prop
 | mk a r p x T t g:vs=[.ref a,.int g]->TAt C H a r p x T t->jd (YJ t g) H Q->YK C vs H Q E
theorem Ai {T:cG} {t:b_} {H:Hp} {a r p x:Addr} (h:TAt C H a r p x T t) {b:List (Int×Addr)} (d:b.map (·.1)=T.R.map (·.1)) {k v:Int} (e:ak (gR t) k=some v):∃c,(k,c)∈b:=by
 have:k∈b.map (·.1):=by rw[d];exact aQ.mpr ⟨(k,v),(bY h.nR).mpr (by rw[h.gr];exact e),rfl⟩
 obtain⟨⟨g,c⟩,f,rfl⟩:=aQ.mp this;exact⟨c,f⟩
theorem ard (F:Fun K "list_held" "list_held" VP f fd) (c:cA K mg C) (l:Cs K mg) (L:Df P w K mg base "held_specimens" qP 2 (sU C)):aY P w K mg base CX0 3 f fd K7 (YK C):=by
 refine F.ok aeV (by walk_at "l") (λ_ A _ s H S Q E j I=> ?_);obtain⟨a,r,p,x,T,t,g,e,h,q⟩:=I;subst e;refine⟨_,(aF (aR (gA (g8 (bw j) (pv 1) (aO (pv 0) rfl))) (aD (aK (cT (ao (aN l.kE) aA)))) aV)
   (aF (bO (i:=2) aeV.nd (cu (aL L j (ao (pv 0) aA)) (pv 1) (bw j)))
   (aD (aK (jD Cq (cT (ao (cB fK rfl l.len dF (ao (pv 2) aA)) aA)) (pv 2)))))),?_⟩
 unfold YJ at q;refine bD (p_b (wO rfl h.own.rd c (aj rfl))) (λb=> ?_) λb=> ?_;.rw[h.gr]at b;rw[aB ((af_ h.wf g).mpr (isN.mp b))]at q;exact bL (jO p_c q)
 rw[h.gr]at b;have b:=isS.mp b;rw[au λz=>b ((af_ h.wf g).mp z)]at q;obtain⟨v,G⟩:=none_or.resolve_left b;refine aZ (d9 (Ek (bx ((aq (aj rfl) aG) _ ⟨a,r,p,x,T,t,rfl,h,λd J O N o u y m B=>(aj rfl) _ ?_⟩))));obtain⟨R,n⟩:=Ai h B G;refine⟨d,_,rfl,.inl ⟨_,bI g,.inl y,rfl,(zX m.ndk n).symm⟩,?_⟩;refine bL (aga rfl (m.at_ _ n) (cI (zj h.wf g) (by decide)) ?_);have:tV (iU t g.toNat)=((bK t g).length:Int)::bK t g:=by rw[af9];unfold bK;rw[mV]
 rw[this]at q;exact q.same N
inductive Nm (C:Addr) (vs:List V) (H:Hp) (Q:VK) (E:XK):Prop
 | mk a r p x T t y h:vs=[.ref a,.int y]->TAt C H a r p x T t->ak (gX t) y=some h->(∀l H',Same H H'->H l=none->H' l=some (.lst ((upI t h).reverse.map V.int))->Q (.ref l) H')->Nm C vs H Q E
theorem arf (F:Fun K "holders_of" "holders_of" VR f fd) (c:cA K mg C) (i:Cs K mg) (B:Df P w K mg base "groups_from" uE 1 (wY C)):aY P w K mg base CX0 2 f fd Ea (Nm C):=by refine F.ok anD (by walk_at "l") (λ_ A _ s H G Q E m u=> ?_);obtain⟨a,r,p,x,T,t,y,g,e,h,j,q⟩:=u;subst e;refine⟨_,(aD (aK (alu i.list i.reversed (aL B m (ao (pv 0) (ao (cu (aO (pv 0) rfl) (pv 1) (bw m)) aA)))))),?_⟩;obtain⟨_,z,d⟩:=h.wf.spc y g j;refine bL (bx ((aq (aj rfl) (aq (sG rfl h.own.rd c (aj rfl) (by rw[h.gx];exact j)) aG)) _ ⟨a,r,p,x,T,t,g,rfl,h.r,.inr ⟨z,d⟩,λl o=> ?_⟩));have n:Same H (upd H l (.lst ((upI t g).map V.int))):=Same.upd o;exact⟨l,_,rfl,SqL.of aH,λv b=>q v _ (n.trans (Same.upd b)) (n.free b) (by rw[aH,Pu])⟩
def YL (t:b_) (y:Int):List Int:=if Bx y=false\/m9 t y.toNat=0 then [-4]else Vbnlah.ints ((qu t y.toNat).length::(qu t y.toNat).flatMap λg=>[g,Hf t g])
inductive YM (C:Addr) (vs:List V) (H:Hp) (Q:VK) (E:XK):Prop
 | mk a r p x T t y:vs=[.ref a,.int y]->TAt C H a r p x T t->jd (YL t y) H Q->YM C vs H Q E
def Aj (t:b_) (l:List Int):List Int:=l.flatMap λg=>[g,(ak (gR t) g).getD 0]
theorem agc (t:b_) (l:List Int):(Aj t l).length=2 * l.length:=by
 unfold Aj
 induction l with
 | nil=>rfl
 | cons a l b=>simp only[GK,cV,bR,jY]at b ⊢;omega
theorem arh (F:Fun K "list_path" "list_path" V0 f fd) (c:cA K mg C) (Z:Cs K mg) (YQ:Df P w K mg base "holders_of" Ea 2 (Nm C)):aY P w K mg base CX0 3 f fd K8 (YM C):=by
 refine F.ok K9 (by walk_at "l") (λ_ A _ s H vs Q E W hz=> ?_);obtain⟨a,r,p,x,T,t,y,e,h,q⟩:=hz;subst e;refine⟨_,(aF (aR (gA (g8 (bw W) (pv 1) (aO (pv 0) rfl))) (aD (aK (cT (ao (aN Z.kE) aA)))) aV)
   (aF (bO (i:=2) K9.nd (aL YQ W (ao (pv 0) (ao (pv 1) aA))))
   (aF (bO (i:=3) K9.nd (cT (ao (cB fK rfl Z.len dF (ao (pv 2) aA)) aA)))
   (aF (d7 dG rfl (eV (pv 2)) (cQ (i:=4) K9.nd) (aD (eE (jo iD vp yg yL (pv 3) (ao (cT (ao (pv 4) (ao (cu (aO (pv 0) rfl) (pv 4) (bw W)) aA))) aA)))))
   (aD (aK (pv 3))))))),?_⟩
 unfold YL at q;refine bD (p_b (wQ rfl h.own.rd c (aj rfl))) (λj=> ?_) λj=> ?_;.rw[h.gx]at j;rw[aB ((Nk h.wf y).mpr (isN.mp j))]at q;exact bL (jO p_c q)
 rw[h.gx]at j;have j:=isS.mp j;rw[au λz=>j ((Nk h.wf y).mp z)]at q;obtain⟨d,u⟩:=none_or.resolve_left j;obtain⟨_,rk,J⟩:=h.wf.spc y d u;have l8:=ad_ h.wf J;have ea:Vbnlah.ints ((qu t y.toNat).length::(qu t y.toNat).flatMap λg=>[g,Hf t g])=((upI t d).length:Int)::Aj t (upI t d).reverse:=by
  have e1:zs (qu t y.toNat)=(upI t d).reverse:=by unfold qu;rw[<-Fv h.wf u];unfold zs;rw[Pu]
  show((qu t y.toNat).length:Int)::zs ((qu t y.toNat).flatMap λg=>[g,Hf t g])=_
  congr 1
  .rw[<-mV,e1,lA]
  .rw[<-e1];unfold Aj zs;rw[tM,Bk]
   congr 1
   funext g;show [(g:Int),(Hf t g:Int)]=[(g:Int),(ak (gR t) (g:Int)).getD 0];have:=nA (t:=t) (k:=(g:Int)) (by omega);rw[jg]at this;rw[this]
 rw[ea]at q;refine aZ (d9 (bx ((aq (aj rfl) (aq (aj rfl) aG)) _ ⟨a,r,p,x,T,t,y,d,rfl,h,u,λl R Y hl S=> ?_⟩)));dsimp only;refine aZ (d9 (lO (aq (f9 (aq (aj rfl) aG) (SqL.of S)) aG) (by show 1<=sizeLine;decide) λI G=> ?_));have s2:Same R (upd R I (.lst [.int ((upI t d).reverse.map V.int).length])):=Same.upd G;have X:l≠I:=aX S G;have B:H I=none:=Y.free G;dsimp only;refine aZ (gQ ((aj rfl) _ ⟨l,rfl,?_⟩));refine jN (xs:=(upI t d).reverse.map V.int) (λi m=>m I=some (.lst ((((upI t d).length:Int)::Aj t ((upI t d).reverse.take i)).map V.int))/\But I R m) ⟨by rw[aH,aJ,lA];rfl,λb o e n=>by rw[aC n];exact e⟩ (λi m z=>SqL.of (z.2 _ _ S X)) ⟨none,rfl⟩ ?_ ?_
 .rintro i g m hi ⟨O,L⟩ N nx;obtain⟨g,hg,rfl⟩:=get_map hi;have U:g∈upI t d:=aaY.mp (gq hg);obtain⟨v,hv⟩:=zc h.wf J U;have s3:Same H m:=L.kO Y B;have h3:=h.same s3;have lt:((upI t d).reverse.take i).length<=8:=by rw[fD,lA];omega
  have lp:=agc t ((upI t d).reverse.take i);refine Fw (aj rfl) O (ys:=[V.int g,V.int v]) (by rw[aJ,bR];show _+2<=_;omega) (YH (aq (aj rfl) (aq (mO rfl h3.own.rd c (aj rfl) (by rw[h.gr];exact hv)) aG)) (by show 2<=100;decide)) λH4 s4=>nx _ ⟨?_,λb o e n=>by rw[aC n];exact s4 _ _ (L b o e n)⟩;rw[aH,i_ hg];unfold Aj;rw[Bh];have:([g]:List Int).flatMap (λg=>[g,(ak (gR t) g).getD 0])=[g,v]:=by show [g,(ak (gR t) g).getD 0]++[]=_;rw[hv];rfl
  rw[this,bT,bT,dw];rfl
 .rintro v m ⟨O,L⟩;rw[aJ,fM]at O;dsimp only;refine aU (aj rfl) (q I m (L.kO Y B) B O ?_);rw[bR,agc,lA];omega
end
theorem Np (w:WF t) (a:0<=k) (e:ak (gX t) y=some h):y∈bK t k↔k∈upI t h:=by
 rw[<-aea w a,cC];have:pR t k y=decide (k∈upI t h):=by unfold pR;rw[e];rfl
 rw[this,cH];exact⟨λz=>z.2,λz=>⟨(Dn w.toSrt).mpr ⟨h,e⟩,z⟩⟩
theorem agd (l:List Nat) (φ:Nat->Bool) (ψ:Int->Bool) (h:∀n∈l,φ n=ψ (n:Int)):(((l.find? φ).getD 0:Nat):Int)=((zs l).find? ψ).getD 0:=by
 unfold zs
 induction l with
 | nil=>rfl
 | cons a l b=>
  have b:=b λn d=>h n (cO _ d);have c:=h a cU;rw[bT,kZ,kZ,c];cases ψ (a:Int)with
  | true=>rfl
  | false=>exact b
section
theorem YS {H:Hp} {σ:L2.St} {D:Ends} {j:Nat} {l:TS} {a:Addr} {ks:List Int} (φ:Int->Bool) (o:SqL K H a (ks.map V.int)) (m:∃v,σ=σ.set j v)
  (turn:∀k∈ks,∀N:L2.St->Hp->Prop,(φ k=true->ks.find? φ=some k->l {D with nx:=N,ct:=N,bk:=D.nx} (σ.set j (some (.int k))) H)/\(φ k=false->N (σ.set j (some (.int k))) H->l {D with nx:=N,ct:=N,bk:=D.nx} (σ.set j (some (.int k))) H))
  (fin:∀v,ks.find? φ=none->D.nx (σ.set j v) H):LoopAt K a (jC j) l D σ H:=by
 refine jN (λi f=>f=H/\∀k∈ks.take i,φ k=false) ⟨rfl,by simp⟩ (λi f h=>by rw[h.1];exact o) m ?_ ?_
 .rintro i y f n ⟨rfl,d⟩ N nx;obtain⟨k,b,rfl⟩:=get_map n;obtain⟨p,q⟩:=turn k (gq b) N;cases e:φ k with
  | true=>
   refine p e ?_;have:ks=ks.take i++k::ks.drop (i+1):=by have g:=(jX.mp b).1;rw[<-(jX.mp b).2,<-aaQ g,Pn]
   rw[this,List.find?_append,aaZ.mpr (λz c=>by rw[d z c];decide),Option.none_or,kZ,e]
  | false=>
   refine q e (nx _ ⟨rfl,λz c=> ?_⟩);rw[i_ b]at c;rcases dO.mp c with y | y;.exact d z y
   .rw[dX.mp y];exact e
 .rintro v f ⟨rfl,d⟩;rw[aJ,fM]at d;exact fin v (aaZ.mpr λz c=>by rw[d z c];decide)
def YT (t:b_) (f x:Int):List Int:=if jh f 1 3=false then [-1]else if Bx x=false\/m9 t x.toNat=0 then [-4]else Vbnlah.ints [Hg t f.toNat x.toNat]
inductive YW (C:Addr) (vs:List V) (H:Hp) (Q:VK) (E:XK):Prop
 | mk a r p x T t fm y:vs=[.ref a,.int fm,.int y]->TAt C H a r p x T t->jd (YT t fm y) H Q->YW C vs H Q E
def Ak (v:Int):Int:=if v<=4 then 1 else if v<=6 then 2 else 3
theorem ari (n:Int):jh n 1 3=decide (wU n):=by unfold jh wU;rw[<-lW];exact fH (by omega)
theorem arj (h:iy v):atI (([1,1,1,1,2,2,3,3]:List Int).map V.int) (v-1)=some (.int (Ak v)):=by
 have:v=1\/v=2\/v=3\/v=4\/v=5\/v=6\/v=7\/v=8:=by unfold iy at h;omega
 rcases this with rfl | rfl | rfl | rfl | rfl | rfl | rfl | rfl <;> rfl
theorem YX (h:TC K mg x ns) (a:PE0 tb σ H (.int i)) (b:atI (ns.map V.int) i=some (.int v)):PE0 (tOp (uh K) (tC (.ref h.choose)) tb) σ H (.int v):=λQ q=>a _ ⟨_,_,i,_,rfl,rfl,h.choose_spec.2 H,b,q⟩
theorem ark (F:Fun K "find_topmost" "find_topmost" V4 f fd) (c:cA K mg C) (m:Cs K mg) (I:Df P w K mg base "is_family" JB 1 (spB wU)) (U:Df P w K mg base "holders_of" Ea 2 (Nm C)):aY P w K mg base CX0 3 f fd Lb (YW C):=by
 refine F.ok aeZ (by walk_at "l") (λ_ A _ s H vs Q E G hz=> ?_);obtain⟨a,r,p,x,T,t,g,y,e,h,q⟩:=hz;subst e;refine⟨_,(aF (aR (cN (bV (aL I G (ao (pv 1) aA)))) (aD (aK (cT (ao (aN m.ju) aA)))) aV)
   (aF (aR (gA (g8 (bw G) (pv 2) (aO (pv 0) rfl))) (aD (aK (cT (ao (aN m.kE) aA)))) aV)
   (aF (d7 dG rfl (eV (aL U G (ao (pv 0) (ao (pv 2) aA)))) (cQ (i:=3) aeZ.nd) (aD (aR (bF bU (bB rN (WX m.WQ) (jD QM (cu (aO (pv 0) rfl) (pv 3) (bw G)) aM) (λ_ _=>rfl)) (pv 1)) (aD (aK (cT (ao (pv 3) aA)))) aV)))
   (aD (aK (cT (ao aM aA))))))),?_⟩
 unfold YT at q;rw[ari]at q;refine bD (gM (p_b (mQ (aq (aj rfl) aG)))) (λb=> ?_) λb=> ?_;.rw[aB (cY (n1t.mp b))]at q;exact bL (jO p_c q)
 have B:=n1f.mp b;rw[au (by rw[cF B];decide)]at q;refine bD (p_b (wQ rfl h.own.rd c (aj rfl))) (λb=> ?_) λb=> ?_;.rw[h.gx]at b;rw[aB ((Nk h.wf y).mpr (isN.mp b))]at q;exact bL (jO p_c q)
 rw[h.gx]at b;have b:=isS.mp b;rw[au λz=>b ((Nk h.wf y).mp z)]at q;obtain⟨o,d⟩:=none_or.resolve_left b;obtain⟨_,rk,J⟩:=h.wf.spc y o d;have W:zs (qu t y.toNat)=(upI t o).reverse:=by unfold qu;rw[<-Fv h.wf d];unfold zs;rw[Pu]
 have X:Vbnlah.ints [Hg t g.toNat y.toNat]=[((upI t o).reverse.find? λk=>decide (Ak ((ak (gR t) k).getD 0)=g)).getD 0]:=by show [((Hg t g.toNat y.toNat:Nat):Int)]=_;unfold Hg;rw[agd _ _ (λk=>decide (Ak ((ak (gR t) k).getD 0)=g)) λn _=> ?_,W];have:=nA (t:=t) (k:=(n:Int)) (by omega);rw[jg]at this;rw[<-this,jA,cH,beq_iff_eq];unfold Vbnlah.familyOf Ak;unfold wU at B;split <;> split <;> (try split) <;> (try split) <;> omega
 rw[X]at q;refine aZ (gQ (bx ((aq (aj rfl) (aq (aj rfl) aG)) _ ⟨a,r,p,x,T,t,y,o,rfl,h,d,λl S O hl Y=>⟨l,rfl,?_⟩⟩)));have Z:=h.same O;refine YS (ks:=(upI t o).reverse) (λk=>decide (Ak ((ak (gR t) k).getD 0)=g)) (SqL.of Y) ⟨none,rfl⟩ (λk hk N=> ?_) λv hn=> ?_
 .obtain⟨v,L⟩:=zc h.wf J (aaY.mp hk);have u:PT0 (mD (tOp rEq (tOp (uh K) (tC (.ref m.WQ.choose)) (tOp (rI0 λi j=> .int (i-j)) (gZ (dZ K (bA 0) "ranks") (bA 3)) (tC (.int 1)))) (bA 1))) (eZ (start aeY [V.ref a,V.int g,V.int y]) 3 (some (.int k))) S (decide (Ak v=g)):=
   bM (p_eq (YX m.WQ (p_i (mO rfl Z.own.rd c (aj rfl) (by rw[h.gr];exact L)) p_c) (arj (h.wf.key k v L).2)) (aj rfl))
  have R:(ak (gR t) k).getD 0=v:=lK L;refine⟨λz B=> ?_,λz hN=> ?_⟩
  .rw[R]at z;refine gO u (λ_=> ?_) λy=> ?_;.rw[B]at q;exact bL (jO (aj rfl) (q.same O))
   .rw[z]at y;cases y
  .rw[R]at z;refine gO u (λy=> ?_) λ_=>hN;rw[z]at y;cases y
 .rw[hn]at q;dsimp only;exact bL (jO p_c (q.same O))
def YZ (t:b_) (xs:List Int):List Int:=if(BJ xs&& !xs.isEmpty)=false then [-1]else if xs.any (λx=>m9 t x.toNat==0)=true then [-4]else Vbnlah.ints [Hh t (Qm xs)]
inductive Y0 (K:aW) (C:Addr) (vs:List V) (H:Hp) (Q:VK) (E:XK):Prop
 | mk a r p x sx T t xs:vs=[.ref a,.ref sx]->TAt C H a r p x T t->SqL K H sx (xs.map V.int)->xs.length<=2100->jd (YZ t xs) H Q->Y0 K C vs H Q E
theorem agf (xs:List Int):BJ xs=true↔mJ xs:= @CZ _ _ (Qt _) (RM xs)
theorem Nq {t:b_} (w:WF t) {xs:List Int} (h:∀x∈xs,isKey x):(xs.any λx=>m9 t x.toNat==0)=true↔¬ ∀n∈xs,(ak (gX t) n).isSome=true:=by
 rw[n6];constructor;.rintro⟨x,b,e⟩ z;have:=(ux w (h x b).nn).mp (eq_of_beq e);have y:=z x b;rw[this]at y;cases y
 .intro z;refine jk λy=>z λn a=> ?_;cases e:ak (gX t) n with
  | some v=>rfl
  | none=>exact absurd ⟨n,a,by rw[beq_iff_eq];exact(ux w (h n a).nn).mpr e⟩ y
theorem arn (F:Fun K "find_common" "find_common" V1 f fd) (c:cA K mg C) (cs:Cs K mg) (uM:Df P w K mg base "are_keys_once" wD 2 (wJ K)) (sO:Df P w K mg base "are_all_in" wF 1 (spP (wV K))) (mU:Df P w K mg base "held_specimens" qP 2 (sU C)) (sV:Df P w K mg base "groups_from" uE 1 (wY C)):aY P w K mg base CX0 3 f fd K_ (Y0 K C):=by
 refine F.ok V2 (by walk_at "l") (λ_ A _ s H vs Q E W hz=> ?_);obtain⟨a,r,p,x,sx,T,t,J,e,h,hs,hl,q⟩:=hz;subst e;refine⟨_,(aF (aR (PW.pt (gW (bF bU (cB fK rfl cs.len dF (ao (pv 1) aA)) aM) (jm (cN (bV (aL uM W (ao (pv 1) aA))))))) (aD (aK (cT (ao (aN cs.ju) aA)))) aV)
   (aF (aR (cN (bV (aL sO W (ao (pv 1) (ao (aO (pv 0) rfl) aA))))) (aD (aK (cT (ao (aN cs.kE) aA)))) aV)
   (aF (bO (i:=2) V2.nd (aL mU W (ao (pv 0) aA)))
   (aF (d7 dG rfl (eV (aL sV W (ao (pv 0) (ao (cu (aO (pv 0) rfl) (bB bH (pv 1) aM (λ_ _=>rfl)) (bw W)) aA)))) (cQ (i:=3) V2.nd) (aD (aR (bV (aL sO W (ao (pv 1) (ao (cu (pv 2) (pv 3) (bw W)) aA)))) (aD (aK (cT (ao (pv 3) aA)))) aV)))
   (aD (aK (cT (ao aM aA)))))))),?_⟩
 unfold YZ at q;obtain⟨b1,O⟩:=exb (mJ J);have ek:(BJ J&& !J.isEmpty)=(b1&& !J.isEmpty):=by
  congr 1
  exact jA.mpr ((agf J).trans O.symm)
 rw[ek]at q;refine qR (Et (PT0.up (bM (p_eq (f9 (aq (aj rfl) aG) hs) p_c))) λH1 I _=>sI (q_b (Xh (aq (aj rfl) aG) (I.seq hs) (by omega) O))) (λH1 I L=> ?_) λH1 I L=> ?_
 .rw[aB (by
   rw[aJ]at L;cases J with
   | nil=>exact Py _
   | cons z J=>
    cases b1 with
    | false=>rfl
    | true=>rw[cY (by simp;omega)]at L;cases L)]at q
  exact bL (jO p_c (q.same I))
 rw[aJ,tQ,iu]at L;have hb2:b1=true:=by have:=L.2;cases b1;cases this;rfl
 obtain⟨G,hnd⟩:=O.mp hb2;cases J with
 | nil=>exact absurd rfl L.1
 | cons o u=>
  rw[au (by rw[hb2];show ¬(true=false);decide)]at q;have h1:=h.same I;obtain⟨b2,R⟩:=exb (∀n∈o::u,(ak T.X n).isSome=true);have B:(∀n∈o::u,(ak T.X n).isSome=true)↔∀n∈o::u,(ak (gX t) n).isSome=true:=by simp only[h.gx]
  refine bD (gM (p_b (jw (aq (aj rfl) (aq (p_X rfl h1.own.rd c) aG)) ⟨sx,x,_,b2,rfl,I.seq hs,rfl,.inr ⟨_,h1.own.rd.hx,R⟩⟩))) (λhz=> ?_) λhz=> ?_;.rw[aB ((Nq h.wf G).mpr λz=>by rw[R.mpr (B.mpr z)]at hz;cases hz)]at q;exact bL (jO p_c (q.same I))
  have g:=B.mp (R.mp (by cases b2;cases hz;rfl));rw[au λz=>(Nq h.wf G).mp z g]at q;have U:=λn m=>gj.mp (g n m);obtain⟨b,Fx⟩:=U o cU;obtain⟨_,rk,erk⟩:=h.wf.spc o b Fx;have ea:Vbnlah.ints [Hh t (Qm (o::u))]=[((upI t b).find? λk=>decide (∀n∈o::u,n∈bK t k)).getD 0]:=by
   show [((Hh t (o.toNat::Qm u):Nat):Int)]=_;unfold Hh;rw[agd _ _ (λk=>decide (∀n∈o::u,n∈bK t k)) λk hk=> ?_,Fv h.wf Fx];rw[jA,cH,m5];have k0:(k:Int)∈upI t b:=by rw[<-Fv h.wf Fx];exact qL.mpr hk
   have kk:∀n hm,ak (gX t) n=some hm->(n∈bK t (k:Int)↔k∈vD t (m9 t n.toNat)):=λn hm e=>by rw[Np h.wf (by omega) e,<-Fv h.wf e,qL]
   constructor
   .intro z n m;rcases cD.mp m with rfl | m;.exact(Np h.wf (by omega) Fx).mpr k0
    .obtain⟨hm,e⟩:=U n (cO _ m);exact(kk n hm e).mpr (n8.mp (z n.toNat (aQ.mpr ⟨n,m,rfl⟩)))
   .intro z y hy;obtain⟨n,m,rfl⟩:=aQ.mp hy;obtain⟨hm,e⟩:=U n (cO _ m);exact n8.mpr ((kk n hm e).mp (z n (cO _ m)))
  rw[ea]at q;refine aZ (d9 (bx ((aq (aj rfl) aG) _ ⟨a,r,p,x,T,t,rfl,h1,λd kas H2 s2 fd2 fka hd hA hk=> ?_⟩)));have Y:=I.trans s2;have h2:=h.same Y;dsimp only;refine aZ (gQ (bx ((aq (aj rfl) (aq (sG rfl h2.own.rd c (gC (K:=K) (aj rfl) p_c (Y.seq hs) (at_of (j:=0) rfl rfl)) (by rw[h.gx];exact Fx)) aG)) _ ⟨a,r,p,x,T,t,b,rfl,h2.r,.inr ⟨rk,erk⟩,λl hl'=>⟨l,rfl,?_⟩⟩)));have s3:Same H2 (upd H2 l (.lst ((upI t b).map V.int))):=Same.upd hl';have Z:=Y.trans s3;refine YS (ks:=upI t b) (λk=>decide (∀n∈o::u,n∈bK t k)) (SqL.of aH) ⟨none,rfl⟩ (λk hk' N=> ?_) λv m=> ?_
  .obtain⟨v,hv⟩:=zc h.wf erk hk';obtain⟨la,hq⟩:=Ai h hk hv;have hA3:=hA.same s3;obtain⟨b3,S⟩:=exb (∀n∈o::u,n∈bK t k);have tst:PT0 (tB (lD (spP (wV K)) [] E0 (gw (bA 1) (gw (gZ (bA 2) (bA 3)) fW)))) (eZ (eZ (start aeW [V.ref a,V.ref sx]) 2 (some (.ref d))) 3 (some (.int k))) (upd H2 l (.lst ((upI t b).map V.int))) b3:=
    p_b (jw (aq (aj rfl) (aq (qW (aj rfl) (aj rfl) (.inl (s3 _ _ hd)) hA.ndk hq) aG)) ⟨sx,la,_,b3,rfl,Z.seq hs,rfl,.inl ⟨_,SqL.of (hA3.at_ _ hq),S⟩⟩)
   refine⟨λz hf=> ?_,λz hN=> ?_⟩
   .refine gO tst (λ_=> ?_) λy=> ?_;.rw[hf]at q;exact bL (jO (aj rfl) (q.same Z))
    .rw[S.mpr (dz z)]at y;cases y
   .refine gO tst (λy=> ?_) λ_=>hN;exact absurd (S.mp y) (iw z)
  .rw[m]at q;dsimp only;exact bL (jO p_c (q.same Z))
end
theorem PE0.cast (h:PE0 te σ H (.int i)) (e:i=j):PE0 te σ H (.int j):=e▸h
section
def Y4 (t:b_) (x y z:Int):List Int:=if BJ [x,y,z]=false then [-1]else if [x,y,z].any (λv=>m9 t v.toNat==0)=true then [-4]else Vbnlah.ints [if Qn t x.toNat y.toNat z.toNat=true then 1 else 0]
inductive Y5 (C:Addr) (vs:List V) (H:Hp) (Q:VK) (E:XK):Prop
 | mk a r p x T t u y z:vs=[.ref a,.int u,.int y,.int z]->TAt C H a r p x T t->jd (Y4 t u y z) H Q->Y5 C vs H Q E
theorem Al (a:0<=x):(iU t k).contains x.toNat=true↔x∈bK t (k:Int):=by rw[n8];unfold bK;rw[jg];have:=qL (l:=iU t k) (n:=x.toNat);rw[toN a]at this;exact this.symm
theorem aro (F:Fun K "is_closer" "is_closer" V5 f fd) (c:cA K mg C) (cs:Cs K mg) (uM:Df P w K mg base "are_keys_once" wD 2 (wJ K)) (sO:Df P w K mg base "are_all_in" wF 1 (spP (wV K))) (mU:Df P w K mg base "held_specimens" qP 2 (sU C)) (sV:Df P w K mg base "groups_from" uE 1 (wY C)):aY P w K mg base CX0 3 f fd Ld (Y5 C):=by
 refine F.ok V7 (by walk_at "l") (λ_ A _ s H vs Q E O Y=> ?_);obtain⟨a,r,p,x,T,t,u,y,z,e,h,q⟩:=Y;subst e;refine⟨_,(aF (aR (cN (bV (aL uM O (ao (cT (ao (pv 1) (ao (pv 2) (ao (pv 3) aA)))) aA)))) (aD (aK (cT (ao (aN cs.ju) aA)))) aV)
   (aF (aR (cN (bV (aL sO O (ao (cT (ao (pv 1) (ao (pv 2) (ao (pv 3) aA)))) (ao (aO (pv 0) rfl) aA))))) (aD (aK (cT (ao (aN cs.kE) aA)))) aV)
   (aF (bO (i:=4) V7.nd (aL mU O (ao (pv 0) aA)))
   (aF (d7 dG rfl (eV (aL sV O (ao (pv 0) (ao (cu (aO (pv 0) rfl) (pv 1) (bw O)) aA)))) (cQ (i:=5) V7.nd) (aD (aR (PW.pt (pO (bF ai3 (pv 2) (cu (pv 4) (pv 5) (bw O)) rfl) (pN (bF acE (pv 3) (cu (pv 4) (pv 5) (bw O)) rfl)))) (aD (aK (cT (ao aM aA)))) aV)))
   (aD (aK (cT (ao aM aA)))))))),?_⟩
 unfold Y4 at q;obtain⟨I,B⟩:=exb (mJ [u,y,z]);have ek:BJ [u,y,z]=I:=jA.mpr ((agf _).trans B.symm);rw[ek]at q;refine qR (b:= !I) (sI (q_b λQ1 q1=>bx (dj (lO (aq (aj rfl) (aq (aj rfl) (aq (aj rfl) aG))) (by show 3<=sizeLine;decide) λl hl=>⟨l,[u,y,z],rfl,SqL.of aH,by show 3<=4000;decide,λH' b' S hb'=> ?_⟩)))) (λH1 S hb=> ?_) λH1 S hb=> ?_
 .have:b'=I:=by
   cases I <;> cases b';.rfl
   .exact absurd (B.mpr (hb'.mp rfl)) (by decide)
   .exact absurd (hb'.mpr (B.mp rfl)) (by decide)
   .rfl
  rw[this];exact q1 H' ((Same.upd hl).trans S)
 .rw[aB (by cases I;rfl;cases hb)]at q;exact bL (jO p_c (q.same S))
 have hb2:I=true:=by cases I;cases hb;rfl
 obtain⟨m,hnd⟩:=B.mp hb2;rw[au (by rw[hb2];decide)]at q;have h1:=h.same S;obtain⟨b2,L⟩:=exb (∀n∈[u,y,z],(ak T.X n).isSome=true);have G:(∀n∈[u,y,z],(ak T.X n).isSome=true)↔∀n∈[u,y,z],(ak (gX t) n).isSome=true:=by simp only[h.gx]
 refine qR (b:= !b2) (sI (q_b λQ1 q1=>bx (dj (lO (aq (aj rfl) (aq (aj rfl) (aq (aj rfl) aG))) (by show 3<=sizeLine;decide) λl hl=> ?_)))) (λH2 s2 Y=> ?_) λH2 s2 Y=> ?_;.have s3:Same H1 (upd H1 l (.lst [V.int u,V.int y,V.int z])):=Same.upd hl;have Z:=h1.same s3;exact(aq (p_X rfl Z.own.rd c) aG) _ ⟨.bl b2,⟨l,x,[u,y,z],b2,rfl,SqL.of aH,rfl,.inr ⟨_,Z.own.rd.hx,L⟩⟩,q1 _ s3⟩
 .rw[aB ((Nq h.wf m).mpr λv=>by rw[L.mpr (G.mpr v)]at Y;cases Y)]at q;exact bL (jO p_c (q.same (S.trans s2)))
 have j:=G.mp (L.mp (by cases b2;cases Y;rfl));rw[au λv=>(Nq h.wf m).mp v j]at q;have s12:=S.trans s2;obtain⟨R,o⟩:=gj.mp (j u (by simp));obtain⟨hy,ehy⟩:=gj.mp (j y (by simp));obtain⟨hzz,ehz⟩:=gj.mp (j z (by simp));obtain⟨_,rk,J⟩:=h.wf.spc u R o;have ku:0<=u:=(m u (by simp)).nn;have ky:0<=y:=(m y (by simp)).nn;have kz:0<=z:=(m z (by simp)).nn;have ea:Qn t u.toNat y.toNat z.toNat=true↔((upI t R).find? λk=>decide (y∈bK t k/\z∉bK t k)).isSome=true:=by
  rw[List.find?_isSome];unfold Qn;rw[n6];constructor;.rintro⟨g,hg,e⟩;rw[dY,dY]at e;obtain⟨e1,e2,e3⟩:=e;refine⟨(g.key:Int),(Np h.wf (by omega) o).mp ((Al ku).mp e1),cF ⟨(Al ky).mp e2,λv=> ?_⟩⟩;rw[(Al kz).mpr v]at e3;cases e3
  .rintro⟨k,hk,e⟩;have e:=dz e;obtain⟨v,hv⟩:=zc h.wf J hk;obtain⟨g,hg,eg⟩:=aQ.mp ((zf h.wf.toSrt).mpr ⟨v,hv⟩);subst eg;refine⟨g,hg,?_⟩;rw[dY,dY];refine⟨(Al ku).mpr ((Np h.wf (by omega) o).mpr hk),(Al ky).mpr e.1,?_⟩;cases e4:(iU t g.key).contains z.toNat with
   | false=>rfl
   | true=>exact absurd ((Al kz).mp e4) e.2
 refine aZ (d9 (bx ((aq (aj rfl) aG) _ ⟨a,r,p,x,T,t,rfl,h.same s12,λd kas H3 s3 fd3 fka hd hA hk=> ?_⟩)));have s13:=s12.trans s3;have Z:=h.same s13;dsimp only;refine aZ (gQ (bx ((aq (aj rfl) (aq (sG rfl Z.own.rd c (aj rfl) (by rw[h.gx];exact o)) aG)) _ ⟨a,r,p,x,T,t,R,rfl,Z.r,.inr ⟨rk,J⟩,λl hl'=>⟨l,rfl,?_⟩⟩)));have s4:Same H3 (upd H3 l (.lst ((upI t R).map V.int))):=Same.upd hl';have s14:=s13.trans s4;refine YS (ks:=upI t R) (λk=>decide (y∈bK t k/\z∉bK t k)) (SqL.of aH) ⟨none,rfl⟩ (λk hk' N=> ?_) λv hn=> ?_
 .obtain⟨v,hv⟩:=zc h.wf J hk';obtain⟨la,hq⟩:=Ai h hk hv;have hA4:=hA.same s4;have gt:PE0 (gZ (bA 4) (bA 5)) (eZ (eZ (start V6 [V.ref a,V.int u,V.int y,V.int z]) 4 (some (.ref d))) 5 (some (.int k))) (upd H3 l (.lst ((upI t R).map V.int))) (.ref la):=qW (aj rfl) (aj rfl) (.inl (s4 _ _ hd)) hA.ndk hq;have U:PT0 (yE (mD (tOp (rIn K false) (bA 2) (gZ (bA 4) (bA 5)))) (mD (tOp (rIn K true) (bA 3) (gZ (bA 4) (bA 5))))) (eZ (eZ (start V6 [V.ref a,V.int u,V.int y,V.int z]) 4 (some (.ref d))) 5 (some (.int k))) (upd H3 l (.lst ((upI t R).map V.int))) (decide (y∈bK t k)&& !decide (z∈bK t k)):=
   uI (bM (aoU (aj rfl) gt (SqL.of (hA4.at_ _ hq)))) λ_=>bM (afo (aj rfl) gt (SqL.of (hA4.at_ _ hq)))
  have ev:(decide (y∈bK t k)&& !decide (z∈bK t k))=decide (y∈bK t k/\z∉bK t k):=by rw[<-decide_not,<-lW]
  rw[ev]at U;refine⟨λe hf=> ?_,λe hN=> ?_⟩
  .refine gO U (λ_=> ?_) λW=> ?_;.rw[aB (ea.mpr (by rw[hf];rfl))]at q;exact bL (jO p_c (q.same s14))
   .rw[e]at W;cases W
  .refine gO U (λW=> ?_) λ_=>hN;rw[e]at W;cases W
 .rw[au λW=>by have:=ea.mp W;rw[hn]at this;cases this]at q;dsimp only;exact bL (jO p_c (q.same s14))
def Y6 (t:b_) (a:Int):List Int:=if jh a 1 abE=false then [-1]else Vbnlah.ints ((BK t a.toNat).length::(BK t a.toNat).flatMap λp=>p.1::p.2.length::p.2)
inductive Y7 (C:Addr) (vs:List V) (H:Hp) (Q:VK) (E:XK):Prop
 | mk a r p x T t rk:vs=[.ref a,.int rk]->TAt C H a r p x T t->jd (Y6 t rk) H Q->Y7 C vs H Q E
def uQ (t:b_) (l:List Int):List Int:=l.flatMap λk=>k::((bK t k).length:Int)::bK t k
theorem agg (w:WF t) (l:List Int):(uQ t l).length<=66 * l.length:=by
 unfold uQ
 induction l with
 | nil=>exact bW _
 | cons a l b=>have:=zj w a;simp only[GK,cV,bR]at b ⊢;omega
theorem arp (h:TAt C H a r p x T t) (f:0<=rk) (c:ns.Perm (kin T.R rk)) (d:ns.Pairwise (· <= ·)):ns=zs ((t.groups.filter λg=>g.rank==rk.toNat).map λg=>g.key):=by
 refine oX (c.trans ?_) d ?_
 .have e:=h.rel.r.filter λp=>decide (p.2=rk);refine(e.map (·.1)).trans ?_;unfold gR zs;rw[j4,bC,bC];have:(t.groups.filter ((λp:Int×Int=>decide (p.2=rk))∘λg=>((g.key:Int),(g.rank:Int))))=t.groups.filter λg=>g.rank==rk.toNat:=by apply j5;intro g _;show decide ((g.rank:Int)=rk)=(g.rank==rk.toNat);rw[jA,cH,beq_iff_eq];omega
  rw[this];exact .refl _
 .unfold zs;rw[bC];exact jZ.mpr ((h.wf.g.sublist jf).imp λ{a b} z=>by show((a.key:Nat):Int) < ((b.key:Nat):Int);omega)
theorem arq (F:Fun K "list_level" "list_level" V3 f fd) (c:cA K mg C) (cs:Cs K mg) (pX:Df P w K mg base "is_rank" uz 1 (spB iy)) (Y8:Df P w K mg base "groups_of_rank" Du 1 (jt C cG.R)) (mU:Df P w K mg base "held_specimens" qP 2 (sU C)):aY P w K mg base CX0 3 f fd La (Y7 C):=by
 refine F.ok Eb (by walk_at "l") (λ_ A _ s H vs Q E W hz=> ?_);obtain⟨a,r,p,x,T,t,m,e,h,q⟩:=hz;subst e;refine⟨_,(aF (aR (cN (bV (aL pX W (ao (pv 1) aA)))) (aD (aK (cT (ao (aN cs.ju) aA)))) aV)
   (aF (bO (i:=2) Eb.nd (cB Sv rfl cs.sorted o7 (ao (aL Y8 W (ao (pv 0) (ao (pv 1) aA))) aA)))
   (aF (bO (i:=3) Eb.nd (aL mU W (ao (pv 0) aA)))
   (aF (bO (i:=4) Eb.nd (cT (ao (cB fK rfl cs.len dF (ao (pv 2) aA)) aA)))
   (aF (d7 dG rfl (eV (pv 2)) (cQ (i:=5) Eb.nd) (aF (eE (jo iD vp yg yL (pv 4) (ao (cT (ao (pv 5) (ao (cB fK rfl cs.len dF (ao (cu (pv 3) (pv 5) (bw W)) aA)) aA))) aA)))
   (aD (eE (jo iD vp yg yL (pv 4) (ao (cu (pv 3) (pv 5) (bw W)) aA))))))
   (aD (aK (pv 4)))))))),?_⟩
 unfold Y6 at q;rw[IK]at q;refine bD (gM (p_b (mQ (aq (aj rfl) aG)))) (λhb=> ?_) λhb=> ?_;.rw[aB (cY (n1t.mp hb))]at q;exact bL (jO p_c q)
 have X:=n1f.mp hb;rw[au (by rw[cF X];decide)]at q;have lR:=h.lR;refine aZ (d9 (iz (dj (bx ((aq (aj rfl) (aq (aj rfl) aG)) _ ⟨a,r,p,x,T,m,rfl,h.own,by omega,h.nR,λY hl1=>⟨Y,kin T.R m,rfl,SqL.of aH,λj l hp hs hl=> ?_⟩⟩)))));have ens:=arp h X.nn hp hs;have s1:Same H (upd H Y (.lst ((kin T.R m).map V.int))):=Same.upd hl1;have s2:Same H (upd (upd H Y (.lst ((kin T.R m).map V.int))) l (.lst (j.map V.int))):=s1.trans (Same.upd hl);have lns:j.length<=32:=by rw[hp.length_eq];exact cI (Ms _ _) lR
 have elv:Vbnlah.ints ((BK t m.toNat).length::(BK t m.toNat).flatMap λp=>p.1::p.2.length::p.2)=(j.length:Int)::uQ t j:=by
  unfold BK;show((_:Nat):Int)::zs _=_;rw[ens]
  congr 1
  .rw[mV,aJ,aJ]
  .unfold uQ zs;rw[Bk,tM,bC,Bk]
   congr 1
   funext g;show((g.key:Nat):Int)::(((iU t g.key).length:Nat):Int)::zs (iU t g.key)=((g.key:Nat):Int)::((bK t (g.key:Int)).length:Int)::bK t (g.key:Int);unfold bK;rw[jg,mV]
 rw[elv]at q;have hin:∀k∈j,∃v,ak (gR t) k=some v:=λk hk=>by have:=(lM h.nR).mp (hp.mem_iff.mp hk);exact⟨m,by rw[<-h.gr];exact this⟩
 have el:(upd (upd H Y (.lst ((kin T.R m).map V.int))) l (.lst (j.map V.int))) l=some (.lst (j.map V.int)):=aH;generalize upd (upd H Y (.lst ((kin T.R m).map V.int))) l (.lst (j.map V.int))=H2 at s2 el ⊢;dsimp only;refine aZ (d9 (bx ((aq (aj rfl) aG) _ ⟨a,r,p,x,T,t,rfl,h.same s2,λd kas H3 s3 fd3 fka hd hA hk=> ?_⟩)));have s03:=s2.trans s3;have y:=s3 _ _ el;refine aZ (d9 (lO (aq (f9 (aq (aj rfl) aG) (SqL.of y)) aG) (by show 1<=sizeLine;decide) λG u=> ?_));have nla:=aX y u;have L:=s03.free u;have Z:=aX hd u;have nka:=λq I=>aX (hA.at_ q I) u;refine aZ (gQ ((aj rfl) _ ⟨l,rfl,?_⟩));refine jN (λi B=>B G=some (.lst (((j.length:Int)::uQ t (j.take i)).map V.int))/\But G H3 B) ⟨by rw[aH,aJ];rfl,λb o e n=>by rw[aC n];exact e⟩ (λi B z=>SqL.of (z.2 _ _ y nla)) ⟨none,rfl⟩ ?_ ?_
 .rintro i k B hi ⟨e3,J⟩ N nx;obtain⟨k,S,rfl⟩:=get_map hi;obtain⟨v,hv⟩:=hin k (gq S);obtain⟨la,I⟩:=Ai h hk hv;have U:=J _ _ (hA.at_ _ I) (nka _ I);have O:=J _ _ hd Z;have lt:=agg h.wf (j.take i);have lt2:(j.take i).length<=32:=by rw[fD];omega
  have lh:=zj h.wf k;have gt:∀{H4:Hp},H4 d=some (.dK (dA kas))->PE0 (gZ (bA 3) (bA 5)) (eZ (eZ (eZ (eZ (start aeX [V.ref a,V.int m]) 2 (some (.ref l))) 3 (some (.ref d))) 4 (some (.ref G))) 5 (some (.int k))) H4 (.ref la):=λe=>qW (aj rfl) (aj rfl) (.inl e) hA.ndk I;refine aZ (Fw (aj rfl) e3 (ys:=[V.int k,V.int (bK t k).length]) (by rw[aJ,bR];show _+2<=_;omega) (YH (aq (aj rfl) (aq (PE0.cast (f9 (aq (gt O) aG) (SqL.of U)) (by rw[aJ])) aG)) (by show 2<=100;decide)) λH4 s4=> ?_);have e4:upd H4 G (.lst ((((j.length:Int)::uQ t (j.take i)).map V.int)++[V.int k,V.int (bK t k).length])) G=some (.lst ((((j.length:Int)::uQ t (j.take i)).map V.int)++[V.int k,V.int (bK t k).length])):=aH;dsimp only;refine Fw (aj rfl) e4 (ys:=(bK t k).map V.int) (by rw[cV,aJ,aJ,bR];show _+2+_<=_;omega) (agb (gt (by rw[aC Z];exact s4 _ _ O)) (by rw[aC (nka _ I)];exact s4 _ _ U)) λH5 s5=>nx _ ⟨?_,λb o e n=>by rw[aC n];exact s5 _ _ (by rw[aC n];exact s4 _ _ (J b o e n))⟩;rw[aH,i_ S];unfold uQ;rw[Bh];have:([k]:List Int).flatMap (λk=>k::((bK t k).length:Int)::bK t k)=k::((bK t k).length:Int)::bK t k:=by show _++[]=_;rw[gH]
  rw[this,bT,bT,dw,bT,bT,lU];rfl
 .rintro v B ⟨e3,J⟩;rw[aJ,fM]at e3;dsimp only;refine aU (aj rfl) (q G B (J.kO s03 L) L e3 ?_);have:=agg h.wf j;rw[bR];omega
end
theorem aru {J:It} {ys:List V} {j:Nat} {G:TT} {F:TE} {σ:L2.St} {c:Hp} {D:Addr} {t:Hp->Prop} (φ:V->Bool) (ψ:V->V) (v:c D=none) (w:ys.length < sizeLine)
  (L:∀i H,Same c H->(i < ys.length->J.go i H)/\(ys.length<=i->J.stop i H)/\∀x a,J.yld i H x a->a=H/\ys[i]? =some x)
  (O:∀y∈ys,∀H,Same c H->∀Q:Bool->Hp->Prop,Q (φ y) H->G ((wipe σ [j]).set j (some y)) H Q)
  (N:∀y∈ys,φ y=true->∀H,Same c H->∀Q:VK,(∀a,Same H a->Q (ψ y) a)->F ((wipe σ [j]).set j (some y)) H Q)
  (q:∀a,Same c a->a D=some (.lst ((ys.filter φ).map ψ))->t a):
  ∃W:Nat->Nat->Hp->Prop,(∃m,W 0 m (upd c D (.lst [])))/\∀i m H,W i m H->
   (J.stop i H/\t H)\/(J.go i H/\∃l:Hp->Prop,(∀a,l a->∃B,B < m/\W (i+1) B a)/\∀x a,J.yld i H x a->jC j x (wipe σ [j]) a λp I=>wipe p [j]=wipe σ [j]/\G p I λb s=>
    if b=true then F p s λy h=>∃acc,h D=some (.lst acc)/\acc.length < sizeLine/\l (upd h D (.lst (acc++[y])))else l s):=by
 refine⟨λi m H=>m=ys.length-i/\i<=ys.length/\Same c H/\H D=some (.lst (((ys.take i).filter φ).map ψ)),⟨ys.length,by simp,fU _,Same.upd v,aH⟩,?_⟩;rintro i m H ⟨rfl,X,d,g⟩;obtain⟨P,R,S⟩:=L i _ d;by_cases f:i < ys.length
 .refine .inr ⟨P f,λa=>Same c a/\a D=some (.lst (((ys.take (i+1)).filter φ).map ψ)),λa C=>⟨ys.length- (i+1),by omega,rfl,f,C.1,C.2⟩,λx a y=> ?_⟩;obtain⟨rfl,A⟩:=S x a y;have z:=gq A;have u:ys.take (i+1)=ys.take i++[x]:=by rw[j6,A];rfl
  refine⟨L_ σ j _,O x z _ d _ ?_⟩;cases n:φ x with
  | true=>
   refine Ii (N x z n _ d _ λh E=>⟨_,E _ _ g,?_,λb o e=> ?_,?_⟩)
   .rw[aJ];have T:=fG φ (ys.take i);have U:(ys.take i).length<=ys.length:=by rw[fD];omega
    omega
   .rw[aC (aX e v)];exact E _ _ (d _ _ e)
   .rw[aH,u,xZ,dw,xX n,vf];rfl
  | false=>refine Ih ⟨d,?_⟩;rw[u,xZ,xY (by rw[n];decide),vf,gH];exact g
 .have e:i=ys.length:=by omega
  subst e;rw[fM]at g;exact .inl ⟨R (bW _),q H d g⟩
theorem Fy (h:ta σ H λxs a=>xs.length<=sizeLine/\∀p,a p=none->Q (.ref p) (upd a p (.lst xs))):ug ta σ H Q:=h
theorem agh {α:Type} [BEq α] [LawfulBEq α]:∀(n:Nat) (l:List α),l.length<=n->l.eraseDups.Nodup
 | 0,[],_=>by simp
 | n+1,[],_=>by simp
 | n+1,a::l,h=>by rw[List.eraseDups_cons,je];refine⟨λz=> ?_,agh n _ (cI (fG _ _) (by simpa using h))⟩;have:=(cC.mp (aaM.mp z)).2;simp at this
theorem Y9 {t:b_} (w:WF t) {S:List (List Int)} (j:S.Nodup) (i:∀l,l∈S↔l≠[]/\∃k v,ak (gR t) k=some v/\l=bK t k):S.Perm ((yu t).map zs):=by
 have o:(yu t).Nodup:=agh _ _ (bW _);have p:((yu t).map zs).Nodup:=tU _ (λa b d e=>d (Jk e)) o;rw[tL j p];intro l;rw[i,aQ];constructor
 .rintro⟨c,k,v,n,rfl⟩;obtain⟨g,f,e⟩:=aQ.mp ((zf w.toSrt).mpr ⟨v,n⟩);refine⟨iU t g.key,Jh.mpr ⟨λz=>c ?_,g,f,rfl⟩,?_⟩;.rw[<-e];unfold bK;rw[jg,z];rfl
  .rw[<-e];unfold bK;rw[jg]
 .rintro⟨m,c,rfl⟩;obtain⟨h,g,f,e⟩:=Jh.mp c;refine⟨λz=>h (R6.mp z),(g.key:Int),(g.rank:Int),((j_ w.toSrt).mp f).1,?_⟩;unfold bK;rw[jg,e]
section
def agi (t:b_):List Int:=Vbnlah.ints [t.groups.length,t.specimens.length,((t.groups.map λg=>(vD t g.key).length).max?).getD 0,(yu t).length]
inductive Y_ (C:Addr) (vs:List V) (H:Hp) (Q:VK) (E:XK):Prop
 | mk a r p x T t:vs=[.ref a]->TAt C H a r p x T t->jd (agi t) H Q->Y_ C vs H Q E
theorem arv (F:Fun K "count_all" "count_all" V8 f fd) (c:cA K mg C) (L:Cs K mg) (sV:Df P w K mg base "groups_from" uE 1 (wY C)) (z8:Df P w K mg base "sets_of" zB 3 (zY C)):aY P w K mg base CX0 4 f fd Le (Y_ C):=by
 refine F.ok Lf (by walk_at "l") (λ_ A _ s H vs Q E hr J=> ?_);obtain⟨a,r,p,x,T,t,e,h,q⟩:=J;subst e;refine'⟨_,(aF (bO (i:=2) Lf.nd (aev L.max (vX (lE (own:=[("key",1)]) rfl Lf.nd (mG (aO (pv 0) rfl)) (lF rfl) ?g1 ?t1 ?e1)) aM))
   (aD (aK (cT (ao (cB qG rfl L.len dF (ao (aO (pv 0) rfl) aA)) (ao (cB qG rfl L.len dF (ao (aO (pv 0) rfl) aA)) (ao (pv 2) (ao (cB ali rfl L.len dF (ao (aL z8 hr (ao (pv 0) aA)) aA)) aA)))))))),?_⟩
 case g1=>exact λ_ _ _ _ _=>cQ (i:=1) Lf.nd
 case t1=>exact λ_ _ _ _ _=>um
 case e1=>exact λ_ _ _ _ _=>(cB (aqc K) rfl L.len dF (ao (aL sV hr (ao (pv 0) (ao (pv 1) aA))) aA))
 have lR:=h.lR;refine aZ (d9 (wM h.own.hr gK λod=> ?_));have hl:=h.own.Ei od;have hlR:Ez C (upd H r (.frz od (.dK (dI T.R)))) a r p x T t:=⟨hl,h.rel,h.wf⟩;refine nH (qQ ((p_R rfl hl c) _ ⟨r,od,rfl,.inl ⟨_,aH,λD Y=> ?_⟩⟩));have nDr:r≠D:=aX aH Y;obtain⟨_,hD'⟩:=fC Y
 let ψ:V->V:=λy=>match y with | .int k=> .int ((upI t k).length:Nat) | _=> .non
 refine aru (λ_=>true) ψ Y (by rw[aJ,rT];exact gD lR (by decide)) (zK aH) (λy hy B U Q' q=>q) (λy hy _ B U Q' q'=> ?_) (λB U eD=> ?_);.obtain⟨k,v,rfl,I⟩:=mem_keys hy;have ek:=(bY h.nR).mp I;rw[h.gr]at ek;refine iz (dj (bx ((aq (aj rfl) (aq (aj rfl) aG)) _ ⟨a,r,p,x,T,t,k,rfl,⟨hlR.rd.same U,h.rel,h.wf⟩,.inr ⟨v,ek⟩,λl u=> ?_⟩)));refine⟨l,_,rfl,.inl (SqL.of aH),?_⟩;rw[aJ];exact q' _ (Same.upd u)
 .refine⟨U _ _ aH,?_⟩;have ef:((((dI T.R).map λO=>kV O.1).filter (λ_=>true)).map ψ)=((T.R.map (·.1)).map λk=>((upI t k).length:Int)).map V.int:=by
   have:((dI T.R).map λO=>kV O.1).filter (λ_=>true)=(dI T.R).map λO=>kV O.1:=by rw[Bj];intros;rfl
   rw[this];unfold dI;rw[bC,bC,bC,bC];rfl
  rw[ef]at eD;have s1:Same H (upd B r (.dK (dI T.R))):=λb o e=>by
   by_cases e1:b=r;.subst e1;rw[aH,<-h.own.hr,e]
   .rw[aC e1];exact U _ _ (by rw[aC e1];exact e)
  have X:upd B r (.dK (dI T.R)) D=some (.lst (((T.R.map (·.1)).map λk=>((upI t k).length:Int)).map V.int)):=by rw[aC nDr.symm];exact eD
  have N:∀d:Int,(((T.R.map (·.1)).map λk=>((upI t k).length:Int))=[]->d=0)->(((T.R.map (·.1)).map λk=>((upI t k).length:Int))≠[]->d∈((T.R.map (·.1)).map λk=>((upI t k).length:Int))/\∀z∈((T.R.map (·.1)).map λk=>((upI t k).length:Int)),z<=d)->d=((((t.groups.map λg=>(vD t g.key).length).max?).getD 0:Nat):Int):=by
   intro d h1 G;have pm:((T.R.map (·.1)).map λk=>((upI t k).length:Int)).Perm ((t.groups.map λg=>(vD t g.key).length).map λ(n:Nat)=>(n:Int)):=by refine((Dm h.rel).map _).trans ?_;unfold bN;rw[bC,bC];refine ah1 (gJ λg _=> ?_);show((upI t (g.key:Int)).length:Int)=_;unfold upI;rw[mV,jg];rfl
   by_cases J:((T.R.map (·.1)).map λk=>((upI t k).length:Int))=[];.rw[h1 J];have:=pm.length_eq;rw[J,aJ,jY]at this;rw[qm.mp this.symm];rfl
   .obtain⟨z1,z2⟩:=G J;obtain⟨m,I,em⟩:=aQ.mp (pm.mem_iff.mp z1);have:(t.groups.map λg=>(vD t g.key).length).max? =some m:=List.max?_eq_some_iff.mpr ⟨I,λb hb=>by have:=z2 (b:Int) (pm.mem_iff.mpr (aQ.mpr ⟨b,hb,rfl⟩));omega⟩
    rw[this,<-em];rfl
  have tail:∀d:Int,d=((((t.groups.map λg=>(vD t g.key).length).max?).getD 0:Nat):Int)->Ce (ug (gw (tCB (λW H Q=>∃a j,W=[V.ref a]/\H a=some (.dK j)/\Q (.int j.length) H) (gw (dZ K (bA 0) "ranks") fW)) (gw (tCB (λW H Q=>∃a j,W=[V.ref a]/\H a=some (.dK j)/\Q (.int j.length) H) (gw (dZ K (bA 0) "homes") fW)) (gw (bA 2) (gw (tCB (λW H Q=>∃a j,W=[V.ref a]/\H a=some (.dT j)/\Q (.int j.length) H) (gw (lD (zY C) [] E0 (gw (bA 0) fW)) fW)) fW)))))
    {nx:=λ_ B=>Q .non B,rt:=Q} (eZ (start ae0 [V.ref a]) 2 (some (.int d))) (upd B r (.dK (dI T.R))):=by
   intro d ed;have G:=h.same s1;refine bL ?_;refine Fy (dj ((Ep (aq (p_R rfl G.own.rd c) aG) G.own.hr) _ ?_));refine dj ((Ep (aq (p_X rfl G.own.rd c) aG) G.own.hx) _ ?_);refine dj ((aj rfl) _ ?_);refine dj (iz (dj (bx ((aq (aj rfl) aG) _ ⟨a,r,p,x,T,t,rfl,G,λds S H3 s3 fds Z nS lS mS=> ?_⟩))));refine⟨ds,_,rfl,Z,by show 4<=sizeLine;decide,λl u=> ?_⟩;refine q l _ ((s1.trans s3).trans (Same.upd u)) ((s1.trans s3).free u) ?_ (by show 4<=5000;decide);rw[aH,h.rel.qI,h.rel.uw,ed];have:(dS S).length=(yu t).length:=by unfold dS;rw[aJ,(Y9 h.wf nS mS).length_eq,aJ]
   rw[this];rfl
  refine p_c _ ⟨D,_,rfl,SqL.of X,λJ=> ?_,λm I hx=> ?_⟩;.exact tail 0 (N 0 (λ_=>rfl) λz=>absurd J z)
  .exact tail m (N m (λz=>by rw[z]at I;cases I) λ_=>⟨I,hx⟩)
end
def jy (H:Hp) (l:Addr) (rows:List (List Int)):Prop:=∃a:List (Addr×List Int),H l=some (.lst (a.map λq=>V.ref q.1))/\a.map (·.2)=rows/\(∀q∈a,H q.1=some (.lst (q.2.map V.int)))/\∀q∈a,q.1≠l
theorem jy.rows {H:Hp} {l:Addr} {rows:List (List Int)} (h:jy H l rows):jc H l rows:=let ⟨ars,a,b,c,_⟩:=h;⟨ars,a,b,c⟩
theorem jy.same {H b:Hp} {l:Addr} {rows:List (List Int)} (h:jy H l rows) (s:Same H b):jy b l rows:=by obtain⟨a,c,d,e,f⟩:=h;exact⟨a,s _ _ c,d,λq g=>s _ _ (e q g),f⟩
section
variable {σ:L2.St} {H:Hp} {D:Ends} {K:aW}
theorem Nr (p:PE0 to σ H (.ref l)) (s:PA0 ta σ H (row.map V.int)) (h:jy H l rows) (t:rows.length<=1000) (u:row.length<=10)
  (q:∀d,jy d l (rows++[row])->But l H d->D.nx σ d):pP (tBM K "list" Q5 to (gw (ug ta) fW)) D σ H:=by
 obtain⟨f,c,i,j,m⟩:=h;refine oZ (p _ ⟨.inl ⟨rfl,_,SqL.of c⟩,dj (lO s (by rw[aJ];exact cI u (by decide)) λw a=>⟨l,_,_,rfl,rfl,(Same.upd a) _ _ c,?_,q _ ⟨f++[(w,row)],?_,?_,λq g=> ?_,λq g=> ?_⟩ λb o e n=> ?_⟩)⟩);.have:=congrArg iR i;rw[aJ]at this;rw[aJ,this];exact gD t (by decide)
 .rw[aH,dw];rfl
 .rw[dw,i];rfl
 .have v:=(aX c a).symm;rcases dO.mp g with z | z;.rw[aC (m q z),aC (aX (j q z) a)];exact j q z
  .rw[dX.mp z,aC v,aH]
 .rcases dO.mp g with z | z;.exact m q z
  .rw[dX.mp z];exact(aX c a).symm
 .rw[aC n,aC (aX e a)];exact e
end
section
inductive Za (C:Addr) (vs:List V) (H:Hp) (v:V):Prop
 | mk a r p x T k rk pr:vs=[.ref a,.int k,.int rk,.int pr]->TRd C H a r p x T->((ak T.R k).isSome=(ak T.P k).isSome)->v= .bl (decide (ak T.R k=some rk/\ak T.P k=some pr))->Za C vs H v
theorem arw (F:Fun K "has_group" "has_group" Uh f fd) (c:cA K mg C):aY P w K mg base CX0 1 f fd JT (spP (Za C)):=by
 refine F.ok amw (by walk_at "l") (λ_ A _ s H y Q E g t=> ?_);obtain⟨v,⟨a,r,p,x,T,k,m,l,e,h,o,n⟩,q⟩:=t;subst e;subst n;refine⟨_,(aD (aK (oH (abY (Cw (bw g) (pv 1) (aO (pv 0) rfl))) (oH (gY bU (cu (aO (pv 0) rfl) (pv 1) (bw g)) (pv 2)) (mz (gY bU (cu (aO (pv 0) rfl) (pv 1) (bw g)) (pv 3))))))),?_⟩;cases d:ak T.R k with
 | none=>refine aU (o9 (c:=false) (by have:=W3 (σ:=start Ui [V.ref a,V.int k,V.int m,V.int l]) (i:=0) rfl h c (aj (i:=1) rfl);rw[d]at this;exact this) (λz=>by cases z)) (vb q ?_);rw[d];exact(cY λz=>by cases z.1)
 | some v=>obtain⟨u,j⟩:∃u,ak T.P k=some u:=gj.mp (by rw[<-o,d];rfl);refine aU (o9 (b:=true) (by have:=W3 (σ:=start Ui [V.ref a,V.int k,V.int m,V.int l]) (i:=0) rfl h c (aj (i:=1) rfl);rw[d]at this;exact this) (λ_=>o9 (p_eq (mO rfl h c (aj rfl) d) (aj rfl)) λ_=>p_eq (o8 rfl h c (aj rfl) j) (aj rfl))) (vb q ?_);rw[d,j,rC,<-lW];exact fH ⟨λz=>by rw[jV z.1,jV z.2];exact⟨rfl,rfl⟩,λz=>by rw[z.1,z.2];exact⟨rfl,rfl⟩⟩
def nU (t u:b_) (k:Int):Bool:=decide (ak (gR t) k=ak (gR u) k/\ak (gP t) k=ak (gP u) k)
def q_ (u:b_) (k:Int):List Int:=[1,k,(ak (gR u) k).getD 0,(ak (gP u) k).getD 0]
def uT (t u:b_):List (List Int):=((bN u).filter λk=> !nU t u k).map (q_ u)++((bN t).filter λk=>decide (ak (gR u) k=none)).map λk=>[2,k,0,0]
inductive Fz (C:Addr) (rows:b_->b_->List (List Int)) (vs:List V) (H:Hp) (Q:VK) (E:XK):Prop
 | mk a r p x b r' p' x' T U t u:vs=[.ref a,.ref b]->TAt C H a r p x T t->TAt C H b r' p' x' U u->(∀l H',Same H H'->H l=none->jc H' l (rows t u)->Q (.ref l) H')->Fz C rows vs H Q E
theorem mY {α:Type} (φ:α->Bool) (l:List α) (a:α):(l++[a]).filter φ=l.filter φ++if φ a=true then [a]else []:=by rw[xZ,pG];cases φ a <;> rfl
theorem arx (F:Fun K "changes_of_groups" "changes_of_groups" Uj f fd) (c:cA K mg C) (cs:Cs K mg) (arz:Df P w K mg base "has_group" JT 1 (spP (Za C))):aY P w K mg base CX0 2 f fd JV (Fz C uT):=by
 refine F.ok JW (by walk_at "l") (λ_ A _ s H vs Q E I hz=> ?_);obtain⟨a,r,p,x,b,r',p',x',T,U,t,u,e,h,m,q⟩:=hz;subst e;refine⟨_,(aF (bO (i:=2) JW.nd (cT aA))
   (aF (d7 dG rfl (eV (cB (rR rfl) rfl cs.sorted o7 (ao (aO (pv 1) rfl) aA))) (cQ (i:=3) JW.nd) (aD (aR (cN (bV (aL arz I (ao (pv 0) (ao (pv 3) (ao (cu (aO (pv 1) rfl) (pv 3) (bw I)) (ao (cu (aO (pv 1) rfl) (pv 3) (bw I)) aA))))))) (aD (eE (jo iD m8 n_ oK (pv 2) (ao (cT (ao (aN cs.Ml) (ao (pv 3) (ao (cu (aO (pv 1) rfl) (pv 3) (bw I)) (ao (cu (aO (pv 1) rfl) (pv 3) (bw I)) aA))))) aA)))) aV)))
   (aF (d7 dG rfl (eV (cB (rR rfl) rfl cs.sorted o7 (ao (aO (pv 0) rfl) aA))) (cQ (i:=3) JW.nd) (aD (aR (gA (g8 (bw I) (pv 3) (aO (pv 1) rfl))) (aD (eE (jo iD m8 n_ oK (pv 2) (ao (cT (ao (aN cs.Eo) (ao (pv 3) (ao aM (ao aM aA))))) aA)))) aV)))
   (aD (aK (pv 2)))))),?_⟩
 refine aZ ⟨fU _,λl G=> ?_⟩;have s0:Same H (upd H l (.lst [])):=Same.upd G;have lt:∀{t:b_},WF t->(bN t).length<=32:=λw=>by unfold bN;rw[aJ];exact w.ng
 have h0:=m.same s0;dsimp only;refine aZ (gQ (iz ((aq (p_R rfl h0.own.rd c) aG) _ ⟨r',_,U.R.map (·.1),rfl,h0.own.rd.hr,zu _,λns l1 hp hs S=>⟨l1,rfl,?_⟩⟩)));have y:=oX (hp.trans (Dm m.rel)) hs (Jm m.wf.toSrt);subst y;have Z:=aX aH S;have s1:Same H (upd (upd H l (.lst [])) l1 (.lst ((bN u).map V.int))):=s0.trans (Same.upd S);refine jN (xs:=(bN u).map V.int) (λi g=>jy g l ((((bN u).take i).filter λk=> !nU t u k).map (q_ u))/\But l (upd (upd H l (.lst [])) l1 (.lst ((bN u).map V.int))) g) ⟨⟨[],by rw[aC Z,aH];rfl,rfl,(λq hq=>by cases hq),λq hq=>by cases hq⟩,λ_ _ e _=>e⟩ (λi g z=>SqL.of (z.2 _ _ aH Z.symm)) ⟨none,rfl⟩ ?_ ?_
 .rintro i k g hi ⟨J,O⟩ N nx;obtain⟨k,hk,rfl⟩:=get_map hi;have s':Same H g:=O.kO s1 G;have h2:=h.same s';have o:=m.same s';obtain⟨v,hv⟩:=(zf m.wf.toSrt).mp (gq hk);obtain⟨z1,pr,z2,z3⟩:=m.both hv;have X:=i_ hk;have i1:PE0 (gZ (dZ K (bA 1) "ranks") (bA 3)) (eZ (eZ (start Uk [V.ref a,V.ref b]) 2 (some (.ref l))) 3 (some (.int k))) g (.int v):=mO rfl o.own.rd c (aj rfl) z1;have i2:PE0 (gZ (dZ K (bA 1) "parents") (bA 3)) (eZ (eZ (start Uk [V.ref a,V.ref b]) 2 (some (.ref l))) 3 (some (.int k))) g (.int pr):=o8 rfl o.own.rd c (aj rfl) z2;have dom:(ak T.R k).isSome=(ak T.P k).isSome:=by rw[h.gr,h.gp,jR]
  have es:nU t u k=decide (ak T.R k=some v/\ak T.P k=some pr):=by unfold nU;rw[h.gr,h.gp,hv,z3]
  refine gO (gM (p_b (jw (aq (aj rfl) (aq (aj rfl) (aq i1 (aq i2 aG)))) ⟨a,r,p,x,T,k,v,pr,rfl,h2.own.rd,dom,rfl⟩))) (λd=> ?_) λd=> ?_
  .rw[<-es]at d;have B:((((bN u).take i).filter λk=> !nU t u k).map (q_ u)).length<=1000:=by
    rw[aJ];have:=fG (λk=> !nU t u k) ((bN u).take i);have Y:((bN u).take i).length<=(bN u).length:=by rw[fD];omega
    have:=lt m.wf;omega
   refine Nr (row:=[1,k,v,pr]) (aj rfl) (aq p_c (aq (aj rfl) (aq i1 (aq i2 aG)))) J B (by show 4<=10;decide) λL lr3 b3=>nx _ ⟨?_,O.trans b3⟩;rw[X,mY,aB d,dw];have:(([k]:List Int).map (q_ u))=[[1,k,v,pr]]:=by show [q_ u k]=_;unfold q_;rw[hv,z3];rfl
   rw[this];exact lr3
  .rw[<-es]at d;refine nx _ ⟨?_,O⟩;rw[X,mY,au (by rw[d];decide),gH];exact J
 rintro v0 L ⟨J,O⟩;rw[aJ,fM]at J;have s3:Same H L:=O.kO s1 G;have h3:=h.same s3;dsimp only;refine aZ (gQ (iz ((aq (p_R rfl h3.own.rd c) aG) _ ⟨r,_,T.R.map (·.1),rfl,h3.own.rd.hr,zu _,λns Y hp hs W=>⟨Y,rfl,?_⟩⟩)));have y:ns=bN t:=oX (hp.trans (Dm h.rel)) hs (Jm h.wf.toSrt);subst y;have s4:Same L (upd L Y (.lst ((bN t).map V.int))):=Same.upd W;obtain⟨arA,ea0,_⟩:=id J;have nl2:l≠Y:=aX ea0 W;refine jN (xs:=(bN t).map V.int) (λi g=>jy g l (((bN u).filter λk=> !nU t u k).map (q_ u)++(((bN t).take i).filter λk=>decide (ak (gR u) k=none)).map λk=>[2,k,0,0])/\But l (upd L Y (.lst ((bN t).map V.int))) g) ⟨by have:=J.same s4;simpa using this,λ_ _ e _=>e⟩ (λi g z=>SqL.of (z.2 _ _ aH nl2.symm)) ⟨v0,rfl⟩ ?_ ?_
 .rintro i k g hi ⟨n,j⟩ N nx;obtain⟨k,hk,rfl⟩:=get_map hi;have s':Same H g:=j.kO (s3.trans s4) G;have o:=m.same s';have X:=i_ hk;refine gO (p_b (wO rfl o.own.rd c (aj rfl))) (λd=> ?_) λd=> ?_
  .rw[m.gr]at d;have d:=isN.mp d;have B:(((bN u).filter λk=> !nU t u k).map (q_ u)++(((bN t).take i).filter λk=>decide (ak (gR u) k=none)).map λk=>[2,k,0,0]).length<=1000:=by
    rw[cV,aJ,aJ];have a1:=fG (λk=> !nU t u k) (bN u);have a2:=fG (λk=>decide (ak (gR u) k=none)) ((bN t).take i);have a3:((bN t).take i).length<=(bN t).length:=by rw[fD];omega
    have:=lt m.wf;have:=lt h.wf;omega
   refine Nr (row:=[2,k,0,0]) (aj rfl) (aq p_c (aq (aj rfl) (aq p_c (aq p_c aG)))) n B (by show 4<=10;decide) λH4 lr4 b4=>nx _ ⟨?_,j.trans b4⟩;rw[X,mY,aB (cF d),dw,<-lU];exact lr4
  .rw[m.gr]at d;have d:=isS.mp d;refine nx _ ⟨?_,j⟩;rw[X,mY,au (by rw[cY d];decide),gH];exact n
 .rintro v1 H5 ⟨n,j⟩;rw[aJ,fM]at n;dsimp only;exact aU (aj rfl) (q l H5 (j.kO (s3.trans s4) G) G n.rows)
def nW (t u:b_) (k:Int):Bool:=decide (ak (gX t) k=ak (gX u) k)
def uU (t u:b_):List (List Int):=((dJ u).filter λk=> !nW t u k).map (λk=>[3,k,(ak (gX u) k).getD 0,0])++((dJ t).filter λk=>decide (ak (gX u) k=none)).map λk=>[4,k,0,0]
theorem arB (F:Fun K "changes_of_specimens" "changes_of_specimens" Ul f fd) (c:cA K mg C) (cs:Cs K mg):aY P w K mg base CX0 2 f fd JX (Fz C uU):=by
 refine F.ok JZ (by walk_at "l") (λ_ A _ s H vs Q E Y hz=> ?_);obtain⟨a,r,p,x,b,r',p',x',T,U,t,u,e,h,m,q⟩:=hz;subst e;refine⟨_,(aF (bO (i:=2) JZ.nd (cT aA))
   (aF (d7 dG rfl (eV (cB (rR rfl) rfl cs.sorted o7 (ao (aO (pv 1) rfl) aA))) (cQ (i:=3) JZ.nd) (aD (aR (PW.pt (gW (gA (g8 (bw Y) (pv 3) (aO (pv 0) rfl))) (jm (bF jE (cu (aO (pv 0) rfl) (pv 3) (bw Y)) (cu (aO (pv 1) rfl) (pv 3) (bw Y)))))) (aD (eE (jo iD m8 n_ oK (pv 2) (ao (cT (ao (aN cs.WK) (ao (pv 3) (ao (cu (aO (pv 1) rfl) (pv 3) (bw Y)) (ao aM aA))))) aA)))) aV)))
   (aF (d7 dG rfl (eV (cB (rR rfl) rfl cs.sorted o7 (ao (aO (pv 0) rfl) aA))) (cQ (i:=3) JZ.nd) (aD (aR (gA (g8 (bw Y) (pv 3) (aO (pv 1) rfl))) (aD (eE (jo iD m8 n_ oK (pv 2) (ao (cT (ao (aN cs.WL) (ao (pv 3) (ao aM (ao aM aA))))) aA)))) aV)))
   (aD (aK (pv 2)))))),?_⟩
 refine aZ ⟨fU _,λl I=> ?_⟩;have s0:Same H (upd H l (.lst [])):=Same.upd I;have lt:∀{t:b_},WF t->(dJ t).length<=64:=λw=>by unfold dJ;rw[aJ];exact w.nx
 have h0:=m.same s0;dsimp only;refine aZ (gQ (iz ((aq (p_X rfl h0.own.rd c) aG) _ ⟨x',_,U.X.map (·.1),rfl,h0.own.rd.hx,zu _,λns l1 hp hs S=>⟨l1,rfl,?_⟩⟩)));have o:ns=dJ u:=oX (hp.trans (Jo m.rel)) hs (Jl m.wf.toSrt);subst o;have nl1:l≠l1:=aX (a:=l) aH S;have s1:Same H (upd (upd H l (.lst [])) l1 (.lst ((dJ u).map V.int))):=s0.trans (Same.upd S);refine jN (xs:=(dJ u).map V.int) (λi d=>jy d l ((((dJ u).take i).filter λk=> !nW t u k).map (λk=>[3,k,(ak (gX u) k).getD 0,0]))/\But l (upd (upd H l (.lst [])) l1 (.lst ((dJ u).map V.int))) d) ⟨⟨[],by rw[aC nl1,aH];rfl,rfl,(λq hq=>by cases hq),λq hq=>by cases hq⟩,λ_ _ e _=>e⟩ (λi d z=>SqL.of (z.2 _ _ aH nl1.symm)) ⟨none,rfl⟩ ?_ ?_
 .rintro i k d hi ⟨J,O⟩ N nx;obtain⟨k,hk,rfl⟩:=get_map hi;have s':Same H d:=O.kO s1 I;have h2:=h.same s';have B:=m.same s';obtain⟨v,hv⟩:=(Dn m.wf.toSrt).mp (gq hk);have hv':ak U.X k=some v:=by rw[m.gx];exact hv
  have Z:=i_ hk;have i1:PE0 (gZ (dZ K (bA 1) "homes") (bA 3)) (eZ (eZ (start DG [V.ref a,V.ref b]) 2 (some (.ref l))) 3 (some (.int k))) d (.int v):=sG rfl B.own.rd c (aj rfl) hv';have tst:PT0 (tOr (tB (vU (bA 3) (dZ K (bA 0) "homes"))) (mD (tOp rNe (gZ (dZ K (bA 0) "homes") (bA 3)) (gZ (dZ K (bA 1) "homes") (bA 3))))) (eZ (eZ (start DG [V.ref a,V.ref b]) 2 (some (.ref l))) 3 (some (.int k))) d (!nW t u k):=by
   unfold nW;rw[hv];cases R:ak T.X k with
   | none=>have:=wQ (σ:=eZ (eZ (start DG [V.ref a,V.ref b]) 2 (some (.ref l))) 3 (some (.int k))) (i:=0) rfl h2.own.rd c (aj (i:=3) rfl);rw[R]at this;refine PT0.cast (nJ (b:=true) (c:=false) (p_b this) (λz=>by cases z)) ?_;rw[<-h.gx,R];rfl
   | some y=>
    have:=wQ (σ:=eZ (eZ (start DG [V.ref a,V.ref b]) 2 (some (.ref l))) 3 (some (.int k))) (i:=0) rfl h2.own.rd c (aj (i:=3) rfl);rw[R]at this;refine PT0.cast (nJ (b:=false) (p_b this) (λ_=>bM (gn (sG rfl h2.own.rd c (aj rfl) R) i1))) ?_;rw[<-h.gx,R,Bq]
    congr 1
    exact fH ⟨λz=>by rw[z],λz=>by injection z⟩
  refine gO tst (λg=> ?_) λg=> ?_
  .have G:((((dJ u).take i).filter λk=> !nW t u k).map (λk=>[3,k,(ak (gX u) k).getD 0,0])).length<=1000:=by
    rw[aJ];have:=fG (λk=> !nW t u k) ((dJ u).take i);have l2:((dJ u).take i).length<=(dJ u).length:=by rw[fD];omega
    have:=lt m.wf;omega
   refine Nr (row:=[3,k,v,0]) (aj rfl) (aq p_c (aq (aj rfl) (aq i1 (aq p_c aG)))) J G (by show 4<=10;decide) λL lr3 b3=>nx _ ⟨?_,O.trans b3⟩;rw[Z,mY,aB g,dw];have:(([k]:List Int).map (λk=>[3,k,(ak (gX u) k).getD 0,0]))=[[3,k,v,0]]:=by show [[3,k,(ak (gX u) k).getD 0,0]]=_;rw[hv];rfl
   rw[this];exact lr3
  .refine nx _ ⟨?_,O⟩;rw[Z,mY,au (by rw[g];decide),gH];exact J
 rintro v0 L ⟨J,O⟩;rw[aJ,fM]at J;have s3:Same H L:=O.kO s1 I;have h3:=h.same s3;dsimp only;refine aZ (gQ (iz ((aq (p_X rfl h3.own.rd c) aG) _ ⟨x,_,T.X.map (·.1),rfl,h3.own.rd.hx,zu _,λns l2 hp hs W=>⟨l2,rfl,?_⟩⟩)));have o:ns=dJ t:=oX (hp.trans (Jo h.rel)) hs (Jl h.wf.toSrt);subst o;have s4:Same L (upd L l2 (.lst ((dJ t).map V.int))):=Same.upd W;obtain⟨arA,ea0,_⟩:=id J;have nl2:l≠l2:=aX ea0 W;refine jN (xs:=(dJ t).map V.int) (λi d=>jy d l (((dJ u).filter λk=> !nW t u k).map (λk=>[3,k,(ak (gX u) k).getD 0,0])++(((dJ t).take i).filter λk=>decide (ak (gX u) k=none)).map λk=>[4,k,0,0])/\But l (upd L l2 (.lst ((dJ t).map V.int))) d) ⟨by have:=J.same s4;simpa using this,λ_ _ e _=>e⟩ (λi d z=>SqL.of (z.2 _ _ aH nl2.symm)) ⟨v0,rfl⟩ ?_ ?_
 .rintro i k d hi ⟨n,j⟩ N nx;obtain⟨k,hk,rfl⟩:=get_map hi;have s':Same H d:=j.kO (s3.trans s4) I;have B:=m.same s';have Z:=i_ hk;refine gO (p_b (wQ rfl B.own.rd c (aj rfl))) (λg=> ?_) λg=> ?_
  .rw[m.gx]at g;have g:=isN.mp g;have G:(((dJ u).filter λk=> !nW t u k).map (λk=>[3,k,(ak (gX u) k).getD 0,0])++(((dJ t).take i).filter λk=>decide (ak (gX u) k=none)).map λk=>[4,k,0,0]).length<=1000:=by
    rw[cV,aJ,aJ];have a1:=fG (λk=> !nW t u k) (dJ u);have a2:=fG (λk=>decide (ak (gX u) k=none)) ((dJ t).take i);have a3:((dJ t).take i).length<=(dJ t).length:=by rw[fD];omega
    have:=lt m.wf;have:=lt h.wf;omega
   refine Nr (row:=[4,k,0,0]) (aj rfl) (aq p_c (aq (aj rfl) (aq p_c (aq p_c aG)))) n G (by show 4<=10;decide) λH4 lr4 b4=>nx _ ⟨?_,j.trans b4⟩;rw[Z,mY,aB (cF g),dw,<-lU];exact lr4
  .rw[m.gx]at g;have g:=isS.mp g;refine nx _ ⟨?_,j⟩;rw[Z,mY,au (by rw[cY g];decide),gH];exact n
 .rintro v1 H5 ⟨n,j⟩;rw[aJ,fM]at n;dsimp only;exact aU (aj rfl) (q l H5 (j.kO (s3.trans s4) I) I n.rows)
end
def agj:G7->List Int
 | .group k r p=>[1,(k:Int),(r:Int),(p:Int)]
 | .gone k=>[2,(k:Int),0,0]
 | .home x g=>[3,(x:Int),(g:Int),0]
 | .out x=>[4,(x:Int),0,0]
theorem agk (l:List G7):Qo l=(l.map agj).flatten:=by unfold Qo;rw[List.flatMap_def];exact congrArg List.flatten (gJ λc _=>by cases c <;> rfl)
theorem arC:tX t g.key=some g↔ak (gR t) (g.key:Int)=some (g.rank:Int)/\ak (gP t) (g.key:Int)=some (g.parent:Int):=by
 rw[pQ,CP];cases e:tX t g.key with
 | none=>simp
 | some a=>
  have h:a.key=g.key:=by have:=GF e;simpa using this
  constructor;.intro z;injection z with z;rw[z];exact⟨rfl,rfl⟩
  .rintro⟨b,c⟩;injection b with b;injection c with c;have b:(a.rank:Int)=g.rank:=b;have c:(a.parent:Int)=g.parent:=c;have d:a.rank=g.rank:=by omega
   have f:a.parent=g.parent:=by omega
   congr 1
   cases a;cases g;simp only at h d f;rw[h,d,f]
theorem arD (w:WF t) (a:WF u):(BL t u).map agj=uT t u++uU t u:=by
 unfold BL uT uU bN dJ;rw[dw,dw,dw,bC,bC,bC,bC,j4,j4,j4,j4,bC,bC,bC,bC,lU];have f:(u.groups.filter λg=>tX t g.key !=some g)=u.groups.filter ((λk=> !nU t u k)∘λg=>(g.key:Int)):=by apply j5;intro g b;have:=(j_ a.toSrt).mp b;show(tX t g.key !=some g)= !nU t u (g.key:Int);unfold nU;rw[this.1,this.2,bne,aa6,jA,beq_iff_eq,cH];exact arC
 have h:(t.groups.filter λg=>(tX u g.key).isNone)=t.groups.filter ((λk=>decide (ak (gR u) k=none))∘λg=>(g.key:Int)):=by apply j5;intro g _;show(tX u g.key).isNone=decide (ak (gR u) (g.key:Int)=none);have:=oW (t:=u) (k:=(g.key:Int)) (by omega);rw[jg]at this;rw[this];cases ak (gR u) (g.key:Int) <;> rfl
 have i:(u.specimens.filter λp=>m9 t p.1 !=p.2)=u.specimens.filter ((λk=> !nW t u k)∘λp=>(p.1:Int)):=by
  apply j5;intro p c;have d:=(qK a.toSrt).mp c;obtain⟨_,v,l⟩:=a.spc _ _ d;have m:=(a.key _ _ l).1.1;show(m9 t p.1 !=p.2)= !nW t u (p.1:Int);unfold nW;rw[d,bne,aa6,jA,beq_iff_eq,cH];have:=C_ (t:=t) (k:=(p.1:Int)) (by omega);rw[jg]at this;cases e:ak (gX t) (p.1:Int)with
  | none=>rw[e]at this;simp at this ⊢;omega
  | some z=>rw[e]at this;simp at this ⊢;omega
 have j:(t.specimens.filter λp=>m9 u p.1==0)=t.specimens.filter ((λk=>decide (ak (gX u) k=none))∘λp=>(p.1:Int)):=by apply j5;intro p _;show(m9 u p.1==0)=decide (ak (gX u) (p.1:Int)=none);have:=ux a (k:=(p.1:Int)) (by omega);rw[jg]at this;rw[jA,beq_iff_eq,cH];exact this
 rw[f,h,i,j]
 congr 1
 .apply gJ;intro g b;have:=(j_ a.toSrt).mp (cC.mp b).1;show [1,(g.key:Int),(g.rank:Int),(g.parent:Int)]=q_ u (g.key:Int);unfold q_;rw[this.1,this.2];rfl
 .congr 1
  congr 1
  apply gJ;intro p c;have:=(qK a.toSrt).mp (cC.mp c).1;show [3,(p.1:Int),(p.2:Int),0]=[3,(p.1:Int),(ak (gX u) (p.1:Int)).getD 0,0];rw[this];rfl
theorem Zb:∀r∈uT t u++uU t u,r.length=4:=by intro r a;rcases dO.mp a with h | h <;> rcases dO.mp h with z | z <;> obtain⟨k,_,rfl⟩:=aQ.mp z <;> rfl
theorem arE (w:WF t) (a:WF u):(uT t u).length<=64/\(uU t u).length<=128:=by
 unfold uT uU;rw[cV,cV,aJ,aJ,aJ,aJ];have b:=fG (λk=> !nU t u k) (bN u);have c:=fG (λk=>decide (ak (gR u) k=none)) (bN t);have d:=fG (λk=> !nW t u k) (dJ u);have e:=fG (λk=>decide (ak (gX u) k=none)) (dJ t);have f:(bN u).length<=32:=by unfold bN;rw[aJ];exact a.ng
 have g:(bN t).length<=32:=by unfold bN;rw[aJ];exact w.ng
 have h:(dJ u).length<=64:=by unfold dJ;rw[aJ];exact a.nx
 have i:(dJ t).length<=64:=by unfold dJ;rw[aJ];exact w.nx
 exact⟨by omega,by omega⟩
theorem Zc:∀{rows:List (List Int)},(∀r∈rows,r.length=4)->rows.flatten.length=4 * rows.length
 | [],_=>rfl
 | r::rows,h=>by rw[List.flatten_cons,cV,Zc λr a=>h r (cO _ a),h r cU,bR];omega
section
def Nt (t u:b_):List Int:=((BL t u).length:Int)::Qo (BL t u)
inductive xM (C:Addr) (ans:b_->b_->List Int) (vs:List V) (H:Hp) (Q:VK) (E:XK):Prop
 | mk a r p x b r' p' x' T U t u:vs=[.ref a,.ref b]->TAt C H a r p x T t->TAt C H b r' p' x' U u->jd (ans t u) H Q->xM C ans vs H Q E
theorem arF (F:Fun K "list_changes" "list_changes" Um f fd) (cs:Cs K mg) (arG:Df P w K mg base "changes_of_groups" JV 2 (Fz C uT)) (arH:Df P w K mg base "changes_of_specimens" JX 2 (Fz C uU)):aY P w K mg base CX0 3 f fd J0 (xM C Nt):=by
 refine F.ok J1 (by walk_at "l") (λ_ A _ s H vs Q E hr hz=> ?_);obtain⟨a,r,p,x,b,r',p',x',T,U,t,u,e,h,h',q⟩:=hz;subst e;refine⟨_,(aF (bO (i:=2) J1.nd (jD Cq (aL arG hr (ao (pv 0) (ao (pv 1) aA))) (aL arH hr (ao (pv 0) (ao (pv 1) aA)))))
   (aF (bO (i:=3) J1.nd (cT (ao (cB fK rfl cs.len dF (ao (pv 2) aA)) aA)))
   (aF (d7 dG rfl (eV (pv 2)) (cQ (i:=4) J1.nd) (aD (eE (jo iD vp yg yL (pv 3) (ao (pv 4) aA)))))
   (aD (aK (pv 3)))))),?_⟩
 have eD:=arD h.wf h'.wf;obtain⟨lG,lX⟩:=arE h.wf h'.wf;refine aZ (d9 (jM (bx ((aq (aj rfl) (aq (aj rfl) aG)) _ ⟨a,r,p,x,b,r',p',x',T,U,t,u,rfl,h,h',λl1 H1 s1 hl1 r1=> ?_⟩))));refine bx ((aq (aj rfl) (aq (aj rfl) aG)) _ ⟨a,r,p,x,b,r',p',x',T,U,t,u,rfl,h.same s1,h'.same s1,λl2 R s2 hl2 r2=> ?_⟩);obtain⟨c,e11,S,e13⟩:=r1.same s2;obtain⟨d,e21,W,e23⟩:=r2;have la1:c.length<=64:=by have:=congrArg iR S;rw[aJ]at this;omega
 have la2:d.length<=128:=by have:=congrArg iR W;rw[aJ]at this;omega
 refine⟨l1,l2,_,_,rfl,rfl,e11,e21,by rw[aJ,aJ];exact cI (show _<=192 by omega) (by decide),λJ hl3=> ?_⟩;have O:Same R (upd R J (.lst ((c.map λq=>V.ref q.1)++d.map λq=>V.ref q.1))):=Same.upd hl3;have g:=(s1.trans s2).trans O;have el3:(c.map λq=>V.ref q.1)++(d.map λq=>V.ref q.1)=(c++d).map λq=>V.ref q.1:=by rw[dw]
 rw[el3]at O g ⊢;generalize B:c++d=ars at O g ⊢;have j:ars.map (·.2)=uT t u++uU t u:=by rw[<-B,dw,S,W]
 have l:∀q∈ars,upd R J (.lst (ars.map λq=>V.ref q.1)) q.1=some (.lst (q.2.map V.int)):=λq I=>by
  rw[<-B]at I;rcases dO.mp I with z | z;.exact O _ _ (e13 q z)
  .exact O _ _ (e23 q z)
 have lar:ars.length=(BL t u).length:=by have:=congrArg iR (j.trans eD.symm);rw[aJ,aJ]at this;exact this
 have avE:ars.length<=192:=by rw[<-B,cV];omega
 have el:upd R J (.lst (ars.map λq=>V.ref q.1)) J=some (.lst (ars.map λq=>V.ref q.1)):=aH;generalize upd R J (.lst (ars.map λq=>V.ref q.1))=H3 at O g l el ⊢;dsimp only;refine aZ (d9 (lO (aq (f9 (aq (aj rfl) aG) (SqL.of el)) aG) (by show 1<=sizeLine;decide) λan m=> ?_));have nla:=aX el m;have X:=g.free m;have nq:=λq I=>aX (l q I) m;dsimp only;refine aZ (gQ ((aj rfl) _ ⟨J,rfl,?_⟩));refine jN (xs:=ars.map λq=>V.ref q.1) (λi G=>G an=some (.lst (((ars.length:Int)::((ars.take i).map (·.2)).flatten).map V.int))/\But an H3 G) ⟨by rw[aH,aJ];rfl,λb o e n=>by rw[aC n];exact e⟩ (λi G z=>SqL.of (z.2 _ _ el nla)) ⟨none,rfl⟩ ?_ ?_
 .rintro i y G hi ⟨e3,Z⟩ N nx;rw[dM]at hi;obtain⟨L,Y,rfl⟩:=iT.mp hi;have hm:=gq Y;have h4:∀r∈(ars.take i).map (·.2),r.length=4:=λr hr=>by obtain⟨q,I,rfl⟩:=aQ.mp hr;exact Zb _ (j▸aQ.mpr ⟨q,GJ I,rfl⟩)
  have lq:L.2.length=4:=Zb _ (j▸aQ.mpr ⟨L,hm,rfl⟩);have lf:=Zc h4;have lt:(ars.take i).length<=192:=by rw[fD];omega
  rw[aJ]at lf;refine Fw (aj rfl) e3 (ys:=L.2.map V.int) (by rw[aJ,aJ,bR];omega) (agb (aj rfl) (Z _ _ (l L hm) (nq L hm))) λH4 s4=>nx _ ⟨?_,λb o e n=>by rw[aC n];exact s4 _ _ (Z b o e n)⟩;rw[aH,j6,Y];show some (HO.lst _)=some (HO.lst (((ars.length:Int)::(((ars.take i)++[L]).map (·.2)).flatten).map V.int));rw[dw,List.flatten_append,bT,bT,dw];simp
 .rintro v G ⟨e3,Z⟩;rw[aJ,fM,j,<-eD,lar,<-agk]at e3;dsimp only;refine aU (aj rfl) (q an G (Z.kO g X) X e3 ?_);have l1:=Zc (Zb (t:=t) (u:=u));rw[<-eD,<-agk,aJ]at l1;unfold Nt;rw[bR,l1];omega
end
section
def Am (l m:List Int):Prop:=(∃x∈l,x∈m)/\(∃x∈l,x∉m)/\∃x∈m,x∉l
noncomputable instance (l m:List Int):Decidable (Am l m):=Qt _
theorem arI (d:PE0 ta σ H (.int a)) (f:PE0 tb σ H (.int b)) (g:PE0 tc σ H (.int c)):PE0 (QS (rI0 λi j=> .bl (decide (i < j))) (rI0 λi j=> .bl (decide (i < j))) ta tb tc) σ H (.bl (decide (a < b)&&decide (b < c))):=λQ q=>
 d _ (f _ ⟨a,b,rfl,rfl,decide (a < b),rfl,by
  cases e:decide (a < b)with
  | true=>rw[e]at q;exact Ii (g _ ⟨b,c,rfl,rfl,q⟩)
  | false=>rw[e]at q;exact Ih q⟩)
theorem agl (ns:List Int) (k:Int):((firstMet (λi=>ns.getD i 0) ns.length).any (· ==k))=decide (k∈ns):=by
 unfold firstMet;rw[range_getD];have c:∀(ns a:List Int),((ns.foldl rD a).any (· ==k))=(a.any (· ==k)||decide (k∈ns)):=by
  intro ns
  induction ns with
  | nil=>intro a;simp
  | cons n ns d=>
   intro a;rw[u9,d];unfold rD;by_cases b:a.any (· ==n)=true
   .rw[aB b];by_cases e:k=n;.subst e;rw[b];rfl
    .have:decide (k∈n::ns)=decide (k∈ns):=fH (by simp[e]);rw[this]
   .rw[au b,List.any_append];by_cases e:k=n;.subst e;simp
    .have:decide (k∈n::ns)=decide (k∈ns):=fH (by simp[e]);rw[this];have:([n].any (· ==k))=false:=by simp[show ¬n=k from λz=>e z.symm]
     rw[this,aa4]
 rw[c];rfl
theorem arJ {l m:List Int} (j:l.Nodup) (n:m.Nodup):(0 < (l.filter λx=>decide (x∈m)).length↔∃x∈l,x∈m)/\((l.filter λx=>decide (x∈m)).length < l.length↔∃x∈l,x∉m)/\((l.filter λx=>decide (x∈m)).length < m.length↔∃x∈m,x∉l):=by
 have i:(l.filter λx=>decide (x∈m)).Nodup:=j.sublist jf;have a:∀x,x∈(l.filter λx=>decide (x∈m))↔x∈l/\x∈m:=λx=>by rw[cC,cH]
 have h:=Fd _ m i λx b=>((a x).mp b).2;refine⟨⟨λz=> ?_,λ⟨x,c,d⟩=>Pk ((a x).mpr ⟨c,d⟩)⟩,⟨λz=> ?_,λ⟨x,c,d⟩=> ?_⟩,⟨λz=> ?_,λ⟨x,c,d⟩=> ?_⟩⟩;.have:=O_ z;exact⟨_,(a _).mp this⟩
 .refine jk λy=> ?_;have:=Fd l _ j λx b=>(a x).mpr ⟨b,jk λu=>y ⟨x,b,u⟩⟩;omega
 .have g:=fG (λx=>decide (x∈m)) l;refine aaB g λe=> ?_;have:=Jt _ l i (λy f=>((a y).mp f).1) (by omega) x c;exact d ((a x).mp this).2
 .refine jk λy=> ?_;have:=Fd m _ n λx b=>(a x).mpr ⟨jk λu=>y ⟨x,b,u⟩,b⟩;omega
 .refine aaB h λe=> ?_;have:=Jt _ m i (λy f=>((a y).mp f).2) (by omega) x c;exact d ((a x).mp this).1
inductive Zd (K:aW) (vs:List V) (H:Hp) (v:V):Prop
 | mk a b l m bb:vs=[.ref a,.ref b]->SqL K H a (l.map V.int)->SqL K H b (m.map V.int)->l.Nodup->m.Nodup->l.length<=64->m.length<=64->v= .bl bb->(bb=true↔Am l m)->Zd K vs H v
theorem arK (F:Fun K "do_clash" "do_clash" Uo f fd) (c:Cs K mg):aY P w K mg base CX0 1 f fd J2 (gU (Zd K)):=by
 refine F.ok aeF (by walk_at "l") (λ_ A _ s H vs Q E Y U=> ?_);obtain⟨v,⟨a,b,l,m,X,e,y,z,p,B,Z,lm,N,j⟩,q⟩:=U;subst e;subst N;refine⟨_,(aF (bO (i:=2) aeF.nd (cB ael rfl c.len dF (ao (jD alE (mF (Ss rfl) rfl c.set afh (ao (pv 0) aA)) (mF (Ss rfl) rfl c.set afh (ao (pv 1) aA))) aA)))
   (aD (aK (oH (vK yG yG aM (pv 2) (cB fK rfl c.len dF (ao (pv 0) aA))) (mz (gY yG (pv 2) (cB fK rfl c.len dF (ao (pv 1) aA)))))))),?_⟩
 have I:=(Sq l).mpr p;have J:=(Sq m).mpr B;refine aZ (d9 (iz (dj (jM (iz ((aq (aj rfl) aG) _ ⟨a,l,rfl,y,by omega,λh n=> ?_⟩))))));have G:Same H (upd H h (wB l)):=Same.upd n;refine iz ((aq (aj rfl) aG) _ ⟨b,m,rfl,G.seq z,by omega,λt d=> ?_⟩);have g:=aX aH d;have W:Same H (upd (upd H h (wB l)) t (wB m)):=G.trans (Same.upd d);refine⟨h,t,_,_,_,_,rfl,rfl,by rw[aC g];exact aH,aH,g,by rw[I];omega,by rw[J];omega,λC k o T=> ?_⟩;have L:k=(l.filter λx=>decide (x∈m)).length:=T _ (p.sublist jf) λi=>by rw[agl,agl,cC,dY,cH,cH]
 refine⟨C,_,_,rfl,aH,?_⟩;have u:=W.trans (Same.upd o:Same _ (upd (upd (upd H h (wB l)) t (wB m)) C (.set (λi=>(firstMet (λi=>l.getD i 0) l.length).any (· ==i)&&(firstMet (λi=>m.getD i 0) m.length).any (· ==i)) k)));obtain⟨O,R,S⟩:=arJ p B;dsimp only;refine aU (o9 (arI p_c (aj rfl) (f9 (K:=K) (aq (aj rfl) aG) (u.seq y))) λ_=>p_i (aj rfl) (f9 (K:=K) (aq (aj rfl) aG) (u.seq z))) (vb2 (q _ u) j ?_);rw[dY,dY,cH,cH,cH,aJ,aJ,L];unfold Am;rw[<-O,<-R,<-S];omega
def FJ (t u:b_):List Int:=Vbnlah.ints ((Hi t u).length::(Hi t u).flatMap λp=>[p.1,p.2])
noncomputable def cl2 (t u:b_) (a b:Int):Bool:=decide (Am (bK t a) (bK u b))
noncomputable def pairsOf (t u:b_) (c:List Int):List (Int×Int):=c.flatMap λa=>((bN u).filter λb=>cl2 t u a b).map λb=>(a,b)
def xO (l:List (Int×Int)):List Int:=l.flatMap λp=>[p.1,p.2]
theorem agm (l:List (Int×Int)):(xO l).length=2 * l.length:=by
 unfold xO
 induction l with
 | nil=>rfl
 | cons a l b=>simp only[GK,cV,bR,jY]at b ⊢;omega
theorem agn (w:WF t) (k:Int):(bK t k).Nodup:=by unfold bK;rw[uN];exact(akL w.toSrt k.toNat).imp λh e=>by omega
theorem arL (t u:b_) (a b:Nat):(Qp (iU t a) (iU u b)&&(!Vbnlah.inside (iU t a) (iU u b)&& !Vbnlah.inside (iU u b) (iU t a)))=cl2 t u (a:Int) (b:Int):=by
 unfold cl2 Qp Vbnlah.inside;have i:∀{l m:List Nat},(∃x∈zs l,x∈zs m)↔∃x∈l,x∈m:=by
  intro l m;constructor;.rintro⟨x,d,e⟩;obtain⟨n,c,rfl⟩:=aQ.mp d;exact⟨n,c,qL.mp e⟩
  .rintro⟨n,c,f⟩;exact⟨(n:Int),qL.mpr c,qL.mpr f⟩
 have h:∀{l m:List Nat},(∃x∈zs l,x∉zs m)↔∃x∈l,x∉m:=by
  intro l m;constructor;.rintro⟨x,d,e⟩;obtain⟨n,c,rfl⟩:=aQ.mp d;exact⟨n,c,λz=>e (qL.mpr z)⟩
  .rintro⟨n,c,f⟩;exact⟨(n:Int),qL.mpr c,λz=>f (qL.mp z)⟩
 have g:∀{l m:List Nat},(!(l.all λx=>m.contains x))=true↔∃x∈l,x∉m:=by
  intro l m;rw[Pz,<-GR,m5];constructor;.intro z;exact jk λy=>z λx d=>n8.mpr (jk λu=>y ⟨x,d,u⟩)
  .rintro⟨x,d,e⟩ z;exact e (n8.mp (z x d))
 rw[jA,dY,dY,g,g,cH,n6];unfold Am bK;rw[jg,jg,i,h,h];exact and_congr (exists_congr λx=>qC λ_=>n8) lZ
theorem arM (t u:b_):FJ t u=((pairsOf t u (bN t)).length:Int)::xO (pairsOf t u (bN t)):=by
 have e:(Hi t u).map (λp=>((p.1:Int),(p.2:Int)))=pairsOf t u (bN t):=by
  unfold Hi pairsOf bN;rw[List.filter_flatMap,tM,Bk]
  congr 1
  funext g;rw[j4,bC,j4,bC];have:(u.groups.filter ((λp:Nat×Nat=>Qp (iU t p.1) (iU u p.2)&&(!Vbnlah.inside (iU t p.1) (iU u p.2)&& !Vbnlah.inside (iU u p.2) (iU t p.1)))∘λh=>(g.key,h.key)))=u.groups.filter ((λb=>cl2 t u (g.key:Int) b)∘λh=>(h.key:Int)):=by apply j5;intro h _;exact arL t u g.key h.key
  exact(congrArg _ this).trans rfl
 unfold FJ xO;rw[<-e,aJ,Bk];show((_:Nat):Int)::zs _=_;unfold zs;rw[tM];rfl
theorem ago (e:WF u) (c:List Int):(pairsOf t u c).length<=32 * c.length:=by
 have f:(bN u).length<=32:=by unfold bN;rw[aJ];exact e.ng
 unfold pairsOf
 induction c with
 | nil=>exact bW _
 | cons a c d=>have:=fG (λb=>cl2 t u a b) (bN u);simp only[GK,cV,bR,aJ]at d ⊢;omega
theorem arN (F:Fun K "list_clashes" "list_clashes" Uq f fd) (cs:Cs K mg) (mU:Df P w K mg base "held_specimens" qP 2 (sU C)) (arO:Df P w K mg base "do_clash" J2 1 (gU (Zd K))):aY P w K mg base CX0 3 f fd J3 (xM C FJ):=by
 refine F.ok uF (by walk_at "l") (λ_ A _ s H vs Q E hr hz=> ?_);obtain⟨a,r,p,x,b,r',p',x',T,U,t,u,e,h,L,q⟩:=hz;subst e;refine⟨_,(aF (bO (i:=2) uF.nd (aL mU hr (ao (pv 0) aA)))
   (aF (bO (i:=3) uF.nd (aL mU hr (ao (pv 1) aA)))
   (aF (bO (i:=4) uF.nd aM)
   (aF (bO (i:=5) uF.nd (cT aA))
   (aF (d7 dG rfl (eV (cB (rR rfl) rfl cs.sorted o7 (ao (pv 2) aA))) (cQ (i:=6) uF.nd) (aD (d7 dG rfl (eV (cB (rR rfl) rfl cs.sorted o7 (ao (pv 3) aA))) (cQ (i:=7) uF.nd) (aD (aR (bV (aL arO hr (ao (cu (pv 2) (pv 6) (bw hr)) (ao (cu (pv 3) (pv 7) (bw hr)) aA)))) (aF (QH (i:=4) uF.nd rfl (vm rfl) aM aix)
   (aD (eE (jo iD vp yg yL (pv 5) (ao (cT (ao (pv 6) (ao (pv 7) aA))) aA))))) aV)))))
   (aD (aK (jD Cq (cT (ao (pv 4) aA)) (pv 5))))))))),?_⟩
 rw[arM]at q;have lkg:∀{t:b_},WF t->(bN t).length<=32:=λw=>by unfold bN;rw[aJ];exact w.ng
 refine aZ (d9 (bx ((aq (aj rfl) aG) _ ⟨a,r,p,x,T,t,rfl,h,λd1 ka1 H1 s1 fd1 fk1 hd1 hA1 hk1=> ?_⟩)));dsimp only;refine aZ (d9 (bx ((aq (aj rfl) aG) _ ⟨b,r',p',x',U,u,rfl,L.same s1,λd2 ka2 H2 s2 fd2 fk2 X W hk2=> ?_⟩)));have s02:=s1.trans s2;have g:=s2 _ _ hd1;have agp:=hA1.same s2;dsimp only;refine o_ p_c ?_;refine aZ (d9 (lO aG (by show 0<=sizeLine;decide) λc l=> ?_));have fpr:H c=none:=s02.free l;have s3:Same H2 (upd H2 c (.lst [])):=Same.upd l;have n1:d1≠c:=aX g l;have n2:d2≠c:=aX X l;have m1:∀q∈ka1,q.2≠c:=λq hq=>aX (agp.at_ q hq) l;have m2:∀q∈ka2,q.2≠c:=λq hq=>aX (W.at_ q hq) l;dsimp only;refine aZ (gQ (iz ((aq (aj rfl) aG) _ ⟨d1,_,ka1.map (·.1),rfl,.inl (s3 _ _ g),Xi ka1,λns1 l1 hp1 hs1 hl1=>⟨l1,rfl,?_⟩⟩)));have en1:ns1=bN t:=oX (hp1.trans (by rw[hk1];exact Dm h.rel)) hs1 (Jm h.wf.toSrt);subst en1;have nl1:c≠l1:=aX (a:=c) aH hl1;have s4:Same H2 (upd (upd H2 c (.lst [])) l1 (.lst ((bN t).map V.int))):=s3.trans (Same.upd hl1);refine⟨⟨_,SqL.of aH⟩,yF (a:=l1) (xs:=(bN t).map V.int) (λi σ' m=>∃va vb,σ'=[some (.ref a),some (.ref b),some (.ref d1),some (.ref d2),some (.int (pairsOf t u ((bN t).take i)).length),some (.ref c),va,vb]/\m c=some (.lst ((xO (pairsOf t u ((bN t).take i))).map V.int))/\But c (upd (upd H2 c (.lst [])) l1 (.lst ((bN t).map V.int))) m) ⟨none,none,rfl,by rw[aC nl1];exact aH,λ_ _ e _=>e⟩ (λi σ' m _ ⟨_,_,_,_,S⟩=>SqL.of (S _ _ aH nl1.symm)) ?_ ?_⟩
 .rintro i y σ' m hi ⟨va,vb0,rfl,ep,S⟩;obtain⟨d,Y,rfl⟩:=get_map hi;obtain⟨v,hv⟩:=(zf h.wf.toSrt).mp (gq Y);obtain⟨la,Z⟩:=Ai h hk1 hv;have avF:=S _ _ (s4 _ _ g) n1;have arP:=S _ _ (s4 _ _ X) n2;have lt1:((bN t).take i).length<=31:=by have:=(jX.mp Y).1;have:=lkg h.wf;rw[fD];omega
  have lp1:=ago (t:=t) L.wf ((bN t).take i);refine gQ (iz ((aq (aj rfl) aG) _ ⟨d2,_,ka2.map (·.1),rfl,.inl arP,Xi ka2,λns2 l2 hp2 hs2 hl2=>⟨l2,rfl,?_⟩⟩));have en2:ns2=bN u:=oX (hp2.trans (by rw[hk2];exact Dm L.rel)) hs2 (Jm L.wf.toSrt);subst en2;have nl2:c≠l2:=aX ep hl2;have s5:Same m (upd m l2 (.lst ((bN u).map V.int))):=Same.upd hl2;refine⟨⟨_,SqL.of aH⟩,yF (a:=l2) (xs:=(bN u).map V.int) (λj σ2 H3=>∃vb,σ2=[some (.ref a),some (.ref b),some (.ref d1),some (.ref d2),some (.int ((pairsOf t u ((bN t).take i)).length+(((bN u).take j).filter λb=>cl2 t u d b).length:Nat)),some (.ref c),some (.int d),vb]/\H3 c=some (.lst ((xO (pairsOf t u ((bN t).take i)++(((bN u).take j).filter λb=>cl2 t u d b).map λb=>(d,b))).map V.int))/\But c (upd m l2 (.lst ((bN u).map V.int))) H3) ⟨vb0,rfl,by rw[aC nl2];simpa using ep,λ_ _ e _=>e⟩ (λj σ2 H3 _ ⟨_,_,_,bu2⟩=>SqL.of (bu2 _ _ aH nl2.symm)) ?_ ?_⟩
  .rintro j y σ2 H3 hj ⟨vb1,rfl,G,B⟩;obtain⟨R,hkb,rfl⟩:=get_map hj;obtain⟨v',hv'⟩:=(zf L.wf.toSrt).mp (gq hkb);obtain⟨lb,hqb⟩:=Ai L hk2 hv';have up:∀{z o},H2 z=some o->z≠c->H3 z=some o:=λe n=>B _ _ (s5 _ _ (S _ _ (s4 _ _ e) n)) n;have O:=i_ hkb;obtain⟨bb,hbb⟩:=exb (Am (bK t d) (bK u R));have N:cl2 t u d R=bb:=by unfold cl2;rw[jA,cH,hbb]
   have lfj:=fG (λb=>cl2 t u d b) ((bN u).take j);have ltj:((bN u).take j).length<=32:=by have:=lkg L.wf;rw[fD];omega
   show oJ _ _ _ _ _ _;refine ao0 (q_b (kJ (aq (qW (aj rfl) (aj rfl) (.inl (up g n1)) hA1.ndk Z) (aq (qW (aj rfl) (aj rfl) (.inl (up X n2)) W.ndk hqb) aG)) ⟨la,lb,bK t d,bK u R,bb,rfl,SqL.of (up (agp.at_ _ Z) (m1 _ Z)),SqL.of (up (W.at_ _ hqb) (m2 _ hqb)),agn h.wf d,agn L.wf R,zj h.wf d,zj L.wf R,rfl,hbb⟩)) (λH4 J hb=> ?_) λH4 J hb=> ?_
   .refine aZ ⟨_,rfl,p_c _ ⟨_,_,rfl,rfl,?_⟩⟩;have ep4:=J _ _ G;have I:=agm (pairsOf t u ((bN t).take i)++(((bN u).take j).filter λb=>cl2 t u d b).map λb=>(d,b));rw[cV,aJ]at I;refine Fw (aj rfl) ep4 (ys:=[V.int d,V.int R]) (by rw[aJ,I];show _+2<=_;omega) (YH (aq (aj rfl) (aq (aj rfl) aG)) (by show 2<=100;decide)) λH5 s5'=> ?_;refine⟨some (.int R),?_,?_,λz o e n=>by rw[aC n];exact s5' _ _ (J _ _ (B z o e n))⟩
    .have e1:(((pairsOf t u ((bN t).take i)).length+(((bN u).take (j+1)).filter λb=>cl2 t u d b).length:Nat):Int)=(((pairsOf t u ((bN t).take i)).length+(((bN u).take j).filter λb=>cl2 t u d b).length:Nat):Int)+1:=by rw[O,mY,N,hb,aB rfl,cV];show((_+(_+1):Nat):Int)=_;omega
     rw[e1];rfl
    .rw[aH,O,mY,N,hb,aB rfl,dw,<-lU];unfold xO;rw[Bh (ys:=aaX _ [R]),dw];rfl
   .refine⟨some (.int R),?_,?_,λz o e n=>J _ _ (B z o e n)⟩;.rw[O,mY,N,hb,au (by decide),gH];rfl
    .rw[O,mY,N,hb,au (by decide),gH];exact J _ _ G
  .rintro σ2 H3 ⟨vb1,rfl,G,B⟩;rw[aJ,fM]at G;have hti:pairsOf t u ((bN t).take (i+1))=pairsOf t u ((bN t).take i)++((bN u).filter λb=>cl2 t u d b).map λb=>(d,b):=by rw[i_ Y];unfold pairsOf;rw[Bh];simp
   refine⟨some (.int d),vb1,?_,by rw[hti];exact G,λz o e n=>B _ _ (s5 _ _ (S z o e n)) n⟩;rw[hti,cV,aJ,aJ,fM]
 .rintro σ' m ⟨va,vb0,rfl,ep,S⟩;rw[aJ,fM]at ep;have lp:=ago (t:=t) L.wf (bN t);have:=lkg h.wf;have s6:Same H m:=S.kO (s02.trans s4) fpr;have I:=agm (pairsOf t u (bN t));dsimp only;rw[aJ,fM];refine bL (jM (lO (aq (aj rfl) aG) (by show 1<=sizeLine;decide) λl3 hl3=>(aj rfl) _ ?_));have n3:c≠l3:=aX ep hl3;refine⟨l3,c,_,_,rfl,rfl,aH,by rw[aC n3];exact ep,by rw[aJ,I];exact cI (show 1+_<=3000 by omega) (by decide),λl4 hl4=> ?_⟩;have s7:Same m (upd m l3 (.lst [.int (pairsOf t u (bN t)).length])):=Same.upd hl3;refine q l4 _ ((s6.trans s7).trans (Same.upd hl4)) ((s6.trans s7).free hl4) (by rw[aH];rfl) ?_;rw[bR,I];omega
end
section
inductive Ze (vs:List V) (H:Hp) (v:V):Prop
 | mk d d' S S':vs=[.ref d,.ref d']->H d=some (.dT (dS S))->H d'=some (.dT (dS S'))->d≠d'->S.length<=32->(v= .int ((S.filter λl=>decide (l∉S')).length:Nat))->Ze vs H v
theorem arQ (F:Fun K "count_missing" "count_missing" Ur f fd) (W:Cs K mg):aY P w K mg base CX0 1 f fd J4 (gU Ze):=by
 refine F.ok Us (by walk_at "l") (λ_ A _ s H vs Q E hr hz=> ?_);obtain⟨v,⟨d,X,S,j,e,O,o,T,lS,ev⟩,q⟩:=hz;subst e;subst ev;refine'⟨_,(aD (aK (cB fK rfl W.len dF (ao (vX (lE (own:=[("told",2)]) rfl Us.nd (mG (pv 0)) (lF rfl) ?g1 ?t1 ?e1)) aA)))),?_⟩
 case g1=>exact λ_ _ _ _ _=>cQ (i:=2) Us.nd
 case t1=>exact λ_ _ _ _ _=>vP (gA (g8 (bw hr) (pv 2) (pv 1)))
 case e1=>exact λ_ _ _ _ _=>(pv 2)
 refine bL (iz (dj (wM O gK λz=> ?_)));refine nH (qQ ((aj rfl) _ ⟨d,z,rfl,.inr ⟨_,aH,λD C=> ?_⟩⟩));have x:=aX aH C;obtain⟨_,G⟩:=fC C;have n:(dS S).length=S.length:=by unfold dS;rw[aJ]
 refine⟨λi m N=>m=S.length-i/\i<=S.length/\∃a,N=upd (upd H d (.frz z (.dT (dS S)))) D (.lst a)/\a.length=((S.take i).filter λl=>decide (l∉j)).length,⟨S.length,rfl,fU _,[],rfl,rfl⟩,?_⟩;rintro i m N ⟨rfl,hi,a,rfl,t⟩;have h:upd (upd H d (.frz z (.dT (dS S)))) D (.lst a) d=some (.frz z (.dT (dS S))):=by rw[aC x,aH]
 by_cases p:i < S.length
 .refine .inr ⟨⟨h,by rw[n];exact p⟩,λg=>∃a,g=upd (upd H d (.frz z (.dT (dS S)))) D (.lst a)/\a.length=((S.take (i+1)).filter λl=>decide (l∉j)).length,λg ⟨a,z1,z2⟩=>⟨S.length- (i+1),by omega,rfl,p,a,z1,z2⟩,?_⟩;rintro y g ⟨rfl,k,v,U,I,rfl,J⟩;obtain⟨l,hl,Y⟩:∃l,S[i]? =some l/\((l.map bI:List Key),V.bl true)=(k,v):=by unfold dS at I;rw[dM]at I;exact iT.mp I
  injection Y with B Z;subst B;have R:S.take (i+1)=S.take i++[l]:=by rw[j6,hl];rfl
  have L:=aX (by rw[aC T.symm];exact o) C;have lt:((S.take i).filter λl=>decide (l∉j)).length<=32:=by
   have:=fG (λl=>decide (l∉j)) (S.take i);have l2:(S.take i).length<=S.length:=by rw[fD];omega
   omega
  refine⟨L_ _ 2 _,?_⟩;refine r_b ((aj rfl) _ ((aj rfl) _ ⟨X,_,rfl,.inr ⟨_,l.map bI,U,.inl (by rw[aC L,aC T.symm];exact o),rfl,J,rfl⟩,_,rfl,?_⟩));rw[Mx];by_cases c:l∈j;.rw[aB c,au (by decide)];refine⟨a,rfl,?_⟩;rw[R,mY,au (by rw[cY (oE c)];decide),gH];exact t
  .rw[au c,aB (by decide)];refine(aj rfl) _ ⟨a,aH,by rw[t];exact gD lt (by decide),a++[.ref U],by rw[mq],?_⟩;rw[R,mY,aB (cF c),cV,cV,t];rfl
 .have:i=S.length:=by omega
  subst this;rw[fM]at t;refine .inl ⟨⟨h,by rw[n];exact bW _⟩,h,?_⟩;refine⟨D,a,rfl,.inl (SqL.of (by rw[aC x.symm,aH])),?_⟩;rw[t];refine q _ λb u e=> ?_;by_cases e1:b=d;.subst e1;rw[aH,<-O,e]
  .rw[aC e1,aC (aX e G),aC e1];exact e
def Nu (t u:b_):List Int:=Vbnlah.ints [Hj t u,Hj u t]
theorem agr {t u:b_} (w:WF t) (i:WF u) {S a:List (List Int)} (g:S.Nodup) (b:∀l,l∈S↔l≠[]/\∃k v,ak (gR t) k=some v/\l=bK t k) (d:a.Nodup) (c:∀l,l∈a↔l≠[]/\∃k v,ak (gR u) k=some v/\l=bK u k):Hj t u=(S.filter λl=>decide (l∉a)).length:=by
 have h:=Y9 w g b;have f:=Y9 i d c;unfold Hj;dsimp only;have:=(h.filter λl=>decide (l∉a)).length_eq;rw[this,j4,aJ]
 congr 1
 apply j5;intro l _;show(!(yu u).contains l)=decide (zs l∉a);rw[jA,cH,Pz,<-GR,n8];refine not_congr ⟨λz=>f.mem_iff.mpr (aQ.mpr ⟨l,z,rfl⟩),λz=> ?_⟩;obtain⟨m,b,e⟩:=aQ.mp (f.mem_iff.mp z);rw[<-Jk e];exact b
theorem arR (F:Fun K "count_apart" "count_apart" Ut f fd) (cs:Cs K mg) (X:Df P w K mg base "sets_of" zB 3 (zY C)) (d:Df P w K mg base "count_missing" J4 1 (gU Ze)):aY P w K mg base CX0 4 f fd J5 (xM C Nu):=by
 refine F.ok Uu (by walk_at "l") (λ_ A _ s H vs Q E n Z=> ?_);obtain⟨a,r,p,x,b,r',p',x',T,U,t,u,e,h,o,q⟩:=Z;subst e;refine⟨_,(aF (bO (i:=2) Uu.nd (aL X n (ao (pv 0) aA)))
   (aF (bO (i:=3) Uu.nd (aL X n (ao (pv 1) aA)))
   (aD (aK (cT (ao (aL d n (ao (pv 2) (ao (pv 3) aA))) (ao (aL d n (ao (pv 3) (ao (pv 2) aA))) aA))))))),?_⟩
 refine aZ (d9 (bx ((aq (aj rfl) aG) _ ⟨a,r,p,x,T,t,rfl,h,λB y H1 S f1 g N l1 J=> ?_⟩)));refine aZ (d9 (bx ((aq (aj rfl) aG) _ ⟨b,r',p',x',U,u,rfl,o.same S,λG z H2 W Y j O l2 L=> ?_⟩)));have c:=W _ _ g;have R:=aX g Y;refine bL (Fy (dj ((kJ (aq (aj rfl) (aq (aj rfl) aG)) ⟨B,G,y,z,rfl,c,j,R,l1,rfl⟩) _ λH3 v=> ?_)));refine dj ((kJ (aq (aj rfl) (aq (aj rfl) aG)) ⟨G,B,z,y,rfl,v _ _ j,v _ _ c,R.symm,l2,rfl⟩) _ λH4 s4=> ?_);refine⟨by show 2<=sizeLine;decide,λl I=> ?_⟩;have m:=((S.trans W).trans v).trans s4;refine q l _ (m.trans (Same.upd I)) (m.free I) ?_ (by show 2<=5000;decide);rw[aH];unfold Nu;rw[agr h.wf o.wf N J O L,agr o.wf h.wf O L N J];rfl
end
def sOf (l:List Nat):Str:=⟨l.toArray⟩
theorem mZ (l:List Nat):(sOf l).length=l.length:=by show l.toArray.size=_;simp
theorem rm (l m:List Nat):sOf l++sOf m=sOf (l++m):=by show(⟨l.toArray++m.toArray⟩:Str)=⟨(l++m).toArray⟩;simp
theorem arS {i:Int} (h:0<=i):vG (toString i)=sOf (m_ i.toNat):=by
 obtain⟨m,rfl⟩:=Int.eq_ofNat_of_zero_le h;have e:=ah6 m;have:∀x:Str,x=sOf x.cps.toList:=λx=>by unfold sOf;cases x;simp
 rw[this (vG (toString (m:Int))),e];rfl
theorem agt (s:Nat):∀a:List (List Nat),Bu (sOf [s]) (a.map sOf)=sOf (qw s a):=by
 intro a;show ah7 _ _=_;rw[StrLaws.glued_eq_join]
 induction a with
 | nil=>rfl
 | cons x l b=>
  cases l with
  | nil=>rfl
  | cons y l=>show sOf x++sOf [s]++Str.join (sOf [s]) ((y::l).map sOf)=sOf (x++(s::qw s (y::l)));rw[b,rm,rm,lU];rfl
section
variable {σ:L2.St} {H:Hp} {K:aW}
theorem Zf {i:Int} {a:TA} (h:PA0 a σ H [.int i]) (b:0<=i) (c:i<=1000000000):PE0 (tCB (λxs H Q=>∃i,xs=[.int i]/\i.natAbs.log2 < 1920/\Q (.str (toString i)) H) a) σ H (.str (sOf (m_ i.toNat))):=λQ q=>h _ ⟨i,rfl,by
  have d:i.natAbs.log2<=30:=by
   have:i.natAbs<=1000000000:=by omega
   by_cases z:i.natAbs=0;.rw[z];decide
   .have:=(Nat.log2_lt z (k:=31)).mpr (by omega);omega
  omega,by
  have:=arS b;show Q (.str (vG (toString i))) H;rw[this];exact q⟩
theorem agu (a:PE0 ta σ H (.str (sOf x))) (b:PE0 tb σ H (.str (sOf y))) (l:x.length+y.length<=1000000):PE0 (tOp (λx y H Q=>∃i j,x= .str i/\y= .str j/\i.length+j.length<=sizeLine/\Q (.str (i++j)) H) ta tb) σ H (.str (sOf (x++y))):=λQ q=>
 a _ (b _ ⟨_,_,rfl,rfl,by rw[mZ,mZ];exact cI l (by decide),by rw[rm];exact q⟩)
end
section
inductive rJoin (vs:List V) (H:Hp) (v:V):Prop
 | mk (l d:Addr) (kvs:List (Key×V)) (ns ms:List Int) (φ:Int->List Nat):vs=[.ref l,.ref d]->H l=some (.lst (ns.map V.int))->H d=some (.dK kvs)->ns.Perm ms->ms.Pairwise (· < ·)->(∀k∈ms,eG kvs (.inl k)=some (.str (sOf (φ k))))->((ms.map λk=>(φ k).length+1).sum<=1000000)->v= .str (sOf (qw 44 (ms.map φ)))->rJoin vs H v
theorem agv {α:Type} (f:α->Nat) (l:List α):(l.map λa=>f a+1).sum=(l.map f).sum+l.length:=by
 induction l with
 | nil=>rfl
 | cons a l b=>simp only[bT,lu,bR,b];omega
theorem arT (F:Fun K "join_groups" "join_groups" VG f fd) (C:Cs K mg):aY P w K mg base CX0 1 f fd D_ (gU rJoin):=by
 refine F.ok VH (by walk_at "l") (λ_ A _ s H vs Q E T X=> ?_);obtain⟨v,⟨l,d,h,Z,Y,φ,e,R,L,S,U,W,n,J⟩,q⟩:=X;subst e;subst J;refine'⟨_,(aD (aK (ac7 vI (lE (own:=[("key",2)]) rfl VH.nd (eV (cB Sv rfl C.sorted o7 (ao (pv 0) aA))) (lF rfl) ?g1 ?t1 ?e1)))),?_⟩
 case g1=>exact λ_ _ _ _ _=>cQ (i:=2) VH.nd
 case t1=>exact λ_ _ _ _ _=>um
 case e1=>exact λ_ _ _ _ _=>(cu (pv 1) (pv 2) (bw T))
 refine bL (p_c _ ⟨⟨_,rfl⟩,?_⟩);refine nH (Mi (iz ((aq (aj rfl) aG) _ ⟨l,Z,rfl,SqL.of R,λa p c g N=>⟨p,rfl,⟨_,SqL.of aH⟩,λD m=> ?_⟩⟩)));have b:a=Y:=oX (c.trans S) g U;subst b;have j:a.length<=1000000:=by rw[agv]at n;omega
 have t:Same H (upd H p (.lst (a.map V.int))):=Same.upd N;refine oM (ys:=a.map V.int) (λ_=>true) (λy=>match y with | .int k=> .str (sOf (φ k)) | _=> .non) m (by rw[aJ];exact gD j (by decide)) (Ma (SqL.of aH)) (λy o z u B q=>q) (λy o _ z u B q=> ?_) ?_;.obtain⟨k,O,rfl⟩:=aQ.mp o;exact(aj rfl) _ ((aj rfl) _ ⟨d,_,rfl,.inl ⟨h,bI k,.inl (u _ _ (t _ _ L)),rfl,(W k O).symm⟩,q⟩)
 .have I:(a.map V.int).filter (λ_=>true)=a.map V.int:=by rw[Bj];intros;rfl
  rw[I,bC];have G:a.map ((λy=>match y with | .int k=>V.str (sOf (φ k)) | _=> .non)∘V.int)=((a.map φ).map sOf).map V.str:=by rw[bC,bC];rfl
  rw[G];refine⟨_,D,(a.map φ).map sOf,rfl,rfl,.inl (SqL.of aH),?_,?_⟩;.rw[bC,bC,aJ,aJ];have:(a.map (((λx:Str=>x.length)∘sOf)∘φ))=a.map λk=>(φ k).length:=gJ λk _=>mZ _;rw[agv]at n;rw[this];show _+a.length * 1<=_;omega
  .have:Bu (",") ((a.map φ).map sOf)=sOf (qw 44 (a.map φ)):=agt 44 _;rw[this];exact q _ (t.trans (Same.upd m))
end
section
variable {σ:L2.St} {H:Hp} {K:aW} {D:Ends}
theorem arU (e:s=sOf l):PE0 (tC (.str s)) σ H (.str (sOf l)):=λQ q=>e▸q
theorem agw (h:σ[i]? =some (some (.str (sOf x)))) (b:∀Q:VK,(∀a,Same H a->Q (.str (sOf y)) a)->te σ H Q) (l:x.length+y.length<=1000000) (q:∀a,Same H a->D.nx (σ.set i (some (.str (sOf (x++y))))) a):ab0 i te (λx y H Q=>∃i j,x= .str i/\y= .str j/\i.length+j.length<=sizeLine/\Q (.str (i++j)) H) D σ H:=
 ⟨_,h,b _ λa s=>⟨_,_,rfl,rfl,by rw[mZ,mZ];exact cI l (by decide),by rw[rm];exact q a s⟩⟩
end
section
variable {σ:L2.St} {H:Hp} {K:aW} {D:Ends}
theorem agx (M:L2.St->Hp->Prop) (h:PT0 c σ H b) (e:b=true->∀N:L2.St->Hp->Prop,(∀d a,M d a->N d a)->t {D with nx:=N} σ H) (f:b=false->M σ H) (k:∀d a,M d a->u D d a):nu (oJ c t t_) u D σ H:=
 h _ (by cases b;exact k _ _ (f rfl);exact e rfl _ k)
theorem agy (a:PE0 ta σ H (.int (n:Nat))) (b:PE0 tb σ H (.int 0)):PE0 (tOp (rI0 λi j=> .bl (decide (j < i))) ta tb) σ H (.bl (decide (n > 0))):=λQ q=>a _ (b _ ⟨_,_,rfl,rfl,by have:decide ((0:Int) < (n:Int))=decide (n > 0):=fH ⟨λz=>by omega,λz=>by omega⟩;show Q (.bl (decide ((0:Int) < (n:Int)))) H;rw[this];exact q⟩)
end
theorem agz (n:ND d) (k:Int):(kin d k).Nodup:=by unfold kin;exact n.sublist (List.filter_sublist.map _)
theorem agA {l:List Int} (h:l.Pairwise (· < ·)):l.Nodup:=h.imp λz=>by omega
section
theorem TAt.agB {H:Hp} {a r p x:Addr} {T:cG} {t:b_} (h:TAt C H a r p x T t) {k:Int} (b:0<=k):(kin T.P k).Perm (chI t k):=
 (tL (agz h.nP k) (agA (Sd h.wf.toSrt k))).mpr λc=>by rw[lM h.nP,h.gp,R_ h.wf.toSrt b]
theorem TAt.arV {H:Hp} {a r p x:Addr} {T:cG} {t:b_} (h:TAt C H a r p x T t) {k:Int} (b:0<=k):(kin T.X k).Perm (fY t k):=
 (tL (agz h.nX k) (agA (aek h.wf.toSrt k))).mpr λc=>by rw[lM h.nX,h.gx,Sg h.wf.toSrt b]
inductive Zg (C:Addr) (vs:List V) (H:Hp) (v:V):Prop
 | mk a r p x T t k u d kvs:vs=[.ref a,.int k,.ref d]->TAt C H a r p x T t->ak (gR t) k=some u->H d=some (.dK kvs)->(∀c∈chI t k,eG kvs (.inl c)=some (.str (sOf (txt t c))))->v= .str (sOf (txt t k))->Zg C vs H v
theorem arW (F:Fun K "write_group" "write_group" VJ f fd) (c:cA K mg C) (I:Cs K mg) (pW:Df P w K mg base "specimens_in" rW 1 (jt C cG.X)) (nO:Df P w K mg base "groups_in" qO 1 (jt C cG.P)) (Zh:Df P w K mg base "join_groups" D_ 1 (gU rJoin)):aY P w K mg base CX0 2 f fd K4 (gU (Zg C)):=by
 refine F.ok uH (by walk_at "l") (λ_ A _ s H vs Q E Y hz=> ?_);obtain⟨v,⟨a,r,p,x,T,t,k,u,d,kvs,e,h,S,hd,hv,ev⟩,q⟩:=hz;subst e;subst ev;refine'⟨_,(aF (bO (i:=3) uH.nd (jD yH (jD yH (mF QV rfl I.str WW (ao (cu (aO (pv 0) rfl) (pv 1) (bw Y)) aA)) vI) (mF QV rfl I.str WW (ao (pv 1) aA))))
   (aF (bO (i:=4) uH.nd (aL pW Y (ao (pv 0) (ao (pv 1) aA))))
   (aF (aR (bF qF (cB fK rfl I.len dF (ao (pv 4) aA)) aM) (aD (QH (i:=3) uH.nd rfl (vm rfl) (jD yH (jD yH vI (ac7 vI (lE (own:=[("x",5)]) rfl uH.nd (eV (cB Sv rfl I.sorted o7 (ao (pv 4) aA))) (lF rfl) ?g1 ?t1 ?e1))) vI) acf)) aV)
   (aF (bO (i:=6) uH.nd (aL nO Y (ao (pv 0) (ao (pv 1) aA))))
   (aF (aR (bF qF (cB fK rfl I.len dF (ao (pv 6) aA)) aM) (aD (QH (i:=3) uH.nd rfl (vm rfl) (jD yH (jD yH vI (aL Zh Y (ao (pv 6) (ao (pv 2) aA)))) vI) acf)) aV)
   (aD (aK (pv 3)))))))),?_⟩
 case g1=>exact λ_ _ _ _ _=>cQ (i:=5) uH.nd
 case t1=>exact λ_ _ _ _ _=>um
 case e1=>exact λ_ _ _ _ _=>(mF QV rfl I.str WW (ao (pv 5) aA))
 have hR:ak T.R k=some u:=by rw[h.gr];exact S
 obtain⟨⟨k1,k2⟩,u1,u2⟩:=h.wf.key _ _ S;have U:0<=k:=by omega
 have d1:=aef (n:=u.toNat) (by omega);have d2:=Jr (n:=k.toNat) (by omega);have lX:=h.lX;have lP:=h.lP;refine o_ (agu (agu (Zf (aq (mO rfl h.own.rd c (aj rfl) hR) aG) (by omega) (by omega)) (arU (l:=[58]) rfl) (by show _+1<=_;omega)) (Zf (aq (aj rfl) aG) U k2) (by rw[cV];show _+1+_<=_;omega)) ?_;refine aZ (d9 (bx ((aq (aj rfl) (aq (aj rfl) aG)) _ ⟨a,r,p,x,T,k,rfl,h.own,by omega,h.nX,λl4 hl4=> ?_⟩)));have s4:Same H (upd H l4 (.lst ((kin T.X k).map V.int))):=Same.upd hl4;have nx:=h.arV U;have np:=h.agB U;have ch:=Js h.wf (.inr ⟨u,S⟩);have J:=ak6 h.wf S;have lt:=alc h.wf S;refine agx (M:=λW B=>∃o,W=((start aeT [V.ref a,V.int k,V.ref d]).set 3 (some (.str (sOf o)))).set 4 (some (.ref l4))/\Same H B/\txt t k=o++(if chI t k=[]then []else 123::(qw 44 ((chI t k).map (txt t))++[125]))) (b:=decide (((kin T.X k).map V.int).length > 0)) (bM (agy (f9 (aq (aj rfl) aG) (SqL.of aH)) p_c)) (λj N hN=> ?_) (λj=>⟨_,rfl,s4,?_⟩) ?_
 .have j:=dz j;have ne:fY t k≠[]:=λz=>by rw[z]at nx;rw[aJ,nx.length_eq]at j;exact absurd j (by decide)
  rw[au ne]at J;refine agw rfl (y:=91::(qw 32 ((fY t k).map λx=>m_ x.toNat)++[93])) (λQ q=> ?_) (by rw[J]at lt;simp only[cV,bR,jY]at lt ⊢;omega) λB L=>hN _ _ ⟨_,rfl,s4.trans L,by rw[J];simp only[lU,O2,Pq]⟩;refine jM (jM (p_c _ (p_c _ ⟨⟨_,rfl⟩,?_⟩)));refine nH (Mi (iz ((aq (aj rfl) aG) _ ⟨l4,kin T.X k,rfl,SqL.of aH,λns' p' hp' hs' hf=>⟨p',rfl,⟨_,SqL.of aH⟩,λD hD=> ?_⟩⟩)));have ens:ns'=fY t k:=oX (hp'.trans nx) hs' (aek h.wf.toSrt k);subst ens;have ol:=aej h.wf k;refine oM (ys:=(fY t k).map V.int) (λ_=>true) (λy=>match y with | .int k=> .str (sOf (m_ k.toNat)) | _=> .non) hD (by rw[aJ];exact gD ol (by decide)) (Ma (SqL.of aH)) (λy Z B sm Q' q=>q) (λy Z _ B sm Q' q=> ?_) ?_;.obtain⟨y,hy',rfl⟩:=aQ.mp Z;have:=(h.wf.spc _ _ ((Sg h.wf.toSrt U).mp hy')).1;exact(Zf (aq (aj rfl) aG) (by omega) (by omega)) _ q
  .have ef:((fY t k).map V.int).filter (λ_=>true)=(fY t k).map V.int:=by rw[Bj];intros;rfl
   rw[ef,bC];have e2:(fY t k).map ((λy=>match y with | .int k=>V.str (sOf (m_ k.toNat)) | _=> .non)∘V.int)=(((fY t k).map λx=>m_ x.toNat).map sOf).map V.str:=by rw[bC,bC];rfl
   rw[e2];have bl:(((fY t k).map λx=>m_ x.toNat).map λl=>l.length).sum<=10 * 64:=by
    rw[bC];refine cI (R8 (g:=λ_=>10) λy Z=> ?_) ?_;.have:=(h.wf.spc _ _ ((Sg h.wf.toSrt U).mp Z)).1;exact Jr (by omega)
    .rw[List.map_const',List.sum_replicate_nat];omega
   refine⟨_,D,((fY t k).map λx=>m_ x.toNat).map sOf,rfl,rfl,.inl (SqL.of aH),?_,?_⟩
   .have e3:((((fY t k).map λx=>m_ x.toNat).map sOf).map λx:Str=>x.length)=((fY t k).map λx=>m_ x.toNat).map λl=>l.length:=by rw[bC];exact gJ λl _=>mZ l
    rw[e3,aJ,aJ];show _+(fY t k).length * 1<=_;omega
   .have e4:Bu (" ") (((fY t k).map λx=>m_ x.toNat).map sOf)=sOf (qw 32 ((fY t k).map λx=>m_ x.toNat)):=agt 32 _;rw[e4];have lb:(qw 32 ((fY t k).map λx=>m_ x.toNat)).length<=4000:=by rw[J]at lt;simp only[cV,bR,jY]at lt;omega
    have G:(vG "[")=sOf [91]:=rfl;have O:(vG "]")=sOf [93]:=rfl;refine⟨_,_,rfl,rfl,?_,p_c _ ⟨_,_,rfl,rfl,?_,?_⟩⟩;.rw[G,mZ,mZ];exact cI (aar lb _) (by decide)
    .rw[G,O,rm,mZ,mZ,cV];show 1+_+1<=_;exact cI (by omega:_<=5000) (by decide)
    .rw[G,O,rm,rm];exact q _ ((Same.upd hf).trans (Same.upd hD))
 .have j:=iw j;have eq:fY t k=[]:=Pg (by rw[aJ,nx.length_eq]at j;omega);rw[aB eq,gH]at J;rw[J]
  congr 1
  rw[lU];rfl
 .rintro W H1 ⟨o,rfl,L,m⟩;dsimp only;have h1:=h.same L;refine aZ (d9 (bx ((aq (aj rfl) (aq (aj rfl) aG)) _ ⟨a,r,p,x,T,k,rfl,h1.own,by omega,h.nP,λl5 hl5=> ?_⟩)));have s5:Same H1 (upd H1 l5 (.lst ((kin T.P k).map V.int))):=Same.upd hl5;refine agx (M:=λW B=>W[3]? =some (some (.str (sOf (txt t k))))/\Same H B) (b:=decide (((kin T.P k).map V.int).length > 0)) (bM (agy (f9 (aq (aj rfl) aG) (SqL.of aH)) p_c)) (λj N hN=> ?_) (λj=>⟨?_,L.trans s5⟩) ?_
  .have j:=dz j;have ne:chI t k≠[]:=λz=>by rw[z]at np;rw[aJ,np.length_eq]at j;exact absurd j (by decide)
   rw[au ne]at m;have lb:o.length+(123::(qw 44 ((chI t k).map (txt t))++[125])).length<=4000:=by rw[m,cV]at lt;exact lt
   refine agw rfl (y:=123::(qw 44 ((chI t k).map (txt t))++[125])) (λQ q=> ?_) (by omega) λB s''=>hN _ _ ⟨by rw[m];rfl,(L.trans s5).trans s''⟩;refine jM (jM (p_c _ ((kJ (aq (aj rfl) (aq (aj rfl) aG)) ⟨l5,d,kvs,kin T.P k,chI t k,txt t,rfl,aH,s5 _ _ (L _ _ hd),np,Sd h.wf.toSrt k,hv,by omega,rfl⟩) _ λH2 s2=> ?_)));have G:(vG "{")=sOf [123]:=rfl;have O:(vG "}")=sOf [125]:=rfl;rw[bR,cV]at lb;refine⟨_,_,rfl,rfl,?_,p_c _ ⟨_,_,rfl,rfl,?_,?_⟩⟩;.rw[G,mZ,mZ];exact cI (by show 1+_<=5000;omega) (by decide)
   .rw[G,O,rm,mZ,mZ,cV];exact cI (by show 1+_+1<=5000;omega) (by decide)
   .rw[G,O,rm,rm];exact q _ s2
  .have j:=iw j;have eq:chI t k=[]:=Pg (by rw[aJ,np.length_eq]at j;omega);rw[aB eq,gH]at m;rw[m];rfl
  .rintro W B ⟨e3,sH⟩;exact aU (aj e3) (q _ sH)
end
theorem arX (d:Hp) (i:Nat) (H:Hp) (h:Same d H):(i < (l.map λn=>V.str ⟨#[n]⟩).length->(Its (sOf l)).go i H)/\((l.map λn=>V.str ⟨#[n]⟩).length<=i->(Its (sOf l)).stop i H)/\∀x a,(Its (sOf l)).yld i H x a->a=H/\(l.map λn=>V.str ⟨#[n]⟩)[i]? =some x:=by
 have e:(sOf l).cps.size=l.length:=by show l.toArray.size=_;simp
 rw[aJ];refine⟨λz=>by show i < (sOf l).cps.size;omega,λz=>by show(sOf l).cps.size<=i;omega,λx a ⟨f,c,b,g⟩=>⟨f,?_⟩⟩;have b:l[i]? =some c:=by have:l.toArray[i]? =some c:=b;simpa using this
 rw[dM,b,g];rfl
section
inductive Zi (C:Addr) (vs:List V) (H:Hp) (Q:VK) (E:XK):Prop
 | mk a r p x T t:vs=[.ref a]->TAt C H a r p x T t->X4 (zs (yw t)) H Q->Zi C vs H Q E
theorem TAt.below {H:Hp} {a r p x:Addr} {T:cG} {t:b_} (h:TAt C H a r p x T t) {k u c:Int} (d:ak (gR t) k=some u) (f:c∈chI t k):∃v,ak (gR t) c=some v/\u < v:=by
 have j:=(h.wf.key _ _ d).1.1;have g:=(R_ h.wf.toSrt (by omega)).mp f;rcases h.wf.par _ _ g with z | ⟨q,r,b,e,i⟩;.omega
 .rw[d]at b;injection b with b;exact⟨r,e,by omega⟩
theorem arY (F:Fun K "write_tree" "write_tree" VL f fd) (c:cA K mg C) (cs:Cs K mg) (Y8:Df P w K mg base "groups_of_rank" Du 1 (jt C cG.R)) (nO:Df P w K mg base "groups_in" qO 1 (jt C cG.P)) (Zh:Df P w K mg base "join_groups" D_ 1 (gU rJoin)) (arZ:Df P w K mg base "write_group" K4 2 (gU (Zg C))):aY P w K mg base CX0 3 f fd K5 (Zi C):=by
 refine F.ok zH (by walk_at "l") (λ_ A _ s H vs Q E Y hz=> ?_);obtain⟨a,r,p,x,T,t,e,h,q⟩:=hz;subst e;refine'⟨_,(aF (bO (i:=1) zH.nd vV)
   (aF (d7 dG rfl (ac3 rfl cs.range (ao (aN cs.Wy) (ao aM (ao (ab3 ab6 aM) aA)))) (cQ (i:=2) zH.nd) (aD (d7 dG rfl (eV (aL Y8 Y (ao (pv 0) (ao (pv 2) aA)))) (cQ (i:=3) zH.nd) (aD (jQ (bw Y) (pv 1) (pv 3) (aL arZ Y (ao (pv 0) (ao (pv 3) (ao (pv 1) aA)))) rfl)))))
   (aD (aK (lE (own:=[("sign",4)]) rfl zH.nd (ajK (aL Zh Y (ao (aL nO Y (ao (pv 0) (ao aM aA))) (ao (pv 1) aA)))) (lF rfl) ?g1 ?t1 ?e1))))),?_⟩
 case g1=>exact λ_ _ _ _ _=>cQ (i:=4) zH.nd
 case t1=>exact λ_ _ _ _ _=>um
 case e1=>exact λ_ _ _ _ _=>(cB aiB rfl cs.ord aoQ (ao (pv 4) aA))
 refine aZ (λd hd=> ?_);have s0:Same H (upd H d (.dK [])):=Same.upd hd;have lR:=h.lR;have lP:=h.lP;dsimp only;refine aZ (Mh ((aq p_c (aq p_c (aq (afH p_c) aG))) _ ⟨8,0,-1,8,rfl,RgC.neg (by decide) (by decide) (by decide) (by decide),?_⟩));refine ajI (λi σ L=>∃v2 v3 g,σ=[some (.ref a),some (.ref d),v2,v3,none]/\L d=some (.dK g)/\But d (upd H d (.dK [])) L/\g.length<=32 * i/\∀k v,ak (gR t) k=some v->8 < v+(i:Nat)->eG g (.inl k)=some (.str (sOf (txt t k)))) ⟨none,none,[],rfl,aH,λ_ _ e _=>e,bW _,λk v m hv=> ?_⟩ ?_ ?_;.have:=(h.wf.key _ _ m).2.2;omega
 .rintro i σ S hi ⟨v2,v3,g,rfl,B,bu,lk,hv⟩;have Z:=bu.kO s0 hd;have h1:=h.same Z;have eR:(8+(i:Nat) * -1:Int)=8- ((i:Nat):Int):=by omega
  rw[eR];refine gQ (bx ((aq (aj rfl) (aq (aj rfl) aG)) _ ⟨a,r,p,x,T,8- ((i:Nat):Int),rfl,h1.own,by omega,h.nR,λl X=>⟨l,rfl,?_⟩⟩));have nl:=aX B X;have lk2:(kin T.R (8- ((i:Nat):Int))).length<=32:=cI (Ms _ _) lR;refine jN (xs:=(kin T.R (8- ((i:Nat):Int))).map V.int) (λj L=>∃g,L d=some (.dK g)/\But d (upd S l (.lst ((kin T.R (8- ((i:Nat):Int))).map V.int))) L/\g.length<=32 * i+j/\∀k v,ak (gR t) k=some v->8 < v+(i:Nat)\/k∈(kin T.R (8- ((i:Nat):Int))).take j->eG g (.inl k)=some (.str (sOf (txt t k)))) ⟨g,by rw[aC nl];exact B,λ_ _ e _=>e,lk,λk v m z=>hv k v m (z.resolve_right (by rw[List.take_zero];exact lV))⟩ (λj L ⟨_,_,b,_⟩=>SqL.of (b _ _ aH nl.symm)) ⟨v3,rfl⟩ ?_ ?_
  .rintro j y U hj ⟨O,G,u,W,J⟩ N nx;obtain⟨k,m,rfl⟩:=get_map hj;have s2:Same H U:=u.kO (Z.trans (Same.upd X)) hd;have h2:=h.same s2;have ek:ak (gR t) k=some (8- ((i:Nat):Int)):=by have:=(lM h.nR).mp (gq m);rw[<-h.gr];exact this
   have jl:j < (kin T.R (8- ((i:Nat):Int))).length:=(jX.mp m).1;have hch:∀c∈chI t k,eG O (.inl c)=some (.str (sOf (txt t c))):=λc hc=>by obtain⟨v,I,hv3⟩:=h.below ek hc;exact J c v I (.inl (by omega))
   refine wL ((kJ (aq (aj rfl) (aq (aj rfl) (aq (aj rfl) aG))) ⟨a,r,p,x,T,t,k,_,d,O,rfl,h2,ek,G,hch,rfl⟩) _ λH3 s3=>(aj rfl) _ ((aj rfl) _ ⟨d,_,rfl,.inl ⟨O,bI k,s3 _ _ G,rfl,gD (by omega:O.length<=1000) (by decide),rfl⟩,nx _ ⟨_,aH,λb o e n=> ?_,?_,λk' v' hk' z=> ?_⟩⟩));.rw[aC n];exact s3 _ _ (u b o e n)
   .have:=HS O (bI k:Key) (.str (sOf (txt t k)));omega
   .rw[ajk];by_cases e:k'=k;.subst e;rw[aB rfl]
    .rw[au (λz=>e (by injection z))];refine J k' v' hk' (z.imp id λz=> ?_);rw[i_ m]at z;rcases dO.mp z with z | z;.exact z
     .exact absurd (dX.mp z) e
  .rintro v3' U ⟨O,G,u,W,J⟩;rw[aJ]at W;refine⟨_,v3',O,rfl,G,λb o e n=>u b o ((Same.upd X) _ _ (bu b o e n)) n,by omega,λk v m z=> ?_⟩;refine J k v m ?_;by_cases e:v=8- ((i:Nat):Int);.refine .inr ?_;rw[aJ,fM];exact(lM h.nR).mpr (by rw[h.gr,m,e])
   .exact .inl (by omega)
 .rintro σ S ⟨v2,v3,g,rfl,B,bu,lk,hv⟩;have Z:Same H S:=bu.kO s0 hd;have h1:=h.same Z;dsimp only;refine bL (nH ?_);refine bx (dj (bx ((aq (aj rfl) (aq p_c aG)) _ ⟨a,r,p,x,T,0,rfl,h1.own,by omega,h.nP,λl X=>dj ((aj rfl) _ ?_)⟩)));have s2:Same S (upd S l (.lst ((kin T.P 0).map V.int))):=Same.upd X;refine⟨_,⟨l,d,g,kin T.P 0,chI t 0,txt t,rfl,aH,s2 _ _ B,h.agB (Bs 0),Sd h.wf.toSrt 0,λc hc=> ?_,cI (Js h.wf (.inl rfl)) (by decide),rfl⟩,λU s3=>⟨_,rfl,λD hD=> ?_⟩⟩;.have hp:=(R_ h.wf.toSrt (Bs 0)).mp hc;obtain⟨v,I⟩:∃v,ak (gR t) c=some v:=gj.mp (by rw[<-jR,hp];rfl);have:=(h.wf.key _ _ I).2.1;exact hv c v I (by show 8 < v+8;omega)
  .rw[<-aed h.wf];have s13:Same H U:=(Z.trans s2).trans s3;refine oM (ys:=(yw t).map λn=>V.str ⟨#[n]⟩) (λ_=>true) (λy=>match y with | .str x=> .int (x.cps.getD 0 0:Nat) | _=> .non) hD (by rw[aJ];exact gD (aei h.wf) (by decide)) (arX U) (λy hy L sm Q' q=>q) (λy hy _ L sm Q' q=> ?_) ?_;.obtain⟨n,hn,rfl⟩:=aQ.mp hy;exact(aq (aj rfl) aG) _ ⟨_,rfl,rfl,q⟩
   .have ef:((yw t).map λn=>V.str ⟨#[n]⟩).filter (λ_=>true)=(yw t).map λn=>V.str ⟨#[n]⟩:=by rw[Bj];intros;rfl
    rw[ef,bC];refine q D _ (s13.trans (Same.upd hD)) (s13.free hD) ?_;rw[aH];unfold zs;rw[bC];rfl
inductive Zj (C:Addr) (vs:List V) (H:Hp) (Q:VK) (E:XK):Prop
 | mk a r p x T t:vs=[.ref a]->TAt C H a r p x T t->jd (tV (yw t)) H Q->Zj C vs H Q E
theorem ar0 (F:Fun K "tell_text" "tell_text" VN f fd) (d:Cs K mg) (b:Df P w K mg base "write_tree" K5 3 (Zi C)):aY P w K mg base CX0 4 f fd K6 (Zj C):=by
 refine F.ok aeU (by walk_at "l") (λ_ A _ s H u Q E g j=> ?_);obtain⟨a,r,p,x,T,t,e,h,q⟩:=j;subst e;refine⟨_,(aF (bO (i:=1) aeU.nd (aL b g (ao (pv 0) aA)))
   (aD (aK (jD Cq (cT (ao (cB fK rfl d.len dF (ao (pv 1) aA)) aA)) (pv 1))))),?_⟩
 refine aZ (d9 (bx ((aq (aj rfl) aG) _ ⟨a,r,p,x,T,t,rfl,h,λl n m o c=> ?_⟩)));have:=aei h.wf;refine bL (aga rfl c (by rw[mV];omega) ?_);rw[af9]at q;rw[mV];exact q.same m
end
section
variable {σ:L2.St} {H:Hp} {K:aW} {D:Ends}
theorem gb (b:σ[i]? =some (some (.int op))) (d:op≠c) (q:u D σ H):nu (oJ (mD (tOp rEq (bA i) (tC (.int c)))) t t_) u D σ H:=
 bD (bM (p_eq (aj b) p_c)) (λa=>absurd (dz a) d) λ_=>q
theorem gV (b:σ[i]? =some (some (.int c))) (q:t {D with nx:=u D} σ H):nu (oJ (mD (tOp rEq (bA i) (tC (.int c)))) t t_) u D σ H:=
 bD (bM (p_eq (aj b) p_c)) (λ_=>q) λa=>absurd rfl (iw a)
end
inductive EdC:Int->Int->List Int->List (List Int)->abJ->Prop
 | group {s k r p}:EdC 0 s [s,k,r,p] [] (.group k r p)
 | put {s x g}:EdC 1 s [s,x,g] [] (.put x g)
 | take {s x}:EdC 2 s [s,x] [] (.take x)
 | move {s g p}:EdC 3 s [s,g,p] [] (.move g p)
 | lump {s a b}:EdC 4 s [s,a,b] [] (.lump a b)
 | split {s a k gs xs}:gs.length<=2100->xs.length<=2100->EdC 5 s [s,a,k] [gs,xs] (.split a k gs xs)
 | rank {s g r}:EdC 6 s [s,g,r] [] (.rank g r)
 | dissolve {s g}:EdC 7 s [s,g] [] (.dissolve g)
 | load {s t}:(∀z∈t,0<=z/\z<=255)->t.length<=2100->EdC 8 s [s] [t] (.load t)
 | fetch {s k d}:EdC 9 s [s,k,d] [] (.fetch k d)
 | apply{s l}:l.length<=2100->EdC 10 s [s] [l] (.apply l)
 | agree {s k d m e}:EdC 11 s [s,k,d,m,e] [] (.agree k d m e)
section
inductive Zk (C CS CH:Addr) (vs:List V) (H:Hp) (Q:VK) (E:XK):Prop
 | mk L s a r p x ln lr T t op n ns rs e:vs=[.ref L.h,.ref a,.int op,.ref ln,.ref lr]->(HAt C CS CH (λb=>b≠a) H L s)->TAt C H a r p x T t->H ln=some (.lst (ns.map V.int))->jc H lr rs->EdC op n ns rs e->EdQ C a r p x (jB s t e) H Q->Zk C CS CH vs H Q E
theorem EdQ.same {a r p x:Addr} {c:Except Int b_} {H j:Hp} {Q:VK} (q:EdQ C a r p x c H Q) (s:Same H j):EdQ C a r p x c j Q:=
 ⟨λn e d o=>q.1 n e d λb u y f g h i=>o b u (s b u y) f g h i,λv e d t m w l fr o=>q.2 v e d t m w l ⟨fr.1.imp id s.free,fr.2.1.imp id s.free,fr.2.2.imp id s.free⟩ λb u y f g h i=>o b u (s b u y) f g h i⟩
theorem Nv (h:jc H lr [t]):∃q,H lr=some (.lst [.ref q])/\H q=some (.lst (t.map V.int)):=by
 obtain⟨a,c,b,d⟩:=h;cases a with
 | nil=>cases b
 | cons y a=>injection b with b e;have:=O6.mp e;subst this;exact⟨y.1,c,by rw[<-b];exact d y (cU ..)⟩
theorem row2 (h:jc H lr [t,u]):∃q e,H lr=some (.lst [.ref q,.ref e])/\H q=some (.lst (t.map V.int))/\H e=some (.lst (u.map V.int)):=by
 obtain⟨a,f,b,d⟩:=h;cases a with
 | nil=>cases b
 | cons y a=>
  injection b with b c;cases a with
  | nil=>cases c
  | cons z a=>injection c with c g;have:=O6.mp g;subst this;exact⟨y.1,z.1,f,by rw[<-b];exact d y (cU ..),by rw[<-c];exact d z (cO _ (cU ..))⟩
theorem ar4 (F:Fun K "edit_refusal" "edit_refusal" Wc f fd) (d:Cs K mg)
  (y:Df P w K mg base "add_group" J6 3 (W9 C)) (z:Df P w K mg base "put_specimen" J7 3 (W_ C)) (B:Df P w K mg base "take_specimen" J8 3 (Xa C)) (G:Df P w K mg base "move_group" J9 3 (Xb C))
  (I:Df P w K mg base "lump_groups" J_ 3 (Xc C)) (J:Df P w K mg base "split_group" Ka 3 (Xg K C)) (N:Df P w K mg base "change_rank" Kd 3 (Xe C)) (O:Df P w K mg base "dissolve_group" Ke 3 (Xf C))
  (R:Df P w K mg base "load_text" Ks 9 (X5 C)) (S:Df P w K mg base "fetch_tree" KJ 3 (Yy C CS CH)) (U:Df P w K mg base "apply_rows" JQ 5 (Yg K C)) (W:Df P w K mg base "agree_trees" KN 6 (Yz K C CS CH)):
  aY P w K mg base CX0 10 f fd Lk (Zk C CS CH):=by
 refine F.ok anM (by walk_at "l") (λ_ A _ s H vs Q E c hz=> ?_);obtain⟨L,s,a,r,p,x,ln,lr,T,t,op,n,ns,rs,e,ev,Z,h,hn,X,ec,q⟩:=hz;subst ev;refine⟨_,(aF (aR (bF bU (pv 2) (aN d.GROUP)) (aD (aK (aL y c (ao (pv 1) (ao (bB bH (pv 3) aM (λ_ _=>rfl)) (ao (bB bH (pv 3) aM (λ_ _=>rfl)) (ao (bB bH (pv 3) aM (λ_ _=>rfl)) aA))))))) aV)
   (aF (aR (bF bU (pv 2) (aN d.PUT)) (aD (aK (aL z c (ao (pv 1) (ao (bB bH (pv 3) aM (λ_ _=>rfl)) (ao (bB bH (pv 3) aM (λ_ _=>rfl)) aA)))))) aV)
   (aF (aR (bF bU (pv 2) (aN d.TAKE)) (aD (aK (aL B c (ao (pv 1) (ao (bB bH (pv 3) aM (λ_ _=>rfl)) aA))))) aV)
   (aF (aR (bF bU (pv 2) (aN d.MOVE)) (aD (aK (aL G c (ao (pv 1) (ao (bB bH (pv 3) aM (λ_ _=>rfl)) (ao (bB bH (pv 3) aM (λ_ _=>rfl)) aA)))))) aV)
   (aF (aR (bF bU (pv 2) (aN d.aoG)) (aD (aK (aL I c (ao (pv 1) (ao (bB bH (pv 3) aM (λ_ _=>rfl)) (ao (bB bH (pv 3) aM (λ_ _=>rfl)) aA)))))) aV)
   (aF (aR (bF bU (pv 2) (aN d.SPLIT)) (aD (aK (aL J c (ao (pv 1) (ao (bB bH (pv 3) aM (λ_ _=>rfl)) (ao (bB bH (pv 3) aM (λ_ _=>rfl)) (ao (bB bH (pv 4) aM (λ_ _=>rfl)) (ao (bB bH (pv 4) aM (λ_ _=>rfl)) aA)))))))) aV)
   (aF (aR (bF bU (pv 2) (aN d.aoH)) (aD (aK (aL N c (ao (pv 1) (ao (bB bH (pv 3) aM (λ_ _=>rfl)) (ao (bB bH (pv 3) aM (λ_ _=>rfl)) aA)))))) aV)
   (aF (aR (bF bU (pv 2) (aN d.DISSOLVE)) (aD (aK (aL O c (ao (pv 1) (ao (bB bH (pv 3) aM (λ_ _=>rfl)) aA))))) aV)
   (aF (aR (bF bU (pv 2) (aN d.aoI)) (aD (aK (aL R c (ao (pv 1) (ao (bB bH (pv 4) aM (λ_ _=>rfl)) aA))))) aV)
   (aF (aR (bF bU (pv 2) (aN d.aoJ)) (aD (aK (aL S c (ao (pv 0) (ao (pv 1) (ao (bB bH (pv 3) aM (λ_ _=>rfl)) (ao (bB bH (pv 3) aM (λ_ _=>rfl)) aA))))))) aV)
   (aF (aR (bF bU (pv 2) (aN d.aoK)) (aD (aK (aL U c (ao (pv 1) (ao (bB bH (pv 4) aM (λ_ _=>rfl)) aA))))) aV)
   (aD (aK (aL W c (ao (pv 0) (ao (pv 1) (ao (Hz HB (pv 3) (yJ aM) acz) aA))))))))))))))))),?_⟩
 have b:∀{σ:L2.St} {j:Nat} {v:Int},σ[3]? =some (some (.ref ln))->ns[j]? =some v->PE0 (tOp (jG K) (bA 3) (tC (.int (j:Nat)))) σ H (.int v):=λh1 h2=>gC (aj h1) p_c (SqL.of hn) (at_of rfl (by rw[dM,h2];rfl));cases ec with
 | group=>refine gV rfl ?_;exact bL (bx ((aq (aj rfl) (aq (b (j:=1) rfl rfl) (aq (b rfl rfl) (aq (b rfl rfl) aG)))) _ ⟨a,r,p,x,T,t,s,_,_,_,rfl,h,q⟩))
 | put=>refine gb rfl (by decide) (gV rfl ?_);exact bL (bx ((aq (aj rfl) (aq (b rfl rfl) (aq (b rfl rfl) aG))) _ ⟨a,r,p,x,T,t,s,_,_,rfl,h,q⟩))
 | take=>refine gb rfl (by decide) (gb rfl (by decide) (gV rfl ?_));exact bL (bx ((aq (aj rfl) (aq (b rfl rfl) aG)) _ ⟨a,r,p,x,T,t,s,_,rfl,h,q⟩))
 | move=>
  iterate 3 refine gb rfl (by decide) ?_
  refine gV rfl ?_;exact bL (bx ((aq (aj rfl) (aq (b rfl rfl) (aq (b rfl rfl) aG))) _ ⟨a,r,p,x,T,t,s,_,_,rfl,h,q⟩))
 | lump=>
  iterate 4 refine gb rfl (by decide) ?_
  refine gV rfl ?_;exact bL (bx ((aq (aj rfl) (aq (b rfl rfl) (aq (b rfl rfl) aG))) _ ⟨a,r,p,x,T,t,s,_,_,rfl,h,q⟩))
 | split l1 l2=>
  obtain⟨m,q2,g,i,e2⟩:=row2 X
  iterate 5 refine gb rfl (by decide) ?_
  refine gV rfl ?_;exact bL (bx ((aq (aj rfl) (aq (b rfl rfl) (aq (b rfl rfl) (aq (gC (aj rfl) p_c (SqL.of g) (at_of rfl rfl)) (aq (gC (aj rfl) p_c (SqL.of g) (at_of rfl rfl)) aG))))) _ ⟨a,r,p,x,m,q2,T,t,s,_,_,_,_,rfl,h,SqL.of i,SqL.of e2,l1,l2,q⟩))
 | rank=>
  iterate 6 refine gb rfl (by decide) ?_
  refine gV rfl ?_;exact bL (bx ((aq (aj rfl) (aq (b rfl rfl) (aq (b rfl rfl) aG))) _ ⟨a,r,p,x,T,t,s,_,_,rfl,h,q⟩))
 | dissolve=>
  iterate 7 refine gb rfl (by decide) ?_
  refine gV rfl ?_;exact bL (bx ((aq (aj rfl) (aq (b rfl rfl) aG)) _ ⟨a,r,p,x,T,t,s,_,rfl,h,q⟩))
 | load hb u=>
  obtain⟨m,g,i⟩:=Nv X
  iterate 8 refine gb rfl (by decide) ?_
  refine gV rfl ?_;exact bL (bx ((aq (aj rfl) (aq (gC (aj rfl) p_c (SqL.of g) (at_of rfl rfl)) aG)) _ ⟨a,r,p,x,m,T,t,s,_,rfl,h,.inl i,hb,q⟩))
 | fetch=>
  iterate 9 refine gb rfl (by decide) ?_
  refine gV rfl ?_;exact bL (bx ((aq (aj rfl) (aq (aj rfl) (aq (b rfl rfl) (aq (b (j:=2) rfl rfl) aG)))) _ ⟨L,s,a,r,p,x,T,t,_,_,rfl,Z,h,q⟩))
 | apply u=>
  obtain⟨m,g,i⟩:=Nv X
  iterate 10 refine gb rfl (by decide) ?_
  refine gV rfl ?_;exact bL (bx ((aq (aj rfl) (aq (gC (aj rfl) p_c (SqL.of g) (at_of (j:=0) rfl rfl)) aG)) _ ⟨a,r,p,x,m,T,t,s,_,rfl,h,SqL.of i,u,q⟩))
 | agree=>
  iterate 11 refine gb rfl (by decide) ?_
  refine bL (bx (dj ((aj rfl) _ (dj ((aj rfl) _ (dj ((aj rfl) _ (p_c _ ⟨_,rfl,ln,_,rfl,SqL.of hn,λl u=> ?_⟩))))))));have Y:=λo:HO=>Same.upd (o:=o) u;exact⟨L,s,a,r,p,x,l,T,t,_,_,_,_,rfl,SqL.of aH,Z.same (Y _),h.same (Y _),q.same (Y _)⟩
end
theorem EdC.head (h:EdC op n ns rs e):ns[0]? =some n:=by cases h <;> rfl
section
theorem HAt.inM (h:HAt C CS CH A H L s) (b:m∈L.M):∃u,H m=some u:=by
 have a:∀i,1<=i->i<=3->(∃u,H (L.sa i)=some u)/\(∃u,H (L.er i)=some u)/\∃u,H (L.vd i)=some u:=λi n o=>by obtain⟨⟨t,q,j,_⟩,⟨f,g,_⟩,p,l,_⟩:=h.sch i n o;exact⟨⟨_,j⟩,⟨_,g⟩,⟨_,l⟩⟩
 have c:=a 1 (by decide) (by decide);have d:=a 2 (by decide) (by decide);have e:=a 3 (by decide) (by decide);unfold Lay.M at b;simp only[cD,lV,or_false]at b;rcases b with z | z | z | z | z | z | z | z | z <;> subst z;.exact c.1
 .exact d.1
 .exact e.1
 .exact c.2.1
 .exact d.2.1
 .exact e.2.1
 .exact c.2.2
 .exact d.2.2
 .exact e.2.2
inductive Zm (C CS CH:Addr) (vs:List V) (H:Hp) (Q:VK) (E:XK):Prop
 | mk L s ln lr op n ns rs e:vs=[.ref L.h,.int op,.ref ln,.ref lr]->(HAt C CS CH (λ_=>True) H L s)->H ln=some (.lst (ns.map V.int))->jc H lr rs->EdC op n ns rs e->(∀H' s' c,jj s (.edit n e)=(s',[c])->HAt C CS CH (λ_=>True) H' L s'->qX L.M H H'->Q (.int c) H')->Zm C CS CH vs H Q E
theorem jc.agD (h:jc H l rows) (s:Same H H'):jc H' l rows:=by obtain⟨a,b,c,d⟩:=h;exact⟨a,s _ _ b,c,λq e=>s _ _ (d q e)⟩
theorem asi (F:Fun K "edit_draft" "edit_draft" Wd f fd) (c:mW K CS) (ch:p8 K CH) (cs:Cs K mg) (qY:Df P w K mg base "is_school" uD 1 (spB iM)) (Yh:Df P w K mg base "copy_tree" Dt 3 (Mg C))
  (R:Df P w K mg base "edit_refusal" Lk 10 (Zk C CS CH)) (S:Df P w K mg base "renew_draft" KD 1 (Yt C CS CH)):aY P w K mg base CX0 11 f fd Ln (Zm C CS CH):=by
 refine F.ok Lp (by walk_at "l") (λ_ A _ s H vs Q E B hz=> ?_);obtain⟨L,s,ln,lr,op,n,ns,rs,e,ev,h,hn,hR,ec,q⟩:=hz;subst ev;refine⟨_,(aF (aR (cN (bV (aL qY B (ao (bB bH (pv 2) aM (λ_ _=>rfl)) aA)))) (aD (aK (aN cs.ju))) aV)
   (aF (bO (i:=4) Lp.nd (cu (aO (pv 0) rfl) (bB bH (pv 2) aM (λ_ _=>rfl)) (bw B)))
   (aF (bO (i:=5) Lp.nd (aL Yh B (ao (aO (pv 4) rfl) aA)))
   (aF (bO (i:=6) Lp.nd (aL R B (ao (pv 0) (ao (pv 5) (ao (pv 1) (ao (pv 2) (ao (pv 3) aA)))))))
   (aF (aR (bF bU (pv 6) (aN cs.iQ)) (aD (eE (aL S B (ao (pv 4) (ao (pv 5) aA))))) aV)
   (aD (aK (pv 6)))))))),?_⟩
 have ix:∀{σ:L2.St},σ[2]? =some (some (.ref ln))->PE0 (tOp (jG K) (bA 2) (tC (.int 0))) σ H (.int n):=λU=>gC (aj U) p_c (SqL.of hn) (at_of (j:=0) rfl (by rw[dM,ec.head];rfl));refine bD (gM (p_b (mQ (aq (ix rfl) aG)))) (λW=> ?_) λW=> ?_;.refine aU p_c (q H s _ ?_ h λb o e _=>e);show(if jh n 1 qt=false then _ else _)=_;rw[Ah,aB (cY (n1t.mp W))]
 have Y:=n1f.mp W;obtain⟨k1,k2,k3⟩:=Af Y;obtain⟨⟨dx,dr,es,J⟩,_⟩:=h.sch n.toNat k1 k2;have st:jj s (.edit n e)=match jB s (iG s n.toNat).draft e with | .error m=>(s,[m]) | .ok t=>(G_ s n.toNat ⟨t,((iG s n.toNat).draft::(iG s n.toNat).back).take 12⟩,[0]):=by show(if jh n 1 qt=false then _ else _)=_;rw[Ah,au (by rw[cF Y];decide)];rfl
 rw[st]at q;refine o_ (Ae ch rfl (ix rfl) h Y) ?_;obtain⟨r0,p0,x0,T,J⟩:=J.at_;refine aZ (d9 (bx ((aq (M7 c (aj rfl) es) aG) _ ⟨dr,r0,p0,x0,T,rfl,J.own.rd,λa r p x N fr I ho=> ?_⟩)));have U:HAt C CS CH (λb=>b≠a) N L s:=(h.weak λb u _ e=>aX e fr.1).same I;have ta:TAt C N a r p x T (iG s n.toNat).draft:=⟨ho,J.rel,J.wf⟩;have d:∀{H'},qT a r p x N H'->Same H H':=λo b u e=>o b u (I _ _ e) (aX e fr.1) (aX e fr.2.1) (aX e fr.2.2.1) (aX e fr.2.2.2);dsimp only;refine aZ (d9 (bx ((aq (aj rfl) (aq (aj rfl) (aq (aj rfl) (aq (aj rfl) (aq (aj rfl) aG))))) _ ⟨L,s,a,r,p,x,ln,lr,T,_,op,n,ns,rs,e,rfl,U,ta,I _ _ hn,hR.agD I,ec,λm em H2 O=> ?_,λt' et H2 r' p' x' T' l O X G Z=> ?_⟩)));.dsimp only;have nz:=alf em;refine bD (bM (p_eq (aj rfl) p_c)) (λv=>absurd (dz v) nz) λ_=> ?_;exact aU (aj rfl) (q H2 s m (by rw[em]) (h.same (d O)) λb o e _=>d O b o e)
 .dsimp only;have s2:=d O;have nM:∀{y},H y=none->y∉L.M:=λhy hm=>by obtain⟨u,hu⟩:=h.inM hm;rw[hy]at hu;cases hu
  have g:∀{y y':Addr},(y'=y\/N y'=none)->H y=none->y'∉L.M:=λz hy=>nM (z.elim (λe=>e▸hy) I.free);refine bD (bM (p_eq (aj rfl) p_c)) (λ_=> ?_) λv=>absurd rfl (iw v);refine oZ (bx ((aq (aj rfl) (aq (aj rfl) aG)) _ ⟨L,s,n.toNat,a,t',λ_=>True,rfl,k1,k2,h.same s2,⟨gK,r',p',x',T',⟨X,G,Z⟩,g l.1 fr.2.1,g l.2.1 fr.2.2.1,g l.2.2 fr.2.2.2⟩,λH3 h3 o3=> ?_⟩));exact aU (aj rfl) (q H3 _ 0 (by rw[et]) h3 λb o e nm=>o3 b o (s2 b o e) nm)
end
inductive TqC:Int->List Int->List (List Int)->(b_->List Int)->Prop
 | text:TqC 14 [] [] (λt=>tV (yw t))
 | holds {g}:TqC 15 [g] [] (λt=>YJ t g)
 | path {x}:TqC 16 [x] [] (λt=>YL t x)
 | common {xs}:xs.length<=2100->TqC 17 [] [xs] (λt=>YZ t xs)
 | level {r}:TqC 18 [r] [] (λt=>Y6 t r)
 | topmost {f x}:TqC 19 [f,x] [] (λt=>YT t f x)
 | closer {x y z}:TqC 23 [x,y,z] [] (λt=>Y4 t x y z)
 | counts:TqC 25 [] [] agi
inductive TwC:Int->(b_->b_->List Int)->Prop
 | diff:TwC 20 Nt
 | clashes:TwC 21 FJ
 | distance:TwC 22 Nu
section
inductive Zn (C:Addr) (vs:List V) (H:Hp) (Q:VK) (E:XK):Prop
 | mk a r p x ln lr T t op ns rs ans:vs=[.ref a,.int op,.ref ln,.ref lr]->TAt C H a r p x T t->H ln=some (.lst (ns.map V.int))->jc H lr rs->TqC op ns rs ans->jd (ans t) H Q->Zn C vs H Q E
theorem asn (F:Fun K "ask_tree" "ask_tree" Wf f fd) (d:Cs K mg) (e:Df P w K mg base "tell_text" K6 4 (Zj C)) (g:Df P w K mg base "list_held" K7 3 (YK C)) (i:Df P w K mg base "list_path" K8 3 (YM C)) (l:Df P w K mg base "find_common" K_ 3 (Y0 K C))
  (m:Df P w K mg base "list_level" La 3 (Y7 C)) (n:Df P w K mg base "find_topmost" Lb 3 (YW C)) (o:Df P w K mg base "is_closer" Ld 3 (Y5 C)) (u:Df P w K mg base "count_all" Le 4 (Y_ C)):aY P w K mg base CX0 5 f fd Lq (Zn C):=by
 refine F.ok anP (by walk_at "l") (λ_ A _ s H vs Q E b S=> ?_);obtain⟨a,r,p,x,U,Y,T,t,op,W,Z,y,I,h,R,N,G,q⟩:=S;subst I;refine⟨_,(aF (aR (bF bU (pv 1) (aN d.TEXT)) (aD (aK (aL e b (ao (pv 0) aA)))) aV)
   (aF (aR (bF bU (pv 1) (aN d.HOLDS)) (aD (aK (aL g b (ao (pv 0) (ao (bB bH (pv 2) aM (λ_ _=>rfl)) aA))))) aV)
   (aF (aR (bF bU (pv 1) (aN d.PATH)) (aD (aK (aL i b (ao (pv 0) (ao (bB bH (pv 2) aM (λ_ _=>rfl)) aA))))) aV)
   (aF (aR (bF bU (pv 1) (aN d.COMMON)) (aD (aK (aL l b (ao (pv 0) (ao (bB bH (pv 3) aM (λ_ _=>rfl)) aA))))) aV)
   (aF (aR (bF bU (pv 1) (aN d.LEVEL)) (aD (aK (aL m b (ao (pv 0) (ao (bB bH (pv 2) aM (λ_ _=>rfl)) aA))))) aV)
   (aF (aR (bF bU (pv 1) (aN d.aoM)) (aD (aK (aL n b (ao (pv 0) (ao (bB bH (pv 2) aM (λ_ _=>rfl)) (ao (bB bH (pv 2) aM (λ_ _=>rfl)) aA)))))) aV)
   (aF (aR (bF bU (pv 1) (aN d.aoO)) (aD (aK (aL o b (ao (pv 0) (ao (bB bH (pv 2) aM (λ_ _=>rfl)) (ao (bB bH (pv 2) aM (λ_ _=>rfl)) (ao (bB bH (pv 2) aM (λ_ _=>rfl)) aA))))))) aV)
   (aD (aK (aL u b (ao (pv 0) aA))))))))))),?_⟩
 have c:∀{σ:L2.St} {j:Nat} {v:Int},σ[2]? =some (some (.ref U))->W[j]? =some v->PE0 (tOp (jG K) (bA 2) (tC (.int (j:Nat)))) σ H (.int v):=λJ L=>gC (aj J) p_c (SqL.of R) (at_of rfl (by rw[dM,L];rfl));cases G with
 | text=>refine gV rfl ?_;exact bL (bx ((aq (aj rfl) aG) _ ⟨a,r,p,x,T,t,rfl,h,q⟩))
 | holds=>refine gb rfl (by decide) (gV rfl ?_);exact bL (bx ((aq (aj rfl) (aq (c (j:=0) rfl rfl) aG)) _ ⟨a,r,p,x,T,t,_,rfl,h,q⟩))
 | path=>
  iterate 2 refine gb rfl (by decide) ?_
  refine gV rfl ?_;exact bL (bx ((aq (aj rfl) (aq (c (j:=0) rfl rfl) aG)) _ ⟨a,r,p,x,T,t,_,rfl,h,q⟩))
 | common O=>
  obtain⟨X,z,B⟩:=Nv N
  iterate 3 refine gb rfl (by decide) ?_
  refine gV rfl ?_;exact bL (bx ((aq (aj rfl) (aq (gC (aj rfl) p_c (SqL.of z) (at_of (j:=0) rfl rfl)) aG)) _ ⟨a,r,p,x,X,T,t,_,rfl,h,SqL.of B,O,q⟩))
 | level=>
  iterate 4 refine gb rfl (by decide) ?_
  refine gV rfl ?_;exact bL (bx ((aq (aj rfl) (aq (c (j:=0) rfl rfl) aG)) _ ⟨a,r,p,x,T,t,_,rfl,h,q⟩))
 | topmost=>
  iterate 5 refine gb rfl (by decide) ?_
  refine gV rfl ?_;exact bL (bx ((aq (aj rfl) (aq (c (j:=0) rfl rfl) (aq (c (j:=1) rfl rfl) aG))) _ ⟨a,r,p,x,T,t,_,_,rfl,h,q⟩))
 | closer=>
  iterate 6 refine gb rfl (by decide) ?_
  refine gV rfl ?_;exact bL (bx ((aq (aj rfl) (aq (c (j:=0) rfl rfl) (aq (c (j:=1) rfl rfl) (aq (c (j:=2) rfl rfl) aG)))) _ ⟨a,r,p,x,T,t,_,_,_,rfl,h,q⟩))
 | counts=>
  iterate 7 refine gb rfl (by decide) ?_
  exact bL (bx ((aq (aj rfl) aG) _ ⟨a,r,p,x,T,t,rfl,h,q⟩))
inductive Zo (C CS CH:Addr) (vs:List V) (H:Hp) (Q:VK) (E:XK):Prop
 | mk L s A ln lr op k d ns rs ans:vs=[.ref L.h,.int op,.ref ln,.ref lr]->HAt C CS CH A H L s->H ln=some (.lst ((k::d::ns).map V.int))->jc H lr rs->TqC op ns rs ans->jd (Hl s k d ans) H Q->Zo C CS CH vs H Q E
theorem asy (F:Fun K "ask_told" "ask_told" Wg f fd) (Z:Cs K mg) (xK:Df P w K mg base "told_refusal" DX 2 (gU (Nh C CS CH))) (qZ:Df P w K mg base "told_tree" zG 2 (Fq C CS CH)) (G:Df P w K mg base "ask_tree" Lq 5 (Zn C)):aY P w K mg base CX0 6 f fd Lr (Zo C CS CH):=by
 refine F.ok ae3 (by walk_at "l") (λ_ A _ s H vs Q E J hz=> ?_);obtain⟨L,s,R,X,lr,op,k,d,y,rs,z,ev,h,W,hR,U,q⟩:=hz;subst ev;refine⟨_,(aF (bO (i:=4) ae3.nd (aL xK J (ao (pv 0) (ao (bB bH (pv 2) aM (λ_ _=>rfl)) (ao (bB bH (pv 2) aM (λ_ _=>rfl)) aA)))))
   (aF (aR (bF jE (pv 4) (aN Z.iQ)) (aD (aK (cT (ao (pv 4) aA)))) aV)
   (aD (aK (aL G J (ao (aL qZ J (ao (pv 0) (ao (bB bH (pv 2) aM (λ_ _=>rfl)) (ao (bB bH (pv 2) aM (λ_ _=>rfl)) aA)))) (ao (pv 1) (ao (Hz HB (pv 2) (yJ aM) acz) (ao (pv 3) aA))))))))),?_⟩
 have u:∀{σ:L2.St} {S:Hp} {j:Nat} {v:Int},σ[2]? =some (some (.ref X))->Same H S->(k::d::y)[j]? =some v->PE0 (tOp (jG K) (bA 2) (tC (.int (j:Nat)))) σ S (.int v):=λh1 s h2=>gC (aj h1) p_c (SqL.of (s _ _ W)) (at_of rfl (by rw[dM,h2];rfl));have b:Same H H:=λ_ _ e=>e;refine Ft (kJ (aq (aj rfl) (aq (u (j:=0) rfl b rfl) (aq (u (j:=1) rfl b rfl) aG))) ⟨L,s,k,d,R,rfl,h,rfl⟩) λH1 c=> ?_;have q:=q.same c;unfold Hl at q;cases m:ji s k d with
 | error n=>rw[m]at q;have nz:=zq m;refine bD (bM (gn (aj rfl) p_c)) (λ_=> ?_) λI=>absurd (n1f.mp I) nz;exact bL (jO (aj rfl) q)
 | ok t=>
  rw[m]at q;refine bD (bM (gn (aj rfl) p_c)) (λI=>absurd rfl (n1t.mp I)) λ_=> ?_;refine bL (bx (dj (bx ((aq (aj rfl) (aq (u (j:=0) rfl c rfl) (aq (u (j:=1) rfl c rfl) aG))) _ ⟨L,s,k,d,R,t,rfl,h.same c,m,λa H2 Y O=> ?_⟩))));obtain⟨r,p,x,T,O⟩:=O.at_;have g:=c.trans Y;refine dj ((aj rfl) _ (dj ((aj rfl) _ (p_c _ ⟨_,rfl,X,_,rfl,SqL.of (g _ _ W),λl hl=>dj ((aj rfl) _ ?_)⟩))));have N:=λo:HO=>Same.upd (o:=o) hl;have B:yK ((k::d::y).map V.int) (some 2) none=y.map V.int:=by cases U <;> rfl
  exact⟨a,r,p,x,l,lr,T,t,op,y,rs,z,rfl,O.same (N _),by rw[aH,B],hR.agD (g.trans (N _)),U,q.same (Y.trans (N _))⟩
end
section
inductive Zq (C CS CH:Addr) (vs:List V) (H:Hp) (Q:VK) (E:XK):Prop
 | mk L s A ln op k d k' d' ans:vs=[.ref L.h,.int op,.ref ln]->HAt C CS CH A H L s->H ln=some (.lst ([k,d,k',d'].map V.int))->TwC op ans->jd (Qq s k d k' d' ans) H Q->Zq C CS CH vs H Q E
theorem asB (F:Fun K "ask_told_two" "ask_told_two" Wh f fd) (S:Cs K mg) (YB:Df P w K mg base "told_refusal_of_two" DY 3 (gU (Nj K C CS CH))) (qZ:Df P w K mg base "told_tree" zG 2 (Fq C CS CH))
  (N:Df P w K mg base "list_changes" J0 3 (xM C Nt)) (O:Df P w K mg base "list_clashes" J3 3 (xM C FJ)) (R:Df P w K mg base "count_apart" J5 4 (xM C Nu)):aY P w K mg base CX0 5 f fd Lw (Zq C CS CH):=by
 refine F.ok Lx (by walk_at "l") (λ_ A _ s H vs Q E g hz=> ?_);obtain⟨L,s,J,ln,op,k,d,I,y,ans,ev,h,hn,ec,q⟩:=hz;subst ev;refine⟨_,(aF (bO (i:=3) Lx.nd (aL YB g (ao (pv 0) (ao (pv 2) aA))))
   (aF (aR (bF jE (pv 3) (aN S.iQ)) (aD (aK (cT (ao (pv 3) aA)))) aV)
   (aF (bO (i:=4) Lx.nd (aL qZ g (ao (pv 0) (ao (bB bH (pv 2) aM (λ_ _=>rfl)) (ao (bB bH (pv 2) aM (λ_ _=>rfl)) aA)))))
   (aF (bO (i:=5) Lx.nd (aL qZ g (ao (pv 0) (ao (bB bH (pv 2) aM (λ_ _=>rfl)) (ao (bB bH (pv 2) aM (λ_ _=>rfl)) aA)))))
   (aF (aR (bF bU (pv 1) (aN S.afe)) (aD (aK (aL N g (ao (pv 4) (ao (pv 5) aA))))) aV)
   (aF (aR (bF bU (pv 1) (aN S.afg)) (aD (aK (aL O g (ao (pv 4) (ao (pv 5) aA))))) aV)
   (aD (aK (aL R g (ao (pv 4) (ao (pv 5) aA))))))))))),?_⟩
 have G:∀{σ:L2.St} {H':Hp} {j:Nat} {v:Int},σ[2]? =some (some (.ref ln))->Same H H'->([k,d,I,y]:List Int)[j]? =some v->PE0 (tOp (jG K) (bA 2) (tC (.int (j:Nat)))) σ H' (.int v):=λh1 s h2=>gC (aj h1) p_c (SqL.of (s _ _ hn)) (at_of rfl (by rw[dM,h2];rfl));refine Ft (kJ (aq (aj rfl) (aq (aj rfl) aG)) ⟨L,s,ln,k,d,I,y,J,rfl,SqL.of hn,h,rfl⟩) λH1 m=> ?_;have q:=q.same m;unfold Qq Hl at q;unfold sY;cases z:ji s k d with
 | error n=>rw[z]at q;have W:=zq z;refine bD (bM (gn (aj rfl) p_c)) (λ_=> ?_) λl=>absurd (n1f.mp l) W;exact bL (jO (aj rfl) q)
 | ok t=>
  rw[z]at q;cases B:ji s I y with
  | error n=>rw[B]at q;have W:=zq B;refine bD (bM (gn (aj rfl) p_c)) (λ_=> ?_) λl=>absurd (n1f.mp l) W;exact bL (jO (aj rfl) q)
  | ok u=>
   rw[B]at q;refine bD (bM (gn (aj rfl) p_c)) (λl=>absurd rfl (n1t.mp l)) λ_=> ?_;refine aZ (d9 (bx ((aq (aj rfl) (aq (G rfl m rfl) (aq (G rfl m rfl) aG))) _ ⟨L,s,k,d,J,t,rfl,h.same m,z,λa H2 s2 e=> ?_⟩)));obtain⟨r,p,x,T,e⟩:=e.at_;have c:=m.trans s2;refine aZ (d9 (bx ((aq (aj rfl) (aq (G rfl c rfl) (aq (G rfl c rfl) aG))) _ ⟨L,s,I,y,J,u,rfl,h.same c,B,λb H3 s3 o=> ?_⟩)));obtain⟨Y,X,Z,U,o⟩:=o.at_;have e:=e.same s3;have q:=q.same (s2.trans s3);cases ec with
   | diff=>refine gV rfl ?_;exact bL (bx ((aq (aj rfl) (aq (aj rfl) aG)) _ ⟨a,r,p,x,b,Y,X,Z,T,U,t,u,rfl,e,o,q⟩))
   | clashes=>refine gb rfl (by decide) (gV rfl ?_);exact bL (bx ((aq (aj rfl) (aq (aj rfl) aG)) _ ⟨a,r,p,x,b,Y,X,Z,T,U,t,u,rfl,e,o,q⟩))
   | distance=>
    iterate 2 refine gb rfl (by decide) ?_
    exact bL (bx ((aq (aj rfl) (aq (aj rfl) aG)) _ ⟨a,r,p,x,b,Y,X,Z,T,U,t,u,rfl,e,o,q⟩))
inductive QC:Int->List Int->List (List Int)->abK->Prop
 | one {op k d ns rs ans ask}:TqC op ns rs ans->(∀s,yt s ask=Hl s k d ans)->QC op (k::d::ns) rs ask
 | two {op k d k' d' ans ask}:TwC op ans->(∀s,yt s ask=Qq s k d k' d' ans)->QC op [k,d,k',d'] [] ask
 | versions {k}:QC 24 [k] [] (.versions k)
 | check {b}:(∀z∈b,0<=z/\z<=255)->b.length<=2100->QC 26 [] [b] (.check b)
inductive spQ (C CS CH:Addr) (vs:List V) (H:Hp) (Q:VK) (E:XK):Prop
 | mk L s A ln lr op ns rs a:vs=[.ref L.h,.int op,.ref ln,.ref lr]->HAt C CS CH A H L s->H ln=some (.lst (ns.map V.int))->jc H lr rs->QC op ns rs a->jd (yt s a) H Q->spQ C CS CH vs H Q E
theorem TqC.op {op:Int} {ns:List Int} {b:List (List Int)} {a:b_->List Int} (h:TqC op ns b a):op≠24/\op≠26/\op≠20/\op≠21/\op≠22:=by cases h <;> decide
theorem asG (s:lY) (b:List Int):(yt s (.check b)).length<=5000:=by
 show(match vB (rE b)with | .error n=>[n] | .ok t=>Vbnlah.ints [t.groups.length,t.specimens.length]).length<=5000;split;.exact(by decide:1<=5000)
 .exact(by decide:2<=5000)
theorem asH (F:Fun K "answer_question" "answer_question" Wi f fd) (c:Cs K mg) (j:Df P w K mg base "list_versions" KZ 2 (YG C CS CH)) (m:Df P w K mg base "check_text" Ku 9 (X7 C)) (n:Df P w K mg base "ask_told_two" Lw 5 (Zq C CS CH)) (p:Df P w K mg base "ask_told" Lr 6 (Zo C CS CH)):
  aY P w K mg base CX0 10 f fd Ly (spQ C CS CH):=by
 refine F.ok anT (by walk_at "l") (λ_ A _ s H vs Q E g S=> ?_);obtain⟨L,s,i,z,T,op,ns,rs,a,O,h,v,y,N,q⟩:=S;subst O;refine⟨_,(aF (aR (bF bU (pv 1) (aN c.VERSIONS)) (aD (aK (aL j g (ao (pv 0) (ao (bB bH (pv 2) aM (λ_ _=>rfl)) aA))))) aV)
   (aF (aR (bF bU (pv 1) (aN c.CHECK)) (aD (aK (aL m g (ao (bB bH (pv 3) aM (λ_ _=>rfl)) aA)))) aV)
   (aF (aR (PW.pt (gW (bF bU (pv 1) (aN c.afe)) (gW (bF bU (pv 1) (aN c.afg)) (jm (bF bU (pv 1) (aN c.aoN)))))) (aD (aK (aL n g (ao (pv 0) (ao (pv 1) (ao (pv 2) aA)))))) aV)
   (aD (aK (aL p g (ao (pv 0) (ao (pv 1) (ao (pv 2) (ao (pv 3) aA)))))))))),?_⟩
 have e:∀(o:Int) (σ:L2.St),σ[1]? =some (some (.int o))->PT0 (tOr (mD (tOp rEq (bA 1) (tC (.int 20)))) (tOr (mD (tOp rEq (bA 1) (tC (.int 21)))) (mD (tOp rEq (bA 1) (tC (.int 22)))))) σ H (decide (o=20)||(decide (o=21)||decide (o=22))):=λo σ t=>
  nJ (bM (p_eq (aj t) p_c)) λ_=>nJ (bM (p_eq (aj t) p_c)) λ_=>bM (p_eq (aj t) p_c)
 cases N with
 | versions=>refine gV rfl ?_;exact bL (bx ((aq (aj rfl) (aq (gC (aj rfl) p_c (SqL.of v) (at_of rfl rfl)) aG)) _ ⟨L,s,_,i,rfl,h,q⟩))
 | check b hl=>obtain⟨q1,G,I⟩:=Nv y;refine gb rfl (by decide) (gV rfl ?_);exact bL (bx ((aq (gC (aj rfl) p_c (SqL.of G) (at_of rfl rfl)) aG) _ ⟨q1,s,_,rfl,.inl I,b,λl B s1 R J=>q l B s1 R J (asG s _)⟩))
 | two d u=>
  have x:op≠24/\op≠26/\(decide (op=20)||(decide (op=21)||decide (op=22)))=true:=by cases d <;> decide
  refine gb rfl x.1 (gb rfl x.2.1 ?_);rw[u]at q;refine bD (e op _ rfl) (λ_=> ?_) λb=>absurd (x.2.2.symm.trans b) (by decide);exact bL (bx ((aq (aj rfl) (aq (aj rfl) (aq (aj rfl) aG))) _ ⟨L,s,i,z,op,_,_,_,_,_,rfl,h,v,d,q⟩))
 | one d u=>
  obtain⟨U,W,X,Y,Z⟩:=d.op;refine gb rfl U (gb rfl W ?_);rw[u]at q;refine bD (e op _ rfl) (λb=> ?_) λ_=> ?_;.rw[cY X,cY Y,cY Z]at b;exact absurd b (by decide)
  .exact bL (bx ((aq (aj rfl) (aq (aj rfl) (aq (aj rfl) (aq (aj rfl) aG)))) _ ⟨L,s,i,z,T,op,_,_,_,rs,_,rfl,h,v,y,d,q⟩))
inductive CC:Int->List Int->List (List Int)->Vbnlah.Call->Prop
 | edit {op n ns rs e}:EdC op n ns rs e->CC op ns rs (.edit n e)
 | undo {n}:CC 12 [n] [] (.undo n)
 | publish {n d}:CC 13 [n,d] [] (.publish n d)
 | ask {op ns rs a}:QC op ns rs a->CC op ns rs (.ask a)
inductive Zr (C CS CH:Addr) (vs:List V) (H:Hp) (Q:VK) (E:XK):Prop
 | mk L s ln lr op ns rs k:vs=[.ref L.h,.int op,.ref ln,.ref lr]->(HAt C CS CH (λ_=>True) H L s)->H ln=some (.lst (ns.map V.int))->jc H lr rs->CC op ns rs k->(∀l H',(jj s k).2.length<=5000->HAt C CS CH (λ_=>True) H' L (jj s k).1->qX L.M H H'->H l=none->H' l=some (.lst ((jj s k).2.map V.int))->Q (.ref l) H')->Zr C CS CH vs H Q E
theorem EdC.op {op n:Int} {ns:List Int} {a:List (List Int)} {e:abJ} (h:EdC op n ns a e):op < 12:=by cases h <;> decide
theorem QC.op {op:Int} {ns:List Int} {b:List (List Int)} {a:abK} (h:QC op ns b a):¬op < 12/\op≠12/\op≠13:=by
 cases h with
 | one h=>cases h <;> decide
 | two h=>cases h <;> decide
 | versions=>decide
 | check=>decide
theorem asM (F:Fun K "answer_call" "answer_call" Wj f fd) (G:Cs K mg) (x:Df P w K mg base "edit_draft" Ln 11 (Zm C CS CH)) (y:Df P w K mg base "undo_edit" KQ 2 (YC C CS CH)) (z:Df P w K mg base "publish_draft" KY 2 (YF C CS CH)) (B:Df P w K mg base "answer_question" Ly 10 (spQ C CS CH)):
  aY P w K mg base CX0 12 f fd Lz (Zr C CS CH):=by
 refine F.ok anV (by walk_at "l") (λ_ A _ s H vs Q E v hz=> ?_);obtain⟨L,s,R,S,op,T,U,k,ev,h,n,J,Z,q⟩:=hz;subst ev;refine⟨_,(aF (aR (bF yG (pv 1) (aN G.UNDO)) (aD (aK (cT (ao (aL x v (ao (pv 0) (ao (pv 1) (ao (pv 2) (ao (pv 3) aA))))) aA)))) aV)
   (aF (aR (bF bU (pv 1) (aN G.UNDO)) (aD (aK (cT (ao (aL y v (ao (pv 0) (ao (bB bH (pv 2) aM (λ_ _=>rfl)) aA))) aA)))) aV)
   (aF (aR (bF bU (pv 1) (aN G.aoL)) (aD (aK (cT (ao (aL z v (ao (pv 0) (ao (bB bH (pv 2) aM (λ_ _=>rfl)) (ao (bB bH (pv 2) aM (λ_ _=>rfl)) aA)))) aA)))) aV)
   (aD (aK (aL B v (ao (pv 0) (ao (pv 1) (ao (pv 2) (ao (pv 3) aA)))))))))),?_⟩
 have one:∀{d:Hp} {j:lY} {c:Int},jj s k=(j,[c])->HAt C CS CH (λ_=>True) d L j->qX L.M H d->∀l,d l=none->(∀m∈L.M,∃u,H m=some u)->Q (.ref l) (upd d l (.lst [.int c])):=λ{d j c} e i o l a hM=>by
  refine q l _ ?_ ?_ ?_ ?_ ?_;.rw[e];exact(by decide:1<=5000)
  .rw[e];exact i.same (Same.upd a)
  .intro b u Y nb;exact(Same.upd a) _ _ (o b u Y nb)
  .cases g:H l with
   | none=>rfl
   | some u=>
    by_cases t:l∈L.M;.obtain⟨u',p⟩:=i.inM t;rw[a]at p;cases p
    .rw[o l u g t]at a;cases a
  .rw[aH,e];rfl
 have inM:∀m∈L.M,∃u,H m=some u:=λm t=>h.inM t;cases Z with
 | edit N=>refine bD (bM (p_i (aj rfl) p_c)) (λ_=> ?_) λg=>absurd N.op (iw g);exact bL (Fy (dj (bx ((aq (aj rfl) (aq (aj rfl) (aq (aj rfl) (aq (aj rfl) aG)))) _ ⟨L,s,R,S,op,_,T,U,_,rfl,h,n,J,N,λd j c e i o=>⟨by show 1<=sizeLine;decide,λl a=>one e i o l a inM⟩⟩))))
 | undo=>refine bD (bM (p_i (aj rfl) p_c)) (λg=>absurd (dz g) (by decide)) λ_=>gV rfl ?_;exact bL (Fy (dj (bx ((aq (aj rfl) (aq (gC (aj rfl) p_c (SqL.of n) (at_of rfl rfl)) aG)) _ ⟨L,s,_,_,rfl,h,λd j c e i o=>⟨by show 1<=sizeLine;decide,λl a=>one e i o l a inM⟩⟩))))
 | publish=>refine bD (bM (p_i (aj rfl) p_c)) (λg=>absurd (dz g) (by decide)) λ_=>gb rfl (by decide) (gV rfl ?_);exact bL (Fy (dj (bx ((aq (aj rfl) (aq (gC (aj rfl) p_c (SqL.of n) (at_of rfl rfl)) (aq (gC (aj rfl) p_c (SqL.of n) (at_of rfl rfl)) aG))) _ ⟨L,s,_,_,rfl,h,λd j c e i o=>⟨by show 1<=sizeLine;decide,λl a=>one e i o l a inM⟩⟩))))
 | ask O=>obtain⟨n0,n1,n2⟩:=O.op;refine bD (bM (p_i (aj rfl) p_c)) (λg=>absurd (dz g) n0) λ_=>gb rfl n1 (gb rfl n2 ?_);exact bL (bx ((aq (aj rfl) (aq (aj rfl) (aq (aj rfl) (aq (aj rfl) aG)))) _ ⟨L,s,_,R,S,op,T,U,_,rfl,h,n,J,O,λl d W f1 X I=>q l d I (h.same W) (λb u e _=>W b u e) f1 X⟩))
end
structure xQ (K:aW) (C:Addr):Prop where
 cl:Cls K C
 nC:eY K C "calls"
 nR:eY K C "reached"
def fsP (a:Addr) (n:Int):List (Str×V):=[("calls",.ref a),("reached",.int n)]
theorem asS (a:Addr) (n:Int):(fsP a n).lookup ("calls" :Str)=some (.ref a):=by rfl
theorem Zt (a:Addr) (n:Int):(fsP a n).lookup ("reached" :Str)=some (.int n):=by rfl
theorem agE (a:Addr) (n m:Int):fj "reached" (.int m) (fsP a n)=fsP a m:=by unfold fsP;rw[mL (by decide+kernel),zM]
structure PAt (K:aW) (C:Addr) (H:Hp) (tp lc:Addr) (ns:List Int) (n:Nat):Prop where
 ins:∃dx,H tp=some (.ins C dx (fsP lc (n:Nat)))
 lst:SqL K H lc (ns.map V.int)
 le:n<=ns.length
section
variable {H H':Hp} {tp lc:Addr} {ns:List Int} {n:Nat} {σ:L2.St} {i:Nat}
theorem PAt.same (h:PAt K C H tp lc ns n) (s:Same H H'):PAt K C H' tp lc ns n:=⟨let ⟨dx,e⟩:=h.ins;⟨dx,s _ _ e⟩,s.seq h.lst,h.le⟩
theorem PAt.move (h:PAt K C H tp lc ns n) (e:H tp=some (.ins C dx (fsP lc (n:Nat)))) (a:m<=ns.length):PAt K C (upd H tp (.ins C dx (fsP lc (m:Nat)))) tp lc ns m:=
 ⟨⟨dx,aH⟩,afA (λb o z n=>by rw[aC n];exact z) h.lst e (by intro _ z;cases z) (by intro _ _ z;cases z),a⟩
theorem Zu (c:xQ K C) (a:PE0 te σ H (.ref tp)) (e:H tp=some (.ins C dx (fsP lc m))):PE0 (dZ K te "calls") σ H (.ref lc):=λQ q=>a _ ⟨tp,C,dx,_,_,rfl,e,c.cl,c.nC,asS lc m,q⟩
theorem Ny (c:xQ K C) (a:PE0 te σ H (.ref tp)) (e:H tp=some (.ins C dx (fsP lc m))):PE0 (dZ K te "reached") σ H (.int m):=λQ q=>a _ ⟨tp,C,dx,_,_,rfl,e,c.cl,c.nR,Zt lc m,q⟩
inductive Zv (C:Addr) (vs:List V) (H:Hp) (Q:VK) (E:XK):Prop
 | mk q dx lc:vs=[.ref q,.ref lc]->H q=some (.ins C dx [])->Q .non (upd H q (.ins C dx (fsP lc (0:Nat))))->Zv C vs H Q E
theorem asT (F:Fun K "__init__" "Tape.__init__" V9 f fd) (c:xQ K C):aY P w K mg base CX0 1 f fd Lg (Zv C):=by
 refine F.ok anG (by walk_at "l") (λ_ A _ s H i Q E g d=> ?_);obtain⟨q,a,h,e,b,k⟩:=d;subst e;refine⟨_,(aF (jF (pv 0) (pv 1) rfl)
   (aD (jF (pv 0) aM rfl))),?_⟩
 refine⟨_,rfl,_,rfl,q,C,a,_,rfl,b,c.cl,c.nC,(by show 0 < 1000;decide),?_⟩;refine⟨_,rfl,q,C,a,_,rfl,aH,c.cl,c.nR,(by show 1 < 1000;decide),?_⟩;rw[mq,nF,mL (by decide+kernel),nF];exact k
inductive Nz (K:aW) (C:Addr) (vs:List V) (H:Hp) (v:V):Prop
 | mk tp lc ns n:vs=[.ref tp]->PAt K C H tp lc ns n->v= .bl (decide (n=ns.length))->Nz K C vs H v
theorem asU (F:Fun K "is_read" "Tape.is_read" V_ f fd) (c:xQ K C) (a:Cs K mg):aY P w K mg base CX0 1 f fd Lh (spP (Nz K C)):=by refine F.ok anI (by walk_at "l") (λ_ A _ s H j Q E i d=> ?_);obtain⟨v,⟨tp,lc,ns,n,e,h,b⟩,q⟩:=d;subst e;subst b;refine⟨_,(aD (aK (gY bU (aO (pv 0) rfl) (cB fK rfl a.len dF (ao (aO (pv 0) rfl) aA))))),?_⟩;obtain⟨g,e⟩:=h.ins;refine aU (p_eq (Ny c (aj rfl) e) (f9 (aq (Zu c (aj rfl) e) aG) h.lst)) (vb q ?_);rw[aJ];exact fH (by omega)
inductive Zw (K:aW) (C:Addr) (vs:List V) (H:Hp) (Q:VK) (E:XK):Prop
 | mk tp lc ns n z:vs=[.ref tp]->PAt K C H tp lc ns n->ns[n]? =some z->(∀H',PAt K C H' tp lc ns (n+1)->But tp H H'->Q (.int z) H')->Zw K C vs H Q E
theorem asV (F:Fun K "next_number" "Tape.next_number" Wa f fd) (c:xQ K C):aY P w K mg base CX0 1 f fd Li (Zw K C):=by
 refine F.ok ae1 (by walk_at "l") (λ_ A _ s H l Q E g a=> ?_);obtain⟨tp,lc,ns,n,z,e,h,a,q⟩:=a;subst e;refine⟨_,(aF (bO (i:=1) ae1.nd (bB bH (aO (pv 0) rfl) (aO (pv 0) rfl) (λ_ _=>rfl)))
   (aF (Hw (pv 0) aM Hx)
   (aD (aK (pv 1))))),?_⟩
 obtain⟨d,e⟩:=h.ins;have b:n < ns.length:=(jX.mp a).1;refine o_ (gC (Zu c (aj rfl) e) (Ny c (aj rfl) e) h.lst (at_of (j:=n) rfl (by rw[dM,a];rfl))) ?_;refine aZ ((aj rfl) _ ⟨tp,C,d,_,_,rfl,e,c.cl,c.nR,Zt lc n,p_c _ ⟨_,_,rfl,rfl,d,_,e,(by show 2 < 1000;decide),?_⟩⟩);rw[agE];exact aU (aj rfl) (q _ (h.move e (m:=n+1) b) Xr)
inductive Zx (K:aW) (C:Addr) (vs:List V) (H:Hp) (Q:VK) (E:XK):Prop
 | mk tp lc ns n m:vs=[.ref tp,.int (m:Nat)]->PAt K C H tp lc ns n->n+m<=ns.length->(∀l H',H l=none->H' l=some (.lst (((ns.drop n).take m).map V.int))->PAt K C H' tp lc ns (n+m)->But tp H H'->Q (.ref l) H')->Zx K C vs H Q E
theorem asW (F:Fun K "next_numbers" "Tape.next_numbers" Wb f fd) (c:xQ K C):aY P w K mg base CX0 1 f fd Lj (Zx K C):=by
 refine F.ok ae2 (by walk_at "l") (λ_ A _ s H B Q E y v=> ?_);obtain⟨tp,lc,ns,n,m,e,h,t,q⟩:=v;subst e;refine⟨_,(aF (bO (i:=2) ae2.nd (aO (pv 0) rfl))
   (aF (Hw (pv 0) (pv 1) Hx)
   (aD (aK (Hz HB (aO (pv 0) rfl) (yJ (pv 2)) (yJ (aO (pv 0) rfl))))))),?_⟩
 obtain⟨d,e⟩:=h.ins;refine o_ (Ny c (aj rfl) e) ?_;refine aZ ((aj rfl) _ ⟨tp,C,d,_,_,rfl,e,c.cl,c.nR,Zt lc n,(aj rfl) _ ⟨_,_,rfl,rfl,d,_,e,(by show 2 < 1000;decide),?_⟩⟩);rw[agE];have o:=h.move e (m:=n+m) t;have j:upd H tp (.ins C d (fsP lc ((n:Int)+(m:Int)))) tp=some (.ins C d (fsP lc ((n:Int)+(m:Int)))):=aH;dsimp only;refine bL ((Zu c (aj rfl) j) _ ((aj rfl) _ ⟨_,rfl,(Ny c (aj rfl) j) _ ⟨_,rfl,lc,_,rfl,o.lst,λl g=> ?_⟩⟩));have a:H l=none:=(fC g).2;have p:((n:Int)+(m:Int))=((n+m:Nat):Int):=by omega
 rw[p]at g ⊢;refine q l _ a ?_ (o.same (Same.upd g)) λb u z x=> ?_;.rw[aH,afO,Nat.add_sub_cancel_left]
 .rw[aC (aX z a),aC x];exact z
end
section
variable {K:aW} {C CS CH CT:Addr} {A:Addr->Prop} {H H':Hp} {L:Lay} {s:lY} {tp lc:Addr} {ns:List Int} {n:Nat}
def Kp (M:List Addr) (H H':Hp):Prop:=∀b o,H b=some o->(∀C a lc n,o≠ .ins C a (fsP lc n))->(∀c,o= .lst c->b∈M)->H' b=some o
theorem Zy (h:fs.length≠2):∀C a lc n,HO.ins C0 dx0 fs≠ .ins C a (fsP lc n):=λC a lc n z=>by injection z with _ _ z;rw[z]at h;exact h rfl
theorem bQ.kp (h:bQ C H a r p x T) (k:Kp M H H'):bQ C H' a r p x T:=by obtain⟨b,e⟩:=h.ins;exact⟨⟨b,k _ _ e (Zy (by rw[rY];show 3≠2;decide)) λ_ z=>by cases z⟩,k _ _ h.hr (λ_ _ _ _ z=>by cases z) (λ_ z=>by cases z),k _ _ h.hp (λ_ _ _ _ z=>by cases z) (λ_ z=>by cases z),k _ _ h.hx (λ_ _ _ _ z=>by cases z) (λ_ z=>by cases z),h.rp,h.rx,h.px⟩
theorem TX.kp (h:TX C M A H a t) (k:Kp M H H'):TX C M A H' a t:=⟨h.1,let ⟨r,p,x,T,z,n⟩:=h.2;⟨r,p,x,T,⟨z.own.kp k,z.rel,z.wf⟩,n⟩⟩
theorem SAt.kp (h:SAt C CS M A H sa er vd d i vs) (p:er∈M) (k:Kp M H H'):SAt C CS M A H' sa er vd d i vs:=by obtain⟨⟨l,g,m,w⟩,⟨b,n,s,x⟩,c,o,u,y⟩:=h;exact⟨⟨l,g,k _ _ m (Zy (by show 3≠2;decide)) (λ_ z=>by cases z),w.kp k⟩,⟨b,k _ _ n (λ_ _ _ _ z=>by cases z) (λ_ _=>p),s,λj a t e f=>(x j a t e f).kp k⟩,c,k _ _ o (λ_ _ _ _ z=>by cases z) (λ_ z=>by cases z),u,λv e f q B E=>(y v e f q B E).kp k⟩
theorem HAt.kp (h:HAt C CS CH A H L s) (k:Kp L.M H H'):HAt C CS CH A H' L s:=
 ⟨h.ok,h.nd,let ⟨dx,e⟩:=h.ins;⟨dx,k _ _ e (Zy (by show 1≠2;decide)) λ_ z=>by cases z⟩,k _ _ h.dk (λ_ _ _ _ z=>by cases z) (λ_ z=>by cases z),h.nds,λi a b=>(h.sch i a b).kp (Lay.mem a b).2.1 k⟩
theorem Kp.NK (e:H tp=some (.ins CT dx (fsP lc m))) (b:But tp H H'):Kp M H H':=λc o z a _=>b c o z λy=>by rw[y,e]at z;injection z with z;exact a _ _ _ _ z.symm
theorem Kp.list (e:H l=some (.lst xs)) (b:l∉M):Kp M H (upd H l u):=λc o z _ a=>by
 by_cases y:c=l;.subst y;rw[e]at z;injection z with z;exact absurd (a xs z.symm) b
 .rw[aC y];exact z
theorem jy.but {l:Addr} {rows:List (List Int)} {g:Addr} {m:Int} (h:jy H l rows) (e:H tp=some (.ins CT g (fsP lc m))) (b:But tp H H'):jy H' l rows:=by obtain⟨a,c,i,d,j⟩:=h;exact⟨a,b _ _ c (cJ c e (by intro z;cases z)),i,λq f=>b _ _ (d q f) (cJ (d q f) e (by intro z;cases z)),j⟩
theorem jy.snoc {l q:Addr} {rows:List (List Int)} {row:List Int} (h:jy H l rows) (g:H q=some (.lst (row.map V.int))) (n:q≠l):∃xs,H l=some (.lst xs)/\xs.length=rows.length/\jy (upd H l (.lst (xs++[V.ref q]))) l (rows++[row]):=by
 obtain⟨a,e,c,f,d⟩:=h;refine⟨_,e,by rw[aJ,<-c,aJ],a++[(q,row)],?_,?_,λy b=> ?_,λy b=> ?_⟩;.rw[aH,dw];rfl
 .rw[dw,c];rfl
 .rcases dO.mp b with z | z;.rw[aC (d y z)];exact f y z
  .rw[dX.mp z,aC n];exact g
 .rcases dO.mp b with z | z;.exact d y z
  .rw[dX.mp z];exact n
theorem HAt.kinds (h:HAt C CS CH A H L s) (f:m∈L.M):(∃d c e n,H m=some (.ins CS d (fsS c e n)))\/(∃a:List Addr,H m=some (.lst (a.map V.ref)))\/∃kvs,H m=some (.dK kvs):=by
 have b:∀i,1<=i->i<=3->(∃d c e n,H (L.sa i)=some (.ins CS d (fsS c e n)))/\(∃a:List Addr,H (L.er i)=some (.lst (a.map V.ref)))/\∃kvs,H (L.vd i)=some (.dK kvs):=λi t u=>by obtain⟨⟨d,c,p,_⟩,⟨a,o,_⟩,v,q,_⟩:=h.sch i t u;exact⟨⟨_,_,_,_,p⟩,⟨_,o⟩,⟨_,q⟩⟩
 have g:=b 1 (by decide) (by decide);have j:=b 2 (by decide) (by decide);have l:=b 3 (by decide) (by decide);unfold Lay.M at f;simp only[cD,lV,or_false]at f;rcases f with z | z | z | z | z | z | z | z | z <;> subst z;.exact .inl g.1
 .exact .inl j.1
 .exact .inl l.1
 .exact .inr (.inl g.2.1)
 .exact .inr (.inl j.2.1)
 .exact .inr (.inl l.2.1)
 .exact .inr (.inr g.2.2)
 .exact .inr (.inr j.2.2)
 .exact .inr (.inr l.2.2)
theorem PAt.asY (p:PAt K CT H tp lc ns n) (h:HAt C CS CH A H L s) (o:qX L.M H H') (g:ns≠[]):PAt K CT H' tp lc ns n:=by
 obtain⟨f,e⟩:=p.ins;refine⟨⟨f,o _ _ e λd=> ?_⟩,?_,p.le⟩
 .rcases h.kinds d with ⟨_,_,_,_,z⟩ | ⟨_,z⟩ | ⟨_,z⟩ <;> rw[e]at z <;> injection z with z;.injection z with _ _ z;injection z with _ z;injection z with _ z;cases z
  .cases z
  .cases z
 .rcases p.lst with (z | ⟨i,z⟩) | z
  .refine .inl (.inl (o _ _ z λd=> ?_));rcases h.kinds d with ⟨_,_,_,_,y⟩ | ⟨c,y⟩ | ⟨_,y⟩ <;> rw[z]at y <;> injection y with y;.cases y
   .injection y with y;cases ns with
    | nil=>exact g rfl
    | cons a l=>
     cases c with
     | nil=>cases y
     | cons b c=>injection y with y;cases y
   .cases y
  .refine .inl (.inr ⟨i,o _ _ z λd=> ?_⟩);rcases h.kinds d with ⟨_,_,_,_,y⟩ | ⟨_,y⟩ | ⟨_,y⟩ <;> rw[z]at y <;> injection y with y <;> cases y
  .exact .inr z
end
def Ao:List Int:=[4,3,2,3,3,3,3,2,1,3,1,5,1,2,2,3,3,2,3,4,4,4,4,5,1,2,0]
def xR:List Int:=[0,0,0,0,0,2,0,0,1,0,1,0,0,0,0,0,0,1,0,0,0,0,0,0,0,0,1]
theorem asZ:∀j:Nat,j < 27->qx (j:Int)=some (((Ao[j]?).getD 0).toNat,((xR[j]?).getD 0).toNat)/\Ao[j]? =some ((((Ao[j]?).getD 0).toNat:Nat):Int)/\xR[j]? =some ((((xR[j]?).getD 0).toNat:Nat):Int)/\((xR[j]?).getD 0).toNat<=2:=by decide
theorem as3 (h:¬(0<=p/\p < 27)):qx p=none:=by
 unfold qx
 iterate 27 rw[au (by omega)]
theorem agF (h:qx p=some (m,k)):p=(p.toNat:Int)/\Ao[p.toNat]? =some (m:Int)/\xR[p.toNat]? =some (k:Int)/\k<=2:=by
 have i:=jk λz=>by rw[as3 z]at h;cases h
 have e:p=(p.toNat:Int):=by omega
 obtain⟨a,b,c,d⟩:=asZ p.toNat (by omega);rw[<-e,h]at a;injection a with a;injection a with f g;rw[<-f]at b;rw[<-g]at c d;exact⟨e,b,c,d⟩
theorem drop_cons {ns r:List Int} {n:Nat} {z:Int} (h:ns.drop n=z::r):ns[n]? =some z/\ns.drop (n+1)=r/\n+1+r.length=ns.length:=by
 have a:(ns.drop n)[0]? =some z:=by rw[h];rfl
 rw[aaS]at a;have b:ns.drop (n+1)=r:=by rw[<-u_,h];rfl
 have c:=congrArg iR h;rw[rB,bR]at c;exact⟨a,b,by omega⟩
theorem PAt.onL {K:aW} {CT:Addr} {g H:Hp} {f b c:Addr} {ns:List Int} {q n:Nat} {u:HO} (p:PAt K CT H f b ns n) (j:PAt K CT g f b ns q) (d:g c=none):PAt K CT (upd H c u) f b ns n:=by
 obtain⟨m,o⟩:=j.ins;obtain⟨l,e⟩:=p.ins;refine⟨⟨l,by rw[aC (aX o d)];exact e⟩,?_,p.le⟩;have a:b≠c->SqL K (upd H c u) b (ns.map V.int):=λh=>by
  rcases p.lst with (z | ⟨i,z⟩) | z;.exact .inl (.inl (by rw[aC h];exact z))
  .exact .inl (.inr ⟨i,by rw[aC h];exact z⟩)
  .exact .inr z
 rcases j.lst with (z | ⟨i,z⟩) | z;.exact a (aX z d)
 .exact a (aX z d)
 .exact .inr z
section
inductive Zz (K:aW) (C CS CH CT:Addr) (vs:List V) (H:Hp) (Q:VK) (E:XK):Prop
 | mk L s tp lc ns n p r m k xs t c:vs=[.ref L.h,.ref tp]->(HAt C CS CH (λ_=>True) H L s)->PAt K CT H tp lc ns n->ns.drop n=p::r->qx p=some (m,k)->m<=r.length->pK k (r.drop m)=some (xs,t)->CC p (r.take m) xs c->(∀l H' n',(jj s c).2.length<=5000->HAt C CS CH (λ_=>True) H' L (jj s c).1->ns.drop n'=t->PAt K CT H' tp lc ns n'->(∀b o,H b=some o->b≠tp->b∉L.M->H' b=some o)->H l=none->H' l=some (.lst ((jj s c).2.map V.int))->Q (.ref l) H')->Zz K C CS CH CT vs H Q E
theorem as4 (F:Fun K "answer_next" "answer_next" Wk f fd) (S:Cs K mg) (agG:Mt P w K mg base CT "next_number" Li 1 (Zw K CT)) (agH:Mt P w K mg base CT "next_numbers" Lj 1 (Zx K CT)) (as5:Df P w K mg base "answer_call" Lz 12 (Zr C CS CH)):
  aY P w K mg base CX0 13 f fd LC (Zz K C CS CH CT):=by
 refine F.ok LK (by walk_at "l") (λ_ A _ s H vs Q E hr hz=> ?_);obtain⟨L,s,a,X,I,n,p,r,m,k,d,t,c,e,h,hp,hd,hsh,hm,hrw,ec,q⟩:=hz;subst e;refine⟨_,(aF (bO (i:=2) LK.nd (w6 agG hr (by decide) (pv 1)))
   (aF (bO (i:=3) LK.nd (pq agH hr (by decide) (pv 1) (ao (bB rN (WX S.WR) (pv 2) (λ_ _=>rfl)) aA)))
   (aF (bO (i:=4) LK.nd (cT aA))
   (aF (uc dG (bF yG (cB fK rfl S.len dF (ao (pv 4) aA)) (bB rN (WX S.WT) (pv 2) (λ_ _=>rfl))) (aD (eE (jo iD m8 n_ oK (pv 4) (ao (pq agH hr (by decide) (pv 1) (ao (w6 agG hr (by decide) (pv 1)) aA)) aA)))))
   (aD (aK (aL as5 hr (ao (pv 0) (ao (pv 2) (ao (pv 3) (ao (pv 4) aA))))))))))),?_⟩
 obtain⟨ep,eN,eR,k2⟩:=agF hsh;obtain⟨hz,hd1,hl1⟩:=drop_cons hd;obtain⟨dx,e0⟩:=hp.ins;have nne:I≠[]:=λz=>by rw[z]at hz;cases hz
 refine aZ (d9 ((aj rfl) _ ⟨a,dx,_,rfl,e0,rfl,aG _ ⟨a,X,I,n,p,rfl,hp,hz,λH1 p1 b1=> ?_⟩⟩));have h1:HAt C CS CH (λ_=>True) H1 L s:=h.kp (Kp.NK e0 b1);obtain⟨dx1,e1⟩:=p1.ins;have ixN:∀{σ:L2.St} {G:Hp},σ[2]? =some (some (.int p))->PE0 (tOp (uh K) (tC (.ref S.WR.choose)) (bA 2)) σ G (.int m):=λhi=>YX S.WR (aj hi) (at_of (j:=p.toNat) ep (by rw[dM];show(Ao[p.toNat]?).map V.int=_;rw[eN];rfl));have ixR:∀{σ:L2.St} {G:Hp},σ[2]? =some (some (.int p))->PE0 (tOp (uh K) (tC (.ref S.WT.choose)) (bA 2)) σ G (.int k):=λhi=>YX S.WT (aj hi) (at_of (j:=p.toNat) ep (by rw[dM];show(xR[p.toNat]?).map V.int=_;rw[eR];rfl));dsimp only;refine aZ (d9 ((aj rfl) _ ⟨a,dx1,_,rfl,e1,rfl,(aq (ixN rfl) aG) _ ⟨a,X,I,n+1,m,rfl,p1,by omega,λY W fl el p2 b2=> ?_⟩⟩));rw[hd1]at el;have h2:HAt C CS CH (λ_=>True) W L s:=h1.kp (Kp.NK e1 b2);dsimp only;refine aZ ⟨fU _,λB N=> ?_⟩;have s3:Same W (upd W B (.lst [])):=Same.upd N;have nlr:B∉L.M:=λhm=>by obtain⟨u,hu⟩:=h2.inM hm;rw[N]at hu;cases hu
 have fr:∀{b o},H b=some o->b≠a->W b=some o:=λz g=>b2 _ _ (b1 _ _ z g) g;have hd2:I.drop (n+1+m)=r.drop m:=by rw[<-u_,hd1]
 have nln:Y≠a:=cJ el (p2.ins.choose_spec) (by intro z;cases z);dsimp only;refine aZ ?_;refine⟨λU σ G=>∃i O v,U=k-i/\i<=k/\i<=d.length/\σ=[some (.ref L.h),some (.ref a),some (.int p),some (.ref Y),some (.ref B)]/\jy G B (d.take i)/\I.drop v=O/\pK (k-i) O=some (d.drop i,t)/\PAt K CT G a X I v/\HAt C CS CH (λ_=>True) G L s/\(∀b o,W b=some o->b≠a->G b=some o),⟨k,0,r.drop m,n+1+m,by simp,fU _,fU _,rfl,⟨[],by rw[aH];rfl,rfl,(λq hq=>by cases hq),λq hq=>by cases hq⟩,hd2,hrw,p2.same s3,h2.same s3,λb o z _=>s3 b o z⟩,?_⟩;rintro U σ G ⟨i,O,v,rfl,hi,hix,rfl,lrw,hri,xJ,T,hh,J⟩;have ZC:=lrw;obtain⟨ars,ea,eb,ec',ed⟩:=lrw;have as6:(ars.map λq=>V.ref q.1).length=(d.take i).length:=by rw[aJ,<-eb,aJ]
 refine(bM (p_i (f9 (aq (aj rfl) aG) (SqL.of ea)) (ixR rfl))) _ ?_;have eti:(d.take i).length=i:=by rw[fD];omega
 rw[as6,eti];obtain⟨dx',e'⟩:=T.ins;by_cases hik:i < k
 .obtain⟨mr,Z,R,g1,g2,g3,g4⟩:∃(U:Nat) (Z:List Int) (R:List (List Int)),O=(U:Int)::Z/\U<=Z.length/\d.drop i=Z.take U::R/\pK (k- (i+1)) (Z.drop U)=some (R,t):=by
   have e:k-i=(k- (i+1))+1:=by omega
   rw[e]at xJ;exact ad6 xJ
  have ixs:i < d.length:=by have:=congrArg iR g3;rw[rB,bR]at this;omega
  obtain⟨hz',hd',hl'⟩:=drop_cons (hri.trans g1);rw[aB (cF (by omega))];refine⟨λσ' x=>∃O v,σ'=[some (.ref L.h),some (.ref a),some (.int p),some (.ref Y),some (.ref B)]/\jy x B (d.take (i+1))/\I.drop v=O/\pK (k- (i+1)) O=some (d.drop (i+1),t)/\PAt K CT x a X I v/\HAt C CS CH (λ_=>True) x L s/\(∀b o,W b=some o->b≠a->x b=some o),λσ' x ⟨O,v,z1,z2,z3,z4,z5,z6,z7⟩=>⟨k- (i+1),by omega,i+1,O,v,rfl,hik,ixs,z1,z2,z3,z4,z5,z6,z7⟩,?_⟩;have pv4:PE0 (bA 4) [some (V.ref L.h),some (.ref a),some (.int p),some (.ref Y),some (.ref B)] G (.ref B):=aj rfl;refine oZ (pv4 _ ⟨.inl ⟨rfl,_,SqL.of ea⟩,dj ((aj rfl) _ ⟨a,dx',_,rfl,e',rfl,dj ((aj rfl) _ ⟨a,dx',_,rfl,e',rfl,aG _ ⟨a,X,I,v,(mr:Int),rfl,T,hz',λH3 p3 b3=> ?_⟩⟩)⟩)⟩);obtain⟨dx3,e3⟩:=p3.ins;refine⟨a,X,I,v+1,mr,rfl,p3,by omega,λlq H4 fq eq p4 b4=> ?_⟩;rw[hd']at eq;have lw3:=ZC.but e' b3;have lw4:=lw3.but e3 b4;have nq:lq≠B:=by obtain⟨avG,y,_⟩:=lw3;exact(aX y fq).symm
  obtain⟨ys,ey,ly,lw⟩:=lw4.snoc eq nq;have h3:HAt C CS CH (λ_=>True) H3 L s:=hh.kp (Kp.NK e' b3);have h4:HAt C CS CH (λ_=>True) H4 L s:=h3.kp (Kp.NK e3 b4);refine⟨B,_,_,rfl,rfl,ey,by rw[ly,eti];exact gD (show i<=2 by omega) (by decide),Z.drop mr,v+1+mr,rfl,?_,by rw[<-u_,hd'],?_,p4.onL p2 N,h4.kp (Kp.list ey nlr),λb o z g=> ?_⟩;.rw[j6,<-List.head?_drop,g3];exact lw
  .have:d.drop (i+1)=R:=by rw[<-u_,g3];rfl
   rw[this];exact g4
  .rw[aC (aX z N)];exact b4 _ _ (b3 _ _ (J b o z g) g) g
 .have eik:i=k:=by omega
  subst eik;rw[au (by rw[cY (by omega)];decide)];rw[aay]at xJ;obtain⟨z1,z2⟩:=ad7 xJ;have ext:d.take i=d:=by have:=Pn i d;rw[z1,gH]at this;exact this
  rw[ext]at ZC;dsimp only;refine bL (bx ((aq (aj rfl) (aq (aj rfl) (aq (aj rfl) (aq (aj rfl) aG)))) _ ⟨L,s,Y,B,p,r.take m,d,c,rfl,hh,J Y _ el nln,ZC.rows,ec,λl H5 len h5 o5 f5 e5=>q l H5 v len h5 (hri.trans z2.symm) (T.asY hh o5 nne) (λb o z g nm=>o5 b o (J b o (fr z g) g) nm) ?_ e5⟩));cases hb:H l with
  | none=>rfl
  | some o=>
   by_cases g:l=a;.rw[g,e']at f5;cases f5
   .rw[J l o (fr hb g) g]at f5;cases f5
end
theorem ln0 {α:Type}:∀{l:List α},l.length=0->l=[]
 | [],_=>rfl
theorem ln1 {α:Type}:∀{l:List α},l.length=1->∃a,l=[a]
 | [a],_=>⟨a,rfl⟩
theorem ln2 {α:Type}:∀{l:List α},l.length=2->∃a b,l=[a,b]
 | [a,b],_=>⟨a,b,rfl⟩
theorem ln3 {α:Type}:∀{l:List α},l.length=3->∃a b c,l=[a,b,c]
 | [a,b,c],_=>⟨a,b,c,rfl⟩
theorem ln4 {α:Type}:∀{l:List α},l.length=4->∃a b c d,l=[a,b,c,d]
 | [a,b,c,d],_=>⟨a,b,c,d,rfl⟩
theorem ln5 {α:Type}:∀{l:List α},l.length=5->∃a b c d e,l=[a,b,c,d,e]
 | [a,b,c,d,e],_=>⟨a,b,c,d,e,rfl⟩
theorem NP {l:List Int} {q:Bool} (h:(l.all (λ(z:Int)=>(decide (-(10 ^ 12)<=z)&&decide (z<=10 ^ 12)))&&decide (l.length<=2100))=true):l.length<=2100:=dz (j7.mp h).2
theorem agI {l:List Int} (h:(l.all (λ(z:Int)=>abR z 8)&&decide (l.length<=2100))=true):(∀z∈l,0<=z/\z<=255)/\l.length<=2100:=by obtain⟨c,d⟩:=j7.mp h;refine⟨λz e=> ?_,dz d⟩;have:=m5.mp c z e;unfold abR at this;rw[dY]at this;have a:=dz this.1;have b:=dz this.2;omega
theorem as7 {a b c:Int} {d xs:List Int} (h:qy [[((5:Nat):Int),a,b,c],d,xs]=true):d.length<=2100/\xs.length<=2100:=by obtain⟨e,f⟩:=j7.mp h;obtain⟨_,g⟩:=j7.mp e;exact⟨NP (q:=true) g,NP (q:=true) f⟩
theorem as8 {a:Int} {t:List Int} (h:qy [[((8:Nat):Int),a],t]=true):(∀z∈t,0<=z/\z<=255)/\t.length<=2100:=agI (j7.mp h).2
theorem as9 {t:List Int} (h:qy [[((26:Nat):Int)],t]=true):(∀z∈t,0<=z/\z<=255)/\t.length<=2100:=agI h
theorem as_ {a:Int} {t:List Int} (h:qy [[((10:Nat):Int),a],t]=true):t.length<=2100:=NP (q:=true) (j7.mp h).2
theorem ata {a b:Int} {t:List Int} (h:qy [[((17:Nat):Int),a,b],t]=true):t.length<=2100:=NP (q:=true) (j7.mp h).2
theorem cM (k:Nat) {n:Nat} (h:some (k:Int)=some (n:Int)):n=k:=by have:=jV h;omega
theorem atb {ns:List Int} {i:List (List Int)}:∀(j:Nat),j < 27->Ao[j]? =some (ns.length:Int)->xR[j]? =some (i.length:Int)->qy (mj (((j:Int)::ns)::i))=true->∃c,abS (((j:Int)::ns)::i)=some c/\CC (j:Int) ns i c/\mj (((j:Int)::ns)::i)=((j:Int)::ns)::i
 | 0,_,a,d,e=>by obtain⟨f,g,h,l,rfl⟩:=ln4 (cM 4 a);obtain rfl:=ln0 (cM 0 d);exact⟨_,rfl,.edit .group,rfl⟩
 | 1,_,a,d,e=>by obtain⟨f,g,h,rfl⟩:=ln3 (cM 3 a);obtain rfl:=ln0 (cM 0 d);exact⟨_,rfl,.edit .put,rfl⟩
 | 2,_,a,d,e=>by obtain⟨f,g,rfl⟩:=ln2 (cM 2 a);obtain rfl:=ln0 (cM 0 d);exact⟨_,rfl,.edit .take,rfl⟩
 | 3,_,a,d,e=>by obtain⟨f,g,h,rfl⟩:=ln3 (cM 3 a);obtain rfl:=ln0 (cM 0 d);exact⟨_,rfl,.edit .move,rfl⟩
 | 4,_,a,d,e=>by obtain⟨f,g,h,rfl⟩:=ln3 (cM 3 a);obtain rfl:=ln0 (cM 0 d);exact⟨_,rfl,.edit .lump,rfl⟩
 | 5,_,a,d,e=>by obtain⟨f,g,h,rfl⟩:=ln3 (cM 3 a);obtain⟨m,o,rfl⟩:=ln2 (cM 2 d);have b:=as7 e;exact⟨_,rfl,.edit (.split b.1 b.2),rfl⟩
 | 6,_,a,d,e=>by obtain⟨f,g,h,rfl⟩:=ln3 (cM 3 a);obtain rfl:=ln0 (cM 0 d);exact⟨_,rfl,.edit .rank,rfl⟩
 | 7,_,a,d,e=>by obtain⟨f,g,rfl⟩:=ln2 (cM 2 a);obtain rfl:=ln0 (cM 0 d);exact⟨_,rfl,.edit .dissolve,rfl⟩
 | 8,_,a,d,e=>by obtain⟨f,rfl⟩:=ln1 (cM 1 a);obtain⟨m,rfl⟩:=ln1 (cM 1 d);have b:=as8 e;exact⟨_,rfl,.edit (.load b.1 b.2),rfl⟩
 | 9,_,a,d,e=>by obtain⟨f,g,h,rfl⟩:=ln3 (cM 3 a);obtain rfl:=ln0 (cM 0 d);exact⟨_,rfl,.edit .fetch,rfl⟩
 | 10,_,a,d,e=>by obtain⟨f,rfl⟩:=ln1 (cM 1 a);obtain⟨m,rfl⟩:=ln1 (cM 1 d);have b:=as_ e;exact⟨_,rfl,.edit (.apply b),rfl⟩
 | 11,_,a,d,e=>by obtain⟨f,g,h,l,n,rfl⟩:=ln5 (cM 5 a);obtain rfl:=ln0 (cM 0 d);exact⟨_,rfl,.edit .agree,rfl⟩
 | 12,_,a,d,e=>by obtain⟨f,rfl⟩:=ln1 (cM 1 a);obtain rfl:=ln0 (cM 0 d);exact⟨_,rfl,.undo,rfl⟩
 | 13,_,a,d,e=>by obtain⟨f,g,rfl⟩:=ln2 (cM 2 a);obtain rfl:=ln0 (cM 0 d);exact⟨_,rfl,.publish,rfl⟩
 | 14,_,a,d,e=>by obtain⟨f,g,rfl⟩:=ln2 (cM 2 a);obtain rfl:=ln0 (cM 0 d);exact⟨_,rfl,.ask (.one .text λ_=>rfl),rfl⟩
 | 15,_,a,d,e=>by obtain⟨f,g,h,rfl⟩:=ln3 (cM 3 a);obtain rfl:=ln0 (cM 0 d);exact⟨_,rfl,.ask (.one .holds λ_=>rfl),rfl⟩
 | 16,_,a,d,e=>by obtain⟨f,g,h,rfl⟩:=ln3 (cM 3 a);obtain rfl:=ln0 (cM 0 d);exact⟨_,rfl,.ask (.one .path λ_=>rfl),rfl⟩
 | 17,_,a,d,e=>by obtain⟨f,g,rfl⟩:=ln2 (cM 2 a);obtain⟨m,rfl⟩:=ln1 (cM 1 d);have b:=ata e;exact⟨_,rfl,.ask (.one (.common b) λ_=>rfl),rfl⟩
 | 18,_,a,d,e=>by obtain⟨f,g,h,rfl⟩:=ln3 (cM 3 a);obtain rfl:=ln0 (cM 0 d);exact⟨_,rfl,.ask (.one .level λ_=>rfl),rfl⟩
 | 19,_,a,d,e=>by obtain⟨f,g,h,l,rfl⟩:=ln4 (cM 4 a);obtain rfl:=ln0 (cM 0 d);exact⟨_,rfl,.ask (.one .topmost λ_=>rfl),rfl⟩
 | 20,_,a,d,e=>by obtain⟨f,g,h,l,rfl⟩:=ln4 (cM 4 a);obtain rfl:=ln0 (cM 0 d);exact⟨_,rfl,.ask (.two .diff λ_=>rfl),rfl⟩
 | 21,_,a,d,e=>by obtain⟨f,g,h,l,rfl⟩:=ln4 (cM 4 a);obtain rfl:=ln0 (cM 0 d);exact⟨_,rfl,.ask (.two .clashes λ_=>rfl),rfl⟩
 | 22,_,a,d,e=>by obtain⟨f,g,h,l,rfl⟩:=ln4 (cM 4 a);obtain rfl:=ln0 (cM 0 d);exact⟨_,rfl,.ask (.two .distance λ_=>rfl),rfl⟩
 | 23,_,a,d,e=>by obtain⟨f,g,h,l,n,rfl⟩:=ln5 (cM 5 a);obtain rfl:=ln0 (cM 0 d);exact⟨_,rfl,.ask (.one .closer λ_=>rfl),rfl⟩
 | 24,_,a,d,e=>by obtain⟨f,rfl⟩:=ln1 (cM 1 a);obtain rfl:=ln0 (cM 0 d);exact⟨_,rfl,.ask .versions,rfl⟩
 | 25,_,a,d,e=>by obtain⟨f,g,rfl⟩:=ln2 (cM 2 a);obtain rfl:=ln0 (cM 0 d);exact⟨_,rfl,.ask (.one .counts λ_=>rfl),rfl⟩
 | 26,_,a,d,e=>by obtain rfl:=ln0 (cM 0 a);obtain⟨m,rfl⟩:=ln1 (cM 1 d);have b:=as9 e;exact⟨_,rfl,.ask (.check b.1 b.2),rfl⟩
theorem atc {p:Int} {ns:List Int} {a:List (List Int)} {m k:Nat} (j:qx p=some (m,k)) (h:ns.length=m) (i:a.length=k) (f:qy (mj ((p::ns)::a))=true):∃c,abS ((p::ns)::a)=some c/\CC p ns a c/\mj ((p::ns)::a)=(p::ns)::a:=by obtain⟨e,b,d,_⟩:=agF j;have g:=(jX.mp b).1;rw[<-h]at b;rw[<-i]at d;have:=atb p.toNat g b d (by rw[<-e];exact f);rw[<-e]at this;exact this
theorem agJ:∀{k:Nat} {r t:List Int} {xs:List (List Int)},pK k r=some (xs,t)->xs.length=k
 | 0,r,t,xs,h=>by rw[(ad7 h).1];rfl
 | k+1,r,t,xs,h=>by obtain⟨m,f,c,d,e,a,b⟩:=ad6 h;rw[a,bR,agJ b]
section
variable {σ:L2.St} {H:Hp} {K:aW} {D:Ends}
theorem atd (c:PE0 to σ H (.ref l)) (a:H l=some (.lst xs)) (f:xs.length+ys.length<=sizeLine) (d:PE0 te σ H (.ref b)) (e:H b=some (.lst ys)) (q:D.nx σ (upd H l (.lst (xs++ys)))):pP (tBM K "list" Q6 to (gw te fW)) D σ H:=
 c _ ⟨.inl ⟨rfl,_,SqL.of a⟩,d _ ⟨l,b,_,_,rfl,rfl,a,e,f,q⟩⟩
end
section
inductive NQ (K:aW) (vs:List V) (H:Hp) (Q:VK) (E:XK):Prop
 | mk lc ns:vs=[.ref lc]->SqL K H lc (ns.map V.int)->Qx ns=true->(∀H' p,H' p=some (.lst ((BW ns).map V.int))->Q (.ref p) H')->NQ K vs H Q E
theorem ate (h:Qx ns=true):∃a,rH qx ns.length ns=some a/\a.length<=300/\(∀c∈a,qy (mj c)=true)/\BW ns=Ho (Hq tY ah8 (a.map mj))/\1<=a.length:=by
 unfold Qx at h;unfold BW;cases e:abQ ns with
 | none=>rw[e]at h;cases h
 | some g=>
  rw[e]at h;unfold abQ at e;cases d:rH qx ns.length ns with
  | none=>rw[d]at e;cases e
  | some a=>rw[d]at e;injection e with e;subst e;obtain⟨i,j⟩:=j7.mp h;have f:=dz i;rw[aJ]at f;obtain⟨l,m⟩:=j7.mp j;obtain⟨b,o⟩:=j7.mp m;have b:=dz b;rw[aJ]at b;exact⟨a,rfl,f,λc n=>m5.mp l _ (aQ.mpr ⟨c,n,rfl⟩),rfl,b⟩
theorem atf (F:Fun K "answers" "answers" Ec f fd) (cs:Cs K mg) (atg:sW P w K mg base CH "House" KC 6 (Yl C CS CH)) (ath:sW P w K mg base CT "Tape" Lg 1 (Zv CT)) (ati:Mt P w K mg base CT "is_read" Lh 1 (spP (Nz K CT))) (atj:Df P w K mg base "answer_next" LC 13 (Zz K C CS CH CT)):
  aY P w K mg base CX0 14 f fd LQ (NQ K):=by
 refine F.ok Ed (by walk_at "l") (λ_ A _ s H vs Q E hr hz=> ?_);obtain⟨x,j,e,hlc,ZD,q⟩:=hz;subst e;refine⟨_,(aF (bO (i:=1) Ed.nd (Fe atg hr (by decide)))
   (aF (bO (i:=2) Ed.nd (afy ath hr (by decide) (ao (pv 0) aA)))
   (aF (bO (i:=3) Ed.nd (cT aA))
   (aF (uc dG (cN (bV (w6 ati hr (by decide) (pv 2)))) (aF (bO (i:=4) Ed.nd (aL atj hr (ao (pv 1) (ao (pv 2) aA))))
   (aF (eE (jo iD m8 n_ oK (pv 3) (ao (cB fK rfl cs.len dF (ao (pv 4) aA)) aA)))
   (aD (eE (jo iD vp yg yL (pv 3) (ao (pv 4) aA)))))))
   (aD (aK (pv 3))))))),?_⟩
 obtain⟨W,B,avH,Z,atk,hc1⟩:=ate ZD;have nne:j≠[]:=λz=>by subst z;rw[ad5]at B;injection B with B;subst B;exact absurd hc1 (by decide)
 refine aZ (d9 (aG _ ?_));intro ha hdx hh1 hh2 hne;refine⟨ha,hdx,rfl,aH,λL U eL h1 b1=>⟨rfl,?_⟩⟩;have s1:Same H U:=λb o z=>by have n1:b≠ha:=aX z hh1;have n2:b≠hdx:=aX z hh2;exact b1 b o (by rw[aC n1,aC n2];exact z) n1
 dsimp only;refine aZ (d9 ((aq (aj rfl) aG) _ ?_));intro g d ht1 ht2 tne;refine⟨g,d,x,rfl,aH,rfl,?_⟩;rw[mq];have s2:Same U (upd (upd U d (.own g)) g (.ins CT d (fsP x (0:Nat)))):=λb o z=>by rw[aC (aX z ht1),aC (aX z ht2)];exact z
 have p2:PAt K CT (upd (upd U d (.own g)) g (.ins CT d (fsP x (0:Nat)))) g x j 0:=⟨⟨d,aH⟩,(s1.trans s2).seq hlc,fU _⟩;have h2:=h1.same s2;dsimp only;refine aZ ⟨fU _,λI G=> ?_⟩;have s3:=Same.upd (o:= .lst []) G;have ngv:I∉L.M:=λhm=>by obtain⟨u,hu⟩:=h2.inM hm;rw[G]at hu;cases hu
 have ngt:I≠g:=λz=>by rw[z,aH]at G;cases G
 have p3:=p2.same s3;have h3:=h2.same s3;generalize hH2:upd (upd U d (.own g)) g (.ins CT d (fsP x (0:Nat)))=H2 at *;dsimp only;refine aZ ?_;refine⟨λmm σ T=>∃N n O st a S,mm=N.length/\σ=[some (.ref x),some (.ref ha),some (.ref g),some (.ref I),S]/\PAt K CT T g x j n/\rH qx O (j.drop n)=some N/\(∀c∈N,qy (mj c)=true)/\HAt C CS CH (λ_=>True) T L st/\T I=some (.lst (a.map V.int))/\
  a++Ho (Hq tY st (N.map mj))=BW j/\a.length+5001 * N.length<=5001 * 300,⟨W.length,W,0,j.length,abH,[],none,rfl,rfl,p3,B,Z,h3,aH,atk.symm,by show 0+_<=_;omega⟩,?_⟩
 rintro mm σ T ⟨N,n,O,st,a,S,rfl,rfl,hp,v,Y,hh,hg,X,hlen⟩;obtain⟨dx,e0⟩:=hp.ins;refine(gM (p_b (xr (R:=Nz K CT) (aj rfl) e0 rfl ⟨g,x,j,n,rfl,hp,rfl⟩))) _ ?_;by_cases hn:n=j.length;.rw[cF hn,au (by decide)];subst hn;rw[List.drop_length,ad5]at v;injection v with v;subst v;dsimp only;refine aU (aj rfl) (q T I ?_);rw[hg,<-X];show some (HO.lst (a.map V.int))=some (.lst ((a++[]).map V.int));rw[gH]
 .rw[cY hn,aB (by decide)];obtain⟨p,r,hpr⟩:∃p r,j.drop n=p::r:=by
   cases hd:j.drop n with
   | nil=>have:=congrArg iR hd;rw[rB,jY]at this;have:=hp.le;omega
   | cons p r=>exact⟨p,r,rfl⟩
  rw[hpr]at v;obtain⟨f',m,k,xs,t,h,z1,z2,z3,z4,z5,z6⟩:=akZ v;subst z6;have atl:=Y _ (cU ..);obtain⟨c,hc,hcc,hwh⟩:=atc z2 (by rw[fD];omega) (agJ z4) atl;have atm:tY st (mj ((p::r.take m)::xs))=jj st c:=by rw[hwh];unfold tY;rw[hc]
  rw[bR]at hlen;refine⟨λσ' J=>∃n O st a S,σ'=[some (.ref x),some (.ref ha),some (.ref g),some (.ref I),S]/\PAt K CT J g x j n/\rH qx O (j.drop n)=some h/\(∀c∈h,qy (mj c)=true)/\HAt C CS CH (λ_=>True) J L st/\J I=some (.lst (a.map V.int))/\
   a++Ho (Hq tY st (h.map mj))=BW j/\a.length+5001 * h.length<=5001 * 300,λσ' J ⟨n,O,st,a,S,y⟩=>⟨h.length,by rw[bR];omega,h,n,O,st,a,S,rfl,y⟩,?_⟩
  subst eL;refine aZ (d9 (bx ((aq (aj rfl) (aq (aj rfl) aG)) _ ⟨L,st,g,x,j,n,p,r,m,k,xs,t,c,rfl,hh,hp,hpr,z2,z3,z4,hcc,λl H5 n' avI h5 ht p5 o5 f5 e5=> ?_⟩)));have hg5:H5 I=some (.lst (a.map V.int)):=o5 _ _ hg ngt ngv;have nlg:l≠I:=(aX hg f5).symm;dsimp only;have lac:a.length<=1500000:=by omega
  refine aZ (EY (aj rfl) (f9 (aq (aj rfl) aG) (SqL.of e5)) hg5 (by rw[aJ];exact gD lac (by decide)) ?_);dsimp only;refine atd (aj rfl) aH ?_ (aj rfl) (by rw[aC nlg];exact e5) ?_;.rw[cV,aJ,aJ];exact cI (show _<=1600000 by show a.length+1+_<=_;omega) (by decide)
  .rw[mq,aJ];have pl:PAt K CT (upd H5 I (.lst (a.map V.int++[V.int ((jj st c).2.length:Nat)]++(jj st c).2.map V.int))) g x j n':=p5.onL p2 G;refine⟨n',f',(jj st c).1,a++((jj st c).2.length:Int)::(jj st c).2,some (.ref l),rfl,pl,by rw[ht];exact z5,λc hc=>Y c (cO _ hc),h5.kp (Kp.list hg5 ngv),?_,?_,?_⟩;.rw[aH,dw,bT,lU];rfl
   .rw[<-X,bT];show _=a++Ho ((tY st (mj ((p::r.take m)::xs))).2::Hq tY (tY st (mj ((p::r.take m)::xs))).1 (h.map mj));rw[atm,lU];rfl
   .rw[cV,bR];omega
end
end GS
end
section
set_option Elab.async false
set_option linter.all false
set_option maxRecDepth 100000
set_option maxHeartbeats 0
namespace GS
open PySem PySem.Spec PyProof.Rows L2
def ks:List Nat:=[3,94,397,446,535,556,750,93,396,445,534,555,749,20,21,27,28,34,35,41,42,48,49,55,56,62,63,69,70,76,77,90,91,104,105,111,112,118,119,125,126,132,133,139,140,144,145,149,150,154,155,161,162,168,169,175,176,182,183,189,190,196,197,203,204,208,209,215,216,222,223,227,228,234,235,241,242,248,249,255,256,262,263,269,270,276,277,283,284,290,291,297,298,302,303,309,310,316,317,323,324,330,331,337,338,344,345,351,352,358,359,365,366,372,373,379,380,393,394,414,415,421,422,428,429,435,436,442,443,456,457,463,464,470,471,477,478,482,483,489,490,496,497,503,504,510,511,517,518,531,532,552,553,566,567,571,572,578,579,585,586,592,593,599,600,606,607,613,614,618,619,625,626,632,633,637,638,642,643,647,648,649,655,656,662,663,669,670,676,677,683,684,690,691,697,698,704,705,709,710,711,712,725,726,732,733,739,740,746,747,760,761,767,768,774,775,781,782,788,789,795,796,802,803,809,810,816,817]
noncomputable def KK (P:Params):aW:=ks.map λa=>(a,((gsTop.tree_853 P).get a).getD default)
def oA (K:aW) (f:Addr):Obj:=(K.lookup f).getD default
def fA (K:aW) (f:Addr):FuncData:=match(oA K f).data with
 | .func a=>a
 | _=>default
abbrev fX (K:aW) (x q:Str) (st:Stmt) (f:Addr):FuncData:=tE x q (yQ st) (vY st) (bf st) .none (fA K f).kwdefaults (fA K f).doc (fA K f).pyModule (fA K f).annotations (fA K f).code (fA K f).closureTuple
theorem agK {K:aW} {x q:Str} {st:Stmt} {f:Addr} (l:K.lookup f=some ⟨(oA K f).cls,(oA K f).dict,.func (fX K x q st f),(oA K f).slots⟩) (c:Av K (fA K f).code q=true) (k:qd K (.ref f)=true):Fun K x q st f (fX K x q st f):=ajT l c k
def tokOf:Option (Option Value)->Nat
 | some (some (.int _ t))=>t
 | _=>0
def agL:Value->Option Int
 | .int i _=>some i
 | _=>none
theorem agM:∀(b:List Value) (l:List Int),b.map agL=l.map some->Vals (l.map V.int) b
 | [],[],_=> .nil
 | [],_::_,h=>by cases h
 | _::_,[],h=>by cases h
 | u::b,i::l,h=>by injection h with a c;refine .cons ?_ (agM b l c);cases u <;> first | (injection a with a;exact⟨_,by rw[a]⟩) | cases a
def agN (K:aW) (a:Addr):Array Value:=match(oA K a).data with
 | .seq b _=>b
 | _=> #[]
def atn (K:aW) (a:Addr):Nat:=match(oA K a).data with
 | .seq _ n=>n
 | _=>0
section
variable {w:World} {K:aW} {mg:Str->Option Value} {h base:Heap} {P:Program}
theorem bZ {x:Str} {v:Int} (X:K.In h) (G:h.Ns mainGlobals mg) (e:xU K mainGlobals x=some (some (.int v (tokOf (xU K mainGlobals x)))):=by kernel_rfl):CI mg x v:=⟨_,Aw X G e⟩
theorem pB {x:Str} (X:K.In h) (G:h.Ns mainGlobals mg) (e:xU K mainGlobals x=some none:=by kernel_rfl):mg x=none:=PySem.W.mg_none_of X G e
theorem ZF {x:Str} {a:Addr} {l:List Int} (X:K.In h) (G:h.Ns mainGlobals mg) (e:xU K mainGlobals x=some (some (.ref a))) (o:K.lookup a=some ⟨.type "tuple",(oA K a).dict,.seq (agN K a) (atn K a),(oA K a).slots⟩) (s:(agN K a).toList.map agL=l.map some) (z:l.length<=100):TC K mg x l:=
 ⟨a,Aw X G e,λH=> .inr ⟨_,_,_,o,rfl,rfl,by have:=congrArg iR s;rw[aJ,aJ,pI]at this;rw[this];exact cI z (by decide),agM _ _ s⟩⟩
end
def Tx (x:Str) (st:Stmt) (f:Addr) (ps:List Str):Prop:=∀P,Fun (KK P) x x st f (fX (KK P) x x st f)/\Binds (KK P) (fX (KK P) x x st f) ps []/\xU (KK P) mainGlobals x=some (some (.ref f))
def Tm (C:Addr) (x q:Str) (st:Stmt) (f:Addr) (ps:List Str):Prop:=∀P,Fun (KK P) x q st f (fX (KK P) x q st f)/\Binds (KK P) (fX (KK P) x q st f) ps []/\pC (KK P) (.ref C) x=some (some (.ref f))/\FW (KK P) (.ref f)=true
def Tc (C:Addr) (x:Str):Prop:=∀P,Cls (KK P) C/\N_ (KK P) C=true/\qd (KK P) (.ref C)=true/\xU (KK P) mainGlobals x=some (some (.ref C))
def ZG:Nat->(List Value->Prop)->Prop
 | 0,p=>p []
 | n+1,p=>∀a,ZG n λl=>p (a::l)
theorem agO:∀(n:Nat) (p:List Value->Prop),ZG n p->∀b,b.length=n->p b
 | 0,_,h,[],_=>h
 | n+1,p,h,a::b,e=>agO n (λl=>p (a::l)) (h a) b (Nat.succ.inj e)
theorem ato {x q:Str} {st:Stmt} {f:Addr} {ps:List Str} {P:Params} {Z:Prop} (l:(KK P).lookup f=some ⟨(oA (KK P) f).cls,(oA (KK P) f).dict,.func (fX (KK P) x q st f),(oA (KK P) f).slots⟩) (c:Av (KK P) (fA (KK P) f).code q=true) (k:qd (KK P) (.ref f)=true)
  (b:∀(kV e i:Value) (h:Option Addr) (a ct:Value),ZG ps.length λg=>bindArgs (tE x q (yQ st) (vY st) (bf st) .none kV e i h a ct) ⟨g,[]⟩=pure (ps.zip g)) (z:Z):
  Fun (KK P) x q st f (fX (KK P) x q st f)/\Binds (KK P) (fX (KK P) x q st f) ps []/\Z:=⟨agK l c k,(agK l c k).binds λk d p n c t=>agO _ _ (b k d p n c t),z⟩
local macro_rules | `(tactic| walk_at "k") => `(tactic| first | kernel_rfl | (refine ⟨?_, ?_⟩ <;> kernel_rfl))
local macro_rules | `(tactic| walk_at "t") => `(tactic| exact λ P => ato (by kernel_rfl) (by kernel_rfl) (by kernel_rfl) (by (repeat intro _); rfl) (by walk_at "k"))
local macro_rules | `(tactic| walk_at "tc") => `(tactic| exact λ P => ⟨⟨by kernel_rfl, by kernel_rfl, by kernel_rfl, by kernel_rfl⟩, by kernel_rfl, by kernel_rfl, by kernel_rfl⟩)
local macro_rules | `(tactic| walk_at "a") => `(tactic| with_reducible assumption)
local macro_rules | `(tactic| walk_at "tn") => `(tactic| exact λ P => (show pC (KK P) _ _ = some none by kernel_rfl))
theorem atp:Tx "load_text" Vh 490 Ks:=by walk_at "t"
theorem atq:Tx "is_family" SX 42 JB:=by walk_at "t"
theorem atr:Tx "may_stand_in" TJ 169 wI:=by walk_at "t"
theorem atu:Tx "join_groups" VG 638 D_:=by walk_at "t"
theorem atv:Tx "list_changes" Um 284 J0:=by walk_at "t"
theorem atw:Tx "edit_draft" Wd 768 Ln:=by walk_at "t"
theorem NT:Tm 94 "__init__" "Tree.__init__" Td 91 Ds:=by walk_at "t"
theorem atx:Tx "is_key" SM 21 qM:=by walk_at "t"
theorem aty:Tx "apply_rows" Ug 256 JQ:=by walk_at "t"
theorem atz:Tx "hand_over" Tz 162 zA:=by walk_at "t"
theorem atA:Tx "put_specimen" Ux 331 J7:=by walk_at "t"
theorem atB:Tx "set_group" Tj 133 qN:=by walk_at "t"
theorem atD:Tx "check_text" Vj 497 Ku:=by walk_at "t"
theorem atE:Tx "latest_day" Vr 572 KH:=by walk_at "t"
theorem atF:Tx "kept_groups" Vl 504 Kv:=by walk_at "t"
theorem atG:Tx "is_change" T8 216 JG:=by walk_at "t"
theorem atH:Tx "tell_text" VN 656 K6:=by walk_at "t"
theorem atJ:Tm 750 "is_read" "Tape.is_read" V_ 733 Lh:=by walk_at "t"
theorem atL:Tx "has_group" Uh 263 JT:=by walk_at "t"
theorem atM:Tx "edit_refusal" Wc 761 Lk:=by walk_at "t"
theorem atN:Tx "agreed_tree" Vn 518 Ky:=by walk_at "t"
theorem atO:Tx "is_in_form" Vf 478 Kr:=by walk_at "t"
theorem atP:Tx "changes_of_groups" Uj 270 JV:=by walk_at "t"
theorem atQ:Tx "count_apart" Ut 310 J5:=by walk_at "t"
theorem atR:Tx "count_versions" Vz 619 KR:=by walk_at "t"
theorem atU:Tx "are_same" Tg 119 JC:=by walk_at "t"
theorem atV:Tx "are_dropped_there" Ua 235 JL:=by walk_at "t"
theorem atX:Tx "count_all" V8 710 Le:=by walk_at "t"
theorem atY:Tx "write_group" VJ 643 K4:=by walk_at "t"
theorem atZ:Tx "is_school" S6 56 uD:=by walk_at "t"
theorem at3:Tx "answer_call" Wj 803 Lz:=by walk_at "t"
theorem at4:Tx "are_ranks_right" TQ 176 Dv:=by walk_at "t"
theorem at5:Tx "undo_edit" Vy 614 KQ:=by walk_at "t"
theorem at6:Tm 397 "__init__" "Found.__init__" U4 394 Kf:=by walk_at "t"
theorem at7:Tx "move_group" Uz 345 J9:=by walk_at "t"
theorem at8:Tx "copy_tree" Tf 112 Dt:=by walk_at "t"
theorem at9:Tx "list_clashes" Uq 298 J3:=by walk_at "t"
theorem aua:Tx "is_day" S5 49 Dr:=by walk_at "t"
theorem agP:Tx "answers" Ec 817 LQ:=by walk_at "t"
theorem aub:Tx "are_changes" T_ 228 JK:=by walk_at "t"
theorem auc:Tx "list_held" VP 663 K7:=by walk_at "t"
theorem aud:Tx "ask_told_two" Wh 789 Lw:=by walk_at "t"
theorem aue:Tx "are_all_groups_there" Ud 249 JN:=by walk_at "t"
theorem auf:Tx "split_group" UJ 359 Ka:=by walk_at "t"
theorem auh:Tx "answer_next" Wk 810 LC:=by walk_at "t"
theorem aui:Tx "holders_of" VR 670 Ea:=by walk_at "t"
theorem auj:Tx "write_tree" VL 648 K5:=by walk_at "t"
theorem auk:Tx "lump_groups" UG 352 J_:=by walk_at "t"
theorem aul:Tx "read_group" Vb 464 Km:=by walk_at "t"
theorem aum:Tx "is_closer" V5 705 Ld:=by walk_at "t"
theorem aun:Tx "find_common" V1 684 K_:=by walk_at "t"
theorem auo:Tx "sets_of" T5 204 zB:=by walk_at "t"
theorem aup:Tx "read_tree" Vg 483 DR:=by walk_at "t"
theorem auq:Tx "cut_rows" T6 209 JF:=by walk_at "t"
theorem aur:Tx "read_specimens" Va 457 Kl:=by walk_at "t"
theorem aus:Tx "list_versions" VF 633 KZ:=by walk_at "t"
theorem aut:Tx "take_specimen" Uy 338 J8:=by walk_at "t"
theorem auu:Tx "are_keys_once" S8 70 wD:=by walk_at "t"
theorem auv:Tx "told_refusal" Vt 579 DX:=by walk_at "t"
theorem auw:Tx "do_clash" Uo 291 J2:=by walk_at "t"
theorem auy:Tm 446 "passes" "Reader.passes" U7 429 DP:=by walk_at "t"
theorem auz:Tx "add_group" Uw 324 J6:=by walk_at "t"
theorem auA:Tm 446 "is_at_end" "Reader.is_at_end" U6 422 DN:=by walk_at "t"
theorem auB:Tx "has_twice" S7 63 zx:=by walk_at "t"
theorem auC:Tx "nearest_kept" Vm 511 Kw:=by walk_at "t"
theorem auD:Tx "told_tree" Vu 586 zG:=by walk_at "t"
theorem auE:Tx "answer_question" Wi 796 Ly:=by walk_at "t"
theorem auF:Tx "ask_tree" Wf 775 Lq:=by walk_at "t"
theorem auG:Tm 556 "__init__" "House.__init__" Vp 553 KC:=by walk_at "t"
theorem auH:Tx "dissolve_group" U3 380 Ke:=by walk_at "t"
theorem auI:Tx "list_path" V0 677 K8:=by walk_at "t"
theorem auJ:Tx "count_missing" Ur 303 J4:=by walk_at "t"
theorem auK:Tx "changes_of_specimens" Ul 277 JX:=by walk_at "t"
theorem auL:Tx "specimens_in" Tv 155 rW:=by walk_at "t"
theorem auM:Tx "do_change" Uc 242 JM:=by walk_at "t"
theorem auN:Tx "groups_of_rank" Tr 150 Du:=by walk_at "t"
theorem auO:Tx "held_specimens" T4 197 qP:=by walk_at "t"
theorem auP:Tm 446 "read_number" "Reader.read_number" U9 443 DQ:=by walk_at "t"
theorem auQ:Tx "groups_from" TY 190 uE:=by walk_at "t"
theorem auR:Tx "may_have_rank" UW 366 Kc:=by walk_at "t"
theorem auS:Tm 446 "__init__" "Reader.__init__" U5 415 Kg:=by walk_at "t"
theorem auT:Tx "told_refusal_of_two" Vv 593 DY:=by walk_at "t"
theorem auU:Tx "are_all_in" S9 77 wF:=by walk_at "t"
theorem auV:Tx "is_parent" SN 28 wC:=by walk_at "t"
theorem auW:Tx "read_groups" Vd 471 Ko:=by walk_at "t"
theorem auX:Tm 750 "next_number" "Tape.next_number" Wa 740 Li:=by walk_at "t"
theorem auY:Tx "replace_tree" Ti 126 zy:=by walk_at "t"
theorem auZ:Tx "renew_draft" Vq 567 KD:=by walk_at "t"
theorem au0:Tx "is_of_group" T9 223 JH:=by walk_at "t"
theorem au1:Tx "fetch_tree" Vw 600 KJ:=by walk_at "t"
theorem au2:Tx "groups_in" Tp 145 qO:=by walk_at "t"
theorem au3:Tm 446 "is_at_digit" "Reader.is_at_digit" U8 436 Kh:=by walk_at "t"
theorem au4:Tx "is_too_big" TV 183 Dy:=by walk_at "t"
theorem au5:Tx "list_level" V3 691 La:=by walk_at "t"
theorem au6:Tm 535 "__init__" "School.__init__" Vo 532 Kz:=by walk_at "t"
theorem au7:Tx "is_parent_missing" Uv 317 DK:=by walk_at "t"
theorem au8:Tx "empty_tree" Te 105 wG:=by walk_at "t"
theorem au9:Tx "publish_draft" VD 626 KY:=by walk_at "t"
theorem au_:Tm 750 "__init__" "Tape.__init__" V9 726 Lg:=by walk_at "t"
theorem ava:Tx "change_rank" U0 373 Kd:=by walk_at "t"
theorem avb:Tx "ask_told" Wg 782 Lr:=by walk_at "t"
theorem avc:Tx "is_rank" SQ 35 uz:=by walk_at "t"
theorem avd:Tm 750 "next_numbers" "Tape.next_numbers" Wb 747 Lj:=by walk_at "t"
theorem ave:Tx "find_topmost" V4 698 Lb:=by walk_at "t"
theorem avf:Tx "agree_trees" Vx 607 KN:=by walk_at "t"
theorem avh:Tx "drop_group" Tn 140 wH:=by walk_at "t"
theorem NZ:Tc 94 "Tree" :=by walk_at "tc"
theorem agQ:Tc 397 "Found" :=by walk_at "tc"
theorem Aq:Tc 446 "Reader" :=by walk_at "tc"
theorem agR:Tc 535 "School" :=by walk_at "tc"
theorem agS:Tc 556 "House" :=by walk_at "tc"
theorem FN:Tc 750 "Tape" :=by walk_at "tc"
theorem avi {w:World} {mg:Str->Option Value} {h:Heap} (X:(KK w.params).In h) (G:h.Ns mainGlobals mg):Cs (KK w.params) mg:=
 ⟨bZ X G,
  bZ X G,
  bZ X G,
  bZ X G,
  bZ X G,
  bZ X G,
  bZ X G,
  bZ X G,
  bZ X G,
  bZ X G,
  bZ X G,
  bZ X G,
  bZ X G,
  bZ X G,
  bZ X G,
  bZ X G,
  bZ X G,
  bZ X G,
  bZ X G,
  bZ X G,
  bZ X G,
  bZ X G,
  bZ X G,
  bZ X G,
  bZ X G,
  bZ X G,
  bZ X G,
  bZ X G,
  bZ X G,
  bZ X G,
  bZ X G,
  bZ X G,
  bZ X G,
  bZ X G,
  bZ X G,
  bZ X G,
  bZ X G,
  bZ X G,
  bZ X G,
  bZ X G,
  bZ X G,
  bZ X G,
  bZ X G,
  bZ X G,
  bZ X G,
  bZ X G,
  bZ X G,
  bZ X G,
  bZ X G,
  bZ X G,
  bZ X G,
  bZ X G,
  bZ X G,
  bZ X G,
  bZ X G,
  bZ X G,
  bZ X G,
  bZ X G,
  bZ X G,
  bZ X G,
  bZ X G,
  bZ X G,
  ZF (a:=649) X G (by kernel_rfl) (by kernel_rfl) (by kernel_rfl) (by decide),
  ZF (a:=711) X G (by kernel_rfl) (by kernel_rfl) (by kernel_rfl) (by decide),
  ZF (a:=712) X G (by kernel_rfl) (by kernel_rfl) (by kernel_rfl) (by decide),
  pB X G,
  pB X G,
  pB X G,
  pB X G,
  pB X G,
  pB X G,
  pB X G,
  pB X G,
  pB X G,
  pB X G,
  pB X G,
  pB X G⟩
theorem avj:∀P,eY (KK P) 94 "ranks" :=by walk_at "tn"
theorem avk:∀P,eY (KK P) 94 "parents" :=by walk_at "tn"
theorem avl:∀P,eY (KK P) 94 "homes" :=by walk_at "tn"
theorem avm:∀P,eY (KK P) 397 "groups" :=by walk_at "tn"
theorem avn:∀P,eY (KK P) 397 "specimens" :=by walk_at "tn"
theorem avo:∀P,eY (KK P) 446 "text" :=by walk_at "tn"
theorem avp:∀P,eY (KK P) 446 "place" :=by walk_at "tn"
theorem avq:∀P,eY (KK P) 535 "draft" :=by walk_at "tn"
theorem avr:∀P,eY (KK P) 535 "earlier" :=by walk_at "tn"
theorem avs:∀P,eY (KK P) 535 "versions" :=by walk_at "tn"
theorem avt:∀P,eY (KK P) 556 "schools" :=by walk_at "tn"
theorem avu:∀P,eY (KK P) 750 "calls" :=by walk_at "tn"
theorem avv:∀P,eY (KK P) 750 "reached" :=by walk_at "tn"
section
variable {w:World} {mg:Str->Option Value} {h:Heap}
theorem dfk {x:Str} {ps:List Str} {k:Nat} {sp:Sp} {f:Addr} {st:Stmt} (base:Heap) (X:(KK w.params).In h) (G:h.Ns mainGlobals mg) (t:Tx x st f ps) (o:Fun (KK w.params) x x st f (fX (KK w.params) x x st f)->aY PW w (KK w.params) mg base CX0 k f (fX (KK w.params) x x st f) ps sp):Df PW w (KK w.params) mg base x ps k sp:=⟨f,_,o (t _).1,Aw X G (t _).2.2,(t _).1.kp,(t _).2.1⟩
theorem mtk {C:Addr} {m y:Str} {q:Str} {ps:List Str} {k:Nat} {sp:Sp} {f:Addr} {st:Stmt} (base:Heap) (c:Tc C y) (t:Tm C m q st f ps) (o:Fun (KK w.params) m q st f (fX (KK w.params) m q st f)->aY PW w (KK w.params) mg base CX0 k f (fX (KK w.params) m q st f) ps sp):Mt PW w (KK w.params) mg base C m ps k sp:=⟨f,_,(c _).1,⟨(t _).2.2.1,(t _).2.2.2,(t _).1.kp⟩,o (t _).1,(t _).2.1⟩
theorem mkk {C:Addr} {x q:Str} {ps:List Str} {k:Nat} {sp:Sp} {f:Addr} {st:Stmt} (base:Heap) (X:(KK w.params).In h) (G:h.Ns mainGlobals mg) (c:Tc C x) (t:Tm C "__init__" q st f ps) (o:Fun (KK w.params) "__init__" q st f (fX (KK w.params) "__init__" q st f)->aY PW w (KK w.params) mg base CX0 k f (fX (KK w.params) "__init__" q st f) ps sp):sW PW w (KK w.params) mg base C x ps k sp:=⟨f,_,⟨(c _).2.1,(t _).2.2.1,(t _).2.2.2,(c _).2.2.1⟩,o (t _).1,(t _).2.1,Aw X G (c _).2.2.2⟩
end
theorem avw {w:World} {mg:Str->Option Value} {h base:Heap} (X:(KK w.params).In h) (G:h.Ns mainGlobals mg):aY PW w (KK w.params) mg base CX0 14 817 (fX (KK w.params) "answers" "answers" Ec 817) LQ (NQ (KK w.params)):=by
 have a:=avi X G;have:=a.aow;have:=a.Wy;have:=a.Wx;have:=a.aov;have:=a.iQ;have:=a.zQ;have:=a.dict;have:=a.set;have:=a.len;have b:cA (KK w.params) mg 94:=⟨(NZ _).1,avj _,avk _,avl _,Aw X G (NZ _).2.2.2⟩;have d:xu (KK w.params) 397:=⟨(agQ _).1,avm _,avn _⟩;have e:sX (KK w.params) 446:=⟨(Aq _).1,avo _,avp _⟩;have f:mW (KK w.params) 535:=⟨(agR _).1,avq _,avr _,avs _⟩;have g:p8 (KK w.params) 556:=⟨(agS _).1,avt _⟩;have i:xQ (KK w.params) 750:=⟨(FN _).1,avu _,avv _⟩;have j:MkT PW w (KK w.params) mg base 94:=⟨b,_,_,⟨(NZ _).2.1,(NT _).2.2.1,(NT _).2.2.2,(NZ _).2.2.1⟩,aof (F:=(NT w.params).1) (c:=b),(NT _).2.1⟩;have:=dfk base X G au8 λF=>by apply aog (C:=94) <;> walk_at "a"
 have:=mkk base X G agR au6 λF=>by apply aqH (CS:=535) (C:=94) <;> walk_at "a"
 have:=mkk base X G agS auG λF=>by apply aqK (CS:=535) (CH:=556) (C:=94) <;> walk_at "a"
 have:=mkk base X G FN au_ λF=>by apply asT (C:=750) <;> walk_at "a"
 have:=mtk (w:=w) (mg:=mg) base FN atJ λF=>by apply asU (C:=750) <;> walk_at "a"
 have:=mtk (w:=w) (mg:=mg) base FN auX λF=>by apply asV (C:=750) <;> walk_at "a"
 have:=mtk (w:=w) (mg:=mg) base FN avd λF=>by apply asW (C:=750) <;> walk_at "a"
 have:=dfk base X G atZ λF=>by apply an4 <;> walk_at "a"
 have:=dfk base X G at8 λF=>by apply aoh (C:=94) <;> walk_at "a"
 have:=dfk base X G atx λF=>by apply an0 <;> walk_at "a"
 have:=dfk base X G avc λF=>by apply an1 <;> walk_at "a"
 have:=dfk base X G auV λF=>by apply an5 <;> walk_at "a"
 have:=dfk base X G au7 λF=>by apply ao3 (C:=94) <;> walk_at "a"
 have:=dfk base X G atr λF=>by apply aoW (C:=94) <;> walk_at "a"
 have:=dfk base X G atB λF=>by apply aoo (C:=94) <;> walk_at "a"
 have:=dfk base X G auz λF=>by apply ao4 (C:=94) <;> walk_at "a"
 have:=dfk base X G atA λF=>by apply ao5 (C:=94) <;> walk_at "a"
 have:=dfk base X G aut λF=>by apply ao6 (C:=94) <;> walk_at "a"
 have:=dfk base X G at7 λF=>by apply ao7 (C:=94) <;> walk_at "a"
 have:=dfk base X G avh λF=>by apply aop (C:=94) <;> walk_at "a"
 have:=dfk base X G au2 λF=>by apply aoq (C:=94) <;> walk_at "a"
 have:=dfk base X G auL λF=>by apply aoX (C:=94) <;> walk_at "a"
 have:=dfk base X G atz λF=>by apply aoZ (C:=94) <;> walk_at "a"
 have:=dfk base X G auk λF=>by apply ao8 (C:=94) <;> walk_at "a"
 have:=dfk base X G auB λF=>by apply an6 <;> walk_at "a"
 have:=dfk base X G auu λF=>by apply an7 <;> walk_at "a"
 have:=dfk base X G auU λF=>by apply aoV <;> walk_at "a"
 have:=dfk base X G auf λF=>by apply apf (C:=94) <;> walk_at "a"
 have:=dfk base X G auR λF=>by apply apb (C:=94) <;> walk_at "a"
 have:=dfk base X G ava λF=>by apply apc (C:=94) <;> walk_at "a"
 have:=dfk base X G auH λF=>by apply ape (C:=94) <;> walk_at "a"
 have:=mkk base X G agQ at6 λF=>by apply apT (C:=397) <;> walk_at "a"
 have:=mkk base X G Aq auS λF=>by apply apJ (C:=446) <;> walk_at "a"
 have:=mtk (w:=w) (mg:=mg) base Aq auA λF=>by apply apK (C:=446) <;> walk_at "a"
 have:=mtk (w:=w) (mg:=mg) base Aq auy λF=>by apply apL (C:=446) <;> walk_at "a"
 have:=mtk (w:=w) (mg:=mg) base Aq au3 λF=>by apply apM (C:=446) <;> walk_at "a"
 have:=mtk (w:=w) (mg:=mg) base Aq auP λF=>by apply apP (C:=446) <;> walk_at "a"
 have:=dfk base X G aur λF=>by apply apZ (CR:=446) (CF:=397) <;> walk_at "a"
 have:=dfk base X G aul λF=>by apply ap0 (CR:=446) (CF:=397) <;> walk_at "a"
 have:=dfk base X G auW λF=>by apply ap7 (CR:=446) (CF:=397) <;> walk_at "a"
 have:=dfk base X G atO λF=>by apply ap9 (CR:=446) (CF:=397) <;> walk_at "a"
 have:=dfk base X G at4 λF=>by apply apa (C:=94) <;> walk_at "a"
 have:=dfk base X G au4 λF=>by apply ao_ (C:=94) <;> walk_at "a"
 have:=dfk base X G aup λF=>by apply aqe (CF:=397) (C:=94) <;> walk_at "a"
 have:=dfk base X G atU λF=>by apply aoi (C:=94) <;> walk_at "a"
 have:=dfk base X G auY λF=>by apply aom (C:=94) <;> walk_at "a"
 have:=dfk base X G atp λF=>by apply aqi (C:=94) <;> walk_at "a"
 have:=dfk base X G aua λF=>by apply an3 <;> walk_at "a"
 have:=dfk base X G atE λF=>by apply aqR (CS:=535) <;> walk_at "a"
 have:=dfk base X G auv λF=>by apply aqT (CS:=535) (CH:=556) (C:=94) <;> walk_at "a"
 have:=dfk base X G auD λF=>by apply aqU (CS:=535) (CH:=556) (C:=94) <;> walk_at "a"
 have:=dfk base X G au1 λF=>by apply aqY (CS:=535) (CH:=556) (C:=94) <;> walk_at "a"
 have:=dfk base X G auq λF=>by apply aqk <;> walk_at "a"
 have:=dfk base X G atG λF=>by apply aqn <;> walk_at "a"
 have:=dfk base X G au0 λF=>by apply aqo <;> walk_at "a"
 have:=dfk base X G aub λF=>by apply aqp <;> walk_at "a"
 have:=dfk base X G atV λF=>by apply aqr (C:=94) <;> walk_at "a"
 have:=dfk base X G auM λF=>by apply aqt (C:=94) <;> walk_at "a"
 have:=dfk base X G aue λF=>by apply aqu (C:=94) <;> walk_at "a"
 have:=dfk base X G aty λF=>by apply aqv (C:=94) <;> walk_at "a"
 have:=dfk base X G auT λF=>by apply aqW (CS:=535) (CH:=556) (C:=94) <;> walk_at "a"
 have:=dfk base X G auQ λF=>by apply apj (C:=94) <;> walk_at "a"
 have:=dfk base X G auO λF=>by apply apn (C:=94) <;> walk_at "a"
 have:=dfk base X G auo λF=>by apply apr (C:=94) <;> walk_at "a"
 have:=dfk base X G atF λF=>by apply apA (C:=94) <;> walk_at "a"
 have:=dfk base X G auC λF=>by apply apD (C:=94) <;> walk_at "a"
 have:=dfk base X G atN λF=>by apply apE (C:=94) <;> walk_at "a"
 have:=dfk base X G avf λF=>by apply aq0 (CS:=535) (CH:=556) (C:=94) <;> walk_at "a"
 have:=dfk base X G atM λF=>by apply ar4 (CS:=535) (CH:=556) (C:=94) <;> walk_at "a"
 have:=dfk base X G auZ λF=>by apply aqP (CS:=535) (CH:=556) (C:=94) <;> walk_at "a"
 have:=dfk base X G atw λF=>by apply asi (CS:=535) (CH:=556) (C:=94) <;> walk_at "a"
 have:=dfk base X G at5 λF=>by apply aq2 (CS:=535) (CH:=556) (C:=94) <;> walk_at "a"
 have:=dfk base X G atR λF=>by apply aq4 (CS:=535) (CH:=556) (C:=94) <;> walk_at "a"
 have:=dfk base X G au9 λF=>by apply aq6 (CS:=535) (CH:=556) (C:=94) <;> walk_at "a"
 have:=dfk base X G aus λF=>by apply aq9 (CS:=535) (CH:=556) (C:=94) <;> walk_at "a"
 have:=dfk base X G atD λF=>by apply aqj (C:=94) <;> walk_at "a"
 have:=dfk base X G atL λF=>by apply arw (C:=94) <;> walk_at "a"
 have:=dfk base X G atP λF=>by apply arx (C:=94) <;> walk_at "a"
 have:=dfk base X G auK λF=>by apply arB (C:=94) <;> walk_at "a"
 have:=dfk base X G atv λF=>by apply arF (C:=94) <;> walk_at "a"
 have:=dfk base X G auw λF=>by apply arK <;> walk_at "a"
 have:=dfk base X G at9 λF=>by apply arN (C:=94) <;> walk_at "a"
 have:=dfk base X G auJ λF=>by apply arQ <;> walk_at "a"
 have:=dfk base X G atQ λF=>by apply arR (C:=94) <;> walk_at "a"
 have:=dfk base X G aud λF=>by apply asB (CS:=535) (CH:=556) (C:=94) <;> walk_at "a"
 have:=dfk base X G auN λF=>by apply aoY (C:=94) <;> walk_at "a"
 have:=dfk base X G atu λF=>by apply arT <;> walk_at "a"
 have:=dfk base X G atY λF=>by apply arW (C:=94) <;> walk_at "a"
 have:=dfk base X G auj λF=>by apply arY (C:=94) <;> walk_at "a"
 have:=dfk base X G atH λF=>by apply ar0 (C:=94) <;> walk_at "a"
 have:=dfk base X G auc λF=>by apply ard (C:=94) <;> walk_at "a"
 have:=dfk base X G aui λF=>by apply arf (C:=94) <;> walk_at "a"
 have:=dfk base X G auI λF=>by apply arh (C:=94) <;> walk_at "a"
 have:=dfk base X G aun λF=>by apply arn (C:=94) <;> walk_at "a"
 have:=dfk base X G au5 λF=>by apply arq (C:=94) <;> walk_at "a"
 have:=dfk base X G atq λF=>by apply aoT <;> walk_at "a"
 have:=dfk base X G ave λF=>by apply ark (C:=94) <;> walk_at "a"
 have:=dfk base X G aum λF=>by apply aro (C:=94) <;> walk_at "a"
 have:=dfk base X G atX λF=>by apply arv (C:=94) <;> walk_at "a"
 have:=dfk base X G auF λF=>by apply asn (C:=94) <;> walk_at "a"
 have:=dfk base X G avb λF=>by apply asy (CS:=535) (CH:=556) (C:=94) <;> walk_at "a"
 have:=dfk base X G auE λF=>by apply asH (CS:=535) (CH:=556) (C:=94) <;> walk_at "a"
 have:=dfk base X G at3 λF=>by apply asM (CS:=535) (CH:=556) (C:=94) <;> walk_at "a"
 have:=dfk base X G auh λF=>by apply as4 (CS:=535) (CH:=556) (CT:=750) (C:=94) <;> walk_at "a"
 have F:=(agP w.params).1;apply atf (CS:=535) (CH:=556) (CT:=750) (C:=94) <;> walk_at "a"
end GS
end
section
set_option Elab.async false
set_option linter.all false
set_option maxRecDepth 100000
set_option maxHeartbeats 0
namespace GS
open PySem PySem.W PyProof.Rows
theorem avx (P:Params):ks=(KK P).map (·.1):=by unfold KK;rw[bC];exact(Ph ks).symm
noncomputable abbrev HK:Hook:=kHook KK ks avx
def ZJ (t:BT) (a:Nat):Bool:=decide (a < 818)&&(match t.get a with
 | some ⟨_,_,.freed,_⟩=>false
 | some _=>true
 | none=>false)
theorem avy {t:BT} {a:Nat} (h:ZJ t a=true):(absHeap t 818 {}).get? a=some ((t.get a).getD default):=by
 unfold ZJ at h;rw[dY]at h;obtain⟨f,b⟩:=h;cases g:t.get a with
 | none=>rw[g]at b;cases b
 | some o=>rw[abs_get (dz f) g];rw[g]at b;obtain⟨c,d,e,i⟩:=o;cases e <;> first | rfl | cases b
theorem avz (P:Params):(ks.all λa=>ZJ (gsTop.tree_853 P) a)=true:=by kernel_rfl
theorem avA (w:World) (os:OsState):ks.map (Sf w os).heap.get? =(KK w.params).map λp=>some p.2:=by unfold KK;rw[bC];exact gJ λa b=>avy (m5.mp (avz w.params) a b)
theorem lk1 (w:World) (os:OsState):(staticsOk (importedModules PW.main.body) (Ax w.params) (H1 w.params)&&namesBound PW (H1 w.params)&&gensDone (Sf w os)&&laidKept (Ax w.params) (H1 w.params))=true:=an2 (an2 (an2 (l1a w) (l1b w)) (l1c w os)) (l1d w)
theorem lk2 (w:World) (os:OsState):openSeen qv lse (importedModules PW.main.body) Xt0 true (Sf w os)=openGood qv lse:=by unfold openSeen openGood;exact pr2 (look2 w os) (pr2 (look3 w os) (pr2 (an2 (an2 (an2 (an2 (an2 (an2 (l4a w os) (l4b w os)) (l4c w os)) (l4d w os)) (l4e w os)) (l4f w os)) rfl) (pr2 (look5 w os) (pr2 (look6 w os) (pr2 (look7 w os) (pr2 (look8 w os) (pr2 (look9 w os) (look10 w os))))))))
theorem looks (w:World):(λos=>((staticsOk (importedModules PW.main.body) (Ax w.params) (H1 w.params)&&namesBound PW (H1 w.params)&&gensDone ⟨H1 w.params,Bo [],{},1474,os⟩&&laidKept (Ax w.params) (H1 w.params)),
  openSeen qv lse (importedModules PW.main.body) Xt0 true ⟨H1 w.params,Bo [],{},1474,os⟩,HK.obs ⟨H1 w.params,Bo [],{},1474,os⟩))=λ_=>(true,openGood qv lse,HK.val w):=by
 funext os;exact pr2 (lk1 w os) (pr2 (lk2 w os) (avA w os))
theorem left:LeftO PW qv lse Xt0 HK.obs HK.val 10000:=
 LeftO.of_pieces (H₀:=λP=>Ax P) (H₁:=H1) (gs₀:=Bo []) (gs₁:=Bo []) (d₀:=boot_drawn) (d₁:={}) (k₀:=boot_toks) (k₁:=1474) (m₀:=11) (ann:=some (.ref 6)) (M:=5246) top_open top_size top_run rfl looks
end GS
end
set_option Elab.async false
set_option linter.all false
set_option maxRecDepth 100000
set_option maxHeartbeats 0
open PySem PySem.W PyProof.Rows
theorem PySem.Challenge.cw_groupschools_s01_answers_holds : PySem.Challenge.rw_groupschools_s01_answers.Holds := by
 refine holds_os (q:=GS.qv) (loose:=GS.lse) (Xt:=GS.Xt0) (XP:=XL GS.qv []) (Yf:=GS.HK.obs) (Ya:=GS.HK.val) (YP:=GS.HK.says) (N:=10000) GS.left (Hook.of GS.HK) (Hook.keeps GS.HK) (λs e=>xl_of s (j7.mp e).1) XL.keeps (by rfl) (by rfl) (by rfl) (λs e=>recFacts_of (j7.mp e).2) os_shapes GS.wsaid GS.opn GS.br GS.wit ?hc
 case hc=>
  refine L2.aj7 (r:=PySem.Challenge.rw_groupschools_s01_answers) (k:=14) (K:=GS.KK) (CX:=L2.CX0) (ps:=["calls"]) (sp:=GS.NQ) GS.wsaid rfl rfl ⟨rfl,by decide,by decide⟩ (λw h Y=>kIn_of Y) ?F ?S (λ_ _ _ _ z=>z)
  case F=>intro w mg fa h Y KX G hmg;have e:=hmg.symm.trans (mg_of KX G ((GS.agP w.params).2.2));cases e;exact⟨GS.fX (GS.KK w.params) "answers" "answers" GS.Ec 817,λs us hu=>match us,hu with | [_],_=> .of_eq rfl,λbase _ _=>GS.avw (base:=base) KX G⟩
  case S=>
   intro K H xs a hO hwi ZD hx;cases hx with
   | cons h1 h2=>
    cases h2;cases h1 with
    | lst hs ha=>have e:=L2.ac_ a.1 _ ha;subst e;exact⟨_,a.1,rfl,hs,ZD,λH' p hp=> .lst (L2.SqL.of hp) (L2.ac9 _)⟩

