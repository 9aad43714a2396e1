import PyProof.Rows.All
import Wide.All
import OpenK.AllK
import Wide.FinOn
import PyProof.EqAt
import PyProof.EqKinds
import PyProof.TupleCall
import KE.BitLaws
import Open.SpecLaws
import KE.OsHead
import KE.OsGo
import PyProof.ExcBaseAll.Exception
import PyProof.ExcInit
import PyProof.InstStoreFacts
import PyProof.ConsumeWalk
import PyProof.EnumMake
import PyProof.Draws
import KE.KDictList
import PySem.Challenge.RW_reviewrules_s01_answers
set_option Elab.async false
set_option linter.all false
set_option maxRecDepth 100000
set_option maxHeartbeats 0
set_option compiler.extract_closed false
set_option genSizeOf false
set_option bootstrap.genMatcherCode false
namespace PySem.W.Fast
def tw9864287015884743772:=0
def tw4400655867720638415:=0
def tw4892501358283420451:=0
def tw6946233394112823074:=0
def tw3136587203858695752:=0
def tw11817961826824027553:=0
def tw11978733905048628878:=0
def tw3537969689325760055:=0
def tw17491691309438927410:=0
def tw3830361649464673517:=0
def tw10187408457711386890:=0
def tw17452491503291928415:=0
def tw10780281346434551081:=0
def tw3570263303565876806:=0
def tw5615613251340057551:=0
def tw2622878666119040569:=0
def tw8619975865063738857:=0
def tw2507676911530474707:=0
def tw140401438841004258:=0
def tw5970130001395412200:=0
def tw8325126159219351938:=0
def tw15838234248364014989:=0
def tw2849145608176672352:=0
def tw4451039674344004923:=0
def tw15060309332877463216:=0
def tw17689290103260129160:=0
def tw12079434710900679145:=0
def tw2228063146137350700:=0
def tw7134579876951597331:=0
def tw4853625890055733770:=0
def tw14639147603876789846:=0
def tw15654387696741336089:=0
def tw10906872445739492209:=0
def tw14661380821150515175:=0
def tw8911769656934897619:=0
def tw14393481362766908311:=0
def tw7682907549724362631:=0
def tw4477177798774416925:=0
def tw9911550452189164872:=0
def tw1361962150990178102:=0
def tw747266655071843999:=0
def tw15094443406999809666:=0
def tw11226506175410823883:=0
def tw10931838382181157198:=0
def tw8746695700319132806:=0
def tw10218874502541950119:=0
def tw10153946986186287679:=0
def tw18368986785170095661:=0
def tw1810943439891513184:=0
def tw17032039959436430407:=0
def tw8053405641651151938:=0
def tw17996592078692812440:=0
def tw4175329646414867541:=0
def tw13059749914185081017:=0
def tw234504376429679749:=0
def tw12761243729357384153:=0
def tw1966440425102973928:=0
def tw12965658578730857047:=0
def tw13940764949040999482:=0
def tw2844206552837868967:=0
def tw1183410496179375936:=0
def tw3614474673864727504:=0
def tw4738469616440727716:=0
def tw4666717688122098421:=0
def tw14800688278685153845:=0
def tw9827663316226226568:=0
def tw7558057675007443030:=0
def tw413521606181320799:=0
def tw5563880493531201360:=0
def tw10633713840776431471:=0
def tw17162954338123990272:=0
def tw11941884119141785008:=0
def tw15423478626737700660:=0
def tw16430412026231413003:=0
def tw2955743683735737294:=0
def tw575406799228526570:=0
def tw9343506658416660756:=0
def tw18112795568568519842:=0
def tw260676317975252008:=0
def tw16854869491677497993:=0
def tw17462830162354431707:=0
def tw6578638905350529018:=0
def tw9210128598594485292:=0
def tw18035283269859100714:=0
def tw6433215654327709086:=0
def tw9187959164922454732:=0
def tw4358613484763958507:=0
def tw12631910633951304960:=0
def tw9746382243410860603:=0
def tw12920214346800411405:=0
def tw1005307162158968974:=0
def tw593793837279143519:=0
def tw16415790606896105732:=0
def tw10756893707674776816:=0
def tw8494182396788753852:=0
def tw2427629805198854029:=0
def tw6570704981562050533:=0
def tw794982971713718705:=0
def tw9330230498145457840:=0
def tw10860621732393904056:=0
def tw18038702859978420383:=0
def tw15529466266204823731:=0
def tw16698493620340021040:=0
def tw4874184075541057385:=0
def tw5896904202469023618:=0
def tw3136839913218136772:=0
def tw6704845646093455745:=0
def tw1271275460126167486:=0
def tw11040117942418817026:=0
def tw18410282136947542272:=0
def tw5364441261346848039:=0
def tw9924735314248639505:=0
def tw12928637234071335758:=0
def tw402191643313471647:=0
def tw451172727584525087:=0
def tw13309660370354043872:=0
def tw1559783967222499121:=0
def tw2393700648510497640:=0
def tw13651339767370315822:=0
def tw1203010104856410837:=0
def tw14085672417068800391:=0
def tw10743124104611400249:=0
def tw14025082889831865147:=0
def tw10469819007990720020:=0
def tw1425679058094390754:=0
def tw11345487738386095574:=0
def tw2687769379828765552:=0
def tw7708026718256126946:=0
def tw94354074364327762:=0
def tw12293913896434962045:=0
def tw1164095503274978983:=0
def tw2567329482635103354:=0
def tw7607891857156197833:=0
def tw2956980283955667839:=0
def tw11513275104564839304:=0
def tw7815402000952016523:=0
def tw9849048495970363780:=0
def tw14588010156012709898:=0
def tw15184866227251989464:=0
def tw7716039765992117359:=0
def tw11199380539261828916:=0
def tw11509524639190025171:=0
def tw12376624974086170096:=0
def tw7869262741456856630:=0
def tw1740628013975721331:=0
def tw8007794074727131209:=0
def tw1819858324340966963:=0
def tw4061859868240342497:=0
def tw9257463415164765051:=0
def tw678516403221483075:=0
def tw3826439885538784107:=0
def tw12240326842216731273:=0
def tw14569041645675553712:=0
def tw16822243279269803599:=0
def tw10126280436081464521:=0
def tw8780269074474255253:=0
def tw14978525879683795729:=0
def tw9725067880202326233:=0
def tw18157613303763026773:=0
def tw226600069512111381:=0
def tw8300673172649190051:=0
def tw2322219201697146452:=0
def tw13749257811772894939:=0
def tw7519039013214636739:=0
def tw5767165654163220262:=0
def tw1008883159920972453:=0
def tw1954441518375488302:=0
def tw6475321039465599795:=0
def tw1917883491569017751:=0
def tw8586327791860236596:=0
def tw13951244220913346807:=0
def tw18382036564743333145:=0
def tw17008925564919252923:=0
def tw9936110685398417803:=0
def tw6845017369120724322:=0
def tw4890031960860288666:=0
def tw5340951474391344288:=0
def tw432004026851661169:=0
def tw8666929149260382391:=0
def tw9389743450587178264:=0
def tw1705698214396215428:=0
def tw4970835661151957728:=0
def tw9276225948797746903:=0
def tw11842863397862260290:=0
def tw15209909703791788084:=0
def tw165225012027803886:=0
def tw15226640607475967994:=0
def tw4813530340321460554:=0
def tw3053116774460933825:=0
def tw12394948913430853451:=0
def tw1966746514390152006:=0
def tw3640202732156648636:=0
def tw6987050741473525574:=0
def tw12781763412002036799:=0
def tw6177600886540296574:=0
def tw15113455994001204985:=0
def tw1068530720609378637:=0
def tw13342602624700619116:=0
def tw10670348485593266420:=0
def tw1865596306705640550:=0
def tw1035854333912304689:=0
def tw4193545727913506907:=0
def tw17052179898633263770:=0
def tw3658176449561344391:=0
def tw14408181436732848742:=0
def tw10633307589336302990:=0
def tw12270002143079210731:=0
def tw4646680606957028560:=0
def tw8413426504896363209:=0
def tw3815070360638306449:=0
def tw14345850380773515780:=0
def tw15083377619440749942:=0
def tw4638560410423266189:=0
def tw3888069796787803308:=0
def tw15136708532041529672:=0
def tw2231465935807867301:=0
def tw1649351845251181399:=0
def tw286854616127999064:=0
def tw1939811659085698992:=0
def tw2586025869538829024:=0
def tw8438472350619427182:=0
def tw10769266893474685691:=0
def tw17452197705005741241:=0
def tw4925361223778504718:=0
def tw14028806337404881561:=0
def tw11232546443637420205:=0
def tw17131283087198396487:=0
def tw12702164658481114162:=0
def tw2413336903715968954:=0
def tw8278950093568368542:=0
def tw12177933508092105895:=0
def tw6940190339828502371:=0
def tw3129856209426036346:=0
def tw2844115752546509268:=0
def tw6225615015904199497:=0
def tw4572280222650795657:=0
def tw10964733401582795918:=0
def tw1763222228861799533:=0
def tw7783446711353265655:=0
def tw1483943884452406328:=0
def tw12435698813437889466:=0
def tw7303490080876689902:=0
def tw3804308121062370079:=0
def tw11683107415314739619:=0
def tw12961516919078976071:=0
def tw16351449534916599593:=0
def tw4989449264446731842:=0
def tw12614305380386880220:=0
def tw2749398214050811028:=0
def tw10056803806237405870:=0
def tw2711861306771406592:=0
def tw7063465952332496096:=0
def tw17692618120755064390:=0
def tw12798358497429416899:=0
def tw17977977423619381357:=0
def tw1116299720669097592:=0
def tw4078154602650808061:=0
def tw12443569471263085767:=0
def tw3252367055038413145:=0
def tw14890179636110144492:=0
def tw13433864395295983535:=0
def tw449642201353797641:=0
def tw16300833262396127417:=0
def tw10671797821449501810:=0
def tw648260963110173516:=0
def tw12036751488064070739:=0
def tw5468599582114867785:=0
def tw6047678196484010644:=0
def tw11715826407031706142:=0
def tw10692951322245025080:=0
def tw2134826706516775210:=0
def tw15634145626763151922:=0
def tw8168906965692536085:=0
def tw14031278182920620191:=0
def tw1642438864551578249:=0
def tw12318857940618640159:=0
def tw7082038671938197890:=0
def tw8993479429298125718:=0
def tw11260617454743612913:=0
def tw14376695105235564857:=0
def tw4558372838817182491:=0
def tw5806949281377272280:=0
def tw240042669465230165:=0
def tw6230877990394604784:=0
def tw9992172396258933873:=0
def tw4474308253263642299:=0
def tw1993701802655430837:=0
def tw9590399228604991292:=0
def tw3460339786242005771:=0
def tw10406836282702268350:=0
def tw5045876568178233264:=0
def tw16473535640581175518:=0
def tw8555174882954174100:=0
def tw9788786742369356399:=0
def tw17356467457616820611:=0
def tw2602113922939702781:=0
def tw17359390105598429459:=0
def tw2782542646230028760:=0
def tw11499956906755850816:=0
def tw16942320963183418518:=0
def tw8339981807929216367:=0
def tw18054783819786739759:=0
def tw12922654709740939953:=0
def tw6420646424871500356:=0
def tw15980866575356029696:=0
def tw1525596378048168760:=0
def tw12738950640269708329:=0
def tw10776838506865567379:=0
def tw3359698566177087504:=0
def tw3381826946647567717:=0
def tw11978641884681107004:=0
def tw17881387123918544960:=0
def tw4741271788759301011:=0
def tw13093206509310395011:=0
def tw7586060112404432258:=0
def tw3485287304168245237:=0
def tw17329922418908384294:=0
def tw17806182700215265896:=0
def tw9148947127247474030:=0
def tw8748155532908673723:=0
def tw16099678210071064991:=0
def tw8816009743277135398:=0
def tw9346867739864851624:=0
def tw13535497360127850645:=0
def tw9788796281530054262:=0
def tw11255842574097572442:=0
def tw8884637137560402994:=0
def tw15575670823477184756:=0
def tw15127909240494992211:=0
def tw18171067465776427927:=0
def tw14754977461593298302:=0
def tw9336966389506845600:=0
def tw8660442391781167937:=0
def tw13021527073539070547:=0
def tw9735307792605820817:=0
def tw1297798926975842998:=0
def tw14699572647547818417:=0
def tw11024317949963270396:=0
def tw1306532156218373120:=0
def tw9986756334375038084:=0
def tw15264680554547442757:=0
def tw10603150382680815708:=0
def tw3046034999656913530:=0
def tw15885205595957645237:=0
def tw5800020581031669743:=0
def tw6151007784042084817:=0
def tw8940090328314840309:=0
def tw14329297921827274070:=0
def tw9238117052435711367:=0
def tw7410719020168985229:=0
def tw10166397298311190042:=0
def tw3409451187857667433:=0
def tw13394732002405008108:=0
def tw9570657365669897823:=0
def tw5236468174915154169:=0
def tw12443476794194879714:=0
def tw2045958821986918015:=0
def tw7406532612230084008:=0
def tw9670424074097836847:=0
def tw3343789019466103264:=0
def tw18065671024778272174:=0
def tw16373097916082390771:=0
def tw8606344648923558993:=0
def tw1660126754987207193:=0
def tw1321705331929912875:=0
def tw16099059511059340508:=0
def tw11375256990977639070:=0
def tw6894759746106159209:=0
def tw353460853826243086:=0
def tw4550671110668471069:=0
def tw10684759870477253729:=0
def tw13296059949950708084:=0
def tw6468167099921988583:=0
def tw6277982549342101865:=0
def tw9001003564396473461:=0
def tw1173623025958796828:=0
def tw6368995957189469466:=0
def tw6816956051956540287:=0
def tw6789329229534349845:=0
def tw6262539915072182820:=0
def tw9313039656536940338:=0
def tw1520659043209156830:=0
def tw3600609706856063703:=0
def tw14668287835722750230:=0
def tw11401408961056746122:=0
def tw13182593310005617594:=0
def tw15250091022427465332:=0
def tw1027246153901568939:=0
def tw7751728521252997669:=0
def tw2519133917790901761:=0
def tw13359079344075944756:=0
def tw344373399747781108:=0
def tw4334273624394135608:=0
def tw7372030651441734596:=0
def tw10912697876537371754:=0
def tw1172245644495032504:=0
def tw18139218856200091843:=0
def tw8588332133398375284:=0
def tw11719919203521256519:=0
def tw16065060039390940031:=0
def tw9919542393041887545:=0
def tw5808544973914483834:=0
def tw2550554446662505632:=0
def tw1864911309835660058:=0
def tw2786032233668139575:=0
def tw17151746251983255793:=0
def tw2676014172544397073:=0
def tw14742550466337886573:=0
def tw12503384073371775733:=0
def tw1615531055708855833:=0
def tw6430578843618617220:=0
def tw1149269133852572733:=0
def tw16099796364719689420:=0
def tw12399455183124395107:=0
def tw5906029604525060814:=0
def tw14729508468647058703:=0
def tw92461880250370267:=0
def tw12372126153391031405:=0
def tw17159111475332358023:=0
def tw6037091970331546706:=0
def tw17318913880555912941:=0
def tw17064500089853894590:=0
def tw776673519746587236:=0
def tw10747429643207233076:=0
def tw9648069477501973911:=0
def tw12324852338393094721:=0
def tw5362703818504564886:=0
def tw10533184395791128864:=0
def tw2588545142411030064:=0
def tw5235668780432165792:=0
def tw7578136239430008222:=0
def tw10646896499469745273:=0
def tw13322143852869399819:=0
def tw3380873917910540122:=0
def tw1854512285951669036:=0
def tw3516778493806959944:=0
def tw16390438580011128918:=0
def tw1537007759476022831:=0
def tw12735740440251531667:=0
def tw4306993727962392179:=0
def tw8241131629720035260:=0
def tw6098105875195427560:=0
def tw6703434449784307787:=0
def tw12630946961934628245:=0
def tw6008080200087196225:=0
def tw3844194131862751021:=0
def tw16714976611716523392:=0
def tw3865161976072715511:=0
def tw6533219141570457483:=0
def tw7877052966001213239:=0
def tw17101926320781270792:=0
def tw6014388837697505753:=0
def tw16502342494865270943:=0
def tw5001570476318418907:=0
def tw10762535076706133122:=0
def tw12760420531899556144:=0
def tw915242797382159029:=0
def tw11950516844420598002:=0
def tw12974526035533073505:=0
def tw11578713793053057996:=0
def tw8535713343166789348:=0
def tw11850343403259455490:=0
def tw15132208726025582975:=0
def tw2096791181265778705:=0
def tw936851978967355721:=0
def tw6824023118261690533:=0
def tw16342938015331466174:=0
def tw12212849739229029431:=0
def tw16275814859255977352:=0
def tw7733027017893022872:=0
def tw7227279562706431457:=0
def tw1300319368887463403:=0
def tw11782754564436669498:=0
def tw15477088838164028838:=0
def tw10831765945339937919:=0
def tw8226552767157256671:=0
def tw639916360602426311:=0
def tw5208018770525635830:=0
def tw4753153337288685246:=0
def tw14376877804951954535:=0
def tw16392517290592356898:=0
def tw12015650193929007028:=0
def tw6663155482522271642:=0
def tw7998576258511189969:=0
def tw2162798665692739902:=0
def tw4129624090840601221:=0
def tw677817788024903342:=0
def tw5766204133886219101:=0
def tw18126875591641101335:=0
def tw6430116245694124119:=0
def tw1684544221606326068:=0
def tw582910321895175268:=0
end PySem.W.Fast
namespace Hq
open PySem PySem.W PyProof.Rows
local macro_rules|`(tactic|o_law)=>`(tactic|skip)
local macro_rules|`(tactic|k_head)=>`(tactic|k_headS)
local macro_rules|`(tactic|w_witness2)=>`(tactic|exact ⟨[.list [.int 2]],by decide +kernel,by decide +kernel⟩)
open_top hd for PySem.Challenge.rw_reviewrules_s01_answers
end Hq
open Array renaming getElem?_eq_some_iff->j6,length_toList->mj,getElem?_eq_none->rh,mem_toList_iff->uw,getElem?_eq_getElem->EZ,toList->Vm
open Bool renaming false_ne_true->bD,and_eq_true->bG,eq_false_iff->bT,eq_iff_iff->b7,false_eq_true->cS,noConfusion->dX,false_and->dg,true_and->gZ,and_false->je,false_or->mI,or_eq_true->sU,or_false->xP,and_true->Gy,true_or->Ja,and_eq_true_iff->LW,not_not->Xd,or_true->Xe
open Except renaming ok->zu
open False renaming elim->dm
open ForInStep renaming yield->qP
open Int renaming toNat_natCast->gL,toNat_of_nonneg->OY
open List renaming length_map->aB,length_cons->aG,length_append->aN,getElem?_map->aP,mem_singleton->aQ,getElem?_eq_getElem->aX,getElem?_eq_some_iff->a8,mem_cons->af,mem_cons_of_mem->aq,map_append->aw,length_drop->ay,size_toArray->bI,map_cons->bO,map_map->bN,append_assoc->bV,mem_append->bZ,drop_eq_getElem_cons->b3,append_nil->bg,length_nil->bh,mem_of_getElem?->bp,replicate->br,mem_cons_self->cA,length_take->cB,not_mem_nil->cC,take_length->cD,length_filter_le->cP,lookup_cons->cT,length_singleton->c4,find?_cons->cw,all_eq_true->dZ,mem_filter->dh,takeWhile_cons->dq,lookup->eB,flatMap_append->eN,eq_nil_of_length_eq_zero->eQ,mem_append_right->eY,range->ek,drop_length->fD,length_reverse->fQ,replicate_succ->fS,all_cons->g6,flatMap_cons->gE,filterMap_cons->gP,all_map->gW,any_cons->g7,nodup_cons->hZ,mem_map->iJ,map_congr_left->i9,any_map->jD,drop_eq_nil_of_le->jE,getElem?_set_self->jF,nil_append->jL,filter_congr->jR,getD_eq_getElem?_getD->jh,getElem?_set_ne->ji,getLast?_eq_getElem?->ju,drop_drop->lA,flatten_cons->lB,nodup_append->lC,filterMap_eq_map->lX,filterMap_filter->lY,any_eq_true->mD,cons_append->mE,filter_cons->mF,take_succ_cons->nE,contains_cons->oY,filter_append->oZ,find?_eq_none->o6,mem_filterMap->o7,take_zero->o8,getElem?_cons_zero->rG,flatMap_singleton->sJ,map_nil->sM,take_of_length_le->sN,any_append->sd,length_set->se,contains_iff_mem->u7,filterMap_append->u9,drop_zero->vM,map->vN,mem_append_left->vO,mem_range->vP,getElem?_range->xH,map_drop->xR,sum_cons->xS,map_filterMap->yr,getLast?_map->zw,all_append->Dg,filter_map->Dh,foldl_cons->Di,head?_drop->Dj,idxOf_cons->Dl,of_mem_zip->Dm,forIn_nil->E1,takeWhile->E2,getElem?_eq_none_iff->Ff,mem_of_find?_eq_some->Fg,contains_eq_any_beq->HC,length_filterMap_le->HD,drop->HW,getLast?_cons_cons->HX,any_nil->Je,filter_filterMap->Jn,getElem?_eq_none->Jo,length_replicate->Jp,length->L6,length_dropLast->L8,mem_of_getLast?->La,mem_of_mem_take->Lb,filter_eq_self->Mr,filter_sublist->Ms,length_pos_iff->Mu,toList_toArray->Mv,filterMap_map->OZ,filter_filter->O0,foldl->O1,zipIdx_append->O2,any_eq_false->Oo,reverse_cons->Oq,countP_cons->TC,ext_getElem->TF,isEmpty_iff->TH,forIn_cons->T6,map_const'->T7,range_succ->T8,nodup_nil->VN,take_succ->VO,all_nil->Xj,map_id->L9
open List.Nodup renaming sublist->HA
open List.Pairwise renaming map->YG
open List.Sublist renaming map->HB
open List.cons renaming injEq->qQ
open Nat renaming le_refl->a9,zero_le->bR,lt_of_lt_of_le->bo,le_trans->bw,ne_of_lt->cO,lt_irrefl->fO,le_add_right->jv,min_eq_left->kX,le_of_succ_le->qR,add_sub_cancel_left->rm,le_of_eq->sf,lt_or_ge->Aq,ne_of_gt->si,pow_succ->sj,one_le_two_pow->yz,lt_succ_of_lt->Ar,lt_succ_self->Bg,le_succ->Dp,le_of_lt->Jr,max->Js,eq_of_testBit_eq->Mw,le_succ_of_le->TK,succ_ne_self->T9,le_add_left->VQ,add_comm->YI
open Ne renaming symm->j7
open Option renaming map_some->rn,isSome_iff_exists->E3,map_eq_some_iff->HE,isSome_some->Ld,getD_none->O3
open Option.some renaming inj->aV,injEq->mn
open Or renaming inl->zx,inr->HF
open PyFlat renaming calls->fh,rows->kU,played->Td,told->Vu,row->Xk
open PyProof renaming noPylong_small->Fh
open PyProof.Rows renaming callWith_type1->il,envOfC->wZ,AllBare->zr,split_le->Bi,subscriptTail_builtinR->S0,Subscript_->WA,callWith_builtin1->Z6,iadd_int->Z7,in_str->Z8,join_list->Z9,join_tuple->Za,part_short->Zb,split_pos->Zc,boot_enumerate->aA3
open PySem renaming Addr->aF,Value->aE,wpAny_bind->aI,Shared->aO,Spec->aW,wpAny_pure->aa,sizeLine->aj,wpAny->bF,Program->bK,boot_len->bP,starEach->b4,World->bu,Around->cG,mem_of_lookup->cI,mainGlobals->cK,Expr->cQ,Heap->c9,cellsFrom->eU,wpAny_mono->e8,wpAny_typeNameOfWhole_keyiter->e9,DictEntry->ei,bootBuiltins->fU,valueAt->fw,compareOp->gC,sysModules->gD,wpAny_typeNameOf_keyiter->gK,FuncData->gN,wpAny_loadPart_at->gX,wpAny_truthy_bool->gY,attributeBase->gk,wpAny_Call_Name_kw->iI,backTo->iT,NameKind->ia,sizeLine_eq->ic,wpAny_newObj_type->ig,wpAny_holding->iy,Scope->jJ,keywordEach->jQ,wpAny_passesOwn->jd,behindInMarks->jk,wpAny_pyIter_list->jt,call_meets->kI,compEnvC->kJ,wpAny_standAt->kx,codeAny->lD,swapsWith->lW,binaryOp->mL,plainObj_wpAny_Assign_Attribute->mi,assignEach->nI,backToKw->oO,codeAny_call_builtin->oS,rawInt->pR,wpAny_execs_nil->pU,wpAny_isSubtype_exc->pX,codeAny_mono->pj,typeIs_str->qz,wpAny_setField->rB,Within->sC,wpAny_dictEntries->sQ,wpAny_pyIter_enum->sR,noteFrame->vF,wpAny_callSpecial?_slot->vH,wpAny_call_entry->vJ,BoolOp->wK,wpAny_call->xE,Builtin->xI,pushCells_keeps->xM,wpAny_dictEpoch->xN,Model->yy,Result->zC,cLine->zD,getMethod->A1,holding->A2,standAt->Ag,Params->Bh,pastItsLine_dict->GZ,wpAny_getItem_of->Gu,wpAny_lookBehind->Gv,wpAny_field->HQ,wpAny_point->HR,codeAny_of_tree->Hx,Keyword->Jd,getItem->Ji,IsEnum->Jm,Operator->Ju,wpAny_fieldsOf->LQ,wpAny_letOwnedTupleGo_enum->LR,wpAny_loadPart->LS,wpAt_of_wpAny->Lg,ExceptHandler->Mp,wpAny_attempt->OU,CmpOp->OX,wpAny_pyNext_enum_itemD->Og,BindsTo->Oh,Paired->Ot,call_meetsIn->PV,pyNext->R4,seqIndex_neg->Rr,wpAny_nsSet1->Sv,wpAny_pyNext_enum_endD->Sw,wpAt_bind->TR,wpAny_isOneOf_keyiter->T4,wpAny_isTrue_Compare1->T5,seqIndex_of->Ub,wpAny_loadName_local->VJ,wpAny_of_eq->VL,wpAny_loadName_cell->Vl,typeIs_int->X7,wpAny_Name->X9,slot_list_getitem->Xv,wpAny_Call_method->Xx,wpAny_assign_Name->Xy,PassesOwn->YO,call->Y2,wpAny_execs_cons->ZU,wpAny_madeBy_exc->ZV,wpAny_pyIter_zip->ZW,wpAny_stack_any->aAg,GenState->aAl,IsPart->aAn,wpAny_Compare1->aB8
open PySem.Around renaming under->Gx
open PySem.Builtin renaming bitAnd->sV,bitNot->sW,bitOr->Dr
open PySem.Builtin.Dict renaming showsAll->Ba,dictSlotNone->Z3
open PySem.Builtin.Dict_items renaming ownsTuple->kN
open PySem.Builtin.List renaming listTooLong->j2,listFitsIndex->Z4
open PySem.Builtin.Range renaming rangeSize->zt,small->Xz
open PySem.Builtin.SmallTypes renaming nextOf->ik
open PySem.Builtin.Str renaming strSliceIndices->c5,strKind->eC,occurrences->oH,partsBetween->Ak
open PySem.Calls renaming callWith_builtin->iz,spliced_cons->jA,evalArgs_plain->mJ,spliced_nil->pW,Name_function_global->Ds
open PySem.Challenge renaming rw_reviewrules_s01_answers->iA,pw_reviewrules_s01_answers->Vv
open PySem.CmpOp renaming NotIn->Xf,In->aAi
open PySem.Code renaming quiet_builtin->yq,isFrame->Jc,frames->YA
open PySem.Data renaming seq->LZ,dict->aAk
open PySem.EqMixed renaming eq_bool_str->YQ,eq_int_str->YR,eq_str_bool->YS,eq_str_int->YT,ne_bool_str->YU,ne_int_str->YV,ne_str_bool->YW,ne_str_int->YX
open PySem.EqNone renaming eq_bool_none->Zd,eq_int_none->Ze,eq_none_bool->Zf,eq_none_int->Zg,eq_none_none->Zh,eq_none_str->Zi,eq_str_none->Zj,ne_bool_none->Zk,ne_int_none->Zl,ne_none_bool->Zm,ne_none_int->Zo,ne_none_none->Zp,ne_none_str->Zq,ne_str_none->Zr
open PySem.F renaming plainAttrs_list->aR,slot_list_append->ak,type_list_append->ao,slot_list_extend->cU,type_list_extend->cV,slot_dict_keyiterator_next->dk,slot_list_pop->eO,type_list_pop->eP,args_dict_keyiterator_next_1->mW,entry_dict_keyiterator_next->nB,excBase_Exception->oJ,slot_dict_getitem->oK,slot_dict_pop->rq,slot_str_split->sY,args_str_split_2->An,entry_str_split->Bf,args_dict_pop_3->E4,plainAttrs_dict->E5,slot_list_count->E6,slot_list_index->E7,entry_dict_pop->Fi,slot_dict_get->HH,slot_dict_iter->Vp,slot_int_rmul->Xg
open PySem.Heap renaming get?_push_of_some->aY,lt_size->bC,get?_push_size->bJ,size_push->cb,get?_update_other->fN,get?_update_self->gf,get?_none_of_le->jg,SameBut->js,ExtBut->L5,get?_update_ne->Mq
open PySem.Heap.DictOf renaming new->aAm
open PySem.Heap.IsSliceOf renaming new->Xh
open PySem.Heap.Ns1 renaming of_empty->Jl
open PySem.Heap.SameBut renaming update->rF
open PySem.NameKind renaming free->lJ,cell->Dn
open PySem.Obj renaming mapFields->gb,data_mapFields->jI,isFreed_of_fields->mG,mapSeq->zA,cls_mapFields->TN
open PySem.Paired renaming length->lZ,snoc->Vt
open PySem.SeqAt renaming EqAt->Y3
open PySem.SeqAt.EqAt renaming int_str->HI,str_int->HJ
open PySem.Shared renaming TypeIs->Tf
open PySem.Str renaming ofString->oM,empty->o9,length->Ov,join->Vz,append->aAu
open PySem.StrLaws renaming sliceText->fY,found_one->YY,sliceText_nat->YZ,strSliceIndices_plain->Y0
open PySem.Txt renaming split->kj,join->Fo
open PySem.Value renaming ref->b5,none->f7,type->kW,int->oE,str->vR,isStrOf->xJ,builtin->Fp,bytes->Xm,float->Xn,isInt->Xo,bool->Y5
open PySem.Value.type renaming inj->zy
open PySem.W renaming Frag->aU,findIn->c7,emptyDict->cu,mg_of->dM,keepIn->g8,instObj->gh,callWith_K->iq,WData->j8,hasDictIn->kY,clsIn->lP,mroIn->lQ,fnOf->mY,plainGet->pZ,methodCall_KW->sA,lookIn->sk,callWith_K0->uz,plainGet_of->vA,WellAll->wN,isFn->xV,methodObj->xW,set_plain->xX,handedIn->zB,length_le_weightAllW->Au,takerIn->Av,codeIn->Bk,instIn->Bl,typeIn->Bm,cellsFrom_some->Fl,looks_clsIn->HP,looks_findIn->HY,findObj_own->Jf,looks_mroIn->Jg,any_some->Jw,plainOver->Le,specialIn->Lf,InitBack->Mz,WRecords->NA,bind_fn->O4,findCls->O5,makesIn->O6,readsIn->O7,WalkOS->Ou,Looks->TQ,OpenSpec->Tb,check_slot->WM,Codec->aAj
open PySem.W.Codec renaming encAll->nA,denoteAll->sI,app->Am,withinAll->TB
open PySem.W.KIN renaming call_text->aAs
open PySem.W.Looks renaming ld->Fj,here->YH,of_pure->Y1
open PySem.W.WData renaming weightAll->sP,int->Zw
open PySem.Walks renaming list->Y8
open PySem.Within renaming cons->Fm
open PyVamrqe renaming shape->dR,whole->sO,answers_asked->E8,answers->Lh,calls->O8
open Sum renaming inr->ai,inl->ee
open Sum.inl renaming inj->Hc
open True renaming intro->jj
open Vamrqe renaming Bytes->aM,isWord->bS,Stmt->bX,Rules->b6,thenE->bc,patternByte->cM,condRead->cN,Change->c6,patternOf->cW,wordByte->cZ,shown->cj,nameRead->cn,Cond->dD,andThen->dA,isSign->dG,patternRead->d5,goodPath->d6,choices->di,byteRow->dz,matches_->eA,needsOf->eF,stmtRead->eI,read->ez,matchesNames->Q2,firstTok->fM,wPerson->fP,without->fu,nameByte->fz,needSign->gA,partsOf->jX,withMore->gq,plainOne->iH,wSticky->iK,wGroup->i5,Pattern->km,namesRead->i6,together->ie,Call->hU,vetoesOf->jK,isName->jW,missing->j3,outcome->j4,verdict->j5,E->kF,needWord->kL,stuck->ku,listed->l6,nobody->l7,wAuthor->mR,readOnly->mS,start->mq,stmtsRead->nz,wAnd->oV,wDefault->oW,Kept->ua,statusTold->pM,step->mH,At->qS,addPeople->qT,wNeed->rA,cutAt->rH,pathTold->sD,wVeto->vG,placed->wM,verdictTold->xK,check->yu,faultTold->AB,GREATEST->BQ,GROUPS->E9,PATHS->HK,parse->HN,matchesTold->Li,missingTold->Lj,MOSTBYTES->O9,PATHBYTES->Oa,checkFrom->Ob,takeRules->Oc,namesOf->TU,LEVELS->Ti,PEOPLE->Tj,keptOf->Tn,NAMES->VS,NAME->Vs,DEEP->WC,Out->Xp,Tok->Xq,R->Zv,Mode->aAp
open Vamrqe.Cond renaming check->iM,met->jf,shownAt->oC,and->LY,or->Oj
open Vamrqe.Part renaming shown->aAx
open Vamrqe.State renaming here->Du,person->Vy
open Vamrqe.Stmt renaming shown->bQ,check->HM,default_->aAy
open Vamrqe.Tok renaming num->AA
open Vamrqe.Who renaming group->Bp,had->Ea
open VamrqeNeutral renaming natural->gM,text->iL,asked1->jB,step->sE,callOf->Bo,asked->Y6,encode->Y7
namespace Mt
theorem iN{c:Prop}{h:Decidable c}(a:¬c){α:Sort u}{t e:α}:ite c t e=e:=if_neg a
theorem iP{c:Prop}{h:Decidable c}(a:c){α:Sort u}{t e:α}:ite c t e=t:=if_pos a
theorem dF{p:Prop}[h:Decidable p](a:¬p):decide p=false:=decide_eq_false a
theorem dE{p:Prop}[h:Decidable p](a:p):decide p=true:=decide_eq_true a
end Mt
open Mt (iN iP dF dE)
local macro_rules|`(tactic|trivial)=>`(tactic|decide +kernel)
section
local macro_rules(kind:=Lean.Parser.Command.declaration)|s=>if(s[1].isOfKind ``Lean.Parser.Command.definition||s[1].isOfKind ``Lean.Parser.Command.abbrev)&&s[0][4].isNone then return s.setArg 0 (s[0].setArg 4 (Lean.mkNullNode #[Lean.mkNode ``Lean.Parser.Command.noncomputable #[Lean.mkAtom "noncomputable"]])) else Lean.Macro.throwUnsupported
namespace Mt
open Vamrqe
def rk:aAp->Nat
 |.alt=>3
 |.all_=>2
 |.one=>1
 |.moreAlt _=>1
 |.moreAll _=>1
def bd(m:aAp)(ts:List At):Nat:=4*ts.length+rk m
def shr(m:aAp)(ts rest:List At):Prop:=match m with
 |.moreAlt _=>rest.length<=ts.length
 |.moreAll _=>rest.length<=ts.length
 |_=>rest.length<ts.length
theorem lU(h:bS w ts=true):ts≠[]:=by rintro rfl;simp[bS,next]at h
theorem pP(h:dG c ts=true):ts≠[]:=by rintro rfl;simp[dG,next]at h
theorem jN(h:ts≠[]):(ts.drop 1).length+1=ts.length:=by
 cases ts with
 |nil=>exact absurd rfl h
 |cons a r=>simp
theorem iZ(h:cn ts=.ok x):x.2=ts.drop 1/\ts≠[]:=by
 unfold cn at h;cases ts with
 |nil=>simp[next,ku]at h
 |cons a r=>
  simp only[next]at h;split at h
  ·split at h
   ·cases h;exact⟨rfl,by simp⟩
   ·cases h
  ·cases h
theorem bj{A B:Type}{r:E A}{f:A->E B}{y:B}(h:bc r f=.ok y):∃x,r=.ok x/\f x=.ok y:=by
 unfold bc at h;split at h
 ·exact⟨_,rfl,h⟩
 ·cases h
theorem FP{ts:List At}{x:dD×List At}(h:iH ts=.ok x):x.2.length<ts.length:=by
 unfold iH at h;cases ts with
 |nil=>simp[next,ku]at h
 |cons a r=>
  simp only[next]at h;split at h
  ·split at h
   ·obtain⟨y,h1,h2⟩:=bj h;obtain⟨z,h3,h4⟩:=bj h2;cases h4;obtain⟨e,_⟩:=iZ h3;have l1:y.length<=r.length:=by
     unfold kL at h1;split at h1
     ·cases h1;simp
     ·cases h1
    rw[e];simp;omega
   ·cases h
  ·split at h
   ·obtain⟨z,h3,h4⟩:=bj h;cases h4;obtain⟨e,_⟩:=iZ h3;rw[e];simp;omega
   ·obtain⟨z,h3,h4⟩:=bj h;cases h4;obtain⟨e,_⟩:=iZ h3;rw[e];simp
  ·cases h
theorem Ru(h:gA c ts=.ok r):r.length+1=ts.length:=by
 unfold gA at h;split at h
 ·rename_i q;cases h;exact jN (pP q)
 ·cases h
theorem xA:∀(f:Nat)(d:Nat)(m:aAp)(ts:List At),bd m ts<=f->
  (∀g,bd m ts<=g->cN g d m ts=cN f d m ts)/\∀x,cN f d m ts=.ok x->shr m ts x.2
 |0,d,m,ts,h=>by exfalso;cases m <;> simp[bd,rk]at h
 |f+1,d,m,ts,h=>by
  have one:∀(d:Nat)(ts:List At),bd .one ts<=f+1->(∀g,bd .one ts<=g->cN g d .one ts=cN (f+1) d .one ts)/\∀x,cN (f+1) d .one ts=.ok x->x.2.length<ts.length:=λd ts h=>by
   by_cases q:dG 40 ts=true
   ·have l:=jN (pP q);have hb:bd .alt (ts.drop 1)<=f:=by simp only[bd,rk]at h ⊢;omega
    obtain⟨i1,i2⟩:=xA f (d - 1) .alt (ts.drop 1) hb;refine⟨λg hg=>?_,λx hx=>?_⟩
    ·obtain⟨g,rfl⟩:∃g',g=g'+1:=⟨g - 1,by simp only[bd,rk]at hg;omega⟩;simp only[cN,q,if_true];split
     ·rfl
     ·rw[i1 g (by simp only[bd,rk]at hg ⊢;omega)]
    ·simp only[cN,q,if_true]at hx;split at hx
     ·cases hx
     ·obtain⟨y,h1,h2⟩:=bj hx;obtain⟨z,h3,h4⟩:=bj h2;cases h4;have a1:=i2 _ h1;have a2:=Ru h3;simp only[shr]at a1;show z.length<ts.length;omega
   ·refine⟨λg hg=>?_,λx hx=>?_⟩
    ·obtain⟨g,rfl⟩:∃g',g=g'+1:=⟨g - 1,by simp only[bd,rk]at hg;omega⟩;simp only[cN,q,cS,if_false]
    ·simp only[cN,q,cS,if_false]at hx;exact FP hx
  cases m with
  |one=>exact one d ts h
  |all_=>
   have hb:bd .one ts<=f:=by simp only[bd,rk]at h ⊢;omega
   obtain⟨i1,i2⟩:=xA f d .one ts hb;have more:∀x:dD×List At,cN f d .one ts=.ok x->bd (.moreAll x.1) x.2<=f:=λx hx=>by
    have:=i2 x hx
    simp only[shr]at this;simp only[bd,rk]at h ⊢;omega
   refine⟨λg hg=>?_,λx hx=>?_⟩
   ·obtain⟨g,rfl⟩:∃g',g=g'+1:=⟨g - 1,by simp only[bd,rk]at hg;omega⟩;simp only[cN];rw[i1 g (by simp only[bd,rk]at hg ⊢;omega)];cases e:cN f d .one ts with
    |error z=>rfl
    |ok x=>
     simp only[bc];have hm:=more x e;refine(xA f d (.moreAll x.1) x.2 hm).1 g ?_
     have:=i2 x e
     simp only[shr]at this;simp only[bd,rk]at hg ⊢;omega
   ·simp only[cN]at hx;obtain⟨y,h1,h2⟩:=bj hx;have a1:=i2 y h1;have a2:=(xA f d (.moreAll y.1) y.2 (more y h1)).2 x h2;simp only[shr]at a1 a2 ⊢;omega
  |alt=>
   have hb:bd .all_ ts<=f:=by simp only[bd,rk]at h ⊢;omega
   obtain⟨i1,i2⟩:=xA f d .all_ ts hb;have more:∀x:dD×List At,cN f d .all_ ts=.ok x->bd (.moreAlt x.1) x.2<=f:=λx hx=>by
    have:=i2 x hx
    simp only[shr]at this;simp only[bd,rk]at h ⊢;omega
   refine⟨λg hg=>?_,λx hx=>?_⟩
   ·obtain⟨g,rfl⟩:∃g',g=g'+1:=⟨g - 1,by simp only[bd,rk]at hg;omega⟩;simp only[cN];rw[i1 g (by simp only[bd,rk]at hg ⊢;omega)];cases e:cN f d .all_ ts with
    |error z=>rfl
    |ok x=>
     simp only[bc];refine(xA f d (.moreAlt x.1) x.2 (more x e)).1 g ?_
     have:=i2 x e
     simp only[shr]at this;simp only[bd,rk]at hg ⊢;omega
   ·simp only[cN]at hx;obtain⟨y,h1,h2⟩:=bj hx;have a1:=i2 y h1;have a2:=(xA f d (.moreAlt y.1) y.2 (more y h1)).2 x h2;simp only[shr]at a1 a2 ⊢;omega
  |moreAlt c=>
   by_cases q:bS wOr ts=true
   ·have l:=jN (lU q);have hb:bd .all_ (ts.drop 1)<=f:=by simp only[bd,rk]at h ⊢;omega
    obtain⟨i1,i2⟩:=xA f d .all_ (ts.drop 1) hb;have more:∀x:dD×List At,cN f d .all_ (ts.drop 1)=.ok x->bd (.moreAlt (.or c x.1)) x.2<=f:=λx hx=>by
     have:=i2 x hx
     simp only[shr]at this;simp only[bd,rk]at h ⊢;omega
    refine⟨λg hg=>?_,λx hx=>?_⟩
    ·obtain⟨g,rfl⟩:∃g',g=g'+1:=⟨g - 1,by simp only[bd,rk]at hg;omega⟩;simp only[cN,q,if_true];rw[i1 g (by simp only[bd,rk]at hg ⊢;omega)];cases e:cN f d .all_ (ts.drop 1)with
     |error z=>rfl
     |ok x=>
      simp only[bc];refine(xA f d (.moreAlt (.or c x.1)) x.2 (more x e)).1 g ?_
      have:=i2 x e
      simp only[shr]at this;simp only[bd,rk]at hg ⊢;omega
    ·simp only[cN,q,if_true]at hx;obtain⟨y,h1,h2⟩:=bj hx;have a1:=i2 y h1;have a2:=(xA f d (.moreAlt (.or c y.1)) y.2 (more y h1)).2 x h2;simp only[shr]at a1 a2 ⊢;omega
   ·refine⟨λg hg=>?_,λx hx=>?_⟩
    ·obtain⟨g,rfl⟩:∃g',g=g'+1:=⟨g - 1,by simp only[bd,rk]at hg;omega⟩;simp only[cN,q,cS,if_false]
    ·simp only[cN,q,cS,if_false]at hx;cases hx;exact a9 _
  |moreAll c=>
   by_cases q:bS oV ts=true
   ·have l:=jN (lU q);have hb:bd .one (ts.drop 1)<=f:=by simp only[bd,rk]at h ⊢;omega
    obtain⟨i1,i2⟩:=xA f d .one (ts.drop 1) hb;have more:∀x:dD×List At,cN f d .one (ts.drop 1)=.ok x->bd (.moreAll (.and c x.1)) x.2<=f:=λx hx=>by
     have:=i2 x hx
     simp only[shr]at this;simp only[bd,rk]at h ⊢;omega
    refine⟨λg hg=>?_,λx hx=>?_⟩
    ·obtain⟨g,rfl⟩:∃g',g=g'+1:=⟨g - 1,by simp only[bd,rk]at hg;omega⟩;simp only[cN,q,if_true];rw[i1 g (by simp only[bd,rk]at hg ⊢;omega)];cases e:cN f d .one (ts.drop 1)with
     |error z=>rfl
     |ok x=>
      simp only[bc];refine(xA f d (.moreAll (.and c x.1)) x.2 (more x e)).1 g ?_
      have:=i2 x e
      simp only[shr]at this;simp only[bd,rk]at hg ⊢;omega
    ·simp only[cN,q,if_true]at hx;obtain⟨y,h1,h2⟩:=bj hx;have a1:=i2 y h1;have a2:=(xA f d (.moreAll (.and c y.1)) y.2 (more y h1)).2 x h2;simp only[shr]at a1 a2 ⊢;omega
   ·refine⟨λg hg=>?_,λx hx=>?_⟩
    ·obtain⟨g,rfl⟩:∃g',g=g'+1:=⟨g - 1,by simp only[bd,rk]at hg;omega⟩;simp only[cN,q,cS,if_false]
    ·simp only[cN,q,cS,if_false]at hx;cases hx;exact a9 _
def rd(d:Nat)(m:aAp)(ts:List At):E (dD×List At):=cN (bd m ts) d m ts
theorem rb(h:bd m ts<=f):cN f d m ts=rd d m ts:=(xA (bd m ts) d m ts (a9 _)).1 f h
theorem DP(h:rd d m ts=.ok x):shr m ts x.2:=(xA _ d m ts (a9 _)).2 x h
end Mt
namespace Mt
open Vamrqe
theorem dJ{A B:Type}{r:E A}{f g:A->E B}(h:∀x,r=.ok x->f x=g x):bc r f=bc r g:=by
 cases e:r with
 |error z=>rfl
 |ok x=>exact h x e
theorem gz{A B C:Type}(r:E A)(f:A->E B)(g:B->E C):bc (bc r f) g=bc r λx=>bc (f x) g:=by cases r <;> rfl
theorem OK{A:Type}(r:E A):bc r (λx=>.ok x)=r:=by cases r <;> rfl
theorem R7(d:Nat)(ts:List At):rd d .alt ts=bc (rd d .all_ ts) λx=>rd d (.moreAlt x.1) x.2:=by
 show bc (cN (4*ts.length+2) d .all_ ts) (λx=>cN (4*ts.length+2) d (.moreAlt x.1) x.2)=_;rw[rb (by simp[bd,rk])];refine dJ λx hx=>rb ?_
 have:=DP hx
 simp only[shr]at this;simp only[bd,rk];omega
theorem Kq(d:Nat)(ts:List At):rd d .all_ ts=bc (rd d .one ts) λx=>rd d (.moreAll x.1) x.2:=by
 show bc (cN (4*ts.length+1) d .one ts) (λx=>cN (4*ts.length+1) d (.moreAll x.1) x.2)=_;rw[rb (by simp[bd,rk])];refine dJ λx hx=>rb ?_
 have:=DP hx
 simp only[shr]at this;simp only[bd,rk];omega
theorem DN(d:Nat)(c:dD)(ts:List At):rd d (.moreAlt c) ts=if bS wOr ts=true then bc (rd d .all_ (ts.drop 1)) λy=>rd d (.moreAlt (.or c y.1)) y.2 else .ok (c,ts):=by
 show(if bS wOr ts=true then bc (cN (4*ts.length) d .all_ (ts.drop 1)) (λy=>cN (4*ts.length) d (.moreAlt (.or c y.1)) y.2)else .ok (c,ts))=_;by_cases q:bS wOr ts=true
 ·have l:=jN (lU q);rw[iP q,iP q,rb (by simp only[bd,rk];omega)];refine dJ λx hx=>rb ?_
  have:=DP hx
  simp only[shr]at this;simp only[bd,rk];omega
 ·rw[iN q,iN q]
theorem wy(d:Nat)(c:dD)(ts:List At):rd d (.moreAll c) ts=if bS oV ts=true then bc (rd d .one (ts.drop 1)) λy=>rd d (.moreAll (.and c y.1)) y.2 else .ok (c,ts):=by
 show(if bS oV ts=true then bc (cN (4*ts.length) d .one (ts.drop 1)) (λy=>cN (4*ts.length) d (.moreAll (.and c y.1)) y.2)else .ok (c,ts))=_;by_cases q:bS oV ts=true
 ·have l:=jN (lU q);rw[iP q,iP q,rb (by simp only[bd,rk];omega)];refine dJ λx hx=>rb ?_
  have:=DP hx
  simp only[shr]at this;simp only[bd,rk];omega
 ·rw[iN q,iN q]
theorem R8(d:Nat)(ts:List At):rd d .one ts=if dG 40 ts=true then(if d=0 then .error ⟨-3,here ts⟩else bc (rd (d - 1) .alt (ts.drop 1)) λx=>bc (gA 41 x.2) λr=>.ok (x.1,r))else iH ts:=by
 show(if dG 40 ts=true then(if d=0 then .error ⟨-3,here ts⟩else bc (cN (4*ts.length) (d - 1) .alt (ts.drop 1)) λx=>bc (gA 41 x.2) λr=>.ok (x.1,r))else iH ts)=_;by_cases q:dG 40 ts=true
 ·have l:=jN (pP q);rw[iP q,iP q,rb (by simp only[bd,rk];omega)]
 ·rw[iN q,iN q]
theorem xr(ts:List At):condition ts=rd Ti .alt ts:=rb (by simp only[bd,rk];omega)
abbrev Lv:=Option dD×Option dD
def r8(a:Option dD)(c:dD):dD:=match a with
 |some y=>.and y c
 |none=>c
def QQ(o:Option dD)(c:dD):dD:=match o with
 |some z=>.or z c
 |none=>c
def lK(l:Lv)(c:dD):dD:=QQ l.1 (r8 l.2 c)
def EL(L:List Lv):Nat:=Ti+1 - L.length
def resume:List Lv->dD->List At->E (dD×List At)
 |[],c,ts=>.ok (c,ts)
 |l::L,c,ts=>bc (rd (EL (l::L)) (.moreAll (r8 l.2 c)) ts) λx=>bc (rd (EL (l::L)) (.moreAlt (QQ l.1 x.1)) x.2) λy=>if L.isEmpty=true then .ok y else bc (gA 41 y.2) λr=>resume L y.1 r
def fm(L:List Lv)(ts:List At):E (dD×List At):=bc (rd (EL L) .one ts) λx=>resume L x.1 x.2
theorem Hi(ts:List At):condition ts=fm [(none,none)] ts:=by rw[xr,R7,Kq,gz];show _=bc (rd Ti .one ts) _;refine dJ λx _=>?_;show _=bc (rd Ti (.moreAll x.1) x.2) _;refine dJ λy _=>?_;show _=bc (rd Ti (.moreAlt y.1) y.2) λy=>.ok y;rw[OK]
theorem Jy(hL:L≠[])(q:dG 40 ts=true):fm L ts=if EL L=0 then .error ⟨-3,here ts⟩else fm ((none,none)::L) (ts.drop 1):=by
 unfold fm;rw[R8,iP q];by_cases z:EL L=0
 ·rw[iP z,iP z];rfl
 ·rw[iN z,iN z,R7,Kq];have ed:EL ((none,none)::L)=EL L - 1:=by unfold EL;simp only[aG];omega
  have eL:L.isEmpty=false:=by cases L with|nil=>exact absurd rfl hL|cons _ _=>rfl
  rw[ed];simp only[gz];refine dJ λx _=>?_;show _=bc (rd (EL ((none,none)::L)) (.moreAll x.1) x.2) _;rw[ed];refine dJ λy _=>?_;show _=bc (rd (EL L - 1) (.moreAlt y.1) y.2) _;refine dJ λu _=>?_;rw[eL];simp only[cS,if_false];refine dJ λr _=>rfl
theorem Hh(q:¬dG 40 ts=true):fm L ts=bc (iH ts) λx=>resume L x.1 x.2:=by unfold fm;rw[R8,iN q]
theorem J7(h:bS v ts=true)(n:v≠w):¬bS w ts=true:=by
 unfold bS at h ⊢;split at h
 ·simp only[decide_eq_true_eq]at h ⊢;exact λz=>n (h.trans z.symm)
 ·cases h
theorem Ae(h:dG c ts=true):¬bS w ts=true:=by
 unfold bS dG at *;split at h
 ·rename_i e;rw[e];simp
 ·cases h
theorem Kr(q:bS oV ts=true):resume (l::L) c ts=fm ((l.1,some (r8 l.2 c))::L) (ts.drop 1):=by unfold fm;show bc (rd (EL (l::L)) (.moreAll (r8 l.2 c)) ts) _=_;rw[wy,iP q,gz];rfl
theorem Nf(q:bS wOr ts=true):resume (l::L) c ts=fm ((some (lK l c),none)::L) (ts.drop 1):=by unfold fm;show bc (rd (EL (l::L)) (.moreAll (r8 l.2 c)) ts) _=_;rw[wy,iN (J7 q (by decide))];show bc (rd (EL (l::L)) (.moreAlt (QQ l.1 (r8 l.2 c))) ts) _=_;rw[DN,iP q,Kq];simp only[gz];rfl
theorem wz{l:Lv}{L:List Lv}{c:dD}(q1:¬bS oV ts=true)(q2:¬bS wOr ts=true):
  resume (l::L) c ts=if L.isEmpty=true then .ok (lK l c,ts)else bc (gA 41 ts) λr=>resume L (lK l c) r:=by
 show bc (rd (EL (l::L)) (.moreAll (r8 l.2 c)) ts) _=_;rw[wy,iN q1];show bc (rd (EL (l::L)) (.moreAlt (QQ l.1 (r8 l.2 c))) ts) _=_;rw[DN,iN q2];rfl
theorem G9(q:dG 41 ts=true):resume (l::m::L) c ts=resume (m::L) (lK l c) (ts.drop 1):=by rw[wz (Ae q) (Ae q)];show bc (gA 41 ts) _=_;unfold gA;rw[iP q];rfl
theorem Ga(q1:¬bS oV ts=true)(q2:¬bS wOr ts=true)(q3:¬dG 41 ts=true):resume (l::m::L) c ts=.error ⟨-4,here ts⟩:=by rw[wz q1 q2];show bc (gA 41 ts) _=_;unfold gA;rw[iN q3];rfl
theorem JF(q1:¬bS oV ts=true)(q2:¬bS wOr ts=true):resume [l] c ts=.ok (lK l c,ts):=by rw[wz q1 q2];rfl
inductive PT where
 |by_ (n:aM)
 |some_ (k:Nat) (n:aM)
 |author (n:aM)
 |and
 |or
def post:dD->List PT
 |.by_ n=>[.by_ n]
 |.some_ k n=>[.some_ k n]
 |.author n=>[.author n]
 |.and a b=>post a++post b++[.and]
 |.or a b=>post a++post b++[.or]
inductive Wt where
 |lp
 |and
 |or
 deriving DecidableEq
def zq(l:Lv):List Wt:=(if l.2.isSome=true then[.and]else[])++(if l.1.isSome=true then[.or]else[])
def jr:List Lv->List Wt
 |[]=>[]
 |[l]=>zq l
 |l::L=>zq l++.lp::jr L
def Nc(l:Lv):List PT:=(match l.1 with|some z=>post z|none=>[])++(match l.2 with|some y=>post y|none=>[])
def pre:List Lv->List PT
 |[]=>[]
 |l::L=>pre L++Nc l
def settle(both:Bool):List PT->List Wt->List PT×List Wt
 |ps,.and::ws=>settle both (ps++[.and]) ws
 |ps,.or::ws=>if both=true then settle both (ps++[.or]) ws else(ps,.or::ws)
 |ps,ws=>(ps,ws)
theorem Ad(h:∀x r,ws=x::r->x=.lp):settle both ps ws=(ps,ws):=by
 cases ws with
 |nil=>rfl
 |cons x r=>obtain rfl:=h x r rfl;rfl
def under(L:List Lv):List Wt:=match L with
 |[]=>[]
 |L=>.lp::jr L
theorem u6(l:Lv)(L:List Lv):jr (l::L)=zq l++under L:=by
 cases L with
 |nil=>simp[jr,under]
 |cons m L=>rfl
theorem D9(L:List Lv):∀x r,under L=x::r->x=.lp:=by
 intro x r h;cases L with
 |nil=>cases h
 |cons m L=>cases h;rfl
theorem nj(l:Lv)(L:List Lv)(c:dD):settle true (pre (l::L)++post c) (jr (l::L))=(pre L++post (lK l c),under L):=by obtain⟨o,a⟩:=l;rw[u6];cases o <;> cases a <;> simp[zq,pre,Nc,lK,QQ,r8,settle,Ad (D9 L),post,bV]
theorem Kv(l:Lv)(L:List Lv)(c:dD):settle false (pre (l::L)++post c) (jr (l::L))=(pre ((l.1,some (r8 l.2 c))::L),(if l.1.isSome=true then[.or]else[])++under L):=by obtain⟨o,a⟩:=l;rw[u6];cases o <;> cases a <;> simp[zq,pre,Nc,r8,settle,Ad (D9 L),post,bV]
theorem Gw(l:Lv)(L:List Lv)(y:dD):jr ((l.1,some y)::L)=.and::((if l.1.isSome=true then[.or]else[])++under L):=by rw[u6];simp[zq]
theorem J8(L:List Lv)(z:dD):jr ((some z,none)::L)=.or::under L:=by rw[u6];simp[zq]
theorem Aj(L:List Lv)(hL:L≠[]):jr ((none,none)::L)=.lp::jr L:=by
 cases L with
 |nil=>exact absurd rfl hL
 |cons m L=>rfl
theorem Hz:∀L:List Lv,L≠[]->(jr L).count .lp+1=L.length
 |[l],_=>by obtain⟨o,a⟩:=l;cases o <;> cases a <;> simp[jr,zq] <;> decide
 |l::m::L,_=>by
  have ih:=Hz (m::L) (by simp);have e:jr (l::m::L)=zq l++.lp::jr (m::L):=rfl;have z:(zq l).count .lp=0:=by obtain⟨o,a⟩:=l;cases o <;> cases a <;> simp[zq] <;> decide
  rw[e,List.count_append,z,List.count_cons];simp only[aG]at ih ⊢;simp;omega
theorem K7(l:Lv)(L:List Lv):(.lp∈jr (l::L))↔L≠[]:=by
 rw[u6];have z:Wt.lp∉zq l:=by obtain⟨o,a⟩:=l;cases o <;> cases a <;> simp[zq]
 cases L with
 |nil=>simp[under,z]
 |cons m L=>simp[under]
end Mt
namespace Mt
open Vamrqe
def zh:List PT->List Nat->List Nat
 |[],st=>st
 |.and::r,b::a::st=>zh r ((Js a b+1)::st)
 |.or::r,b::a::st=>zh r ((Js a b+1)::st)
 |.and::r,st=>zh r st
 |.or::r,st=>zh r st
 |_::r,st=>zh r (1::st)
theorem qI:∀(c:dD)(r:List PT)(st:List Nat),zh (post c++r) st=zh r (c.depth::st)
 |.by_ n,r,st=>rfl
 |.some_ k n,r,st=>rfl
 |.author n,r,st=>rfl
 |.and a b,r,st=>by
  have e:post (.and a b)++r=post a++(post b++(.and::r)):=by simp[post,bV]
  rw[e,qI a,qI b];rfl
 |.or a b,r,st=>by
  have e:post (.or a b)++r=post a++(post b++(.or::r)):=by simp[post,bV]
  rw[e,qI a,qI b];rfl
inductive Kd where
 |leaf
 |and
 |or
 deriving DecidableEq
def kd:dD->Kd
 |.and _ _=>.and
 |.or _ _=>.or
 |_=>.leaf
def aCk(b:Bool)(t:aM):aM:=if b=true then 40::(t++[41])else t
theorem DV(a:Nat)(c:dD)(ha:1<=a):c.shownAt a=aCk ((decide (kd c=.or)&&decide (1<a))||(decide (kd c=.and)&&decide (2<a))) (c.shownAt 1):=by
 cases c with
 |by_ n=>rfl
 |some_ k n=>rfl
 |author n=>rfl
 |and x y=>
  have e1:(LY x y).shownAt 1=blanks [x.shownAt 2,oV,y.shownAt 3]:=by simp[oC,wrapped]
  have e2:(LY x y).shownAt a=wrapped a 2 (blanks [x.shownAt 2,oV,y.shownAt 3]):=by simp[oC]
  rw[e1,e2];unfold wrapped aCk;by_cases h:2<a <;> simp[kd,h]
 |or x y=>
  have e1:(Oj x y).shownAt 1=blanks [x.shownAt 1,wOr,y.shownAt 2]:=by simp[oC,wrapped]
  have e2:(Oj x y).shownAt a=wrapped a 1 (blanks [x.shownAt 1,wOr,y.shownAt 2]):=by simp[oC]
  rw[e1,e2];unfold wrapped aCk;by_cases h:1<a <;> simp[kd,h]
def mV(k:Kd)(x y:Kd×aM):aM:=
 aCk (decide (k=.and)&&decide (x.1=.or)) x.2++(32::((if k=.and then oV else wOr)++(32::aCk (decide (y.1=.or)||(decide (k=.and)&&decide (y.1=.and))) y.2)))
theorem FY(x y:dD):(LY x y).shownAt 1=mV .and (kd x,x.shownAt 1) (kd y,y.shownAt 1):=by
 have e1:(LY x y).shownAt 1=blanks [x.shownAt 2,oV,y.shownAt 3]:=by simp[oC,wrapped]
 rw[e1,DV 2 x (by decide),DV 3 y (by decide)];cases kd x <;> cases kd y <;> simp[mV,blanks,aCk]
theorem JJ(x y:dD):(Oj x y).shownAt 1=mV .or (kd x,x.shownAt 1) (kd y,y.shownAt 1):=by
 have e1:(Oj x y).shownAt 1=blanks [x.shownAt 1,wOr,y.shownAt 2]:=by simp[oC,wrapped]
 rw[e1,DV 2 y (by decide)];cases kd x <;> cases kd y <;> simp[mV,blanks,aCk]
def mB:PT->aM
 |.by_ n=>n
 |.some_ k n=>blanks [decimal k,wOf,n]
 |.author n=>blanks [mR,n]
 |_=>[]
def yg:List PT->List (Kd×aM)->List (Kd×aM)
 |[],st=>st
 |.and::r,b::a::st=>yg r ((.and,mV .and a b)::st)
 |.or::r,b::a::st=>yg r ((.or,mV .or a b)::st)
 |.and::r,st=>yg r st
 |.or::r,st=>yg r st
 |p::r,st=>yg r ((.leaf,mB p)::st)
theorem qJ:∀(c:dD)(r:List PT)(st:List (Kd×aM)),yg (post c++r) st=yg r ((kd c,c.shownAt 1)::st)
 |.by_ n,r,st=>rfl
 |.some_ k n,r,st=>rfl
 |.author n,r,st=>rfl
 |.and a b,r,st=>by
  have e:post (.and a b)++r=post a++(post b++(.and::r)):=by simp[post,bV]
  rw[e,qJ a,qJ b,FY];rfl
 |.or a b,r,st=>by
  have e:post (.or a b)++r=post a++(post b++(.or::r)):=by simp[post,bV]
  rw[e,qJ a,qJ b,JJ];rfl
def oP(w:Who):PT->R Unit
 |.by_ n=>if w.had n=true then .ok ()else .error (-6)
 |.some_ k n=>if w.had n=false then .error (-6)else match w.group n with
   |none=>.error (-8)
   |some l=>if l.length<k then .error (-8)else .ok ()
 |.author n=>if w.had n=true then .ok ()else .error (-6)
 |.and=>.ok ()
 |.or=>.ok ()
def pN(w:Who):List PT->R Unit
 |[]=>.ok ()
 |p::r=>andThen (oP w p) λ_=>pN w r
theorem tM(w:Who):∀a b:List PT,pN w (a++b)=andThen (pN w a) λ_=>pN w b
 |[],b=>rfl
 |p::a,b=>by show andThen (oP w p) (λ_=>pN w (a++b))=andThen (andThen (oP w p) λ_=>pN w a) λ_=>pN w b;rw[tM w a b];cases oP w p <;> rfl
theorem qW(r:R Unit):andThen r (λ_=>.ok ())=r:=by cases r <;> rfl
theorem mw(w:Who):∀c:dD,pN w (post c)=iM w c
 |.by_ n=>by show andThen (oP w (.by_ n)) (λ_=>.ok ())=_;rw[qW];simp[oP,iM]
 |.some_ k n=>by show andThen (oP w (.some_ k n)) (λ_=>.ok ())=_;rw[qW];simp only[oP,iM];cases w.group n <;> rfl
 |.author n=>by show andThen (oP w (.author n)) (λ_=>.ok ())=_;rw[qW];simp[oP,iM]
 |.and a b=>by
  show pN w (post a++post b++[.and])=_;rw[tM,tM,mw w a,mw w b];simp only[iM];cases iM w a with
  |error e=>rfl
  |ok u=>cases iM w b <;> rfl
 |.or a b=>by
  show pN w (post a++post b++[.or])=_;rw[tM,tM,mw w a,mw w b];simp only[iM];cases iM w a with
  |error e=>rfl
  |ok u=>cases iM w b <;> rfl
theorem U4(c:dD):post c≠[]:=by cases c <;> simp[post]
end Mt
namespace Mt
open Vamrqe
def known(c:Nat):Bool:=cZ c||[10,32,39,40,41,44,59,61,46,45,47,42].contains c
def tr(c:Nat):Nat:=if known c=true then c else 63
theorem oB(h:known c=true):tr c=c:=iP h
theorem D8(h:¬known c=true):tr c=63:=iN h
theorem uu{p:Nat->Bool}(h:∀c,p c=true->known c=true)(h63:p 63=false)(c:Nat):p (tr c)=p c:=by
 by_cases q:known c=true
 ·rw[oB q]
 ·rw[D8 q,h63];cases e:p c with
  |false=>rfl
  |true=>exact absurd (h c e) q
theorem j1(c:Nat)(h:cZ c=true):known c=true:=by unfold known;rw[h];rfl
theorem qx(c:Nat)(h:small c=true):cZ c=true:=by unfold cZ;rw[h];rfl
theorem CQ(c:Nat)(h:digit c=true):cZ c=true:=by unfold cZ;rw[h];cases small c <;> rfl
theorem wk(c:Nat)(h:fz c=true):known c=true:=by
 unfold fz at h;simp only[sU,decide_eq_true_eq]at h;rcases h with(h|rfl)|rfl
 ·exact j1 c h
 ·decide
 ·decide
theorem wF(c:Nat)(h:cM c=true):known c=true:=by
 unfold cM at h;simp only[sU,decide_eq_true_eq]at h;rcases h with(h|rfl)|rfl
 ·exact wk c h
 ·decide
 ·decide
theorem VF(c:Nat):cZ (tr c)=cZ c:=uu j1 (by decide) c
theorem Sk(c:Nat):small (tr c)=small c:=uu (λc h=>j1 c (qx c h)) (by decide) c
theorem JV(c:Nat):digit (tr c)=digit c:=uu (λc h=>j1 c (CQ c h)) (by decide) c
theorem LK(c:Nat):cM (tr c)=cM c:=uu wF (by decide) c
theorem VE(c:Nat):fz (tr c)=fz c:=uu wk (by decide) c
theorem F6(hk:known k=true)(h63:k≠63)(c:Nat):tr c=k↔c=k:=by
 constructor
 ·intro h;by_cases q:known c=true
  ·rwa [oB q]at h
  ·rw[D8 q]at h;exact absurd h.symm h63
 ·rintro rfl;exact oB hk
theorem B9(hp:∀c,p (tr c)=p c)(hk:∀c,p c=true->known c=true):∀l:List Nat,(l.map tr).takeWhile p=l.takeWhile p
 |[]=>rfl
 |c::r=>by
  rw[bO,dq,dq,hp,B9 hp hk r];cases e:p c with
  |false=>rfl
  |true=>rw[oB (hk c e)]
theorem QF(t:aM):fM (t.map tr)=fM t:=by
 cases t with
 |nil=>rfl
 |cons c r=>
  have e1:=B9 VF j1 (c::r);have e2:=B9 JV (λc h=>j1 c (CQ c h)) (c::r);have e3:=B9 LK wF r;have e4:=F6 (k:=39) (by decide) (by decide) c;rw[bO]at e1 e2 ⊢;unfold fM;simp only[Sk,JV,e1,e2,e3];have e5:(39::(([]:List Nat))=39::[]):=rfl;by_cases q1:small c=true
  ·simp only[q1,if_true]
  ·simp only[q1,if_false,cS];by_cases q2:digit c=true
   ·simp only[q2,if_true]
   ·simp only[q2,if_false,cS];by_cases q3:c=39
    ·have q3':tr c=39:=e4.mpr q3;simp only[q3,q3',if_true];rw[show tr 39=39 from by decide];simp only[if_true];rw[<-xR];cases e:r.drop (E2 cM r).length with
     |nil=>rfl
     |cons x y=>
      by_cases z:x=39
      ·subst z;rfl
      ·have z':tr x≠39:=λw=>z ((F6 (by decide) (by decide) x).mp w);simp only[bO];split
       ·rename_i h1;injection h1 with h1 _;exact absurd h1 z'
       ·split
        ·rename_i h2;injection h2 with h2 _;exact absurd h2 z
        ·rfl
    ·have q3':¬tr c=39:=λw=>q3 (e4.mp w);simp only[q3,q3',if_false]
     have sg:([40,41,44,59,61]:List Nat).contains (tr c)=([40,41,44,59,61]:List Nat).contains c:=uu (p:=λc=>([40,41,44,59,61]:List Nat).contains c) (λc h=>by
      simp at h
      rcases h with rfl|rfl|rfl|rfl|rfl <;> decide) (by decide) c
     rw[sg];by_cases q4:([40,41,44,59,61]:List Nat).contains c=true
     ·simp only[q4,if_true];have kn:known c=true:=by
       simp at q4
       rcases q4 with rfl|rfl|rfl|rfl|rfl <;> decide
      rw[oB kn]
     ·simp only[q4,if_false,cS]
theorem zm:∀(f p:Nat)(t:aM),tokens f p (t.map tr)=tokens f p t
 |f,p,[]=>by cases f <;> rfl
 |0,p,c::r=>rfl
 |f+1,p,c::r=>by
  have b1:=F6 (k:=32) (by decide) (by decide) c;have b2:=F6 (k:=10) (by decide) (by decide) c;show(if tr c=32\/tr c=10 then tokens f (p+1) (r.map tr)else _)=(if c=32\/c=10 then tokens f (p+1) r else _);by_cases q:c=32\/c=10
  ·rw[iP q,iP (q.imp b1.mpr b2.mpr),zm]
  ·rw[iN q,iN (λz=>q (z.imp b1.mp b2.mp))];have e:=QF (c::r);rw[bO]at e;show(match fM (tr c::r.map tr)with|none=>_|some x=>_)=_;rw[e];cases fM (c::r)with
   |none=>rfl
   |some x=>show(match tokens f (p+x.2) ((tr c::r.map tr).drop x.2)with|.ok l=>_|.error e=>_)=_;rw[<-bO,<-xR,zm];rfl
theorem U9(t:aM):ez (t.map tr)=ez t:=by unfold ez parse;rw[aB,zm]
abbrev run(p:Nat->Bool)(t:aM):aM:=t.takeWhile p
theorem iu(c:Nat)(r:aM):fM (c::r)=
  if small c=true then(if(run cZ (c::r)).length<=Vs then some (.word (run cZ (c::r)),(run cZ (c::r)).length)else none)
  else if digit c=true then(if(run digit (c::r)).length<=2 then some (.num (worth (run digit (c::r))),(run digit (c::r)).length)else none)
  else if c=39 then(if(r.drop (run cM r).length).head?=some 39 then some (.pat (run cM r),(run cM r).length+2)else none)
  else if[40,41,44,59,61].contains c=true then some (.sign c,1)else none:=by
 show(if small c=true then _ else if digit c=true then _ else if c=39 then _ else if _ then _ else _)=_;by_cases q1:small c=true
 ·rw[iP q1,iP q1]
 ·rw[iN q1,iN q1];by_cases q2:digit c=true
  ·rw[iP q2,iP q2]
  ·rw[iN q2,iN q2];by_cases q3:c=39
   ·rw[iP q3,iP q3];cases e:r.drop (run cM r).length with
    |nil=>simp[e]
    |cons x y=>
     by_cases z:x=39
     ·subst z;simp[e]
     ·simp only[e,List.head?_cons,mn,z,if_false];split
      ·rename_i h1;injection h1 with h1 _;exact absurd h1 z
      ·rfl
   ·rw[iN q3,iN q3]
theorem qu(p:Nat->Bool)(t:aM):(run p t).length<=t.length:=(List.takeWhile_prefix (l:=t) p).length_le
theorem uf(h:fM t=some x):1<=x.2/\x.2<=t.length:=by
 cases t with
 |nil=>cases h
 |cons c r=>
  rw[iu]at h;have w1:=qu cZ (c::r);have w2:=qu digit (c::r);by_cases q1:small c=true
  ·have z:1<=(run cZ (c::r)).length:=by rw[run,dq,qx c q1];simp
   rw[iP q1]at h;split at h
   ·cases h;exact⟨z,w1⟩
   ·cases h
  ·rw[iN q1]at h;by_cases q2:digit c=true
   ·have z:1<=(run digit (c::r)).length:=by rw[run,dq,q2];simp
    rw[iP q2]at h;split at h
    ·cases h;exact⟨z,w2⟩
    ·cases h
   ·rw[iN q2]at h;by_cases q3:c=39
    ·rw[iP q3]at h;split at h
     ·rename_i e;cases h;have z:(run cM r).length<r.length:=by
       have w3:=qu cM r;by_cases y:(run cM r).length<r.length
       ·exact y
       ·rw[jE (by omega)]at e;cases e
      simp only[aG];omega
     ·cases h
    ·rw[iN q3]at h;split at h
     ·cases h;simp
     ·cases h
theorem uY:∀(f g p:Nat)(t:aM),t.length<=f->t.length<=g->tokens f p t=tokens g p t
 |f,g,p,[],_,_=>by cases f <;> cases g <;> rfl
 |0,g,p,c::r,h,_=>by simp at h
 |f+1,0,p,c::r,_,h=>by simp at h
 |f+1,g+1,p,c::r,hf,hg=>by
  simp only[aG]at hf hg;show(if c=32\/c=10 then tokens f (p+1) r else _)=(if c=32\/c=10 then tokens g (p+1) r else _);by_cases q:c=32\/c=10
  ·rw[iP q,iP q,uY f g (p+1) r (by omega) (by omega)]
  ·rw[iN q,iN q];cases e:fM (c::r)with
   |none=>rfl
   |some x=>
    obtain⟨l1,l2⟩:=uf e;simp only[aG]at l2;have hd:((c::r).drop x.2).length<=r.length:=by simp only[ay,aG];omega
    show(match tokens f (p+x.2) ((c::r).drop x.2)with|.ok l=>_|.error e=>_)=_;rw[uY f g (p+x.2) ((c::r).drop x.2) (by omega) (by omega)];rfl
def tk(p:Nat)(t:aM):E (List At):=tokens t.length p t
theorem Vj(h:t.length<=f):tokens f p t=tk p t:=uY _ _ p t h (a9 _)
theorem Sg(p:Nat):tk p []=.ok [⟨p,.fin⟩]:=rfl
theorem JU(q:c=32\/c=10):tk p (c::r)=tk (p+1) r:=by show(if c=32\/c=10 then tokens r.length (p+1) r else _)=_;rw[iP q];rfl
theorem Sh(q:¬(c=32\/c=10)):tk p (c::r)=match fM (c::r)with
  |none=>.error ⟨-2,p⟩
  |some x=>bc (tk (p+x.2) ((c::r).drop x.2)) λl=>.ok (⟨p,x.1⟩::l):=by
 show(if c=32\/c=10 then tokens r.length (p+1) r else match fM (c::r)with
  |none=>.error ⟨-2,p⟩
  |some x=>match tokens r.length (p+x.2) ((c::r).drop x.2)with
   |.ok l=>.ok (⟨p,x.1⟩::l)
   |.error e=>.error e)=_
 rw[iN q];cases e:fM (c::r)with
 |none=>rfl
 |some x=>obtain⟨l1,l2⟩:=uf e;simp only[aG]at l2;show(match tokens r.length (p+x.2) ((c::r).drop x.2)with|.ok l=>_|.error e=>_)=bc (tk (p+x.2) ((c::r).drop x.2)) _;rw[Vj (by simp only[ay,aG];omega)];cases tk (p+x.2) ((c::r).drop x.2) <;> rfl
end Mt
open PySem PySem.Spec PyProof.Rows
namespace L2
abbrev Key:=Sum Int Str
def yU:Key->aE->Bool
 |.inl k,v=>Xo k v
 |.inr x,v=>xJ x v
def aBa(w:bu):Key->Int
 |.inl k=>hashInt k
 |.inr x=>hashStr w x
theorem fq:∀{k:Key}{v:aE},yU k v=true->(∃i t,k=ee i/\v=oE i t)\/(∃x t,k=ai x/\v=vR x t)
 |.inl i,v,h=>by obtain⟨t,e⟩:=Value.isInt_shape (k:=i) (v:=v) h;exact .inl ⟨i,t,rfl,e⟩
 |.inr x,v,h=>by obtain⟨t,e⟩:=Value.isStrOf_shape (x:=x) (v:=v) h;exact .inr ⟨x,t,rfl,e⟩
theorem N0(i:Int)(t:Tok):yU (.inl i) (.int i t)=true:=by simp[yU,Xo]
theorem N1(x:Str)(t:Tok):yU (.inr x) (.str x t)=true:=by simp[yU,xJ]
theorem W6(a b:Int):decide ((ee a:Key)=ee b)=(a==b):=by
 by_cases e:a=b
 ·subst e;simp
 ·have h:¬(ee a:Key)=ee b:=λq=>e (Hc q);rw[dF h];exact(beq_eq_false_iff_ne.mpr e).symm
theorem W9(a b:Str):decide ((ai a:Key)=ai b)=decide (a=b):=by
 by_cases e:a=b
 ·subst e;simp
 ·have h:¬(ai a:Key)=ai b:=λq=>e (Sum.inr.inj q);rw[dF h,dF e]
theorem W7(a:Int)(b:Str):decide ((ee a:Key)=ai b)=false:=dF (λq=>nomatch q)
theorem W8(a:Str)(b:Int):decide ((ai a:Key)=ee b)=false:=dF (λq=>nomatch q)
def fA(prog:bK)(w:bu):PySem.KeyKind prog w Key where
 is:=yU
 hash:=aBa w
 inj:=λv a b ha hb=>by
  rcases fq ha with⟨i,t,rfl,rfl⟩|⟨x,t,rfl,rfl⟩
  ·rcases fq hb with⟨j,u,rfl,e⟩|⟨y,u,rfl,e⟩
   ·injection e with e1 _;rw[e1]
   ·exact nomatch e
  ·rcases fq hb with⟨j,u,rfl,e⟩|⟨y,u,rfl,e⟩
   ·exact nomatch e
   ·injection e with e1 _;rw[e1]
 byValue:=λk v h=>by rcases fq h with⟨i,t,rfl,rfl⟩|⟨x,t,rfl,rfl⟩ <;> rfl
 pyHash:=λhv h=>by
  rcases fq hv with⟨i,t,rfl,rfl⟩|⟨x,t,rfl,rfl⟩
  ·exact wpAny_pyHash_int h
  ·exact wpAny_pyHash_str h
 eqBool:=λhu hv h=>by
  rcases fq hu with⟨i,t,rfl,rfl⟩|⟨x,t,rfl,rfl⟩
  ·rcases fq hv with⟨j,u,rfl,rfl⟩|⟨y,u,rfl,rfl⟩
   ·rw[W6]at h;exact wpAny_eqBool_int h
   ·rw[W7]at h;exact HI i t y u _ _ _ _ h
  ·rcases fq hv with⟨j,u,rfl,rfl⟩|⟨y,u,rfl,rfl⟩
   ·rw[W8]at h;exact HJ x t j u _ _ _ _ h
   ·rw[W9]at h;exact wpAny_eqBool_str h
 «strs»:=λk x t v h=>by
  rcases fq h with⟨i,u,rfl,e⟩|⟨y,u,rfl,e⟩
  ·exact nomatch e
  ·injection e with e1 _;subst e1;cases v <;> rfl
theorem pA(prog:bK)(w:bu)(i:Int)(t:Tok):(fA prog w).is (.inl i) (.int i t)=true:=N0 i t
theorem Ii(prog:bK)(w:bu)(x:Str)(t:Tok):(fA prog w).is (.inr x) (.str x t)=true:=N1 x t
inductive V where
 |fB|bl (b:Bool)|int (i:Int)|str (x:Str)|Fu (b:Array UInt8)|flt (b:UInt64)|ref (a:aF)|ty (n:String)
 deriving DecidableEq
def aCg:V->aE->Prop
 |.fB,u=>u=f7
 |.bl b,u=>u=Y5 b
 |.int i,u=>∃t,u=oE i t
 |.str x,u=>∃t,u=vR x t
 |.Fu b,u=>∃t,u=Xm b t
 |.flt b,u=>∃t,u=Xn b t
 |.ref a,u=>u=b5 a
 |.ty n,u=>u=kW n
abbrev aCh:List V->List aE->Prop:=Ot aCg
theorem aCh.length(r:aCh xs us):xs.length=us.length:=lZ r
theorem aCh.get:∀{xs:List V}{us:List aE}{i:Nat}{x:V},aCh xs us->xs[i]?=some x->∃u,us[i]?=some u/\aCg x u
 |_,_,_,_,.nil,e=>by simp at e
 |_,_,0,_,.cons r _,e=>by simp at e;subst e;exact⟨_,rfl,r⟩
 |_,_,i+1,x,.cons _ t,e=>by obtain⟨u,h1,h2⟩:=aCh.get (i:=i) (x:=x) t (by simpa using e);exact⟨u,by simpa using h1,h2⟩
theorem aCh.set(r:aCg x u):∀{xs:List V}{us:List aE}(i:Nat),aCh xs us->aCh (xs.set i x) (us.set i u)
 |_,_,_,.nil=>.nil
 |_,_,0,.cons _ t=>.cons r t
 |_,_,i+1,.cons q t=>.cons q (aCh.set r i t)
theorem aCh.append:∀{xs ys:List V}{us ws:List aE},aCh xs us->aCh ys ws->aCh (xs++ys) (us++ws)
 |_,_,_,_,.nil,s=>s
 |_,_,_,_,.cons r t,s=>.cons r (aCh.append t s)
theorem aCh.take:∀{xs:List V}{us:List aE}(n:Nat),aCh xs us->aCh (xs.take n) (us.take n)
 |_,_,0,_=>.nil
 |_,_,_+1,.nil=>.nil
 |_,_,n+1,.cons r t=>.cons r (aCh.take n t)
theorem aCh.drop:∀{xs:List V}{us:List aE}(n:Nat),aCh xs us->aCh (xs.drop n) (us.drop n)
 |_,_,0,r=>r
 |_,_,_+1,.nil=>.nil
 |_,_,n+1,.cons _ t=>aCh.drop n t
theorem aCh.none_of:∀{xs:List V}{us:List aE}{i:Nat},aCh xs us->xs[i]?=none->us[i]?=none:=λ{xs us i} r e=>by have h1:=r.length;have h2:xs.length<=i:=Ff.mp e;exact Ff.mpr (by omega)
def nF:Option V->Option aE->Prop
 |some v,some u=>aCg v u
 |none,none=>True
 |_,_=>False
def KV{κ:Type}:List (κ×V)->List (κ×aE)->Prop:=Ot λ(p:κ×V)(q:κ×aE)=>p.1=q.1/\aCg p.2 q.2
def kV:Key->V
 |.inl i=>.int i
 |.inr x=>.str x
inductive HO where
 /-- a list -/
 |lst (xs:List V)
 /-- a tuple (never changes) -/
 |tup (xs:List V)
 /-- a dict whose keys are ints and texts;one whose keys are tuples of ints and texts (the empty one is both) -/
 |dK (kvs:List (Key×V))|dT (kvs:List (List Key×V))
 /-- a set of ints:its members,its size -/
 |set (S:Int->Bool) (n:Nat)
 /-- an instance of the class at C,its dict at dx,its attributes -/
 |ins (C dx:aF) (fs:List (Str×V))
 /-- the dict of the instance at x -/
 |own (x:aF)
 /-- the dict of an exception -/
 |xd (fs:List (Str×V))
 /-- a bound method,f of x -/
 |met (f x:aF)
 /-- a range object lo,lo+1,.. below hi -/
 |aAb (lo hi:Int)
 /-- a thing that is known to the object (the script;a dict while a loop walks it):read,never written while it is so -/
 |k9 (o:Obj) (u:HO)
 /-- a code object's table -/
 |Vi (ps:Array aE)
 /-- any other thing,by what is true of its one object (a def of one's own:SetO a S n:=HO.ext λh=>..) -/
 |ext (φ:c9->Prop)
abbrev Hp:=aF->Option HO
def aCc(H:Hp)(a:aF)(o:HO):Hp:=λb=>if b=a then some o else H b
theorem aC:aCc H a o a=some o:=by unfold aCc;rw[iP rfl]
theorem aJ(h:b≠a):aCc H a o b=H b:=by unfold aCc;rw[iN h]
theorem cR{H:Hp}{a b:aF}{o u:HO}(h:H a=some o)(h':H b=some u)(d:o≠u):a≠b:=by intro e;subst e;rw[h]at h';exact d (aV h')
theorem aK{H:Hp}{a b:aF}{o:HO}(h:H a=some o)(h':H b=none):a≠b:=by intro e;subst e;rw[h]at h';cases h'
section
variable(P:bK)(w:bu)
def gB(H:Hp)(h:c9)(a:aF):HO->Prop
 |.lst xs=>xs.length<=aj/\∃(its:List aE)(n:Nat),aCh xs its/\h.get? a=some {cls:=.type "list",data:=.seq its.toArray n}
 |.tup xs=>xs.length<=aj/\∃its:List aE,aCh xs its/\IsTup h a its.toArray
 |.dK kvs=>kvs.length<=aj/\(a==gD)=false/\∃vs,KV kvs vs/\h.DictOf (fA P w) a vs
 |.dT kvs=>kvs.length<=aj/\(a==gD)=false/\∃xs:List (List Key×aF×aE),
   Ot (λ(p:List Key×V)(q:List Key×aF×aE)=>p.1=q.1/\H q.2.1=some (.tup (p.1.map kV))/\aCg p.2 q.2.2) kvs xs/\
   ∃o es ep,h.get? a=some o/\o.ExactDict/\o.data=.dict es ep/\es.toList=xs.map (entryOfKey (tupleKind (fA P w)))/\(xs.map (·.1)).Nodup
 |.set S n=>h.SetOf (intKind P w) a S n
 |.ins C dx fs=>H dx=some (.own a)/\fs.length<=1000/\dx≠a/\h.get? a=some (gh C dx)/\
   ∃mA,h.Ns1 dx mA/\(∀f,nF (fs.lookup f) (mA f))/\sC mA (fs.map (·.1))
 |.own _=>∃o,h.get? a=some o
 |.xd fs=>∃mA,h.Ns1 a mA/\∀f,nF (fs.lookup f) (mA f)
 |.aAb lo hi=>∃t u v,h.get? a=some {cls:=.type "range",data:=.fields #[.int lo t,.int hi u,.int 1 v]}
 |.k9 o u=>h.get? a=some o/\gB H h a u
 |.Vi ps=>h.get? a=some {cls:=.none,data:=.fields ps}
 |.met f x=>h.get? a=some (xW (.ref f) (.ref x))
 |.ext φ=>φ h/\(∃o,h.get? a=some o)/\∀h1 h2:c9,φ h1->(∀o,h1.get? a=some o->h2.get? a=some o)->φ h2
def oX(H:Hp)(h:c9):Prop:=∀a o,H a=some o->gB P w H h a o
end
section
variable{P:bK}{w:bu}{H H':Hp}{h h':c9}{a:aF}{o:HO}
theorem gB.lt(x:gB P w H h a o):a<h.objs.size:=by
 cases o with
 |lst xs=>obtain⟨_,_,_,_,e⟩:=x;exact bC e
 |tup xs=>obtain⟨_,_,_,p⟩:=x;exact p.lt
 |dK kvs=>obtain⟨_,_,_,_,o,_,_,e,_⟩:=x;exact bC e
 |dT kvs=>obtain⟨_,_,_,_,o,_,_,e,_⟩:=x;exact bC e
 |set S n=>obtain⟨o,_,_,_,e,_⟩:=x;exact bC e
 |ins C dx fs=>obtain⟨_,_,_,e,_⟩:=x;exact bC e
 |own y=>obtain⟨_,e⟩:=x;exact bC e
 |xd fs=>obtain⟨_,⟨_,_,_,e,_⟩,_⟩:=x;exact bC e
 |aAb lo hi=>obtain⟨_,_,_,e⟩:=x;exact bC e
 |k9 ob u=>obtain⟨e,_⟩:=x;exact bC e
 |Vi ps=>exact bC (show h.get? a=some _ from x)
 |met f y=>exact bC (show h.get? a=some _ from x)
 |ext φ=>obtain⟨_,⟨_,e⟩,_⟩:=x;exact bC e
theorem Paired.Wc{α β:Type}{F G:α->β->Prop}:∀{l₁:List α}{l₂:List β},Ot F l₁ l₂->(∀a b,F a b->G a b)->Ot G l₁ l₂
 |_,_,.nil,_=>.nil
 |_,_,.cons r t,f=>.cons (f _ _ r) (Paired.Wc t f)
theorem gB.sH(x:gB P w H h a o)(k:∀b u,(b=a\/H b=some (.own a))->h.get? b=some u->h'.get? b=some u)
  (ho:∀b,H b=some (.own a)->H' b=some (.own a)) (ht:∀b xs,H b=some (.tup xs)->H' b=some (.tup xs)):gB P w H' h' a o:=by
 induction o with
 |lst xs=>obtain⟨z,its,n,r,e⟩:=x;exact⟨z,its,n,r,k _ _ (.inl rfl) e⟩
 |tup xs=>obtain⟨z,its,r,ob,e,c⟩:=x;exact⟨z,its,r,ob,k _ _ (.inl rfl) e,c⟩
 |dK kvs=>obtain⟨z,y,vs,r,ob,es,ep,e,c⟩:=x;exact⟨z,y,vs,r,ob,es,ep,k _ _ (.inl rfl) e,c⟩
 |dT kvs=>obtain⟨z,y,xs,r,ob,es,ep,e,c⟩:=x;exact⟨z,y,xs,Paired.Wc r λp q z=>⟨z.1,ht _ _ z.2.1,z.2.2⟩,ob,es,ep,k _ _ (.inl rfl) e,c⟩
 |set S n=>obtain⟨ob,es,ep,t,e,c⟩:=x;exact⟨ob,es,ep,t,k _ _ (.inl rfl) e,c⟩
 |ins C dx fs=>obtain⟨d,z,ne,e,mA,⟨od,es,ep,e2,c⟩,r⟩:=x;exact⟨ho _ d,z,ne,k _ _ (.inl rfl) e,mA,⟨od,es,ep,k _ _ (.inr d) e2,c⟩,r⟩
 |own y=>obtain⟨ob,e⟩:=x;exact⟨ob,k _ _ (.inl rfl) e⟩
 |xd fs=>obtain⟨mA,⟨od,es,ep,e,c⟩,r⟩:=x;exact⟨mA,⟨od,es,ep,k _ _ (.inl rfl) e,c⟩,r⟩
 |aAb lo hi=>obtain⟨t,u,v,e⟩:=x;exact⟨t,u,v,k _ _ (.inl rfl) e⟩
 |k9 ob u ih=>obtain⟨e,q⟩:=x;exact⟨k _ _ (.inl rfl) e,ih q⟩
 |Vi ps=>have e:h.get? a=some {cls:=.none,data:=.fields ps}:=x;show h'.get? a=some {cls:=.none,data:=.fields ps};exact k a _ (.inl rfl) e
 |met f y=>have e:h.get? a=some (xW (.ref f) (.ref y)):=x;show h'.get? a=some (xW (.ref f) (.ref y));exact k a _ (.inl rfl) e
 |ext φ=>obtain⟨p,⟨o,e⟩,st⟩:=x;exact⟨st _ _ p λo q=>k _ _ (.inl rfl) q,⟨o,k _ _ (.inl rfl) e⟩,st⟩
theorem oX.lt(x:oX P w H h)(e:H a=some o):a<h.objs.size:=(x a o e).lt
theorem oX.fresh(x:oX P w H h)(e:h.objs.size<=a):H a=none:=by
 cases q:H a with
 |none=>rfl
 |some u=>exact absurd (bo (x.lt q) e) (fO _)
theorem oX.kept(x:oX P w H h)(k:∀b u,h.get? b=some u->h'.get? b=some u):oX P w H h':=λa o e=>(x a o e).sH (λb u _ q=>k b u q) (λ_ q=>q) λ_ _ q=>q
theorem oX.laid(x:oX P w H h)(k:∀b u,h.get? b=some u->h'.get? b=some u)(hp:h.objs.size<=a)(new:gB P w (aCc H a o) h' a o):oX P w (aCc H a o) h':=λb u e=>by
 have hn:=x.fresh hp;by_cases hb:b=a
 ·subst hb;rw[aC]at e;cases e;exact new
 ·rw[aJ hb]at e;exact(x b u e).sH (λc v _ q=>k c v q) (λc q=>by rw[aJ (aK q hn)];exact q) λc xs q=>by rw[aJ (aK q hn)];exact q
end
def Rd(H:Hp)(a:aF)(u:HO):Prop:=H a=some u\/∃o,H a=some (.k9 o u)
theorem Rd.ok(r:Rd H a u)(x:oX P w H h):gB P w H h a u:=by
 rcases r with r|⟨o,r⟩
 ·exact x a u r
 ·obtain⟨_,q⟩:=x a _ r;exact q
def VP:Option HO->Prop
 |some (.lst _)=>True
 |some (.dK _)=>True
 |some (.dT _)=>True
 |some (.set _ _)=>True
 |some (.ins _ _ _)=>True
 |some (.ext _)=>True
 |_=>False
section
variable{P:bK}{w:bu}{H:Hp}{h h':c9}{x e:aF}{o':HO}
theorem oX.write(ok:oX P w H h)(mu:VP (H x))(he:e=x\/H e=some (.own x))(k:∀b u,b≠e->h.get? b=some u->h'.get? b=some u)(heo:∃u,h'.get? e=some u)
  (new:gB P w (aCc H x o') h' x o'):oX P w (aCc H x o') h':=λb u q=>by
 have nown:∀c y,H c=some (.own y)->c≠x:=λc y r z=>by subst z;rw[r]at mu;exact mu
 have ntup:∀c xs,H c=some (.tup xs)->c≠x:=λc xs r z=>by subst z;rw[r]at mu;exact mu
 by_cases hb:b=x
 ·subst hb;rw[aC]at q;cases q;exact new
 ·rw[aJ hb]at q;by_cases hbe:b=e
  ·have q':H b=some (.own x):=by
    rcases he with z|z
    ·exact absurd (hbe.trans z) hb
    ·rw[hbe];exact z
   rw[q]at q';cases q';obtain⟨v,hv⟩:=heo;exact⟨v,by rw[hbe];exact hv⟩
  ·refine(ok b u q).sH (λc v hc r=>k c v ?_ r) (λc r=>by rw[aJ (nown c b r)];exact r) λc xs r=>by rw[aJ (ntup c xs r)];exact r
   rcases hc with rfl|hc
   ·exact hbe
   ·rintro rfl;rcases he with z|z
    ·exact nown c b hc z
    ·rw[hc]at z;cases z;exact hb rfl
end
structure Un(fs ex:List aF)(H H':Hp)(h h':c9):Prop where
 keep:∀b o,h.get? b=some o->H b=none->b∉fs->b∉ex->h'.get? b=some o
 slot:∀b o,h.get? b=some o->H b=none->b∈fs->b∉ex->∃sl,h'.get? b=some {o with slots:=sl}
 free:∀b o,h.get? b=some o->H b=none->b∉ex->H' b=none
 there:∀b o,h.get? b=some o->b∉ex->∃o',h'.get? b=some o'
 xC:∀b xs,H b=some (.tup xs)->H' b=some (.tup xs)
 tu:∀b o u,H b=some (.k9 o u)->H' b=some (.k9 o u)
 xB:∀b ps,H b=some (.Vi ps)->∃more,H' b=some (.Vi (ps++more))
section
variable{fs fs' ex ex':List aF}{H H1 H2:Hp}{h h1 h2 h':c9}{a x e:aF}{o:HO}
theorem Un.any(u:Un fs ex H H1 h h1)(q:h.get? b=some ob)(n:H b=none)(hx:b∉ex):∃sl,h1.get? b=some {ob with slots:=sl}:=by
 by_cases hb:b∈fs
 ·exact u.slot b ob q n hb hx
 ·exact⟨ob.slots,u.keep b ob q n hb hx⟩
theorem Un.kept(k:∀b u,h.get? b=some u->h'.get? b=some u):Un fs ex H H h h':=
 ⟨λb ob q _ _ _=>k b ob q,λb ob q _ _ _=>⟨ob.slots,k b ob q⟩,λ_ _ _ n _=>n,λb ob q _=>⟨ob,k b ob q⟩,λ_ _ q=>q,λ_ _ _ q=>q,λ_ ps q=>⟨#[],by rw[q];simp⟩⟩
theorem Un.refl:Un fs ex H H h h:=Un.kept λ_ _ q=>q
theorem Un.laid(k:∀b u,h.get? b=some u->h'.get? b=some u)(hp:h.objs.size<=a)(hn:H a=none):Un fs ex H (aCc H a o) h h' where
 keep:=λb u q _ _ _=>k b u q
 slot:=λb u q _ _ _=>⟨u.slots,k b u q⟩
 free:=λb u q n _=>by rw[aJ (cO (bo (bC q) hp))];exact n
 there:=λb u q _=>⟨u,k b u q⟩
 xC:=λb xs q=>by rw[aJ (aK q hn)];exact q
 tu:=λb u xs q=>by rw[aJ (aK q hn)];exact q
 xB:=λb ps q=>⟨#[],by rw[aJ (aK q hn),q];simp⟩
theorem Un.write(mu:VP (H x))(he:e=x\/H e=some (.own x))(k:∀b u,b≠e->h.get? b=some u->h'.get? b=some u)(heo:∃u,h'.get? e=some u):Un fs ex H (aCc H x o) h h':=by
 have hx:∀b,H b=none->b≠x:=λb n z=>by subst z;rw[n]at mu;exact mu
 have hb:∀b,H b=none->b≠e:=λb n z=>by
  subst z;rcases he with r|r
  ·exact hx b n r
  ·rw[n]at r;cases r
 have hm:∀b u,H b=some u->¬VP (some u)->b≠x:=λb u q nm z=>by subst z;rw[q]at mu;exact nm mu
 refine⟨λb u q n _ _=>k b u (hb b n) q,λb u q n _ _=>⟨u.slots,k b u (hb b n) q⟩,λb u q n _=>by rw[aJ (hx b n)];exact n,λb u q _=>?_,
  λb xs q=>by rw[aJ (hm b _ q λz=>z)];exact q,λb u xs q=>by rw[aJ (hm b _ q λz=>z)];exact q,λb ps q=>⟨#[],by rw[aJ (hm b _ q λz=>z),q];simp⟩⟩
 by_cases hbe:b=e
 ·subst hbe;exact heo
 ·exact⟨u,k b u hbe q⟩
end
def aAf(h:c9)(H:Hp):List aF:=(ek h.objs.size).filter λa=>(H a).isSome
def GQ(h:c9)(H:Hp):c9:=PySem.W.hideAll h (aAf h H)
theorem NX(h:c9)(H:Hp):(GQ h H).objs.size=h.objs.size:=PySem.W.hideAll_size _ _
theorem QM(e:h.get? b=some o)(n:H b=none):(GQ h H).get? b=some o:=
 PySem.W.hideAll_get _ e λhm=>by have q:(H b).isSome=true:=(dh.mp hm).2;rw[n]at q;simp at q
theorem UU(e:(GQ h H).get? b=some o):h.get? b=some o/\H b=none:=by
 have e':h.get? b=some o:=PySem.W.of_hideAll (aAf h H) e;refine⟨e',?_⟩;cases q:H b with
 |none=>rfl
 |some x=>have hm:b∈aAf h H:=dh.mpr ⟨vP.mpr (bC e'),by simp[q]⟩;have z:(GQ h H).get? b=none:=PySem.W.hideAll_none (aAf h H) hm;rw[z]at e;cases e
structure Mod(K:aU)(mg:Str->Option aE)(base:c9):Prop where
 V3:K.In base
 glob:base.Ns cK mg
 blt:∃mb,base.Ns builtinsNs mb/\∀x:Str,x≠"__name__"->mb x=fU x
 nolimit:base.NoLimit
structure Cx where
 prog:bK
 w:bu
 K:aU
 mg:Str->Option aE
 base:c9
 A:cG
 N:List Str
 sG:aO
 VM:Hp
 env:Env
 outer:List Env
 stack:List Env
 ex:List aF
 fn:Str->Bool
 calm:Bool
 pn:List (aF×Obj)
 xe:aE->aO->Prop
def BK(l:List Env):List aF:=l.filterMap (·.frame)
abbrev Cx.fs(X:Cx):List aF:=BK X.outer
def WD(sc:jJ)(x:Str):Prop:=sc.names.lookup x=some .local\/sc.names.lookup x=some .cell\/sc.names.lookup x=some .free
def Loc(sc:jJ)(x:Str):Prop:=sc.names.lookup x=some .local\/sc.names.lookup x=some .cell
def Look(env:Env)(h:c9)(m:Str->Option aE)(x:Str)(u:aE):Prop:=
 (env.kindOf x=some .local/\m x=some u)\/((env.kindOf x=some .cell\/env.kindOf x=some .free)/\∃c,env.cells.lookup x=some c/\h.IsCell c (some u))
structure Cx.Ok(X:Cx):Prop where
 mod:Mod X.K X.mg X.base
 kind:X.env.scope.kind=.function
 glob:X.env.globals=cK
 blt:X.env.builtins=builtinsNs
 above:X.sG.heap.objs.size<=X.env.locals
 inj:∀x y c,X.env.cells.lookup x=some c->X.env.cells.lookup y=some c->x=y
 has:∀x,(X.env.kindOf x=some .cell\/X.env.kindOf x=some .free)->∃c,X.env.cells.lookup x=some c
 VY:∀x c,X.fn x=true->X.env.cells.lookup x=some c->X.sG.heap.objs.size<=c
 hd:X.calm=true->X.A.handled=none
 frames:X.A.frames=some X.stack
 XT:X.stack=X.outer\/(X.stack=X.env::X.outer/\X.env.frame=some X.env.locals)
 WV:∀b∈X.ex,b≠X.env.locals/\∀x c,X.env.cells.lookup x=some c->c≠b
 bs:∀b o,X.base.get? b=some o->X.sG.heap.get? b=some o/\X.VM b=none
 Od:X.base.objs.size<=X.sG.heap.objs.size
 Ip:∀b o,X.base.get? b=some o->b∉X.ex
 IL:∀b∈X.ex,b∉X.fs
 w8:X.sG.heap.FunFrames X.base X.outer
 TX:∀b∈X.fs,X.VM b=none
structure aCd(X:Cx)(pins:List (aF×Obj))(σ:List (Option V))(H:Hp)(s:aO):Prop where
 ok:X.Ok
 os:s.os=X.sG.os
 bare:zr s.gens
 base:Un X.fs X.ex X.VM H X.sG.heap s.heap
 loc:∃m,s.heap.Ns X.env.locals m/\∀(i:Nat)(x:Str)(v:V),X.N[i]?=some x->σ[i]?=some (some v)->WD X.env.scope x->∃u,aCg v u/\Look X.env s.heap m x u
 cell:∀x c,X.env.cells.lookup x=some c->∃v,s.heap.IsCell c v
 free:H X.env.locals=none
 kR:∀x c,X.env.cells.lookup x=some c->H c=none
 pin:∀p∈X.pn++pins,s.heap.get? p.1=some p.2/\H p.1=none/\p.1≠X.env.locals/\p.1∉X.fs/\∀v,p.2.data≠.cell v
 fC:oX X.prog X.w H s.heap
 len:σ.length=X.N.length
section
variable{X:Cx}{pins:List (aF×Obj)}{σ:List (Option V)}{H H':Hp}{s:aO}{h':c9}
theorem Cx.Ok.aBe(ok:X.Ok)(e:X.base.get? b=some o):b∉X.fs:=λhb=>by
 have:=(ok.w8.mem hb).1
 rw[e]at this;cases this
theorem aCd.bs(I:aCd X pins σ H s):∀b o,X.base.get? b=some o->s.heap.get? b=some o/\H b=none:=λb o e=>⟨I.base.keep b o (I.ok.bs b o e).1 (I.ok.bs b o e).2 (I.ok.aBe e) (I.ok.Ip b o e),I.base.free b o (I.ok.bs b o e).1 (I.ok.bs b o e).2 (I.ok.Ip b o e)⟩
theorem aCd.bk(I:aCd X pins σ H s):∀b o,X.base.get? b=some o->s.heap.get? b=some o:=λb o e=>(I.bs b o e).1
theorem aCd.mod(I:aCd X pins σ H s):Mod X.K X.mg X.base:=I.ok.mod
theorem aCd.vz(I:aCd X pins σ H s):X.K.In s.heap:=I.ok.mod.V3.keeps I.bk
theorem aCd.lt(I:aCd X pins σ H s):X.env.locals<s.heap.objs.size:=let ⟨_,hn,_⟩:=I.loc;hn.lt
theorem aCd.sz(I:aCd X pins σ H s):X.sG.heap.objs.size<=s.heap.objs.size:=bw I.ok.above (Jr I.lt)
theorem aCd.aBf(I:aCd X pins σ H s)(h:s.heap.objs.size<=a):a∉X.fs:=λhb=>by obtain⟨_,o,ho,_⟩:=I.ok.w8.mem hb;exact absurd (bo (bC ho) (bw I.sz h)) (fO _)
theorem aCd.Tv(I:aCd X pins σ H s):∀x c,X.env.cells.lookup x=some c->c≠X.env.locals:=λx c e z=>by obtain⟨v,o,ho,hd⟩:=I.cell x c e;obtain⟨m,⟨o',es,ep,ho',hd',_⟩,_⟩:=I.loc;rw[z,ho']at ho;cases ho;rw[hd']at hd;cases hd
theorem aCd.w8(I:aCd X pins σ H s):s.heap.FunFrames X.base X.outer:=by
 have all:∀(l:List Env),(∀b∈BK l,b∈X.fs)->X.sG.heap.FunFrames X.base l->s.heap.FunFrames X.base l:=by
  intro l
  induction l with
  |nil=>intro _ _;trivial
  |cons env r ih=>intro hs hl;obtain⟨hk,⟨L,o,hf,hn,ho,hd⟩,hr⟩:=hl;have hL:L∈X.fs:=hs L (by unfold BK;rw[gP,hf];exact cA);obtain⟨sl,e⟩:=I.base.slot L o ho (I.ok.TX L hL) hL λz=>I.ok.IL L z hL;exact⟨hk,⟨L,_,hf,hn,e,hd⟩,ih (λb hb=>hs b (by unfold BK;rw[gP,hf];exact aq _ hb)) hr⟩
 exact all X.outer (λ_ hb=>hb) I.ok.w8
theorem aCd.stack(I:aCd X pins σ H s):s.heap.FunFrames X.base X.stack:=by
 rcases I.ok.XT with e|⟨e,hf⟩
 ·rw[e];exact I.w8
 ·rw[e];obtain⟨m,hn,_⟩:=I.loc;refine .cons (by rw[I.ok.kind];decide) hf hn ?_ I.w8;exact jg (bw I.ok.Od I.ok.above)
theorem aCd.LC(I:aCd X pins σ H s):∀b∈BK X.stack,b∈X.env.locals::X.fs:=λb hb=>by
 rcases I.ok.XT with e|⟨e,hf⟩
 ·rw[e]at hb;exact aq _ hb
 ·rw[e]at hb;unfold BK at hb;rw[gP,hf]at hb;exact hb
theorem aCd.B8(I:aCd X pins σ H s):∀b∈BK X.stack,H b=none:=λb hb=>by
 rcases af.mp (I.LC b hb)with e|hb
 ·rw[e];exact I.free
 ·obtain⟨_,o,ho,_⟩:=I.ok.w8.mem hb;exact I.base.free b o ho (I.ok.TX b hb) λz=>I.ok.IL b z hb
theorem aCd.step{g':Array aAl}{t':Nat}{d':Drawn}{ch:List aF}(I:aCd X pins σ H s)
  (hch:∀b∈ch,(b∈X.ex\/X.sG.heap.objs.size<=b)/\b≠X.env.locals/\(∀x c,X.env.cells.lookup x=some c->c≠b)/\∀p∈X.pn++pins,p.1≠b)
  (keep:∀b o,b≠X.env.locals->b∉X.fs->b∉ch->s.heap.get? b=some o->H b=none->h'.get? b=some o)
  (slot:∀b o,b≠X.env.locals->b∈X.fs->b∉ch->s.heap.get? b=some o->H b=none->∃sl,h'.get? b=some {o with slots:=sl}) (free:∀b o,b∉ch->s.heap.get? b=some o->H b=none->H' b=none)
  (there:∀b o,b∉ch->s.heap.get? b=some o->∃o',h'.get? b=some o')
  (xC:∀b xs,H b=some (.tup xs)->H' b=some (.tup xs)) (tu:∀b o u,H b=some (.k9 o u)->H' b=some (.k9 o u)) (xB:∀b ps,H b=some (.Vi ps)->∃more,H' b=some (.Vi (ps++more)))
  (ns:∀m,s.heap.Ns X.env.locals m->h'.Ns X.env.locals m) (fC:oX X.prog X.w H' h') (hg:zr g'):
  aCd X pins σ H' {s with heap:=h',gens:=g',drawn:=d',toks:=t'}:=by
 have neL:∀b o,X.sG.heap.get? b=some o->b≠X.env.locals:=λb o e=>cO (bo (bC e) I.ok.above);have neC:∀b o,X.sG.heap.get? b=some o->b∉X.ex->b∉ch:=λb o e hx hb=>by
  rcases(hch b hb).1 with z|z
  ·exact hx z
  ·exact absurd (bo (bC e) z) (fO _)
 have cellK:∀x c,X.env.cells.lookup x=some c->∀v,s.heap.IsCell c v->h'.IsCell c v:=λx c e v ⟨o,ho,hd⟩=>by
  have nch:c∉ch:=λz=>(hch c z).2.2.1 x c e rfl;by_cases hc:c∈X.fs
  ·obtain⟨sl,q⟩:=slot c o (I.Tv x c e) hc nch ho (I.kR x c e);exact⟨_,q,hd⟩
  ·exact⟨o,keep c o (I.Tv x c e) hc nch ho (I.kR x c e),hd⟩
 refine⟨I.ok,I.os,hg,⟨λb o e n hb hx=>?_,λb o e n hb hx=>?_,λb o e n hx=>?_,λb o e hx=>?_,λb xs e=>xC b xs (I.base.xC b xs e),λb o xs e=>tu b o xs (I.base.tu b o xs e),λb ps e=>?_⟩,?_,λx c e=>?_,?_,λx c e=>?_,λp hp=>?_,fC,I.len⟩
 ·exact keep b o (neL b o e) hb (neC b o e hx) (I.base.keep b o e n hb hx) (I.base.free b o e n hx)
 ·obtain⟨sl,e1⟩:=I.base.slot b o e n hb hx;obtain⟨pG,e2⟩:=slot b _ (neL b o e) hb (neC b o e hx) e1 (I.base.free b o e n hx);exact⟨pG,e2⟩
 ·obtain⟨o',e1⟩:=I.base.there b o e hx;exact free b o' (neC b o e hx) e1 (I.base.free b o e n hx)
 ·obtain⟨o',e1⟩:=I.base.there b o e hx;exact there b o' (neC b o e hx) e1
 ·obtain⟨m1,e1⟩:=I.base.xB b ps e;obtain⟨m2,e2⟩:=xB b _ e1;exact⟨m1++m2,by rw[e2,Array.append_assoc]⟩
 ·obtain⟨m,hn,hl⟩:=I.loc;refine⟨m,ns m hn,λi x v e1 e2 e3=>?_⟩;obtain⟨u,r,l⟩:=hl i x v e1 e2 e3;refine⟨u,r,?_⟩;rcases l with l|⟨k,c,e,z⟩
  ·exact .inl l
  ·exact .inr ⟨k,c,e,cellK x c e _ z⟩
 ·obtain⟨v,z⟩:=I.cell x c e;exact⟨v,cellK x c e v z⟩
 ·obtain⟨m,⟨o,_,_,ho,_⟩,_⟩:=I.loc;exact free _ o (λz=>(hch _ z).2.1 rfl) ho I.free
 ·obtain⟨v,o,ho,hd⟩:=I.cell x c e;exact free c o (λz=>(hch c z).2.2.1 x c e rfl) ho (I.kR x c e)
 ·obtain⟨e,n,ne,nf,d⟩:=I.pin p hp;have nch:p.1∉ch:=λz=>(hch p.1 z).2.2.2 p hp rfl;exact⟨keep p.1 p.2 ne nf nch e n,free p.1 p.2 nch e n,ne,nf,d⟩
theorem aCd.un{t':Nat}(I:aCd X pins σ H s)(u:Un X.fs [] H H' s.heap h')(fC:oX X.prog X.w H' h'):aCd X pins σ H' {s with heap:=h',toks:=t'}:=by
 obtain⟨m,⟨o,es,ep,ho,r⟩,_⟩:=id I.loc;obtain⟨sl,hL⟩:=u.any ho I.free (by simp)
 exact I.step (g':=s.gens) (d':=s.drawn) (ch:=[]) (λ_ z=>nomatch z) (λb o _ hb _ e n=>u.keep b o e n hb (by simp)) (λb o _ hb _ e n=>u.slot b o e n hb (by simp)) (λb o _ e n=>u.free b o e n (by simp)) (λb o _ e=>u.there b o e (by simp)) u.xC u.tu u.xB (λm' hm=>by
  obtain⟨o',es',ep',ho',r'⟩:=hm;rw[ho]at ho';cases ho';exact⟨_,es',ep',hL,r'⟩) fC I.bare
theorem aCd.call{t':Nat}{d':Drawn}(I:aCd X pins σ H s)(u:Un (BK X.stack) ch H H' s.heap h')(fC:oX X.prog X.w H' h')(hg:zr g')
  (hch:∀b∈ch,(b∈X.ex\/X.sG.heap.objs.size<=b)/\b≠X.env.locals/\(∀x c,X.env.cells.lookup x=some c->c≠b)/\∀p∈X.pn++pins,p.1≠b):
  aCd X pins σ H' {s with heap:=h',gens:=g',drawn:=d',toks:=t'}:=by
 obtain⟨m,⟨o,es,ep,ho,r⟩,_⟩:=id I.loc;obtain⟨sl,hL⟩:=u.any ho I.free λz=>(hch _ z).2.1 rfl
 exact I.step (ch:=ch) hch (λb o hL hb hc e n=>u.keep b o e n (λz=>(af.mp (I.LC b z)).elim hL hb) hc) (λb o _ _ hc e n=>u.any e n hc) (λb o hc e n=>u.free b o e n hc) (λb o hc e=>u.there b o e hc) u.xC u.tu u.xB (λm' hm=>by
  obtain⟨o',es',ep',ho',r'⟩:=hm;rw[ho]at ho';cases ho';exact⟨_,es',ep',hL,r'⟩) fC hg
theorem aCd.turned{t':Nat}(I:aCd X pins σ H s)(k:∀b o,b≠it->s.heap.get? b=some o->h'.get? b=some o)(hn:H it=none)(hL:it≠X.env.locals)
  (h1:it∈X.ex\/X.sG.heap.objs.size<=it) (h2:∀x c,X.env.cells.lookup x=some c->c≠it) (h3:∀p∈X.pn++pins,p.1≠it):aCd X pins σ H {s with heap:=h',toks:=t'}:=by
 have nit:∀b u,H b=some u->b≠it:=λb u e z=>by rw[z,hn]at e;cases e
 refine I.step (g':=s.gens) (d':=s.drawn) (ch:=[it]) (λb hb=>?_) (λb o _ _ hc e _=>k b o (λz=>hc (by simp[z])) e) (λb o _ _ hc e _=>⟨o.slots,k b o (λz=>hc (by simp[z])) e⟩) (λ_ _ _ _ n=>n)
  (λb o hc e=>⟨o,k b o (λz=>hc (by simp[z])) e⟩) (λ_ _ e=>e) (λ_ _ _ e=>e) (λb ps e=>⟨#[],by rw[e];simp⟩) (λm hm=>?_) (λb u e=>?_) I.bare
 ·have e:b=it:=by simpa using hb
  subst e;exact⟨h1,hL,h2,h3⟩
 ·obtain⟨o,es,ep,ho,r⟩:=hm;exact⟨o,es,ep,k _ o (j7 hL) ho,r⟩
 ·refine(I.fC b u e).sH (λc v hc q=>k c v ?_ q) (λ_ q=>q) λ_ _ q=>q;rcases hc with z|z
  ·rw[z];exact nit b u e
  ·exact nit c _ z
theorem aCd.tok(I:aCd X pins σ H s)(t:Nat):aCd X pins σ H {s with toks:=t}:=I.un (h':=s.heap) (t':=t) Un.refl I.fC
theorem aCd.kept{t':Nat}(I:aCd X pins σ H s)(k:∀b u,s.heap.get? b=some u->h'.get? b=some u):aCd X pins σ H {s with heap:=h',toks:=t'}:=I.un (Un.kept k) (I.fC.kept k)
theorem aCd.laid{t':Nat}(I:aCd X pins σ H s)(k:∀b u,s.heap.get? b=some u->h'.get? b=some u)(hp:s.heap.objs.size<=a)(new:gB X.prog X.w (aCc H a o) h' a o):
  aCd X pins σ (aCc H a o) {s with heap:=h',toks:=t'}:=I.un (Un.laid k hp (I.fC.fresh hp)) (I.fC.laid k hp new)
theorem aCd.write{o:HO}{t':Nat}(I:aCd X pins σ H s)(mu:VP (H x))(he:e=x\/H e=some (.own x))(k:∀b u,b≠e->s.heap.get? b=some u->h'.get? b=some u)(heo:∃u,h'.get? e=some u)
  (new:gB X.prog X.w (aCc H x o) h' x o):aCd X pins σ (aCc H x o) {s with heap:=h',toks:=t'}:=I.un (Un.write mu he k heo) (I.fC.write mu he k heo new)
theorem aCd.weak(I:aCd X pins σ H s)(hl:σ'.length=σ.length)(w:∀(i:Nat) v,σ'[i]?=some (some v)->σ[i]?=some (some v)):aCd X pins σ' H s:=
 ⟨I.ok,I.os,I.bare,I.base,let ⟨m,hn,hl'⟩:=I.loc;⟨m,hn,λi x v e1 e2 e3=>hl' i x v e1 (w i v e2) e3⟩,I.cell,I.free,I.kR,I.pin,I.fC,hl.trans I.len⟩
theorem aCd.MZ(I:aCd X pins σ H s)(h:∀p∈pins',s.heap.get? p.1=some p.2/\H p.1=none/\p.1≠X.env.locals/\p.1∉X.fs/\∀v,p.2.data≠.cell v):aCd X pins' σ H s:=
 ⟨I.ok,I.os,I.bare,I.base,I.loc,I.cell,I.free,I.kR,λp hp=>(bZ.mp hp).elim (λz=>I.pin p (vO _ z)) (h p),I.fC,I.len⟩
theorem y3{N:List Str}(hN:N.Nodup){i j:Nat}{x:Str}(a:N[i]?=some x)(b:N[j]?=some x):i=j:=by obtain⟨h1,e1⟩:=a8.mp a;obtain⟨h2,e2⟩:=a8.mp b;exact(List.getElem_inj hN).mp (e1.trans e2.symm)
theorem F2{M:yy}{A:cG}{E:aE->aO->Prop}{i:Nat}{x:Str}{v:V}{u:aE}{Q:Unit->aO->Prop}(I:aCd X pins σ H s)(hN:X.N.Nodup)(hi:X.N[i]?=some x)(hx:Loc X.env.scope x)(r:aCg v u)
  (h:∀s',aCd X pins (σ.set i (some v)) H s'->(∃a,js a s.heap s'.heap/\(a=X.env.locals\/X.env.cells.lookup x=some a))->Q () s') (hf:X.fn x=true\/X.env.scope.names.lookup x=some .local:=by first|exact .inl rfl|exact .inr rfl|assumption):bF M A (storeName X.env x u) Q E s:=by
 obtain⟨m,hn,hl⟩:=id I.loc;have hcls:(X.env.scope.kind==.class||(X.env.scope.kind==.module&&X.env.locals !=X.env.globals))=false:=by rw[I.ok.kind];rfl
 have hiσ:i<σ.length:=by rw[I.len];exact(a8.mp hi).1
 have Tv:=I.Tv;have tracked:∀{a:aF}{h':c9},(∃o,s.heap.get? a=some o/\H a=none)->js a s.heap h'->oX X.prog X.w H h':=λ{a h'} ha hs b ob e=>by
  obtain⟨_,_,hfree⟩:=ha;refine(I.fC b ob e).sH (λc w' hc q=>(hs.2 c ?_).trans q) (λ_ q=>q) λ_ _ q=>q;rintro rfl;rcases hc with rfl|hc
  ·rw[hfree]at e;cases e
  ·rw[hfree]at hc;cases hc
 rcases hx with hk|hk
 ·refine wpAny_storeName_local hk hn (λh' hn' hs=>?_) hcls;obtain⟨oL,_,_,hoL,_⟩:=id hn;refine h _ ⟨I.ok,I.os,I.bare,⟨λb o e n hb hx=>?_,λb o e n hb hx=>?_,I.base.free,λb o e hx=>?_,I.base.xC,I.base.tu,I.base.xB⟩,⟨_,hn',λj y v' e1 e2 e3=>?_⟩,λy c e=>?_,I.free,I.kR,λp hp=>?_,tracked ⟨oL,hoL,I.free⟩ hs,by simpa using I.len⟩ ⟨_,hs,.inl rfl⟩
  ·exact(hs.2 b (cO (bo (bC e) I.ok.above))).trans (I.base.keep b o e n hb hx)
  ·obtain⟨sl,e1⟩:=I.base.slot b o e n hb hx;exact⟨sl,(hs.2 b (cO (bo (bC e) I.ok.above))).trans e1⟩
  ·obtain⟨o',e1⟩:=I.base.there b o e hx;exact⟨o',(hs.2 b (cO (bo (bC e) I.ok.above))).trans e1⟩
  ·by_cases hj:j=i
   ·subst hj;rw[hi]at e1;cases e1;rw[jF hiσ]at e2;cases e2;exact⟨u,r,.inl ⟨hk,by simp⟩⟩
   ·rw[ji (j7 hj)]at e2;obtain⟨u',r',q⟩:=hl j y v' e1 e2 e3;refine⟨u',r',?_⟩;rcases q with⟨k,e⟩|⟨k,c,e,z⟩
    ·refine .inl ⟨k,?_⟩
     have:y≠x:=λe=>hj (y3 hN e1 (e▸hi))
     simp[this,e]
    ·exact .inr ⟨k,c,e,z.sameBut hs (Tv y c e)⟩
  ·obtain⟨w',z⟩:=I.cell y c e;exact⟨w',z.sameBut hs (Tv y c e)⟩
  ·obtain⟨e,n,ne,nf,d⟩:=I.pin p hp;exact⟨(hs.2 p.1 ne).trans e,n,ne,nf,d⟩
 ·have hfn:X.fn x=true:=by
   rcases hf with z|z
   ·exact z
   ·rw[z]at hk;cases hk
  obtain⟨c,hc⟩:=I.ok.has x (.inl hk);obtain⟨w',z⟩:=I.cell x c hc;refine wpAny_storeName_cell I.ok.kind hk hc z (λh' hc' hs=>?_);obtain⟨oc,hoc,hocd⟩:=id z;refine h {s with heap:=h'} ⟨I.ok,I.os,I.bare,⟨λb o e n hb hx=>?_,λb o e n hb hx=>?_,I.base.free,λb o e hx=>?_,I.base.xC,I.base.tu,I.base.xB⟩,⟨m,hn.sameBut hs (j7 (Tv x c hc)),λj y v' e1 e2 e3=>?_⟩,λy c' e=>?_,I.free,I.kR,λp hp=>?_,tracked ⟨oc,hoc,I.kR x c hc⟩ hs,by simpa using I.len⟩ ⟨c,hs,.inr hc⟩
  ·exact(hs.2 b (cO (bo (bC e) (I.ok.VY x c hfn hc)))).trans (I.base.keep b o e n hb hx)
  ·obtain⟨sl,e1⟩:=I.base.slot b o e n hb hx;exact⟨sl,(hs.2 b (cO (bo (bC e) (I.ok.VY x c hfn hc)))).trans e1⟩
  ·obtain⟨o',e1⟩:=I.base.there b o e hx;exact⟨o',(hs.2 b (cO (bo (bC e) (I.ok.VY x c hfn hc)))).trans e1⟩
  ·by_cases hj:j=i
   ·subst hj;rw[hi]at e1;cases e1;rw[jF hiσ]at e2;cases e2;exact⟨u,r,.inr ⟨.inl hk,c,hc,hc'⟩⟩
   ·rw[ji (j7 hj)]at e2;obtain⟨u',r',q⟩:=hl j y v' e1 e2 e3;refine⟨u',r',?_⟩;rcases q with q|⟨k,c',e,z'⟩
    ·exact .inl q
    ·refine .inr ⟨k,c',e,z'.sameBut hs ?_⟩;rintro rfl;exact hj (y3 hN e1 (I.ok.inj _ _ _ e hc▸hi))
  ·by_cases hcc:c'=c
   ·subst hcc;exact⟨_,hc'⟩
   ·obtain⟨w2,z2⟩:=I.cell y c' e;exact⟨w2,z2.sameBut hs hcc⟩
  ·obtain⟨e,n,ne,nf,d⟩:=I.pin p hp;refine⟨(hs.2 p.1 ?_).trans e,n,ne,nf,d⟩;intro q;rw[q,hoc]at e;have q':oc=p.2:=aV e;exact d w' (by rw[<-q'];exact hocd)
theorem uW{M:yy}{A:cG}{E:aE->aO->Prop}{Q:Unit->aO->Prop}(I:aCd X pins σ H s)(hN:X.N.Nodup)(hi:X.N[i]?=some x)(hx:Loc X.env.scope x)(r:aCg v u)
  (h:∀s',aCd X pins (σ.set i (some v)) H s'->Q () s') (hf:X.fn x=true\/X.env.scope.names.lookup x=some .local:=by first|exact .inl rfl|exact .inr rfl|assumption):bF M A (storeName X.env x u) Q E s:=
 F2 I hN hi hx r (λs' I' _=>h s' I') hf
theorem aCd.Hm(I:aCd X pins σ H s)(ho:s'.os=s.os)(u:Un (BK X.stack) ch H H' s.heap s'.heap)(fC:oX X.prog X.w H' s'.heap)(hg:zr s'.gens)
  (hch:∀b∈ch,(b∈X.ex\/X.sG.heap.objs.size<=b)/\b≠X.env.locals/\(∀x c,X.env.cells.lookup x=some c->c≠b)/\∀p∈X.pn++pins,p.1≠b):aCd X pins σ H' s':=by
 obtain⟨h',g',d',t',o'⟩:=s';have e:o'=s.os:=ho;subst e;exact I.call (g':=g') (t':=t') (d':=d') u fC hg hch
end
abbrev XK:=aE->Option aF->Hp->Prop
abbrev St:=List (Option V)
abbrev VK:=V->Hp->Prop
abbrev TE:=St->Hp->VK->Prop
abbrev TT:=St->Hp->(Bool->Hp->Prop)->Prop
abbrev TA:=St->Hp->(List V->Hp->Prop)->Prop
structure Ends where
 nx:St->Hp->Prop
 rt:VK
 bk:St->Hp->Prop:=λ_ _=>False
 ct:St->Hp->Prop:=λ_ _=>False
abbrev TS:=Ends->St->Hp->Prop
inductive EP(X:Cx)(pins:List (aF×Obj))(σ:St)(Q:VK)(u:aE)(s':aO):Prop
 |mk:∀v H',aCd X pins σ H' s'->aCg v u->Q v H'->EP X pins σ Q u s'
def TP(X:Cx)(pins:List (aF×Obj))(σ:St)(Q:Bool->Hp->Prop)(b:Bool)(s':aO):Prop:=∃H',aCd X pins σ H' s'/\Q b H'
inductive AP(X:Cx)(pins:List (aF×Obj))(σ:St)(Q:List V->Hp->Prop)(us:List aE)(s':aO):Prop
 |mk:∀vs H',aCd X pins σ H' s'->aCh vs us->Q vs H'->AP X pins σ Q us s'
def SP(X:Cx)(pins:List (aF×Obj))(D:Ends)(f:Flow)(s':aO):Prop:=
 match f with
 |.next=>∃σ' H',aCd X pins σ' H' s'/\D.nx σ' H'
 |.brk=>∃σ' H',aCd X pins σ' H' s'/\D.bk σ' H'
 |.cont=>∃σ' H',aCd X pins σ' H' s'/\D.ct σ' H'
 |.ret u=>∃v σ' H',aCd X pins σ' H' s'/\aCg v u/\D.rt v H'
def PE(X:Cx)(e:cQ)(t:TE):Prop:=
 ∀(pins:List (aF×Obj))(s:aO)(σ:St)(H:Hp)(Q:VK),aCd X pins σ H s->t σ H Q->bF (model X.prog X.w) X.A (eval e X.env) (EP X pins σ Q) X.xe s
def PT(X:Cx)(e:cQ)(t:TT):Prop:=
 ∀(pins:List (aF×Obj))(s:aO)(σ:St)(H:Hp)(Q:Bool->Hp->Prop),aCd X pins σ H s->t σ H Q->bF (model X.prog X.w) X.A (isTrue e X.env (eval e X.env)) (TP X pins σ Q) X.xe s
def PW(X:Cx)(e:cQ)(t:TT):Prop:=
 ∀(whole:Sem aE)(pins:List (aF×Obj))(s:aO)(σ:St)(H:Hp)(Q:Bool->Hp->Prop),aCd X pins σ H s->t σ H Q->bF (model X.prog X.w) X.A (isTrue e X.env whole) (TP X pins σ Q) X.xe s
theorem PW.pt(h:PW X e t):PT X e t:=h _
def PA(X:Cx)(es:List cQ)(t:TA):Prop:=
 ∀(pos:Pos)(pins:List (aF×Obj))(s:aO)(σ:St)(H:Hp)(Q:List V->Hp->Prop),aCd X pins σ H s->t σ H Q->bF (model X.prog X.w) X.A (spliced (iT pos (b4 es X.env))) (AP X pins σ Q) X.xe s
def PS(X:Cx)(st:Stmt)(t:TS):Prop:=
 ∀(pins:List (aF×Obj))(s:aO)(σ:St)(H:Hp)(D:Ends),aCd X pins σ H s->t D σ H->bF (model X.prog X.w) X.A (exec st X.env) (SP X pins D) X.xe s
def HG(X:Cx)(st:List Stmt)(t:TS):Prop:=
 ∀(pins:List (aF×Obj))(s:aO)(σ:St)(H:Hp)(D:Ends),aCd X pins σ H s->t D σ H->bF (model X.prog X.w) X.A (execs st X.env) (SP X pins D) X.xe s
theorem fT{α:Type}{t:Sem α}{Q Q':α->aO->Prop}{M:yy}{A:cG}{E:aE->aO->Prop}{s:aO}(h:bF M A t Q E s)(hQ:∀a s,Q a s->Q' a s):bF M A t Q' E s:=e8 h hQ λ_ _ x=>x
section
variable{X:Cx}
inductive g9(i:Nat)(σ:St)(H:Hp)(Q:VK):Prop
 |mk:∀v,σ[i]?=some (some v)->Q v H->g9 i σ H Q
def tC(v:V):TE:=λ_ H Q=>Q v H
theorem Wk(hN:X.N[i]?=some x)(hv:WD X.env.scope x)(hd:(x==("__debug__":Str))=false:=by decide)(hcd:(x==("__classdict__":Str))=false:=by decide):PE X (.Name x pos) (g9 i):=by
 intro pins s σ H Q I h;obtain⟨v,e,h⟩:=h;obtain⟨m,hn,hl⟩:=I.loc;obtain⟨u,r,l⟩:=hl i x v hN e hv;have fin:EP X pins σ Q u s:=⟨v,H,I,r,h⟩;rcases l with⟨hk,hm⟩|⟨hk,c,hc,hcell⟩
 ·exact X9 (VJ I.ok.kind hk hn hm fin) hd
 ·rcases hk with hk|hk
  ·exact X9 (Vl I.ok.kind hk hc hcell fin) hd
  ·exact X9 (wpAny_loadName_free I.ok.kind hk hc hcell fin hcd) hd
theorem bB{i j pos}:PE X (.Constant (.int i) j pos) (tC (.int i)):=λ_ _ _ H _ I h=>wpAny_Constant_int ⟨.int i,H,I.tok _,⟨_,rfl⟩,h⟩
theorem FL{b j pos}:PE X (.Constant (.bool b) j pos) (tC (.bl b)):=λ_ _ _ H _ I h=>Constant_bool ⟨.bl b,H,I,rfl,h⟩
theorem uP{j pos}:PE X (.Constant .none j pos) (tC .fB):=λ_ _ _ H _ I h=>Constant_none ⟨.fB,H,I,rfl,h⟩
theorem cq{x j pos}:PE X (.Constant (.str x) j pos) (tC (.str x)):=λ_ _ _ H _ I h=>Calls.Constant_str ⟨.str x,H,I.tok _,⟨_,rfl⟩,h⟩
def Gl(X:Cx)(x:Str):Prop:=X.env.kindOf x=some .globalImplicit
theorem ke{E:aE->aO->Prop}{pos:Pos}(I:aCd X pins σ H s)(hg:Gl X x)(hm:X.mg x=some u)(h:Q u s)
  (hd:(x==("__debug__":Str))=false:=by decide):bF (model X.prog X.w) X.A (eval (.Name x pos) X.env) Q E s:=
 Ds I.ok.kind hg (Calls.loadGlobal_global (by rw[I.ok.glob];exact I.mod.glob.keeps I.bk) hm h) hd
theorem z6{E:aE->aO->Prop}{pos:Pos}(I:aCd X pins σ H s)(hg:Gl X x)(hm:X.mg x=none)(hv:fU x=some u)(h:Q u s)
  (hn:x≠"__name__":=by decide) (hd:(x==("__debug__":Str))=false:=by decide):bF (model X.prog X.w) X.A (eval (.Name x pos) X.env) Q E s:=by
 obtain⟨mb,h1,h2⟩:=I.mod.blt;exact Ds I.ok.kind hg (Calls.loadGlobal_builtin (by rw[I.ok.glob];exact I.mod.glob.keeps I.bk) hm (by rw[I.ok.blt];exact h1.keeps I.bk) ((h2 x hn).trans hv) h) hd
theorem U2(hg:Gl X x)(hm:X.mg x=some u)(r:aCg v u)(hd:(x==("__debug__":Str))=false:=by decide):PE X (.Name x pos) (tC v):=
 λ_ _ _ H _ I h=>ke I hg hm ⟨v,H,I,r,h⟩ hd
variable{a b:cQ}{ta tb:TE}{pos:Pos}
def PC(X:Cx)(op:OX)(a b:cQ)(t:TE):Prop:=
 ∀(pins:List (aF×Obj))(s:aO)(σ:St)(H:Hp)(Q:VK),aCd X pins σ H s->t σ H Q->
  bF (model X.prog X.w) X.A (eval a X.env) (λv s₁=>bF (model X.prog X.w) X.A (eval b X.env) (λu s₂=>bF (model X.prog X.w) X.A (gC op v u) (EP X pins σ Q) X.xe s₂) X.xe s₁) X.xe s
theorem Io(b:cQ)(h:op≠.In)(h2:op≠.NotIn):jk op b=false:=by
 have e1:(op==aAi)=false:=by cases op <;> first|rfl|exact absurd rfl h
 have e2:(op==Xf)=false:=by cases op <;> first|rfl|exact absurd rfl h2
 cases b <;> simp[jk,e1,e2]
def aB1(ta:TE):TE:=λσ H Q=>ta σ H λx H1=>Q (.bl (decide (x=.fB))) H1
theorem aCg.RE(r:aCg x v):(v==f7)=decide (x=.fB):=by
 cases x with
 |fB=>cases r;rfl
 |bl _=>cases r;rfl
 |int _=>obtain⟨t,rfl⟩:=r;rfl
 |str _=>obtain⟨t,rfl⟩:=r;rfl
 |Fu _=>obtain⟨t,rfl⟩:=r;rfl
 |flt _=>obtain⟨t,rfl⟩:=r;rfl
 |ref _=>cases r;rfl
 |ty _=>cases r;rfl
theorem Kl{j pos'}(ha:PE X a ta):PC X .Is a (.Constant .none j pos') (aB1 ta):=by intro pins s σ H Q I h;refine fT (ha pins s σ H _ I h) λv s1 ⟨x,H1,I1,r1,q1⟩=>?_;exact Constant_none (is_none_gen ⟨.bl _,H1,I1,by rw[r1.RE];rfl,q1⟩)
inductive xB(Q:(Bool->Hp->Prop))(x:V)(H1:Hp):Prop
 |mk:∀c,x=.bl c->Q c H1->xB Q x H1
def tB(t:TE):TT:=λσ H Q=>t σ H (xB Q)
theorem RQ(h:PC X op a b t)(h1:jk op b=false:=by first|exact Io _ (by decide) (by decide)|rfl):PE X (.Compare a [op] [b] pos) t:=λpins s σ H Q I hw=>aB8 (h pins s σ H Q I hw) h1
theorem zf(h:PC X op a b t)(h1:jk op b=false:=by first|exact Io _ (by decide) (by decide)|rfl):PT X (.Compare a [op] [b] pos) (tB t):=by intro pins s σ H Q I hw;refine T5 (fT (h pins s σ H _ I hw) λv s1 h1=>fT h1 λu s2 h2=>fT h2 λc s3 ⟨x,H1,I1,r1,q1⟩=>?_) h1;obtain⟨d,rfl,q⟩:=q1;cases r1;exact gY ⟨H1,I1,q⟩
variable{tA tB':TT}{rest:List cQ}
def aBw(t u:TT):TT:=λσ H Q=>t σ H λc H1=>if c=true then u σ H1 Q else Q false H1
def tOr(t u:TT):TT:=λσ H Q=>t σ H λc H1=>if c=true then Q true H1 else u σ H1 Q
def aB3(t:TT):TT:=λσ H Q=>t σ H λc H1=>Q (!c) H1
theorem pF(ha:PT X a tA):PW X (.BoolOp .And [a] pos) tA:=by
 intro wh pins s σ H Q I h;refine isTrue_and (fT (ha pins s σ H Q I h) λc s1 e=>?_);cases c with
 |true=>exact isTrue_and_nil e
 |false=>exact e
theorem zg(ha:PT X a tA):PW X (.BoolOp .Or [a] pos) tA:=by
 intro wh pins s σ H Q I h;refine isTrue_or (fT (ha pins s σ H Q I h) λc s1 e=>?_);cases c with
 |false=>exact isTrue_or_nil e
 |true=>exact e
theorem uS(ha:PT X a tA)(hb:PW X (.BoolOp .And (b::rest) pos) tB'):PW X (.BoolOp .And (a::b::rest) pos) (aBw tA tB'):=by
 intro wh pins s σ H Q I h;refine isTrue_and (fT (ha pins s σ H _ I h) λc s1 ⟨H1,I1,q1⟩=>?_);cases c with
 |true=>exact hb wh pins s1 σ H1 Q I1 q1
 |false=>exact⟨H1,I1,q1⟩
theorem FT(ha:PT X a tA)(hb:PW X (.BoolOp .Or (b::rest) pos) tB'):PW X (.BoolOp .Or (a::b::rest) pos) (tOr tA tB'):=by
 intro wh pins s σ H Q I h;refine isTrue_or (fT (ha pins s σ H _ I h) λc s1 ⟨H1,I1,q1⟩=>?_);cases c with
 |true=>exact⟨H1,I1,q1⟩
 |false=>exact hb wh pins s1 σ H1 Q I1 q1
theorem uR(ha:PT X a tA):PT X (.UnaryOp .Not a pos) (aB3 tA):=by intro pins s σ H Q I h;exact isTrue_not (ha pins s σ H (λc H1=>Q (!c) H1) I h)
def Ve(ta tb:TE):TE:=λσ H Q=>ta σ H λx H1=>∃c,x=.bl c/\if c=true then tb σ H1 Q else Q (.bl false) H1
def X4(ta tb:TE):TE:=λσ H Q=>ta σ H λx H1=>∃c,x=.bl c/\if c=true then Q (.bl true) H1 else tb σ H1 Q
theorem qk{op}(h:PE X a t):PE X (.BoolOp op [a] pos) t:=λpins s σ H Q I hw=>BoolOp_one (h pins s σ H Q I hw)
theorem wu(ha:PE X a ta)(hb:PE X (.BoolOp .And (b::rest) pos) tb):PE X (.BoolOp .And (a::b::rest) pos) (Ve ta tb):=by
 intro pins s σ H Q I h;refine BoolOp_and (fT (ha pins s σ H _ I h) λv s1 ⟨x,H1,I1,r1,q1⟩=>?_);obtain⟨c,rfl,q1⟩:=q1;cases r1;refine gY ?_;cases c with
 |true=>exact hb pins s1 σ H1 Q I1 q1
 |false=>exact⟨.bl false,H1,I1,rfl,q1⟩
theorem V8(ha:PE X a ta)(hb:PE X (.BoolOp .Or (b::rest) pos) tb):PE X (.BoolOp .Or (a::b::rest) pos) (X4 ta tb):=by
 intro pins s σ H Q I h;refine BoolOp_or (fT (ha pins s σ H _ I h) λv s1 ⟨x,H1,I1,r1,q1⟩=>?_);obtain⟨c,rfl,q1⟩:=q1;cases r1;refine gY ?_;cases c with
 |false=>exact hb pins s1 σ H1 Q I1 q1
 |true=>exact⟨.bl true,H1,I1,rfl,q1⟩
def tIf(t:TT)(ta tb:TE):TE:=λσ H Q=>t σ H λc H1=>if c=true then ta σ H1 Q else tb σ H1 Q
theorem lx(hc:PT X c tA)(ha:PE X a ta)(hb:PE X b tb):PE X (.IfExp c a b pos) (tIf tA ta tb):=by
 intro pins s σ H Q I h;refine wpAny_IfExp (fT (hc pins s σ H _ I h) λd s1 ⟨H1,I1,q1⟩=>?_);cases d with
 |true=>exact ha pins s1 σ H1 Q I1 q1
 |false=>exact hb pins s1 σ H1 Q I1 q1
end
def bf(K:aU)(H:Hp)(a:aF)(xs:List V):Prop:=
 Rd H a (.lst xs)\/
  ∃(o:Obj)(its:Array aE)(n:Nat),K.lookup a=some o/\o.cls=.type "list"/\o.dict=none/\o.data=.seq its n/\its.size<=aj/\aCh xs its.toList
def qU(K:aU)(H:Hp)(a:aF)(xs:List V):Prop:=
 Rd H a (.tup xs)\/
  ∃(o:Obj)(its:Array aE)(n:Nat),K.lookup a=some o/\o.cls=.type "tuple"/\o.data=.seq its n/\its.size<=aj/\aCh xs its.toList
def aA0:aE->Option V
 |.none=>some .fB
 |.bool b=>some (.bl b)
 |.int i _=>some (.int i)
 |.str x _=>some (.str x)
 |.bytes b _=>some (.Fu b)
 |.float b _=>some (.flt b)
 |.ref a=>some (.ref a)
 |.type n=>some (.ty n)
 |_=>none
theorem aCg.abs(r:aCg x u):aA0 u=some x:=by
 cases x with
 |fB=>cases r;rfl
 |bl _=>cases r;rfl
 |int _=>obtain⟨t,rfl⟩:=r;rfl
 |str _=>obtain⟨t,rfl⟩:=r;rfl
 |Fu _=>obtain⟨t,rfl⟩:=r;rfl
 |flt _=>obtain⟨t,rfl⟩:=r;rfl
 |ref _=>cases r;rfl
 |ty _=>cases r;rfl
theorem aCg.inj(r:aCg x u)(q:aCg y u):x=y:=aV (r.abs.symm.trans q.abs)
theorem aCh.inj:∀{xs ys:List V}{us:List aE},aCh xs us->aCh ys us->xs=ys
 |_,_,_,.nil,.nil=>rfl
 |_,_,_,.cons r t,.cons r' t'=>by rw[r.inj r',aCh.inj t t']
section
variable{X:Cx}{pins:List (aF×Obj)}{σ:St}{H:Hp}{s:aO}{a:aF}{xs ys:List V}
theorem bf.of{K:aU}(h:H a=some (.lst xs)):bf K H a xs:=.inl (.inl h)
theorem qU.of{K:aU}(h:H a=some (.tup xs)):qU K H a xs:=.inl (.inl h)
theorem aCd.list(I:aCd X pins σ H s)(h:bf X.K H a xs):∃its:List aE,aCh xs its/\PlainL s.heap a its.toArray/\xs.length<=aj:=by
 rcases h with h|⟨o,its,n,hk,hc,hd,hs,hz,r⟩
 ·obtain⟨z,its,n,r,e⟩:=h.ok I.fC;exact⟨its,r,⟨_,n,e,rfl,rfl,rfl⟩,z⟩
 ·refine⟨its.toList,r,⟨o,n,I.vz a o hk,hc,hd,by simpa using hs⟩,?_⟩;have e:=r.length;simp only[mj]at e;omega
theorem aCd.tuple(I:aCd X pins σ H s)(h:qU X.K H a xs):∃its:List aE,aCh xs its/\IsTup s.heap a its.toArray/\xs.length<=aj:=by
 rcases h with h|⟨o,its,n,hk,hc,hs,hz,r⟩
 ·obtain⟨z,its,r,p⟩:=h.ok I.fC;exact⟨its,r,p,z⟩
 ·refine⟨its.toList,r,⟨o,I.vz a o hk,hc,n,by simpa using hs⟩,?_⟩;have e:=r.length;simp only[mj]at e;omega
theorem aCd.yV(I:aCd X pins σ H s)(h:bf X.K H a xs)(h':bf X.K H a ys):xs=ys:=by
 obtain⟨its,r,⟨o,n,e,_,_,d⟩,_⟩:=I.list h;obtain⟨its',r',⟨o',n',e',_,_,d'⟩,_⟩:=I.list h';rw[e]at e';cases e';rw[d]at d';injection d' with d1 _
 have:its=its':=by simpa using congrArg Vm d1
 subst this;exact r.inj r'
end
abbrev Cx.EV(X:Cx)(E:aE->aO->Prop):Cx:={X with xe:=E}
abbrev Cx.Yt(X:Cx):Cx:=X.EV λ_ _=>False
theorem Cx.Ok.EV{X:Cx}(ok:X.Ok)(E:aE->aO->Prop):(X.EV E).Ok:=
 ⟨ok.mod,ok.kind,ok.glob,ok.blt,ok.above,ok.inj,ok.has,ok.VY,ok.hd,ok.frames,ok.XT,ok.WV,ok.bs,ok.Od,ok.Ip,ok.IL,ok.w8,ok.TX⟩
theorem Cx.Ok.uZ{X:Cx}{E:aE->aO->Prop}(ok:(X.EV E).Ok):X.Ok:=
 ⟨ok.mod,ok.kind,ok.glob,ok.blt,ok.above,ok.inj,ok.has,ok.VY,ok.hd,ok.frames,ok.XT,ok.WV,ok.bs,ok.Od,ok.Ip,ok.IL,ok.w8,ok.TX⟩
section
variable{X:Cx}{pins:List (aF×Obj)}{σ:St}{H:Hp}{s:aO}{E:aE->aO->Prop}
theorem aCd.EV(I:aCd X pins σ H s)(E:aE->aO->Prop):aCd (X.EV E) pins σ H s:=⟨I.ok.EV E,I.os,I.bare,I.base,I.loc,I.cell,I.free,I.kR,I.pin,I.fC,I.len⟩
theorem aCd.uZ(I:aCd (X.EV E) pins σ H s):aCd X pins σ H s:=⟨I.ok.uZ,I.os,I.bare,I.base,I.loc,I.cell,I.free,I.kR,I.pin,I.fC,I.len⟩
theorem SP.uZ(h:SP (X.EV E) pins D f s'):SP X pins D f s':=by
 cases f with
 |next=>obtain⟨σ',H',I,q⟩:=h;exact⟨σ',H',I.uZ,q⟩
 |brk=>obtain⟨σ',H',I,q⟩:=h;exact⟨σ',H',I.uZ,q⟩
 |cont=>obtain⟨σ',H',I,q⟩:=h;exact⟨σ',H',I.uZ,q⟩
 |ret u=>obtain⟨v,σ',H',I,r,q⟩:=h;exact⟨v,σ',H',I.uZ,r,q⟩
theorem HG.Yt{st:List Stmt}{t:TS}(h:HG X.Yt st t):HG X st t:=λpins s σ H D I hw=>e8 (h pins s σ H D (I.EV _) hw) (λ_ _ q=>q.uZ) λ_ _ z=>dm z
end
section
variable{X:Cx}{st:Stmt}{rest:List Stmt}{t u:TS}{e:cQ}{te:TE}{pos:Pos}
def S9:TS:=λD σ H=>D.nx σ H
def Sa(t u:TS):TS:=λD σ H=>t {D with nx:=u D} σ H
theorem b8:HG X [] S9:=λ_ _ σ H _ I h=>pU ⟨σ,H,I,h⟩
theorem aD(h1:PS X st t)(h2:HG X rest u):HG X (st::rest) (Sa t u):=by
 intro pins s σ H D I h;refine ZU (fT (h1 pins s σ H {D with nx:=u D} I h) λf s1 q=>?_);cases f with
 |next=>obtain⟨σ',H',I',q⟩:=q;exact h2 pins s1 σ' H' D I' q
 |ret v=>exact q
 |brk=>exact q
 |cont=>exact q
theorem aL(h1:PS X st t):HG X [st] t:=by
 intro pins s σ H D I h;refine ZU (fT (h1 pins s σ H D I h) λf s1 q=>?_);cases f with
 |next=>exact pU q
 |ret v=>exact q
 |brk=>exact q
 |cont=>exact q
theorem aCd.quiet(I:aCd X pins σ H s):interactive X.env=false:=by simp[interactive,I.ok.kind]
def Ah(te:TE):TS:=λD σ H=>te σ H λ_ H1=>D.nx σ H1
theorem ax(he:PE X e te)(hs:lW e none pos.line X.env=pure false:=by rfl):PS X (.Expr e pos) (Ah te):=by intro pins s σ H D I h;exact wpAny_Expr_any (fT (he pins s σ H _ I h) λv s1 ⟨x,H1,I1,r1,q1⟩=>⟨σ,H1,I1,q1⟩) I.quiet hs
def Gr(te:TE):TS:=λD σ H=>te σ H D.rt
theorem bE(he:PE X e te):PS X (.Return (some e) pos) (Gr te):=by intro pins s σ H D I h;exact wpAny_Return_some (fT (he pins s σ H _ I h) λv s1 ⟨x,H1,I1,r1,q1⟩=>⟨x,σ,H1,I1,r1,q1⟩)
def ZM(c:TT)(t u:TS):TS:=λD σ H=>c σ H λb H1=>if b=true then t D σ H1 else u D σ H1
theorem cf(hc:PT X c tc)(ha:HG X a t)(hb:HG X b u):PS X (.If c a b pos) (ZM tc t u):=by
 intro pins s σ H D I h;refine wpAny_If (fT (hc pins s σ H _ I h) λd s1 ⟨H1,I1,q1⟩=>?_);cases d with
 |true=>exact ha pins s1 σ H1 D I1 q1
 |false=>exact hb pins s1 σ H1 D I1 q1
end
abbrev TG:=V->St->Hp->(St->Hp->Prop)->Prop
abbrev VR:=List V->St->Hp->(St->Hp->Prop)->Prop
def PG(X:Cx)(target:cQ)(t:TG):Prop:=
 ∀(pins:List (aF×Obj))(s:aO)(σ:St)(H:Hp)(v:V)(u:aE)(Q:St->Hp->Prop),aCd X pins σ H s->aCg v u->t v σ H Q->
  bF (model X.prog X.w) X.A (assign target X.env u) (λ_ s'=>∃σ' H',aCd X pins σ' H' s'/\Q σ' H') X.xe s
def YL(X:Cx)(ts:List cQ)(t:VR):Prop:=
 ∀(pins:List (aF×Obj))(s:aO)(σ:St)(H:Hp)(vs:List V)(us:List aE)(Q:St->Hp->Prop),aCd X pins σ H s->aCh vs us->t vs σ H Q->
  bF (model X.prog X.w) X.A (assignInOrder ((nI ts X.env).map (·.2)) us) (λ_ s'=>∃σ' H',aCd X pins σ' H' s'/\Q σ' H') X.xe s
abbrev WB:=V->V->V->Hp->(Hp->Prop)->Prop
def YM(X:Cx)(t:WB):Prop:=
 ∀(pins:List (aF×Obj))(s:aO)(σ:St)(H:Hp)(o i v:V)(ov iv u:aE)(Q:Hp->Prop),aCd X pins σ H s->aCg o ov->aCg i iv->aCg v u->t o i v H Q->
  bF (model X.prog X.w) X.A (setItem ov iv u) (λ_ s'=>∃H',aCd X pins σ H' s'/\Q H') X.xe s
abbrev Zu:=V->V->Hp->VK->Prop
def PIp(X:Cx)(op:Ju)(t:Zu):Prop:=
 ∀(pins:List (aF×Obj))(s:aO)(σ:St)(H:Hp)(x y:V)(v u:aE)(Q:VK),aCd X pins σ H s->aCg x v->aCg y u->t x y H Q->
  bF (model X.prog X.w) X.A (inplaceOp op v u) (EP X pins σ Q) X.xe s
section
variable{X:Cx}{pos:Pos}
def tw(i:Nat):TG:=λv σ H Q=>Q (σ.set i (some v)) H
theorem MY(hN:X.N.Nodup)(hi:X.N[i]?=some x)(hx:Loc X.env.scope x)(hf:X.fn x=true\/X.env.scope.names.lookup x=some .local:=by first|exact .inl rfl|exact .inr rfl|assumption):PG X (.Name x pos) (tw i):=by intro pins s σ H v u Q I r h;exact Xy (uW I hN hi hx r (λs' I'=>⟨_,H,I',h⟩) hf)
def Yl:VR:=λvs σ H Q=>vs=[]/\Q σ H
inductive QI(t:TG)(u:VR)(vs:List V)(σ:St)(H:Hp)(Q:(St->Hp->Prop)):Prop
 |mk:∀v r,vs=v::r->(t v σ H λσ' H'=>u r σ' H' Q)->QI t u vs σ H Q
theorem pB:YL X [] Yl:=by intro pins s σ H vs us Q I r h;obtain⟨e,h⟩:=h;subst e;cases r;exact assignInOrder_nil ⟨σ,H,I,h⟩
theorem gH(h1:PG X e t)(h2:YL X es u)
  (hs:(nI (e::es) X.env).map (·.2)=assign e X.env::(nI es X.env).map (·.2):=by rfl):YL X (e::es) (QI t u):=by
 intro pins s σ H vs us Q I r h;obtain⟨v,vr,e1,h⟩:=h;subst e1;cases r with
 |cons r rr=>rw[hs];refine assignInOrder_cons (fT (h1 pins s σ H _ _ _ I r h) λ_ s1 ⟨σ1,H1,I1,q1⟩=>?_);exact h2 pins s1 σ1 H1 _ _ Q I1 rr q1
inductive WZ(K:aU)(n:Nat)(t:VR)(v:V)(σ:St)(H:Hp)(Q:(St->Hp->Prop)):Prop
 |mk:∀a xs,v=.ref a->qU K H a xs->xs.length=n->t xs σ H Q->WZ K n t v σ H Q
theorem zb{k:Nat}{n:Nat}(hc:X.calm=true)(h:YL X es t)
  (hn:(nI es X.env).length=n:=by rfl) (hst:(nI es X.env).findIdx? (·.1)=none:=by rfl):PG X (.Tuple es k pos) (WZ X.K n t):=by
 intro pins s σ H v u Q I r hw;obtain⟨a,xs,e1,hq,hl,hw⟩:=hw;subst e1;cases r;obtain⟨its,rv,ht,hz⟩:=I.tuple hq;refine assign_Tuple_tuple (I.ok.hd hc) ht (by simp[hn,<-hl,rv.length]) hst λh' hx=>?_;have I1:aCd X pins σ H {s with heap:=h'}:=I.kept (t':=s.toks) λb o e=>hx b o (cO (bC e)) e;exact h pins _ σ H xs _ Q I1 (by simpa using rv) hw
def aA6(to ti:TE)(t:WB):TG:=λv σ H Q=>to σ H λo H1=>ti σ H1 λi H2=>t o i v H2 λH3=>Q σ H3
theorem Wl(ho:PE X o to)(hi:PE X i ti)(hs:YM X t)
  (ha:∀v,assign (.Subscript o i pos) X.env v=(do
   let ov <-A2 [v] (eval o X.env)
   let iv <-A2 [v,ov] (eval i X.env)
   Ag pos
   A2 [v,ov,iv] (setItem ov iv v)
   release [v,ov,iv] []):=by intro _;rfl):PG X (.Subscript o i pos) (aA6 to ti t):=by
 intro pins s σ H v u Q I r h;rw[ha];refine aI (iy (fT (ho pins s σ H _ I h) λov s1 ⟨x,H1,I1,r1,q1⟩=>?_));refine aI (iy (fT (hi pins s1 σ H1 _ I1 q1) λiv s2 ⟨y,H2,I2,r2,q2⟩=>?_));refine aI (kx (aI (iy (fT (hs pins s2 σ H2 x y v ov iv u _ I2 r1 r2 r q2) λ_ s3 ⟨H3,I3,q3⟩=>?_))));exact wpAny_release ⟨σ,H3,I3,q3⟩
def S2(te:TE)(g:TG):TS:=λD σ H=>te σ H λx H1=>g x σ H1 D.nx
theorem Wq(he:PE X e te)(hg:PG X tg g)(hs:swapsWithSole [tg] e pos.line X.env=pure false:=by rfl)(hw:swappedStores [tg] e X.env=pure none:=by rfl)
  (h1:(nI [tg] X.env).map (·.2)=[assign tg X.env]:=by rfl):PS X (.Assign [tg] e pos) (S2 te g):=by
 intro pins s σ H D I h;refine wpAny_Assign_stores (fT (he pins s σ H _ I h) λv s1 ⟨x,H1,I1,r1,q1⟩=>?_) hs hw;rw[h1];exact fT (hg pins s1 σ H1 x v _ I1 r1 q1) λ_ s2 q=>q
theorem G8(hN:X.N.Nodup)(hi:X.N[i]?=some x)(hx:Loc X.env.scope x)(he:PE X e te)(hs:lW e (some (.Name x pos')) pos.line X.env=pure false:=by rfl)(hf:X.fn x=true\/X.env.scope.names.lookup x=some .local:=by first|exact .inl rfl|exact .inr rfl|assumption):
  PS X (.Assign [.Name x pos'] e pos) (S2 te (tw i)):=by
 intro pins s σ H D I h;refine wpAny_Assign_Name (fT (he pins s σ H _ I h) λv s1 ⟨y,H1,I1,r1,q1⟩=>?_) hs;exact uW I1 hN hi hx r1 (λs2 I2=>⟨_,H1,I2,q1⟩) hf
inductive aBx(i:Nat)(te:TE)(ti:Zu)(D:Ends)(σ:St)(H:Hp):Prop
 |mk:∀x,σ[i]?=some (some x)->(te σ H λy H1=>ti x y H1 λz H2=>D.nx (σ.set i (some z)) H2)->aBx i te ti D σ H
theorem DI{pos':Pos}(hN:X.N.Nodup)(hi:X.N[i]?=some x)(hx:Loc X.env.scope x)(he:PE X e te)(ho:PIp X op ti)(hf:X.fn x=true\/X.env.scope.names.lookup x=some .local:=by first|exact .inl rfl|exact .inr rfl|assumption):
  PS X (.AugAssign (.Name x pos') op e pos) (aBx i te ti):=by
 intro pins s σ H D I h;obtain⟨v,e1,h⟩:=h;obtain⟨m,hn,hl⟩:=I.loc;have vis:WD X.env.scope x:=by rcases hx with k|k;exact .inl k;exact .inr (.inl k)
 obtain⟨u,r,l⟩:=hl i x v hi e1 vis;refine wpAny_AugAssign_Name ?_;have go:bF (model X.prog X.w) X.A (eval e X.env) (λw s₂=>bF (model X.prog X.w) X.A (inplaceOp op u w) (λr s₃=>bF (model X.prog X.w) X.A (storeName X.env x r) (λ_=>SP X pins D .next) X.xe s₃) X.xe s₂) X.xe s:=by refine fT (he pins s σ H _ I h) λw s1 ⟨y,H1,I1,r1,q1⟩=>?_;refine fT (ho pins s1 σ H1 v y u w _ I1 r r1 q1) λz s2 ⟨zv,H2,I2,r2,q2⟩=>?_;exact uW I2 hN hi hx r2 (λs3 I3=>⟨_,H2,I3,q2⟩) hf
 rcases l with⟨hk,hm⟩|⟨hk,c,hc,hcell⟩
 ·exact VJ I.ok.kind hk hn hm go
 ·rcases hk with hk|hk
  ·exact Vl I.ok.kind hk hc hcell go
  ·rcases hx with k|k
   ·have:X.env.scope.names.lookup x=some .free:=hk
    rw[k]at this;cases this
   ·have:X.env.scope.names.lookup x=some .free:=hk
    rw[k]at this;cases this
inductive ipI(f:Int->Int->Int)(x:V)(y:V)(H:Hp)(Q:VK):Prop
 |mk:∀i j,x=.int i->y=.int j->Q (.int (f i j)) H->ipI f x y H Q
theorem Cd:PIp X .Add (ipI λi j=>i+j):=by intro pins s σ H x y v u Q I r1 r2 h;obtain⟨i,j,e1,e2,q⟩:=h;subst e1;subst e2;obtain⟨t,rfl⟩:=r1;obtain⟨t',rfl⟩:=r2;exact iadd_int ⟨.int _,H,I.tok _,⟨_,rfl⟩,q⟩
end
section
variable{X:Cx}{pos:Pos}
def X5(c:TT)(tb:TS):TS:=λD σ H=>∃W:Nat->St->Hp->Prop,(∃m,W m σ H)/\∀m σ H,W m σ H->
 c σ H λb H1=>if b=true then ∃N:St->Hp->Prop,(∀σ' H',N σ' H'->∃m',m' < m/\W m' σ' H')/\tb {D with nx:=N,ct:=N,bk:=D.nx} σ H1 else D.nx σ H1
theorem jY{body:List Stmt}(hp:YO (model X.prog X.w) X.A X.env X.xe)(hc:PT X c tc)(hb:HG X body tb):PS X (.While c body [] pos) (X5 tc tb):=by
 intro pins s σ H D I h;obtain⟨W,⟨m0,w0⟩,turn⟩:=h;refine wpAny_While (codeAny_whileLoop (λn s'=>∃σ' H',aCd X pins σ' H' s'/\W n σ' H') ?_ m0 ⟨σ,H,I,w0⟩);rintro n s1 ⟨σ1,H1,I1,w1⟩;refine jd hp (fT (hc pins s1 σ1 H1 _ I1 (turn n σ1 H1 w1)) λb s2 ⟨H2,I2,q2⟩=>?_);cases b with
 |true=>
  obtain⟨N,hN,q2⟩:=q2;rw[iP rfl];refine jd hp (fT (hb pins s2 σ1 H2 _ I2 q2) λf s3 q3=>?_);cases f with
  |next=>obtain⟨σ3,H3,I3,n3⟩:=q3;obtain⟨m',hm,w3⟩:=hN σ3 H3 n3;exact⟨m',hm,σ3,H3,I3,w3⟩
  |cont=>obtain⟨σ3,H3,I3,n3⟩:=q3;obtain⟨m',hm,w3⟩:=hN σ3 H3 n3;exact⟨m',hm,σ3,H3,I3,w3⟩
  |brk=>exact q3
  |ret v=>exact q3
 |false=>rw[iN bD];exact pU ⟨σ1,H2,I2,q2⟩
end
structure It where
 go:Nat->Hp->Prop
 OW:Nat->Hp->V->Hp->Prop
 stop:Nat->Hp->Prop
def Ao(X:Cx)(pins:List (aF×Obj))(H:Hp)(b:aF):Prop:=
 H b=none/\b≠X.env.locals/\b∉X.fs/\(b∈X.ex\/X.sG.heap.objs.size<=b)/\(∀x c,X.env.cells.lookup x=some c->c≠b)/\∀p∈X.pn++pins,p.1≠b
theorem aCd.NU(I:aCd X pins σ H s)(hb:s.heap.objs.size<=b)(hn:H' b=none):Ao X pins H' b:=by
 refine⟨hn,si (bo I.lt hb),I.aBf hb,.inr (bw I.sz hb),λx c e z=>?_,λp hp z=>?_⟩
 ·obtain⟨v,q⟩:=I.cell x c e;exact absurd (bo q.lt (by rw[z];exact hb)) (fO _)
 ·exact absurd (bo (bC (I.pin p hp).1) (by rw[z];exact hb)) (fO _)
structure Turn(P:bK)(w:bu)(K:aU)(tg:cQ)(J:It)(fp:List aF)(it:aF)(tn:Nat->c9->Prop):Prop where
 mem:it∈fp
 obj:∀i h,tn i h->∀b∈fp,∃o,h.get? b=some o/\∀v,o.data≠.cell v
 keep:∀i h h',tn i h->(∀b∈fp,∀o,h.get? b=some o->h'.get? b=some o)->tn i h'
 item:∀(X:Cx),X.prog=P->X.w=w->X.K=K->X.calm=true->∀(i:Nat)(pins:List (aF×Obj))(s:aO)(σ:St)(H:Hp)(E:aE->aO->Prop),aCd X pins σ H s->(∀b∈fp,Ao X pins H b)->tn i s.heap->J.go i H->
  bF (model P w) X.A (R4 (.ref it)) (λr s1=>∃u,r=some u/\ bF (model P w) X.A (letOwnedTupleGo tg (.ref it) u) (λ_ s2=>∃x H',aCd X pins σ H' s2/\aCg x u/\J.OW i H x H'/\tn (i+1) s2.heap/\∀b∈fp,H' b=none) E s1) E s
 done:∀(X:Cx),X.prog=P->X.w=w->X.K=K->X.calm=true->∀(i:Nat)(pins:List (aF×Obj))(s:aO)(σ:St)(H:Hp)(E:aE->aO->Prop),aCd X pins σ H s->(∀b∈fp,Ao X pins H b)->tn i s.heap->J.stop i H->
  bF (model P w) X.A (R4 (.ref it)) (λr s1=>r=none/\aCd X pins σ H s1) E s
 self:∀(A:cG)(i:Nat)(s:aO)(Q:aE->aO->Prop)(E:aE->aO->Prop),tn i s.heap->Q (.ref it) s->bF (model P w) A (pyIter (.ref it)) Q E s
abbrev TI:=St->Hp->(It->Hp->Prop)->Prop
def PIE(X:Cx)(pins:List (aF×Obj))(σ:St)(tg:cQ)(R:It->Hp->Prop)(itv:aE)(s2:aO):Prop:=
 ∃(it:aF)(fp:List aF)(tn:Nat->c9->Prop)(J:It)(H':Hp),itv=.ref it/\aCd X pins σ H' s2/\Turn X.prog X.w X.K tg J fp it tn/\tn 0 s2.heap/\(∀b∈fp,Ao X pins H' b)/\R J H'
def PI(X:Cx)(tg iter:cQ)(wi:TI):Prop:=
 ∀(pins:List (aF×Obj))(s:aO)(σ:St)(H:Hp)(R:It->Hp->Prop),aCd X pins σ H s->wi σ H R->
  bF (model X.prog X.w) X.A (eval iter X.env) (λv s1=>bF (model X.prog X.w) X.A (pyIter v) (PIE X pins σ tg R) X.xe s1) X.xe s
theorem MD{M:yy}{A:cG}{E:aE->aO->Prop}{tg:cQ}{u:aE}{Q:Unit->aO->Prop}(ho:s.heap.get? it=some o)(hc:o.cls=.type n)(hd:o.data=.fields vs)
  (hn:["enumerate","zip","dict_itemiterator","dict_reverseitemiterator","odict_iterator","itertools.zip_longest","itertools.pairwise"].contains n=false) (hQ:Q () s):bF M A (letOwnedTupleGo tg (.ref it) u) Q E s:=by
 unfold letOwnedTupleGo;cases tg <;> first
  |exact aa hQ
  |(cases u <;> first
    |exact aa hQ
    |(refine aI (wpAny_load ho ?_);rw[hc,hd];show bF M A (if(["enumerate","zip","dict_itemiterator","dict_reverseitemiterator","odict_iterator","itertools.zip_longest","itertools.pairwise"].contains n&&vs[0]?==some (pR _))=true then _ else _) Q E s;rw[iN (by intro h;rw[hn,dg]at h;cases h)];exact aa hQ))
def YF(K:aU)(a:aF):It:=
 ⟨λi H=>∃xs x,bf K H a xs/\xs[i]?=some x,λi H x H'=>H'=H/\∀xs,bf K H a xs->xs[i]?=some x,λi H=>∃xs,bf K H a xs/\xs.length<=i⟩
theorem OO{P:bK}{w:bu}{K:aU}{tg:cQ}(a it:aF):Turn P w K tg (YF K a) [it] it (λi h=>h.IsListIter it a i) where
 mem:=by simp
 obj:=λi h st b hb=>by
  have e:b=it:=by simpa using hb
  subst e;obtain⟨o,e,c,d⟩:=st;exact⟨o,e,λv z=>by rw[d]at z;cases z⟩
 keep:=λi h h' st k=>st.at λo e=>k it (by simp) o e
 item:=by intro X hP hw hK hc i pins s σ H E I hf st hg;subst hP hw hK;obtain⟨xs,x,hq,hx⟩:=hg;obtain⟨its,rv,p,hz⟩:=I.list hq;obtain⟨u,hu,ru⟩:=rv.get hx;obtain⟨f0,f1,f2,f3,f4,f5⟩:=hf it (by simp);refine wpAny_pyNext_list_item st p.isList (x:=u) (by simpa using hu) λh' st' sb=>?_;have I1:aCd X pins σ H {s with heap:=h'}:=I.turned (t':=s.toks) (λb o hb e=>(sb.2 b hb).trans e) f0 f1 f3 f4 f5;obtain⟨o,e,c,d⟩:=id st';exact⟨u,rfl,MD (s:={s with heap:=h'}) e c d (by decide) ⟨x,H,I1,ru,⟨rfl,λys hy=>by rw[I.yV hy hq];exact hx⟩,st',λb hb=>(hf b hb).1⟩⟩
 done:=by intro X hP hw hK hc i pins s σ H E I hf st hg;subst hP hw hK;obtain⟨xs,hq,hx⟩:=hg;obtain⟨its,rv,p,hz⟩:=I.list hq;obtain⟨f0,f1,f2,f3,f4,f5⟩:=hf it (by simp);have hl:=rv.length;exact wpAny_pyNext_list_end (I.ok.hd hc) st p.isList (by simp;omega) λh' eb=>⟨rfl,I.turned (t':=s.toks) (λb o hb e=>eb b o hb e) f0 f1 f3 f4 f5⟩
 self:=λ_ _ _ _ _ st h=>wpAny_pyIter_listiter st h
section
variable{X:Cx}{tg:cQ}
inductive aDc(K:aU)(R:(It->Hp->Prop))(x:V)(H1:Hp):Prop
 |mk:∀a,x=.ref a->(∃xs,bf K H1 a xs)->R (YF K a) H1->aDc K R x H1
def QN(K:aU)(tl:TE):TI:=λσ H R=>tl σ H (aDc K R)
theorem dQ{l:cQ}{tl:TE}(hl:PE X l tl):PI X tg l (QN X.K tl):=by
 intro pins s σ H R I h;refine fT (hl pins s σ H _ I h) λv s1 ⟨x,H1,I1,r1,q1⟩=>?_;obtain⟨a,e,⟨xs,hq⟩,q⟩:=q1;subst e;cases r1;obtain⟨its,rv,p,hz⟩:=I1.list hq;refine jt p.isList ?_;refine⟨s1.heap.objs.size,[s1.heap.objs.size],_,_,H1,rfl,I1.kept (t':=s1.toks) λb o e=>aY _ e,OO a _,⟨_,bJ _ rfl,rfl,rfl⟩,λb hb=>?_,q⟩;have e:b=s1.heap.objs.size:=by simpa using hb
 subst e;exact I1.NU (a9 _) (I1.fC.fresh (a9 _))
def aB0(wi:TI)(g:TG)(tb:TS):TS:=λD σ H=>wi σ H λJ H1=>∃W:Nat->Nat->St->Hp->Prop,(∃m,W 0 m σ H1)/\∀i m σ H,W i m σ H->
 (J.stop i H/\D.nx σ H)\/(J.go i H/\∃N:St->Hp->Prop,(∀σ' H',N σ' H'->∃m',m' < m/\W (i+1) m' σ' H')/\∀x H',J.OW i H x H'->g x σ H' λσ2 H2=>tb {D with nx:=N,ct:=N,bk:=D.nx} σ2 H2)
def DH(fp:List aF)(h:c9):List (aF×Obj):=fp.filterMap λb=>(h.get? b).map λo=>(b,o)
theorem wg(hb:b∈fp)(e:h.get? b=some o):(b,o)∈DH fp h:=o7.mpr ⟨b,hb,by rw[e];rfl⟩
theorem N8(hp:p∈DH fp h):p.1∈fp/\h.get? p.1=some p.2:=by
 obtain⟨b,hb,e⟩:=o7.mp hp;cases q:h.get? b with
 |none=>rw[q]at e;cases e
 |some o=>rw[q]at e;have e':(b,o)=p:=aV e;subst e';exact⟨hb,q⟩
theorem aCd.pinned(I:aCd X pins σ H s)(hf:∀b∈fp,Ao X pins H b)(ho:∀b∈fp,∃o,s.heap.get? b=some o/\∀v,o.data≠.cell v):aCd X (pins++DH fp s.heap) σ H s:=
 I.MZ λp hp=>(bZ.mp hp).elim (λz=>I.pin p (eY _ z)) λz=>by obtain⟨hb,e⟩:=N8 z;obtain⟨f0,f1,f2,_⟩:=hf p.1 hb;obtain⟨o,e',d⟩:=ho p.1 hb;rw[e]at e';cases e';exact⟨e,f0,f1,f2,d⟩
theorem aCd.ym(I:aCd X (pins++pl) σ H s):aCd X pins σ H s:=I.MZ λp hp=>I.pin p (eY _ (vO _ hp))
theorem fW{body:List Stmt}{pos:Pos}(hp:YO (model X.prog X.w) X.A X.env X.xe)(hc:X.calm=true)(hi:PI X tg iter wi)(hg:PG X tg g)(hb:HG X body tb)
  (hs:∀x,foldedSetIterable iter X.env x=pure x:=by intro _;rfl):PS X (.For tg iter body [] pos) (aB0 wi g tb):=by
 intro pins s σ H D I h;refine wpAny_For (fT (hi pins s σ H _ I h) λv s1 h1=>fT h1 λitv s2 h2=>?_) hs;obtain⟨it,fp,tn,J,H2,e,I2,T,st2,f2,W,⟨m0,w0⟩,turn⟩:=h2;subst e;have stat:∀{H':Hp},(∀b∈fp,H' b=none)->∀b∈fp,Ao X pins H' b:=λhn b hb=>⟨hn b hb,(f2 b hb).2⟩;refine codeAny_forLoop_any (λn s'=>∃i σ' H',aCd X pins σ' H' s'/\tn i s'.heap/\(∀b∈fp,H' b=none)/\W i n σ' H') ?_ m0 ⟨0,σ,H2,I2,st2,λb hb=>(f2 b hb).1,w0⟩;rintro n s3 ⟨i,σ3,H3,I3,st3,fr3,w3⟩;rcases turn i n σ3 H3 w3 with⟨stop,qn⟩|⟨go,N,hN,step⟩
 ·refine jd hp (fT (T.done X rfl rfl rfl hc i pins s3 σ3 H3 X.xe I3 (stat fr3) st3 stop) λr s4 ⟨hr,I4⟩=>?_);subst hr;exact pU ⟨σ3,H3,I4,qn⟩
 ·refine jd hp (fT (T.item X rfl rfl rfl hc i pins s3 σ3 H3 X.xe I3 (stat fr3) st3 go) λr s4 ⟨u,hr,h4⟩=>?_);subst hr;refine jd hp (fT h4 λ_ s5 ⟨x,H5,I5,r5,y5,st5,fr5⟩=>?_);have I5':=I5.pinned (stat fr5) (T.obj _ _ st5);refine jd hp (fT (hg _ s5 σ3 H5 x u _ I5' r5 (step x H5 y5)) λ_ s6 ⟨σ6,H6,I6,q6⟩=>?_);refine jd hp (fT (hb _ s6 σ6 H6 _ I6 q6) λf s7 q7=>?_);have again:∀{σ7:St}{H7:Hp},aCd X (pins++DH fp s5.heap) σ7 H7 s7->N σ7 H7->∃m,m<n/\∃i σ' H',aCd X pins σ' H' s7/\tn i s7.heap/\(∀b∈fp,H' b=none)/\W i m σ' H':=λ{σ7 H7} I7 n7=>by obtain⟨m',hm,w7⟩:=hN σ7 H7 n7;refine⟨m',hm,i+1,σ7,H7,I7.ym,T.keep _ _ _ st5 λb hb o e=>(I7.pin (b,o) (eY _ (eY _ (wg hb e)))).1,λb hb=>?_,w7⟩;obtain⟨o,e,d⟩:=T.obj _ _ st5 b hb;exact(I7.pin (b,o) (eY _ (eY _ (wg hb e)))).2.1
  cases f with
  |next=>obtain⟨σ7,H7,I7,n7⟩:=q7;exact again I7 n7
  |cont=>obtain⟨σ7,H7,I7,n7⟩:=q7;exact again I7 n7
  |brk=>obtain⟨σ7,H7,I7,q7⟩:=q7;exact⟨σ7,H7,I7.ym,q7⟩
  |ret v=>obtain⟨x7,σ7,H7,I7,r7,q7⟩:=q7;exact⟨x7,σ7,H7,I7.ym,r7,q7⟩
end
theorem fH{K:aU}{a:aF}{xs:List V}{g:TG}{tb:TS}{D:Ends}{σ:St}{H:Hp}(Pv:Nat->St->Hp->Prop)(h0:Pv 0 σ H)(hl:∀i σ H,i<=xs.length->Pv i σ H->bf K H a xs)
  (hs:∀i x σ H,xs[i]?=some x->Pv i σ H->g x σ H λσ2 H2=>tb {D with nx:=Pv (i+1),ct:=Pv (i+1),bk:=D.nx} σ2 H2) (hd:∀σ H,Pv xs.length σ H->D.nx σ H):
  ∃W:Nat->Nat->St->Hp->Prop,(∃m,W 0 m σ H)/\∀i m σ H,W i m σ H->
   ((YF K a).stop i H/\D.nx σ H)\/((YF K a).go i H/\∃N:St->Hp->Prop,(∀σ' H',N σ' H'->∃m',m' < m/\W (i+1) m' σ' H')/\∀x H',(YF K a).OW i H x H'->g x σ H' λσ2 H2=>tb {D with nx:=N,ct:=N,bk:=D.nx} σ2 H2):=by
 refine⟨λi m σ H=>m=xs.length - i/\i<=xs.length/\Pv i σ H,⟨xs.length,by simp,bR _,h0⟩,?_⟩;rintro i m σ H ⟨rfl,hi,p⟩;have q:=hl i σ H hi p;by_cases hlt:i<xs.length
 ·refine .inr ⟨⟨xs,xs[i],q,by simp[hlt]⟩,Pv (i+1),λσ' H' p'=>⟨xs.length - (i+1),by omega,rfl,hlt,p'⟩,λx H' y=>?_⟩;obtain⟨e,y⟩:=y;subst e;exact hs i x σ _ (y xs q) p
 ·have e:i=xs.length:=by omega
  subst e;exact .inl ⟨⟨xs,q,a9 _⟩,hd σ H p⟩
abbrev R2:=V->V->Hp->VK->Prop
def yt(X:Cx)(f:aE->aE->Sem aE)(r:R2):Prop:=
 ∀(pins:List (aF×Obj))(s:aO)(σ:St)(H:Hp)(x y:V)(v u:aE)(Q:VK),aCd X pins σ H s->aCg x v->aCg y u->r x y H Q->
  bF (model X.prog X.w) X.A (f v u) (EP X pins σ Q) X.xe s
def aAw(X:Cx)(f:aE->Sem aE)(r:V->Hp->VK->Prop):Prop:=
 ∀(pins:List (aF×Obj))(s:aO)(σ:St)(H:Hp)(x:V)(v:aE)(Q:VK),aCd X pins σ H s->aCg x v->r x H Q->
  bF (model X.prog X.w) X.A (f v) (EP X pins σ Q) X.xe s
def pY(X:Cx)(f:aE)(r:List V->Hp->VK->Prop):Prop:=
 ∀(pins:List (aF×Obj))(s:aO)(σ:St)(H:Hp)(xs:List V)(us:List aE)(Q:VK),aCd X pins σ H s->aCh xs us->r xs H Q->
  bF (model X.prog X.w) X.A (call f us) (EP X pins σ Q) X.xe s
def aAv(X:Cx)(r:V->Hp->(Bool->Hp->Prop)->Prop):Prop:=
 ∀(pins:List (aF×Obj))(s:aO)(σ:St)(H:Hp)(x:V)(v:aE)(Q:Bool->Hp->Prop),aCd X pins σ H s->aCg x v->r x H Q->
  bF (model X.prog X.w) X.A (truthy v) (TP X pins σ Q) X.xe s
def Mb(r:R2)(ta tb:TE):TE:=λσ H Q=>ta σ H λx H1=>tb σ H1 λy H2=>r x y H2 Q
def tUn(r:V->Hp->VK->Prop)(ta:TE):TE:=λσ H Q=>ta σ H λx H1=>r x H1 Q
inductive rI(C:Int->Int->Prop)(g:Int->Int->V)(x:V)(y:V)(H:Hp)(Q:VK):Prop
 |mk:∀i j,x=.int i->y=.int j->C i j->Q (g i j) H->rI C g x y H Q
inductive T2(g:Int->Int->V)(x:V)(y:V)(H:Hp)(Q:VK):Prop
 |mk:∀i j,x=.int i->y=.int j->Q (g i j) H->T2 g x y H Q
inductive rU(g:Int->V)(x:V)(H:Hp)(Q:VK):Prop
 |mk:∀i,x=.int i->Q (g i) H->rU g x H Q
section
variable{X:Cx}{a b c:cQ}{ta tb tc:TE}{pos:Pos}
theorem WI(ha:PE X a ta)(hb:PE X b tb){R:V->V->Hp->Prop}(I:aCd X pins σ H s)
  (h:ta σ H λx H1=>tb σ H1 λy H2=>R x y H2) {Q:aE->aO->Prop} {f:aE->aE->Sem aE}
  (hf:∀v u s2 x y H2,aCd X pins σ H2 s2->aCg x v->aCg y u->R x y H2->bF (model X.prog X.w) X.A (f v u) Q X.xe s2):
  bF (model X.prog X.w) X.A (eval a X.env) (λv s₁=>bF (model X.prog X.w) X.A (eval b X.env) (λu s₂=>bF (model X.prog X.w) X.A (f v u) Q X.xe s₂) X.xe s₁) X.xe s:=by
 refine fT (ha pins s σ H _ I h) λv s1 ⟨x,H1,I1,r1,q1⟩=>?_;refine fT (hb pins s1 σ H1 _ I1 q1) λu s2 ⟨y,H2,I2,r2,q2⟩=>?_;exact hf v u s2 x y H2 I2 r1 r2 q2
theorem eM(ho:yt X (mL op) r)(ha:PE X a ta)(hb:PE X b tb):PE X (.BinOp a op b pos) (Mb r ta tb):=by intro pins s σ H Q I h;exact wpAny_BinOp (WI ha hb I h λv u s2 x y H2 I2 rx ry q=>ho pins s2 σ H2 x y v u Q I2 rx ry q)
theorem wG(ho:aAw X (unaryOp op) r)(ha:PE X a ta):PE X (.UnaryOp op a pos) (tUn r ta):=by intro pins s σ H Q I h;exact UnaryOp_ (fT (ha pins s σ H _ I h) λv s1 ⟨x,H1,I1,r1,q1⟩=>ho pins s1 σ H1 x v Q I1 r1 q1)
theorem aBg{f:aE->aE->Sem aE}{C:Int->Int->Prop}{g:Int->Int->Int}
  (rule:∀(i j:Int)(t u:Tok)(s:aO)(Q:aE->aO->Prop)(E:aE->aO->Prop),C i j->Q (.int (g i j) s.toks) {s with toks:=s.toks+1}->bF (model X.prog X.w) X.A (f (.int i t) (.int j u)) Q E s):
  yt X f (rI C λi j=>.int (g i j)):=by
 intro pins s σ H x y v u Q I rx ry h;obtain⟨i,j,rfl,rfl,hc,q⟩:=h;obtain⟨t,rfl⟩:=rx;obtain⟨t',rfl⟩:=ry;exact rule i j t t' s _ _ hc ⟨.int (g i j),H,I.tok _,⟨_,rfl⟩,q⟩
theorem UX{f:aE->aE->Sem aE}{g:Int->Int->Int}
  (rule:∀(i j:Int)(t u:Tok)(s:aO)(Q:aE->aO->Prop)(E:aE->aO->Prop),Q (.int (g i j) s.toks) {s with toks:=s.toks+1}->bF (model X.prog X.w) X.A (f (.int i t) (.int j u)) Q E s):
  yt X f (T2 λi j=>.int (g i j)):=by
 intro pins s σ H x y v u Q I rx ry h;obtain⟨i,j,rfl,rfl,q⟩:=h;obtain⟨t,rfl⟩:=rx;obtain⟨t',rfl⟩:=ry;exact rule i j t t' s _ _ ⟨.int (g i j),H,I.tok _,⟨_,rfl⟩,q⟩
theorem UW{f:aE->aE->Sem aE}{g:Int->Int->Bool}
  (rule:∀(i j:Int)(t u:Tok)(s:aO)(Q:aE->aO->Prop)(E:aE->aO->Prop),Q (.bool (g i j)) s->bF (model X.prog X.w) X.A (f (.int i t) (.int j u)) Q E s):
  yt X f (T2 λi j=>.bl (g i j)):=by
 intro pins s σ H x y v u Q I rx ry h;obtain⟨i,j,rfl,rfl,q⟩:=h;obtain⟨t,rfl⟩:=rx;obtain⟨t',rfl⟩:=ry;exact rule i j t t' s _ _ ⟨.bl (g i j),H,I,rfl,q⟩
def aAh(i j:Int):Prop:=0<j/\j<1073741824
def Vn(i j:Int):Prop:=(-(2 ^ 64)<i/\i<2 ^ 64)\/(-(2 ^ 64)<j/\j<2 ^ 64)
theorem Vn.ok(h:Vn i j):IntMulOk i j:=by
 rcases h with⟨h1,h2⟩|⟨h1,h2⟩
 ·exact .of_left (intBits_le_64 h1 h2)
 ·exact .of_right (intBits_le_64 h1 h2)
theorem wm:yt X (mL .Add) (T2 λi j=>.int (i+j)):=UX λ_ _ _ _ _ _ _ q=>add_int q
theorem GY:yt X (mL .Sub) (T2 λi j=>.int (i - j)):=UX λ_ _ _ _ _ _ _ q=>sub_int q
theorem RK:yt X (mL .Mult) (rI Vn λi j=>.int (i*j)):=aBg λ_ _ _ _ _ _ _ hc q=>mul_int q hc.ok
theorem UY:yt X (mL .FloorDiv) (rI aAh λi j=>.int (i/j)):=aBg λi j _ _ _ _ _ hc q=>by have h1:(0:Int)<j:=hc.1;have h2:j<1073741824:=hc.2;exact floordiv_int (by omega) (by rw[Int.fdiv_eq_ediv_of_nonneg i (by omega)];exact q) (.inl (Fh (by omega)))
theorem Wi:yt X (mL .Mod) (rI (λ_ j=>0<j) λi j=>.int (i % j)):=aBg λi j _ _ _ _ _ hc q=>by have h1:(0:Int)<j:=hc;exact mod_int' (by omega) (by rw[Int.fmod_eq_emod_of_nonneg i (by omega)];exact q)
theorem Kk:yt X (mL .BitAnd) (T2 λi j=>.int (sV i j)):=UX λ_ _ _ _ _ _ _ q=>and_int q
theorem V6:yt X (mL .BitOr) (T2 λi j=>.int (Dr i j)):=UX λ_ _ _ _ _ _ _ q=>or_int q
theorem unI{f:aE->Sem aE}{g:Int->Int}
  (rule:∀(i:Int)(t:Tok)(s:aO)(Q:aE->aO->Prop)(E:aE->aO->Prop),Q (.int (g i) s.toks) {s with toks:=s.toks+1}->bF (model X.prog X.w) X.A (f (.int i t)) Q E s):
  aAw X f (rU λi=>.int (g i)):=by
 intro pins s σ H x v Q I rx h;obtain⟨i,rfl,q⟩:=h;obtain⟨t,rfl⟩:=rx;exact rule i t s _ _ ⟨.int (g i),H,I.tok _,⟨_,rfl⟩,q⟩
theorem pT:aAw X (unaryOp .USub) (rU λi=>.int (-i)):=unI λ_ _ _ _ _ q=>neg_int q
end
def ZF:V->V->Bool
 |.fB,.fB=>true|.fB,.int _=>true|.int _,.fB=>true|.fB,.bl _=>true|.bl _,.fB=>true|.fB,.str _=>true|.str _,.fB=>true
 |.int _,.int _=>true|.bl _,.bl _=>true|.str _,.str _=>true|.Fu _,.Fu _=>true
 |.int _,.str _=>true|.str _,.int _=>true|.bl _,.str _=>true|.str _,.bl _=>true
 |_,_=>false
def Xu:R2:=λx y H Q=>ZF x y=true/\Q (.bl (decide (x=y))) H
def rNe:R2:=λx y H Q=>ZF x y=true/\Q (.bl (!decide (x=y))) H
theorem Lw:decide (V.int i=V.int j)=(i==j):=by rw[b7];simp
theorem P0:decide (V.bl i=V.bl j)=(i==j):=by rw[b7];simp
theorem Lx:decide (V.str i=V.str j)=(i==j):=by rw[b7];simp
theorem Lu:decide (V.Fu i=V.Fu j)=(i.toList==j.toList):=by rw[b7];cases i;cases j;simp
section
variable{X:Cx}{a b c:cQ}{ta tb tc:TE}{pos:Pos}
theorem e7(I:aCd X pins σ H s)(q:Q (.bl k) H)(e:k=k'):EP X pins σ Q (.bool k') s:=by subst e;exact⟨.bl k,H,I,rfl,q⟩
theorem eX:yt X (gC .Eq) Xu:=by
 intro pins s σ H x y v u Q I rx ry h;obtain⟨hs,q⟩:=h;cases x with
 |fB=>
  cases rx;cases y with
  |fB=>cases ry;exact Zh (e7 I q (by simp))
  |bl j=>cases ry;exact Zf (e7 I q (by simp))
  |int j=>obtain⟨t',rfl⟩:=ry;exact Zg (e7 I q (by simp))
  |str j=>obtain⟨t',rfl⟩:=ry;exact Zi (e7 I q (by simp))
  |_=>exact absurd (show false=true from hs) bD
 |bl i=>
  cases rx;cases y with
  |fB=>cases ry;exact Zd (e7 I q (by simp))
  |bl j=>cases ry;exact eq_bool (e7 I q P0)
  |str j=>obtain⟨t',rfl⟩:=ry;exact YQ (e7 I q (by simp))
  |_=>exact absurd (show false=true from hs) bD
 |int i=>
  obtain⟨t,rfl⟩:=rx;cases y with
  |fB=>cases ry;exact Ze (e7 I q (by simp))
  |int j=>obtain⟨t',rfl⟩:=ry;exact eq_int (e7 I q Lw)
  |str j=>obtain⟨t',rfl⟩:=ry;exact YR (e7 I q (by simp))
  |_=>exact absurd (show false=true from hs) bD
 |str i=>
  obtain⟨t,rfl⟩:=rx;cases y with
  |fB=>cases ry;exact Zj (e7 I q (by simp))
  |bl j=>cases ry;exact YS (e7 I q (by simp))
  |int j=>obtain⟨t',rfl⟩:=ry;exact YT (e7 I q (by simp))
  |str j=>obtain⟨t',rfl⟩:=ry;exact eq_str (e7 I q Lx)
  |_=>exact absurd (show false=true from hs) bD
 |Fu i=>
  obtain⟨t,rfl⟩:=rx;cases y with
  |Fu j=>obtain⟨t',rfl⟩:=ry;exact PySem.W.eq_bytes (e7 I q Lu)
  |_=>exact absurd (show false=true from hs) bD
 |_=>cases y <;> exact absurd (show false=true from hs) bD
theorem MU:yt X (gC .NotEq) rNe:=by
 intro pins s σ H x y v u Q I rx ry h;obtain⟨hs,q⟩:=h;cases x with
 |fB=>
  cases rx;cases y with
  |fB=>cases ry;exact Zp (e7 I q (by simp))
  |bl j=>cases ry;exact Zm (e7 I q (by simp))
  |int j=>obtain⟨t',rfl⟩:=ry;exact Zo (e7 I q (by simp))
  |str j=>obtain⟨t',rfl⟩:=ry;exact Zq (e7 I q (by simp))
  |_=>exact absurd (show false=true from hs) bD
 |bl i=>
  cases rx;cases y with
  |fB=>cases ry;exact Zk (e7 I q (by simp))
  |bl j=>cases ry;exact ne_bool (e7 I q (congrArg not P0))
  |str j=>obtain⟨t',rfl⟩:=ry;exact YU (e7 I q (by simp))
  |_=>exact absurd (show false=true from hs) bD
 |int i=>
  obtain⟨t,rfl⟩:=rx;cases y with
  |fB=>cases ry;exact Zl (e7 I q (by simp))
  |int j=>obtain⟨t',rfl⟩:=ry;exact ne_int (e7 I q (congrArg not Lw))
  |str j=>obtain⟨t',rfl⟩:=ry;exact YV (e7 I q (by simp))
  |_=>exact absurd (show false=true from hs) bD
 |str i=>
  obtain⟨t,rfl⟩:=rx;cases y with
  |fB=>cases ry;exact Zr (e7 I q (by simp))
  |bl j=>cases ry;exact YW (e7 I q (by simp))
  |int j=>obtain⟨t',rfl⟩:=ry;exact YX (e7 I q (by simp))
  |str j=>obtain⟨t',rfl⟩:=ry;exact ne_str (e7 I q (congrArg not Lx))
  |_=>exact absurd (show false=true from hs) bD
 |Fu i=>
  obtain⟨t,rfl⟩:=rx;cases y with
  |Fu j=>obtain⟨t',rfl⟩:=ry;exact PySem.W.ne_bytes (e7 I q (congrArg not Lu))
  |_=>exact absurd (show false=true from hs) bD
 |_=>cases y <;> exact absurd (show false=true from hs) bD
theorem Cz:yt X (gC .Lt) (T2 λi j=>.bl (decide (i<j))):=UW λ_ _ _ _ _ _ _ q=>lt_int q
theorem RJ:yt X (gC .LtE) (T2 λi j=>.bl (decide (i<=j))):=UW λ_ _ _ _ _ _ _ q=>le_int q
theorem Ab:yt X (gC .Gt) (T2 λi j=>.bl (decide (j<i))):=UW λ_ _ _ _ _ _ _ q=>gt_int q
theorem Yv:yt X (gC .GtE) (T2 λi j=>.bl (decide (j<=i))):=UW λ_ _ _ _ _ _ _ q=>ge_int q
theorem bt(b:cQ)(h:op≠.In:=by decide)(h2:op≠.NotIn:=by decide):jk op b=false:=by
 have e1:(op==aAi)=false:=by cases op <;> first|rfl|exact absurd rfl h
 have e2:(op==Xf)=false:=by cases op <;> first|rfl|exact absurd rfl h2
 cases b <;> simp[jk,e1,e2]
theorem iR(ho:yt X (gC op) r)(ha:PE X a ta)(hb:PE X b tb)(hm:jk op b=false):PE X (.Compare a [op] [b] pos) (Mb r ta tb):=by intro pins s σ H Q I h;exact aB8 (WI ha hb I h λv u s2 x y H2 I2 rx ry q=>ho pins s2 σ H2 x y v u Q I2 rx ry q) hm
inductive aDj(Q:(Bool->Hp->Prop))(x:V)(H':Hp):Prop
 |mk:∀k,x=.bl k->Q k H'->aDj Q x H'
def Vh(t:TE):TT:=λσ H Q=>t σ H (aDj Q)
theorem bU(ho:yt X (gC op) r)(ha:PE X a ta)(hb:PE X b tb)(hm:jk op b=false):PT X (.Compare a [op] [b] pos) (Vh (Mb r ta tb)):=by intro pins s σ H Q I h;refine T5 (fT (ha pins s σ H _ I h) λv s1 ⟨x,H1,I1,r1,q1⟩=>fT (hb pins s1 σ H1 _ I1 q1) λu s2 ⟨y,H2,I2,r2,q2⟩=> fT (ho pins s2 σ H2 x y v u _ I2 r1 r2 q2) λc s3 ⟨z,H3,I3,r3,k,e,q3⟩=>?_) hm;subst e;cases r3;exact gY ⟨H3,I3,q3⟩
def XX(r r':R2)(ta tb tc:TE):TE:=λσ H Q=>ta σ H λx H1=>tb σ H1 λy H2=>r x y H2 λz H3=>∃k,z=.bl k/\
 (if k=true then tc σ H3 λw' H4=>r' y w' H4 Q else Q (.bl false) H3)
theorem RP(ho:yt X (gC op) r)(ho':yt X (gC op') r')(ha:PE X a ta)(hb:PE X b tb)(hc:PE X c tc)
  (hm:lastMarks [op,op'] [b,c]=false:=by with_unfolding_all rfl):PE X (.Compare a [op,op'] [b,c] pos) (XX r r' ta tb tc):=by
 intro pins s σ H Q I h;refine Compare_chain (fT (ha pins s σ H _ I h) λv s1 ⟨x,H1,I1,r1,q1⟩=>chain_link (fT (hb pins s1 σ H1 _ I1 q1) λu s2 ⟨y,H2,I2,r2,q2⟩=> fT (ho pins s2 σ H2 x y v u _ I2 r1 r2 q2) λd s3 ⟨z,H3,I3,r3,k,e,q3⟩=>?_)) hm;subst e;cases r3;refine gY ?_;cases k with
 |false=>exact ite_ff ⟨.bl false,H3,I3,rfl,q3⟩
 |true=>exact ite_tt (chain_last (fT (hc pins s3 σ H3 _ I3 q3) λw' s4 ⟨z',H4,I4,r4,q4⟩=>ho' pins s4 σ H4 y z' u w' Q I4 r2 r4 q4))
def Y4(K:aU)(x:V)(H:Hp)(k:Bool):Prop:=
 match x with
 |.fB=>k=false
 |.bl b=>k=b
 |.int i=>k=(i !=0)
 |.str y=>y.length<=aj/\k=((y.length:Int) !=0)
 |.Fu y=>y.size<=aj/\k=((y.size:Int) !=0)
 |.ref p=>(∃xs,bf K H p xs/\k=!xs.isEmpty)\/(∃xs,qU K H p xs/\k=!xs.isEmpty)\/∃kvs,H p=some (.dK kvs)/\k=!kvs.isEmpty
 |_=>False
theorem K4{κ:Type}{kvs:List (κ×V)}{vs:List (κ×aE)}(r:KV kvs vs):(!vs.isEmpty)=!kvs.isEmpty:=by cases r <;> rfl
theorem Ce(r:aCh xs its):(!its.toArray.isEmpty)=!xs.isEmpty:=by cases r <;> simp
theorem we:(aj:Nat)<2 ^ 63:=by rw[ic];decide
theorem X6:aAv X (λx H Q=>∃k,Y4 X.K x H k/\Q k H):=by
 intro pins s σ H x v Q I rx h;obtain⟨k,e,q⟩:=h;have hl:=we;have hs:aj=16777216:=ic;cases x with
 |fB=>cases rx;have e':k=false:=e;subst e';exact truthy_none ⟨H,I,q⟩
 |bl b=>cases rx;have e':k=b:=e;subst e';exact gY ⟨H,I,q⟩
 |int i=>obtain⟨t,rfl⟩:=rx;have e':k=(i !=0):=e;subst e';exact PySem.P.truthy_int ⟨H,I,q⟩
 |str y=>obtain⟨t,rfl⟩:=rx;obtain⟨hy,e'⟩:y.length<=aj/\k=((y.length:Int) !=0):=e;subst e';exact PySem.P.truthy_str (by omega) ⟨H,I.tok _,q⟩
 |Fu y=>obtain⟨t,rfl⟩:=rx;obtain⟨hy,e'⟩:y.size<=aj/\k=((y.size:Int) !=0):=e;subst e';exact PySem.W.truthy_bytes (by omega) ⟨H,I.tok _,q⟩
 |ref p=>
  cases rx;have e':(∃xs,bf X.K H p xs/\k=!xs.isEmpty)\/(∃xs,qU X.K H p xs/\k=!xs.isEmpty)\/∃kvs,H p=some (.dK kvs)/\k=!kvs.isEmpty:=e;rcases e' with⟨xs,hx,e'⟩|⟨xs,hx,e'⟩|⟨kvs,hx,e'⟩
  ·subst e';obtain⟨its,r,pl,hz⟩:=I.list hx;have hlen:=r.length;exact wpAny_truthy_list pl.isList (by simp only[bI];omega) ⟨H,I.tok _,by rw[Ce r];exact q⟩
  ·subst e';obtain⟨its,r,pl,hz⟩:=I.tuple hx;have hlen:=r.length;exact truthy_tuple pl (by simp only[bI];omega) ⟨H,I.tok _,by rw[Ce r];exact q⟩
  ·subst e';obtain⟨hz,hS,vs,r,m⟩:kvs.length<=aj/\(p==gD)=false/\∃vs,KV kvs vs/\s.heap.DictOf (fA X.prog X.w) p vs:=I.fC p _ hx;have hlen:kvs.length=vs.length:=lZ r;exact wpAny_truthy_dict hS m (by omega) ⟨H,I.tok _,by rw[K4 r];exact q⟩
 |_=>exact(show False from e).elim
theorem ck(ha:PE X a ta)(he:∀whole,isTrue a X.env whole=(do let v <-whole;Ag a.pos;A2 [v] (truthy v))):
  PT X a (λσ H Q=>ta σ H λx H'=>∃k,Y4 X.K x H' k/\Q k H'):=by
 intro pins s σ H Q I h;exact isTrue_plain (fT (ha pins s σ H _ I h) λv s1 ⟨x,H1,I1,r1,q1⟩=>X6 pins s1 σ H1 x v Q I1 r1 q1) (he _)
theorem eG:yt X (mL .Add) (λx y H Q=>∃i j,x=.str i/\y=.str j/\i.length+j.length<=aj/\Q (.str (i++j)) H):=by intro pins s σ H x y v u Q I rx ry h;obtain⟨i,j,rfl,rfl,hz,q⟩:=h;obtain⟨t,rfl⟩:=rx;obtain⟨t',rfl⟩:=ry;exact add_str (λt' tk=>⟨.str (i++j),H,I.tok _,⟨_,rfl⟩,q⟩) hz
theorem aCr(r:aCh [x] us):∃u,us=[u]/\aCg x u:=by
 cases r with
 |cons r1 r2=>cases r2;exact⟨_,rfl,r1⟩
theorem vals2(r:aCh [x,y] us):∃u w',us=[u,w']/\aCg x u/\aCg y w':=by
 cases r with
 |cons r1 r2=>
  cases r2 with
  |cons r3 r4=>cases r4;exact⟨_,_,rfl,r1,r3⟩
theorem NG(hc:X.calm=true):pY X (.builtin "max") (λxs H Q=>∃i j,xs=[.int i,.int j]/\Q (.int (if j > i then j else i)) H):=by
 intro pins s σ H xs us Q I r h;obtain⟨i,j,rfl,q⟩:=h;obtain⟨u,w',rfl,⟨t,rfl⟩,⟨t',rfl⟩⟩:=vals2 r;refine max_two_ints (I.ok.hd hc) λh' tk k=>⟨_,H,I.kept k,?_,q⟩;by_cases hj:j > i
 ·rw[iP hj,iP hj];exact⟨_,rfl⟩
 ·rw[iN hj,iN hj];exact⟨_,rfl⟩
theorem Fv:pY X (.type "str") (λxs H Q=>∃i,xs=[.int i]/\i.natAbs.log2<1920/\Q (.str (toString i)) H):=by intro pins s σ H xs us Q I r h;obtain⟨i,rfl,hz,q⟩:=h;obtain⟨u,rfl,t,rfl⟩:=aCr r;exact PySem.P.str_of_int hz ⟨.str _,H,I.tok _,⟨_,rfl⟩,q⟩
theorem Ho:pY X (.builtin "ord") (λxs H Q=>∃x,xs=[.str x]/\x.length=1/\Q (.int (x.cps.getD 0 0:Nat)) H):=by intro pins s σ H xs us Q I r h;obtain⟨x,rfl,hz,q⟩:=h;obtain⟨u,rfl,t,rfl⟩:=aCr r;exact ord_of_one hz ⟨.int _,H,I.tok _,⟨_,rfl⟩,q⟩
end
structure Jt(h:c9)(x dx C:aF)(mA:Str->Option aE):Prop where
 obj:h.get? x=some (gh C dx)
 ns:h.Ns1 dx mA
 ne:dx≠x
theorem z8{h:c9}{dx:aF}{mA:Str->Option aE}(n:h.Ns1 dx mA):∃od,h.get? dx=some od/\∀name,sk name od=some (mA name):=by
 obtain⟨o,es,ep,ho,hd,hk,_,hm⟩:=n;refine⟨o,ho,λname=>?_⟩;have e:=hm name;unfold nsFind findBy at e;rw[<-Array.find?_toList]at e;unfold sk;rw[hd];dsimp only;split
 ·rename_i y q;rw[q]at e;exact congrArg some e
 ·rename_i q;rw[q]at e;have a:es.toList.any (·.refKey)=false:=by rw[Oo];intro y hy;obtain⟨z,t,hkey⟩:=hk y (uw.mp hy);simp[DictEntry.refKey,hkey]
  have a':¬es.toList.any (·.refKey)=true:=by rw[a];exact bD
  rw[iN a'];exact congrArg some e
theorem Jt.look(I:Jt h x dx C mA):∃od,PySem.W.InstAt h x (gh C dx) C (some od)/\∀name,sk name od=some (mA name):=
 let ⟨od,ho,hl⟩:=z8 I.ns
 ⟨od,⟨I.obj,rfl,rfl,ho⟩,hl⟩
section
variable{prog:bK}{w:bu}{A:cG}{E:aE->aO->Prop}{s:aO}{K:aU}{x dx C f:aF}{mA:Str->Option aE}{name:Str}{v:aE}
theorem get_map{expr:Bool}{Q:aE->aO->Prop}(X:K.In s.heap)(I:Jt s.heap x dx C mA)(hg:pZ K C name=true)(hh:kY K C=true)
  (ha:c7 K (.ref C) name=some none) (hv:mA name=some v) (hv':zB v=true) (h:Q v {s with toks:=s.toks+1}):
  bF (model prog w) A (getAttr (.ref x) name expr) Q E s:=by
 obtain⟨od,J,hl⟩:=I.look;exact PySem.W.get_value X J (vA hg).1 (Jf hh ha rfl (by rw[hl,hv])) hv' h
theorem QK{pl:Sem Bool}{Q:aE×List aE->aO->Prop}(X:K.In s.heap)(I:Jt s.heap x dx C mA)(hg:pZ K C name=true)
  (hf:c7 K (.ref C) name=some (some (.ref f))) (ht:xV K (.ref f)=true) (hv:mA name=none) (h:Q (.ref f,[.ref x]) s):
  bF (model prog w) A (A1 (.ref x) name pl) Q E s:=by
 obtain⟨od,J,hl⟩:=I.look;exact PySem.W.method_fn X J (vA hg).1 (vA hg).2 hf (beq_iff_eq.mp ht) (by show(sk name od).map (·.isSome)=some false;rw[hl,hv];rfl) h
theorem Uc{ns:List Str}{Q:Unit->aO->Prop}(X:K.In s.heap)(I:Jt s.heap x dx C mA)
  (hs:c7 K (.ref C) "__setattr__"=some (some (.builtin "object.__setattr__"))) (hp:Le K C=true) (ht:Av K C name=some none) (hh:kY K C=true)
  (hw:sC mA ns) (hsz:ns.length<=aj)
  (h:∀h',Jt h' x dx C (λy=>if y=name then some v else mA y)->js dx s.heap h'->Q () {s with heap:=h',toks:=s.toks+2}):
  bF (model prog w) A (setAttr (.ref x) name v) Q E s:=by
 obtain⟨od,J,hl⟩:=I.look;refine xX X J hs (PySem.W.osa_open (s:={s with toks:=s.toks+1}) (r:=none) X J hp ht λb=>?_);obtain⟨cd,hc,hd'⟩:=PySem.W.any_some hh;have hx:s.heap.get? x=some ⟨.ref C,some dx,.plain,#[]⟩:=I.obj;refine aI (aa (aI (aI (LS hx (aI (YH (s:={s with toks:=s.toks+1}) (PySem.W.looks_clsIn X hc) ?_))))));rw[hd'];refine aa (a:=some dx) (aI (aa (aI ?_)));refine Sv (s:={s with toks:=s.toks+1}) I.ns λh' hn2 hs2=>?_;obtain⟨oD,esD,epD,hoD,hdD,hcD⟩:=hn2.count (Fm name v hw);refine aI (Gv hoD (by rw[hdD];exact GZ (bw hcD (by rw[aG];omega))) ?_);exact aa (h _ ⟨(hs2.2 _ (j7 I.ne)).trans I.obj,hn2,I.ne⟩ hs2)
theorem Q1{R:zC->aO->Prop}{vs:List aE}{kw:List (Str×aE)}(X:K.In s.heap)(hm:O6 K C=true)
  (hi:c7 K (.ref C) "__init__"=some (some (.ref f))) (hf:Bm K (.ref f)=some (.type "function"))
  (h:lD (model prog w) (A.under (.builtin "type.__call__" ⟨.ref C::vs,kw⟩)) (.call (.ref f) ⟨.ref (s.heap.objs.size+1)::vs,kw⟩) (Mz (s.heap.objs.size+1) R) {s with heap:=(s.heap.push cu).push (gh C s.heap.objs.size)}):
  lD (model prog w) A (.call (.ref C) ⟨vs,kw⟩) R s:=by
 obtain⟨hh,g,d,t,os⟩:=s;exact PySem.W.make_core (PySem.W.makes_of X hm) (HY X hi) (λself=>O4 X self hf) (.inl rfl) h
end
def jP(f:Str)(v:V):List (Str×V)->List (Str×V)
 |[]=>[(f,v)]
 |(g,x)::r=>if g=f then(g,v)::r else(g,x)::jP f v r
theorem uG(f g:Str)(v:V):∀fs:List (Str×V),(jP f v fs).lookup g=if g=f then some v else fs.lookup g
 |[]=>by
  show eB g [(f,v)]=_;by_cases h:g=f
  ·have hb:(g==f)=true:=beq_iff_eq.mpr h;simp only[eB,hb,iP h]
  ·have hb:(g==f)=false:=beq_eq_false_iff_ne.mpr h;simp only[eB,hb,iN h]
 |(k,x)::r=>by
  have ih:=uG f g v r;rw[show jP f v ((k,x)::r)=(if k=f then(k,v)::r else(k,x)::jP f v r)from rfl];by_cases hk:k=f
  ·rw[iP hk];by_cases h:g=k
   ·have hb:(g==k)=true:=beq_iff_eq.mpr h;simp only[eB,hb,iP (h.trans hk)]
   ·have hb:(g==k)=false:=beq_eq_false_iff_ne.mpr h;simp only[eB,hb,iN (λe:g=f=>h (e.trans hk.symm))]
  ·rw[iN hk];by_cases h:g=k
   ·have hb:(g==k)=true:=beq_iff_eq.mpr h;simp only[eB,hb,iN (λe:g=f=>hk (h.symm.trans e))]
   ·have hb:(g==k)=false:=beq_eq_false_iff_ne.mpr h;simp only[eB,hb];exact ih
theorem zX(f:Str)(v:V):∀fs:List (Str×V),f∈(jP f v fs).map (·.1)/\∀g,g∈fs.map (·.1)->g∈(jP f v fs).map (·.1)
 |[]=>⟨by simp[jP],λg h=>by simp at h⟩
 |(k,x)::r=>by
  obtain⟨i1,i2⟩:=zX f v r;rw[show jP f v ((k,x)::r)=(if k=f then(k,v)::r else(k,x)::jP f v r)from rfl];by_cases hk:k=f
  ·rw[iP hk];subst hk;exact⟨by simp,λg h=>by simpa using h⟩
  ·rw[iN hk];refine⟨?_,λg h=>?_⟩
   ·rw[bO];exact aq _ i1
   ·rw[bO]at h ⊢;rcases af.mp h with e|e
    ·exact af.mpr (.inl e)
    ·exact aq _ (i2 g e)
theorem A5(f:Str)(v:V):∀fs:List (Str×V),(jP f v fs).length<=fs.length+1
 |[]=>by simp[jP]
 |(k,x)::r=>by
  have ih:=A5 f v r;rw[show jP f v ((k,x)::r)=(if k=f then(k,v)::r else(k,x)::jP f v r)from rfl];by_cases hk:k=f
  ·rw[iP hk,aG,aG];omega
  ·rw[iN hk,aG,aG];omega
theorem nF.some_of(r:nF (some v) o):∃u,o=some u/\aCg v u:=by
 cases o with
 |none=>exact(show False from r).elim
 |some u=>exact⟨u,rfl,r⟩
theorem nF.none_of(r:nF none o):o=none:=by
 cases o with
 |none=>rfl
 |some u=>exact(show False from r).elim
theorem Ew(r:aCg v u):zB u=true:=by
 cases v with
 |fB=>cases(show u=f7 from r);rfl
 |bl b=>cases(show u=Y5 b from r);rfl
 |int i=>obtain⟨t,e⟩:=(show ∃t,u=oE i t from r);cases e;rfl
 |str x=>obtain⟨t,e⟩:=(show ∃t,u=vR x t from r);cases e;rfl
 |Fu b=>obtain⟨t,e⟩:=(show ∃t,u=Xm b t from r);cases e;rfl
 |flt b=>obtain⟨t,e⟩:=(show ∃t,u=Xn b t from r);cases e;rfl
 |ref a=>cases(show u=b5 a from r);rfl
 |ty n=>cases(show u=kW n from r);rfl
section
variable{P:bK}{w:bu}{H H':Hp}{h h':c9}{a C dx:aF}{fs fs':List (Str×V)}
theorem GS(fC:oX P w H h)(e:H a=some (.ins C dx fs)):∃mA,Jt h a dx C mA/\(∀f,nF (fs.lookup f) (mA f))/\sC mA (fs.map (·.1))/\fs.length<=1000/\H dx=some (.own a):=by obtain⟨d,z,ne,ob,mA,n,r,q⟩:=(show gB P w H h a (.ins C dx fs)from fC a _ e);exact⟨mA,⟨ob,n,ne⟩,r,q,z,d⟩
end
structure Fe(K:aU)(C:aF):Prop where
 pg:pZ K C o9=true
 hd:kY K C=true
 po:Le K C=true
 sa:c7 K (.ref C) "__setattr__"=some (some (.builtin "object.__setattr__"))
theorem Fe.get{K:aU}{C:aF}(c:Fe K C)(f:Str):pZ K C f=true:=c.pg
def dN(K:aU)(C:aF)(f:Str):Prop:=c7 K (.ref C) f=some none
theorem dN.Sf{K:aU}{C:aF}{f:Str}(n:dN K C f):Av K C f=some none:=by unfold Av;rw[show c7 K (.ref C) f=some none from n];rfl
structure Meth(K:aU)(C:aF)(m:Str)(f:aF):Prop where
 at_:c7 K (.ref C) m=some (some (.ref f))
 fn:xV K (.ref f)=true
 kp:g8 K (.ref f)=true
section
variable{X:Cx}{pins:List (aF×Obj)}{σ:St}{H:Hp}{s:aO}{a C dx:aF}{fs:List (Str×V)}{f:Str}{v:V}{A:cG}{E:aE->aO->Prop}
theorem Cb{b:Bool}{Q:aE->aO->Prop}(I:aCd X pins σ H s)(e:H a=some (.ins C dx fs))(c:Fe X.K C)(n:dN X.K C f)(l:fs.lookup f=some v)
  (h:∀u s',aCd X pins σ H s'->aCg v u->Q u s'):bF (model X.prog X.w) A (getAttr (.ref a) f b) Q E s:=by
 obtain⟨mA,O,r,_,_,_⟩:=GS I.fC e;obtain⟨u,hu,ru⟩:=nF.some_of (v:=v) (o:=mA f) (by rw[<-l];exact r f);exact get_map I.vz O (c.get f) c.hd n hu (Ew ru) (h u _ (I.tok _) ru)
theorem Cc{pl:Sem Bool}{Q:aE×List aE->aO->Prop}(I:aCd X pins σ H s)(e:H a=some (.ins C dx fs))(c:Fe X.K C)(k:Meth X.K C m g)(l:fs.lookup m=none)
  (h:Q (.ref g,[.ref a]) s):bF (model X.prog X.w) A (A1 (.ref a) m pl) Q E s:=by
 obtain⟨mA,O,r,_,_,_⟩:=GS I.fC e;have hn:mA m=none:=nF.none_of (by rw[<-l];exact r m);exact QK I.vz O (c.get m) k.at_ k.fn hn h
theorem DU{Q:Unit->aO->Prop}(I:aCd X pins σ H s)(e:H a=some (.ins C dx fs))(c:Fe X.K C)(n:dN X.K C f)(hl:fs.length<1000)(ry:aCg y u)
  (h:∀s',aCd X pins σ (aCc H a (.ins C dx (jP f y fs))) s'->Q () s'):bF (model X.prog X.w) A (setAttr (.ref a) f u) Q E s:=by
 obtain⟨mA,O,r,wi,_,ho⟩:=GS I.fC e;have hz:(fs.map (·.1)).length<=aj:=by rw[aB,ic];omega
 refine Uc I.vz O c.sa c.po n.Sf c.hd wi hz λh' O' sb=>h _ ?_;have hd:∃o,h'.get? dx=some o:=let ⟨o,_,_,e',_⟩:=O'.ns;⟨o,e'⟩;refine I.write (x:=a) (e:=dx) (by rw[e];exact jj) (.inr ho) (λb q hb z=>(sb.2 b hb).trans z) hd ?_;refine⟨by rw[aJ O.ne];exact ho,?_,O.ne,O'.obj,_,O'.ns,λg=>?_,λg hg=>?_⟩
 ·have:=A5 f y fs;omega
 ·show nF ((jP f y fs).lookup g) (if g=f then some u else mA g);rw[uG];by_cases q:g=f
  ·rw[iP q,iP q];exact ry
  ·rw[iN q,iN q];exact r g
 ·by_cases q:g=f
  ·rw[q];exact(zX f y fs).1
  ·refine(zX f y fs).2 g (wi g λz=>hg ?_);show(if g=f then some u else mA g)=none;rw[iN q];exact z
theorem aCd.made(I:aCd X pins σ H s):aCd X pins σ (aCc (aCc H s.heap.objs.size (.own (s.heap.objs.size+1))) (s.heap.objs.size+1) (.ins C s.heap.objs.size []))
  {s with heap:=(s.heap.push cu).push (gh C s.heap.objs.size)}:=by
 have e1:(s.heap.push cu).get? s.heap.objs.size=some cu:=bJ s.heap rfl;have e2:((s.heap.push cu).push (gh C s.heap.objs.size)).get? (s.heap.objs.size+1)=some (gh C s.heap.objs.size):=by
  have:=bJ (s.heap.push cu) (o:=gh C s.heap.objs.size) rfl
  rwa [cb]at this
 have e3:(s.heap.push cu).Ns s.heap.objs.size (λ_=>none):=⟨cu,#[],_,e1,rfl,(λe he=>absurd he (by simp)),λ_=>rfl⟩;have I1:=I.laid (a:=s.heap.objs.size) (o:=.own (s.heap.objs.size+1)) (h':=s.heap.push cu) (t':=s.toks) (λb u q=>aY _ q) (a9 _) ⟨_,e1⟩;refine I1.laid (a:=s.heap.objs.size+1) (o:=.ins C s.heap.objs.size []) (t':=s.toks) (λb u q=>aY _ q) (sf (cb _ _)) ?_;have ne:s.heap.objs.size≠s.heap.objs.size+1:=cO (Bg _);refine⟨by rw[aJ ne,aC],bR _,ne,e2,λ_=>none,(Jl e3).at λo q=>aY _ q,λ_=>jj,λy hy=>absurd rfl hy⟩
theorem Ll{prog:bK}{w:bu}{pos:Pos}{s:aO}{Q:aE->aO->Prop}(hb:gk e f env (eval e env)=eval e env)
  (h:bF (model prog w) A (eval e env) (λo s₁=>bF (model prog w) A (getAttr o f true) Q E s₁) E s):bF (model prog w) A (eval (.Attribute e f pos) env) Q E s:=
 Attribute_any_ h (by rw[arm_eval_Attribute,hb])
end
inductive aDq(K:aU)(f:Str)(Q:VK)(x:V)(H1:Hp):Prop
 |mk:∀a C dx fs v,x=.ref a->H1 a=some (.ins C dx fs)->Fe K C->dN K C f->fs.lookup f=some v->Q v H1->aDq K f Q x H1
def S8(K:aU)(ta:TE)(f:Str):TE:=λσ H Q=>ta σ H (aDq K f Q)
inductive aDr(K:aU)(f:Str)(D:Ends)(σ:St)(y:V)(x:V)(H2:Hp):Prop
 |mk:∀a C dx fs,x=.ref a->H2 a=some (.ins C dx fs)->Fe K C->dN K C f->fs.length<1000->D.nx σ (aCc H2 a (.ins C dx (jP f y fs)))->aDr K f D σ y x H2
def aBp(K:aU)(ta tv:TE)(f:Str):TS:=λD σ H=>tv σ H λy H1=>ta σ H1 (aDr K f D σ y)
def YB(X:Cx)(op:Ju)(rd:V->V->Hp->VK->Prop):Prop:=
 ∀(pins:List (aF×Obj))(s:aO)(σ:St)(H:Hp)(x y:V)(u v:aE)(Q:VK),aCd X pins σ H s->aCg x u->aCg y v->rd x y H Q->bF (model X.prog X.w) X.A (inplaceOp op u v) (EP X pins σ Q) X.xe s
def Ua(K:aU)(ta tv:TE)(rd:V->V->Hp->VK->Prop)(f:Str):TS:=λD σ H=>ta σ H λx H1=>∃a C dx fs v,x=.ref a/\H1 a=some (.ins C dx fs)/\Fe K C/\dN K C f/\fs.lookup f=some v/\
 tv σ H1 λy H2=>rd v y H2 λz H3=>∃dx' fs',H3 a=some (.ins C dx' fs')/\fs'.length<1000/\D.nx σ (aCc H3 a (.ins C dx' (jP f z fs')))
section
variable{X:Cx}{o e value:cQ}{f:Str}{pos pos' tpos:Pos}{ta tv:TE}
theorem ag(he:PE X e ta)(hb:gk e f X.env (eval e X.env)=eval e X.env):PE X (.Attribute e f pos) (S8 X.K ta f):=by intro pins s σ H Q I h;refine Ll hb (fT (he pins s σ H _ I h) λu s1 ⟨x,H1,I1,rx,a,C,dx,fs,v,ex,ea,c,n,l,q⟩=>?_);subst ex;obtain rfl:u=b5 a:=rx;exact Cb I1 ea c n l λu' s2 I2 ru=>⟨v,H1,I2,ru,q⟩
theorem d8(ha:PE X o ta)(hv:PE X value tv)(hs:lW value (some (.Attribute o f pos')) pos.line X.env=pure false):PS X (.Assign [.Attribute o f pos'] value pos) (aBp X.K ta tv f):=by intro pins s σ H D I h;refine mi (fT (hv pins s σ H _ I h) λu s1 ⟨y,H1,I1,ry,q⟩=>fT (ha pins s1 σ H1 _ I1 q) λov s2 ⟨x,H2,I2,rx,a,C,dx,fs,ex,ea,c,n,l,q2⟩=>?_) hs;subst ex;obtain rfl:ov=b5 a:=rx;exact DU I2 ea c n l ry λs3 I3=>⟨σ,_,I3,q2⟩
theorem FQ{rd:V->V->Hp->VK->Prop}(ha:PE X o ta)(hv:PE X value tv)(hop:YB X op rd):PS X (.AugAssign (.Attribute o f tpos) op value pos) (Ua X.K ta tv rd f):=by intro pins s σ H D I h;refine wpAny_AugAssign_AttributeAny (fT (ha pins s σ H _ I h) λov s1 ⟨x,H1,I1,rx,a,C,dx,fs,v,ex,ea,c,n,l,q⟩=>?_);subst ex;obtain rfl:ov=b5 a:=rx;refine Cb I1 ea c n l λu s2 I2 ru=>fT (hv pins s2 σ H1 _ I2 q) λw3 s3 ⟨y,H2,I3,ry,q3⟩=>fT (hop pins s3 σ H2 v y u w3 _ I3 ru ry q3) λw4 s4 ⟨z,H3,I4,rz,dx',fs',ea',l',q4⟩=>?_;exact DU I4 ea' c n l' rz λs5 I5=>⟨σ,_,I5,q4⟩
inductive aBj(x:V)(y:V)(H:Hp)(Q:VK):Prop
 |mk:∀i j,x=.int i->y=.int j->Q (.int (i+j)) H->aBj x y H Q
theorem QR:YB X .Add aBj:=by rintro pins s σ H x y u v Q I rx ry ⟨i,j,rfl,rfl,q⟩;obtain⟨t,rfl⟩:=(show ∃t,u=oE i t from rx);obtain⟨t',rfl⟩:=(show ∃t',v=oE j t' from ry);exact Z7 ⟨.int (i+j),H,I.tok _,⟨_,rfl⟩,q⟩
end
section
variable{X:Cx}{pins:List (aF×Obj)}{σ:St}{H:Hp}{s:aO}{A:cG}{E:aE->aO->Prop}{Q:aE->aO->Prop}{c:aE}{b:Bool}
end
structure jS(k:Nat)(A:cG):Prop where
 hd:A.handled=none
 dp:A.depth+3*k+5<recursionLimit
 un:A.units+16*k+200<zD
theorem jS.mono(r:jS k A)(h:j<=k):jS j A:=⟨r.hd,by have:=r.dp;omega,by have:=r.un;omega⟩
theorem jS.deeper(r:jS (k+1) A)(env:Env):jS k (A.deeper env):=
 ⟨r.hd,by have:=r.dp;show A.depth+1+3*k+5<_;omega,by have:=r.un;show A.units+3+16*k+200<_;omega⟩
theorem K9{A:cG}{C:aF}{us:List aE}{kw:List (Str×aE)}:(A.under (.builtin "type.__call__" ⟨.ref C::us,kw⟩)).depth=A.depth+1:=by first|rfl|simp[Gx,Code.weight,Code.isCreation,Code.isGuard,Code.isCaller,YA,Jc,guardIds]
theorem Ka{A:cG}{C:aF}{us:List aE}{kw:List (Str×aE)}:(A.under (.builtin "type.__call__" ⟨.ref C::us,kw⟩)).units=A.units+1:=by first|rfl|simp[Gx,Code.cUnits,YA,Jc]
theorem jS.make(r:jS (k+1) A)(C:aF)(us:List aE)(kw:List (Str×aE)):jS k (A.under (.builtin "type.__call__" ⟨.ref C::us,kw⟩)):=
 ⟨r.hd,by have:=r.dp;rw[K9];omega,by have:=r.un;rw[Ka];omega⟩
theorem jS.depth(r:jS k A):A.depth<recursionLimit:=by have:=r.dp;omega
theorem jS.units(r:jS k A):A.units+64<zD:=by have:=r.un;omega
def oA:TA:=λ_ H Q=>Q [] H
def gT(ta:TE)(tr:TA):TA:=λσ H Q=>ta σ H λx H1=>tr σ H1 λxs H2=>Q (x::xs) H2
section
variable{X:Cx}{e:cQ}{es:List cQ}{te:TE}{t:TA}{pos:Pos}
theorem aH:PA X [] oA:=λ_ _ _ _ H Q I h=>pW ⟨[],H,I,.nil,h⟩
theorem aA(ha:PE X e te)(hr:PA X es t)(hs:b4 (e::es) X.env=(false,eval e X.env)::b4 es X.env:=by rfl):PA X (e::es) (gT te t):=by intro pos pins s σ H Q I h;rw[hs];show bF _ _ (spliced ((false,eval e X.env)::iT pos (b4 es X.env))) _ _ s;refine jA (fT (ha pins s σ H _ I h) λu s1 ⟨x,H1,I1,r1,q1⟩=>?_);exact fT (hr pos pins s1 σ H1 _ I1 q1) λus s2 ⟨xs,H2,I2,r2,q2⟩=>⟨x::xs,H2,I2,.cons r1 r2,q2⟩
def ZR(t:TA):TE:=λσ H Q=>t σ H λxs H1=>xs.length<=aj/\∀p,H1 p=none->Q (.ref p) (aCc H1 p (.tup xs))
def ZQ(t:TA):TE:=λσ H Q=>t σ H λxs H1=>xs.length<=aj/\∀p,H1 p=none->Q (.ref p) (aCc H1 p (.lst xs))
theorem pQ{x1}(h:PA X es t):PE X (.Tuple es x1 pos) (ZR t):=by intro pins s σ H Q I hq;refine wpAny_Tuple_spliced (fT (h pos pins s σ H _ I hq) λus s1 ⟨xs,H1,I1,r,z,q⟩=>⟨by rw[<-r.length];exact z,?_⟩);have hf:H1 s1.heap.objs.size=none:=I1.fC.fresh (a9 _);refine⟨.ref s1.heap.objs.size,aCc H1 s1.heap.objs.size (.tup xs),I1.laid (t':=s1.toks) (λb u e=>aY _ e) (a9 _) ?_,rfl,q _ hf⟩;exact⟨z,us,r,⟨_,bJ _ rfl,rfl,_,rfl⟩⟩
theorem cp(h:PA X es t):PE X (.List es pos) (ZQ t):=by intro pins s σ H Q I hq;refine wpAny_List_spliced (fT (h pos pins s σ H _ I hq) λus s1 ⟨xs,H1,I1,r,z,q⟩=>⟨by rw[<-r.length];exact z,?_⟩);have hf:H1 s1.heap.objs.size=none:=I1.fC.fresh (a9 _);refine⟨.ref s1.heap.objs.size,aCc H1 s1.heap.objs.size (.lst xs),I1.laid (t':=s1.toks) (λb u e=>aY _ e) (a9 _) ?_,rfl,q _ hf⟩;exact⟨z,us,0,r,bJ _ rfl⟩
end
abbrev Sp:=List V->Hp->VK->XK->Prop
abbrev Jb:=List Env->Hp->aO->XK->aE->aO->Prop
structure Jj(P:bK)(w:bu)(K:aU)(mg:Str->Option aE)(base:c9)(A:cG)(outer:List Env)(s:aO)(H:Hp):Prop where
 frames:A.frames=some outer
 mod:Mod K mg base
 bs:∀b o,base.get? b=some o->s.heap.get? b=some o/\H b=none
 Od:base.objs.size<=s.heap.objs.size
 w8:s.heap.FunFrames base outer
 TX:∀b∈BK outer,H b=none
 fC:oX P w H s.heap
 bare:zr s.gens
def CE(outer:List Env)(P:bK)(w:bu)(H:Hp)(s:aO)(Q:VK)(u:aE)(s':aO):Prop:=
 ∃v H',s'.os=s.os/\zr s'.gens/\Un (BK outer) [] H H' s.heap s'.heap/\oX P w H' s'.heap/\aCg v u/\Q v H'
def CR(CX:Jb)(outer:List Env)(P:bK)(w:bu)(H:Hp)(s:aO)(Q:VK)(E:XK)(r:zC)(s':aO):Prop:=
 match r with
 |.ok (.ret u)=>CE outer P w H s Q u s'
 |.ok _=>False
 |.error e=>CX outer H s E e s'
structure sZ(P:bK)(w:bu)(K:aU)(mg:Str->Option aE)(base:c9)(CX:Jb)(k:Nat)(f:aF)(fd:gN)(ps:List Str)(sp:Sp):Prop where
 len:∀vs H Q E,sp vs H Q E->vs.length=ps.length
 run:∀(A:cG)(outer:List Env)(s:aO)(H:Hp)(args:Args)(us:List aE)(vs:List V)(Q:VK)(E:XK),jS k A->Jj P w K mg base A outer s H->Oh s fd args (ps.zip us)->aCh vs us->sp vs H Q E->
  lD (model P w) A (.call (.ref f) args) (CR CX outer P w H s Q E) s
theorem sZ.mono{P:bK}{w:bu}{K:aU}{mg:Str->Option aE}{base:c9}{CX:Jb}{j k:Nat}{f:aF}{fd:gN}{ps:List Str}{sp:Sp}(F:sZ P w K mg base CX j f fd ps sp)(h:j<=k):
  sZ P w K mg base CX k f fd ps sp:=⟨F.len,λA outer s H args us vs Q E hr=>F.run A outer s H args us vs Q E (hr.mono h)⟩
theorem Jj.make{P:bK}{w:bu}{K:aU}{mg:Str->Option aE}{base:c9}{A:cG}{outer:List Env}{s:aO}{H:Hp}(e:Jj P w K mg base A outer s H)(C:aF)(us:List aE)(kw:List (Str×aE)):
  Jj P w K mg base (A.under (.builtin "type.__call__" ⟨.ref C::us,kw⟩)) outer s H:=⟨by first|exact e.frames|(simpa[Gx,Code.envs,Jc,pushEnvs]using e.frames),e.mod,e.bs,e.Od,e.w8,e.TX,e.fC,e.bare⟩
section
variable{X:Cx}{pins:List (aF×Obj)}{σ:St}{H:Hp}{s s':aO}
theorem aCd.WT(I:aCd X pins σ H s):Jj X.prog X.w X.K X.mg X.base X.A X.stack s H:=
 ⟨I.ok.frames,I.ok.mod,I.bs,bw I.ok.Od I.sz,I.stack,I.B8,I.fC,I.bare⟩
theorem aCd.after(I:aCd X pins σ H s)(h:CE X.stack X.prog X.w H s Q u s'):EP X pins σ Q u s':=by obtain⟨v,H',os,bare,un,fC,r,q⟩:=h;obtain⟨hh,g,d,t,os'⟩:=s';obtain rfl:os'=s.os:=os;exact⟨v,H',I.call (h':=hh) (g':=g) (d':=d) (t':=t) (ch:=[]) un fC bare (λb z=>absurd z (by simp)),r,q⟩
end
def S7(sp:Sp)(dvs:List V)(E:XK)(t:TA):TE:=λσ H Q=>t σ H λvs H1=>sp (vs++dvs) H1 Q E
def aCl(K:aU)(fd:gN)(ps:List Str)(ds:List aE):Prop:=
 ∀(s:aO)(us:List aE),K.In s.heap->(us++ds).length=ps.length->Oh s fd ⟨us,[]⟩ (ps.zip (us++ds))
theorem aCl.all{K:aU}{fd:gN}{ps:List Str}(h:∀us:List aE,us.length=ps.length->bindArgs fd ⟨us,[]⟩=pure (ps.zip us)):aCl K fd ps []:=λs us _ hl=>by rw[bg]at hl ⊢;exact .of_eq (h us hl)
def aCm(CX:Jb)(X:Cx)(E:XK):Prop:=∀(pins:List (aF×Obj))(σ:St)(H:Hp)(s:aO)(e:aE)(s':aO),aCd X pins σ H s->CX X.stack H s E e s'->X.xe e s'
section
variable{X:Cx}{CX:Jb}{k:Nat}{f C:aF}{fd:gN}{ps:List Str}{sp:Sp}{dvs:List V}{ds:List aE}{E:XK}{x m:Str}{p pos apos:Pos}{e o:cQ}{es:List cQ}{ta:TE}{t:TA}
theorem DS{pins:List (aF×Obj)}{σ:St}{H:Hp}{s:aO}{Q:VK}{us:List aE}{vs:List V}(F:sZ X.prog X.w X.K X.mg X.base CX k f fd ps sp)(hr:jS k X.A)(hb:aCl X.K fd ps ds)(hd:aCh dvs ds)(hx:aCm CX X E)
  (I:aCd X pins σ H s) (r:aCh vs us) (h:sp (vs++dvs) H Q E):bF (model X.prog X.w) X.A (call (.ref f) us) (EP X pins σ Q) X.xe s:=by
 have r2:aCh (vs++dvs) (us++ds):=r.append hd;have hl:(us++ds).length=ps.length:=by rw[<-r2.length];exact F.len _ _ _ _ h
 refine xE (pj (F.run X.A X.stack s H ⟨us,[]⟩ (us++ds) (vs++dvs) Q E hr I.WT (hb s us I.vz hl) r2 h) λr s' hq=>?_);cases r with
 |error e=>exact hx pins σ H s e s' I hq
 |ok fl=>
  cases fl with
  |ret u=>exact I.after hq
  |next=>exact dm hq
  |brk=>exact dm hq
  |cont=>exact dm hq
structure Mk(K:aU)(C f:aF):Prop where
 makes:O6 K C=true
 init:c7 K (.ref C) "__init__"=some (some (.ref f))
 fn:xV K (.ref f)=true
 kp:g8 K (.ref C)=true
theorem JH{pins:List (aF×Obj)}{σ:St}{H:Hp}{s:aO}{Q:VK}{us:List aE}{vs:List V}(M:Mk X.K C f)(F:sZ X.prog X.w X.K X.mg X.base CX k f fd ps sp)(hr:jS (k+1) X.A)(hb:aCl X.K fd ps ds)(hd:aCh dvs ds)
  (hx:aCm CX X E) (I:aCd X pins σ H s) (r:aCh vs us)
  (h:∀x dx,H x=none->H dx=none->dx≠x->sp (.ref x::(vs++dvs)) (aCc (aCc H dx (.own x)) x (.ins C dx [])) (λv H2=>v=.fB/\Q (.ref x) H2) E):
  bF (model X.prog X.w) X.A (call (.ref C) us) (EP X pins σ Q) X.xe s:=by
 have hq:=h (s.heap.objs.size+1) s.heap.objs.size (I.fC.fresh (Dp _)) (I.fC.fresh (a9 _)) (cO (Bg _));have I2:=aCd.made (C:=C) I;have r2:aCh (V.ref (s.heap.objs.size+1)::(vs++dvs)) (b5 (s.heap.objs.size+1)::(us++ds)):=.cons rfl (r.append hd);have hl:(b5 (s.heap.objs.size+1)::us++ds).length=ps.length:=by have e:=r2.length;rw[F.len _ _ _ _ hq]at e;exact e.symm
 refine xE (Q1 (f:=f) I.vz M.makes M.init (beq_iff_eq.mp M.fn) (pj (F.run _ X.stack _ _ ⟨b5 (s.heap.objs.size+1)::us,[]⟩ (b5 (s.heap.objs.size+1)::(us++ds)) _ _ E (hr.make C us []) (I2.WT.make C us []) (hb _ (b5 (s.heap.objs.size+1)::us) I2.vz hl) r2 hq) λr s' hq'=>?_));cases r with
 |error e=>exact hx pins σ _ _ e s' I2 hq'
 |ok fl=>
  cases fl with
  |ret u=>obtain⟨v,H',I3,rv,ev,q3⟩:=I2.after hq';subst ev;exact⟨rv,⟨V.ref (s.heap.objs.size+1),H',I3,rfl,q3⟩⟩
  |next=>exact dm hq'
  |brk=>exact dm hq'
  |cont=>exact dm hq'
end
def PK(X:Cx)(kws:List Jd)(t:TA):Prop:=
 ∀(pos:Pos)(pins:List (aF×Obj))(s:aO)(σ:St)(H:Hp)(Q:List V->Hp->Prop),aCd X pins σ H s->t σ H Q->bF (model X.prog X.w) X.A (evalAll ((oO pos (jQ kws X.env)).map (·.2))) (AP X pins σ Q) X.xe s
section
variable{X:Cx}{CX:Jb}{k:Nat}{f C:aF}{fd:gN}{ps ks:List Str}{sp:Sp}{E:XK}{x m:Str}{p pos apos kpos:Pos}{e o:cQ}{es:List cQ}{kws:List Jd}{te ta:TE}{t tk:TA}{nm:Option Str}
theorem Wn:PK X [] oA:=λ_ _ _ _ H Q I h=>wpAny_evalAll_nil ⟨[],H,I,.nil,h⟩
theorem U3(ha:PE X e te)(hr:PK X kws t):PK X (⟨nm,e,kpos⟩::kws) (gT te t):=by intro pos pins s σ H Q I h;show bF _ _ (evalAll ((do let v <-eval e X.env;Ag pos;pure v)::(oO pos (jQ kws X.env)).map (·.2))) _ _ s;refine wpAny_evalAll_cons (aI (fT (ha pins s σ H _ I h) λu s1 ⟨x,H1,I1,r1,q1⟩=>aI (kx (aa ?_))));exact fT (hr pos pins s1 σ H1 _ I1 q1) λus s2 ⟨xs,H2,I2,r2,q2⟩=>⟨x::xs,H2,I2,.cons r1 r2,q2⟩
variable{g:List aE->List aE->List aE}{gV:List V->List V->List V}
end
structure kD(N P:List Str)(sc:jJ):Prop where
 kind:sc.kind=.function
 co:sc.isCoroutine=false
 gen:sc.isGenerator=false
 nd:N.Nodup
 pre:N.take P.length=P
 par:∀x∈P,sc.names.lookup x=some .local\/sc.names.lookup x=some .cell
 Wg:∀y∈sc.names,y.2≠.free
theorem Ef{kindOf:Str->Option ia}{x:Str}:∀{binds:List (Str×aE)}{m:Str->Option aE},(∀v,(x,v)∉binds)->bindL kindOf binds m x=m x
 |[],_,_=>rfl
 |(n,v)::r,m,h=>by
  unfold bindL;rw[Ef λw hw=>h w (aq _ hw)];split
  ·have:x≠n:=by rintro rfl;exact h v cA
   simp[this]
  ·rfl
theorem Ec{kindOf:Str->Option ia}{x:Str}:∀{binds:List (Str×aE)}{m:Str->Option aE},(∀v,(x,v)∉binds)->bindC kindOf binds m x=m x
 |[],_,_=>rfl
 |(n,v)::r,m,h=>by
  unfold bindC;rw[Ec λw hw=>h w (aq _ hw)];split
  ·rfl
  ·have:x≠n:=by rintro rfl;exact h v cA
   simp[this]
theorem Ed{kindOf:Str->Option ia}{x:Str}{v:aE}:∀{P:List Str}{vs:List aE}{i:Nat}{m:Str->Option aE},P.Nodup->P[i]?=some x->vs[i]?=some v->kindOf x=some .local->
  bindL kindOf (P.zip vs) m x=some v
 |[],_,_,_,_,h,_,_=>by simp at h
 |_::_,[],_,_,_,_,h,_=>by simp at h
 |p::P,w::vs,0,m,nd,h1,h2,hk=>by
  simp at h1 h2;subst h1;subst h2
  show bindL kindOf ((p,w)::P.zip vs) m p=_;unfold bindL;rw[Ef λv hv=>(hZ.mp nd).1 (Dm hv).1,iP hk];simp
 |p::P,w::vs,i+1,m,nd,h1,h2,hk=>by show bindL kindOf ((p,w)::P.zip vs) m x=_;unfold bindL;exact Ed (i:=i) (hZ.mp nd).2 (by simpa using h1) (by simpa using h2) hk
theorem Eb{kindOf:Str->Option ia}{x:Str}{v:aE}:∀{P:List Str}{vs:List aE}{i:Nat}{m:Str->Option aE},P.Nodup->P[i]?=some x->vs[i]?=some v->kindOf x≠some .local->
  bindC kindOf (P.zip vs) m x=some v
 |[],_,_,_,_,h,_,_=>by simp at h
 |_::_,[],_,_,_,_,h,_=>by simp at h
 |p::P,w::vs,0,m,nd,h1,h2,hk=>by
  simp at h1 h2;subst h1;subst h2
  show bindC kindOf ((p,w)::P.zip vs) m p=_;unfold bindC;rw[Ec λv hv=>(hZ.mp nd).1 (Dm hv).1,iN hk];simp
 |p::P,w::vs,i+1,m,nd,h1,h2,hk=>by show bindC kindOf ((p,w)::P.zip vs) m x=_;unfold bindC;exact Eb (i:=i) (hZ.mp nd).2 (by simpa using h1) (by simpa using h2) hk
def start(N:List Str)(vs:List V):St:=vs.map some++br (N.length - vs.length) none
def vE(CX:Jb)(P:bK)(w:bu)(K:aU)(mg:Str->Option aE)(base:c9)(N:List Str)(qual:Str)(scope:jJ)(f:aF)(cd:aE)(A:cG)(outer:List Env)(s:aO)(H:Hp)(E:XK):Cx where
 prog:=P
 w:=w
 K:=K
 mg:=mg
 base:=base
 A:=A.deeper (wZ qual scope s.heap.objs.size f cd)
 N:=N
 sG:=s
 VM:=H
 env:=wZ qual scope s.heap.objs.size f cd
 outer:=outer
 stack:=wZ qual scope s.heap.objs.size f cd::outer
 ex:=[]
 calm:=true
 fn:=λ_=>true
 pn:=[]
 xe:=λe s'=>bF (model P w) (A.deeper (wZ qual scope s.heap.objs.size f cd)) (leaving (wZ qual scope s.heap.objs.size f cd) e) (λ_ s''=>CX outer H s E e s'') (λe' s''=>CX outer H s E e' s'') s'
theorem Ht{sc:jJ}{n:Nat}{x:Str}(h:sc.names.lookup x=some .cell):∃c,(eU n sc.names []).lookup x=some c:=by have q:=Fl sc.names n [] (.inl h);exact E3.mp q
theorem NZ{CX:Jb}{P:bK}{w:bu}{K:aU}{mg:Str->Option aE}{base:c9}{N ps:List Str}{qual:Str}{scope:jJ}{f:aF}{cd:aE}{A:cG}{outer:List Env}{s s1:aO}{H:Hp}{E:XK}{us:List aE}{vs:List V}
  (S:kD N ps scope) (hd:A.handled=none) (e0:Jj P w K mg base A outer s H) (hl:vs.length=ps.length) (r:aCh vs us)
  (x:InCallC s s.heap.objs.size (bindL (wZ qual scope s.heap.objs.size f cd).kindOf (ps.zip us) λ_=>none) (eU (s.heap.objs.size+1) scope.names []) (bindC (wZ qual scope s.heap.objs.size f cd).kindOf (ps.zip us) λ_=>none) s1):
  aCd (vE CX P w K mg base N qual scope f cd A outer s H E) [] (start N vs) H s1:=by
 have hpl:ps.length<=N.length:=by have:=congrArg L6 S.pre;rw[cB]at this;omega
 obtain⟨h1,tk,rfl,hk⟩:=x.done;have noA:∀b:aF,b∉(vE CX P w K mg base N qual scope f cd A outer s H E).ex:=λb z=>absurd (show b∈([]:List aF)from z) (by simp);refine⟨⟨e0.mod,S.kind,rfl,rfl,a9 _,λy z c h1 h2=>?_,λy hy=>?_,λy c _ h=>?_,λ_=>hd,Around.frames_deeper e0.frames,.inr ⟨rfl,rfl⟩,λb z=>absurd z (noA b),e0.bs,e0.Od,λb _ _=>noA b,λb z=>absurd z (noA b),e0.w8,e0.TX⟩,rfl,e0.bare,Un.kept hk,⟨_,x.toInCall.ns,λi y v h1 h2 h3=>?_⟩,λy c h=>⟨_,x.cell y c h⟩,e0.fC.fresh (a9 _),λy c h=>?_,λp hp=>absurd (show p∈([]:List (aF×Obj))from hp) (by simp),e0.fC.kept hk,?_⟩
 ·exact name_of_addr x.apart (cI h1) (cI h2)
 ·have hy:scope.names.lookup y=some .cell\/scope.names.lookup y=some .free:=hy;rcases hy with hy|hy
  ·exact Ht hy
  ·exact absurd rfl (S.Wg _ (cI hy))
 ·exact Jr (x.above y c (cI h))
 ·have hi:i<vs.length:=by
   unfold start at h2;by_cases hi:i<vs.length
   ·exact hi
   ·rw[List.getElem?_append_right (by simpa using hi)]at h2;rw[List.getElem?_replicate]at h2;split at h2 <;> cases h2
  have ha:vs[i]?=some v:=by
   unfold start at h2;rw[List.getElem?_append_left (by simpa using hi),aP]at h2;cases e:vs[i]? with
   |none=>rw[e]at h2;cases h2
   |some a=>rw[e]at h2;cases h2;rfl
  obtain⟨u,hu,rv⟩:=r.get ha;have hp:ps[i]?=some y:=by rw[<-S.pre,List.getElem?_take_of_lt (by omega)];exact h1
  have ndP:ps.Nodup:=by rw[<-S.pre];exact S.nd.sublist (List.take_sublist _ _)
  refine⟨u,rv,?_⟩;rcases S.par y (bp hp)with k|k
  ·exact .inl ⟨k,Ed ndP hp hu k⟩
  ·obtain⟨c,e⟩:=Ht (n:=s.heap.objs.size+1) k;refine .inr ⟨.inl k,c,e,?_⟩;have q:=x.cell y c e;rw[Eb ndP hp hu (by show scope.names.lookup y≠_;rw[k];decide)]at q;exact q
 ·exact e0.fC.fresh (Jr (x.above y c (cI h)))
 ·unfold start;show _=N.length;rw[aN,aB,Jp];omega
theorem Yj{CX:Jb}{P:bK}{w:bu}{K:aU}{mg:Str->Option aE}{base:c9}{k:Nat}{f:aF}{name qual:Str}{params:Arguments}{body:List Stmt}{scope:jJ}{dV kV doc pm cdv ct oc:aE}{an od:Option aF}
  {osl:Array (Option aE)} {N ps:List Str} {sp:Sp} (lk:K.lookup f=some ⟨oc,od,.func (mY name qual params body scope dV kV doc pm an cdv ct),osl⟩) (hcd:Bk K cdv qual=true) (S:kD N ps scope)
  (len:∀vs H Q E,sp vs H Q E->vs.length=ps.length)
  (hbody:∀(A:cG)(outer:List Env)(s:aO)(H:Hp)(vs:List V)(Q:VK)(E:XK),jS k (A.deeper (wZ qual scope s.heap.objs.size f cdv))->sp vs H Q E-> ∃t,HG (vE CX P w K mg base N qual scope f cdv A outer s H E) body t/\t {nx:=λ_ H'=>Q .fB H',rt:=Q} (start N vs) H):
  sZ P w K mg base CX (k+1) f (mY name qual params body scope dV kV doc pm an cdv ct) ps sp:=by
 refine⟨len,λA outer s H args us vs Q E hr e0 hb r hsp=>?_⟩;have hl:=len _ _ _ _ hsp;have KX:K.In s.heap:=e0.mod.V3.keeps λb o e=>(e0.bs b o e).1;have lim:s.heap.NoLimit:=e0.mod.nolimit.keeps λb o e=>(e0.bs b o e).1;have hkind:∀y∈ps.zip us,scope.names.lookup y.1=some .local\/(scope.names.lookup y.1=some .cell/\((eU (s.heap.objs.size+1) scope.names []).lookup y.1).isSome=true):=λ⟨n,v⟩ hy=>by
  rcases S.par n (Dm hy).1 with q|q
  ·exact .inl q
  ·exact .inr ⟨q,Fl _ _ _ (.inl q)⟩
 refine codeAny_call_function hr.depth (KX _ _ lk) rfl S.co S.gen rfl (PySem.W.codeRec_of KX hcd) (hb _ _ _ _ ?_);refine wpAny_newFunctionEnv_cells S.kind hkind λenv he s1 x=>?_;subst he;refine⟨lim.keeps x.toInCall.keep,codeAny_func ?_⟩;obtain⟨t,ht,hq⟩:=hbody A outer s H vs Q E (hr.deeper _) hsp;have I:aCd (vE CX P w K mg base N qual scope f cdv A outer s H E) [] (start N vs) H s1:=NZ S hr.hd e0 hl r x;refine e8 (ht [] s1 (start N vs) H _ I hq) (λfl s' hs=>?_) λe s' hs=>hs;have fin:∀{σ':St}{H':Hp}{v:V}{u:aE},aCd (vE CX P w K mg base N qual scope f cdv A outer s H E) [] σ' H' s'->aCg v u->Q v H'->CE outer P w H s Q u s':=
  λ{σ' H' v u} J rv q=>⟨v,H',J.os,J.bare,J.base,J.fC,rv,q⟩
 cases fl with
 |ret u=>obtain⟨v,σ',H',J,rv,q⟩:=hs;exact fin J rv q
 |next=>obtain⟨σ',H',J,q⟩:=hs;exact fin (v:=V.fB) (u:=f7) J rfl q
 |brk=>obtain⟨_,_,_,q⟩:=hs;exact dm q
 |cont=>obtain⟨_,_,_,q⟩:=hs;exact dm q
section
variable{X:Cx}{x:Str}{p pos:Pos}{e:cQ}{es:List cQ}{t:TA}{id T:String}{r:List V->Hp->VK->Prop}
def aAd(r:List V->Hp->VK->Prop)(t:TA):TE:=λσ H Q=>t σ H λvs H1=>r vs H1 Q
theorem cF(hc:pY X (.builtin id) r)(hg:Gl X x)(hm:X.mg x=none)(hv:fU x=some (.builtin id))(ha:PA X (e::es) t)(hn:x≠"__name__":=by decide)(hdb:(x==("__debug__":Str))=false:=by decide)
  (he:b4 (e::es) X.env=(false,eval e X.env)::b4 es X.env:=by rfl) (hpl:(iT pos (b4 es X.env)).any (·.1)=false:=by rfl):PE X (.Call (.Name x p) (e::es) [] pos) (aAd r t):=by
 intro pins s σ H Q I h;refine iI (z6 I hg hm hv ?_ hn hdb);exact Z6 (fT (ha pos pins s σ H _ I h) λus s1 ⟨vs,H1,I1,r1,q1⟩=>hc pins s1 σ H1 vs us Q I1 r1 q1) he hpl
theorem lN(hc:pY X (.type T) r)(hg:Gl X x)(hm:X.mg x=none)(hv:fU x=some (.type T))(ha:PA X (e::es) t)(hn:x≠"__name__":=by decide)(hdb:(x==("__debug__":Str))=false:=by decide)
  (he:b4 (e::es) X.env=(false,eval e X.env)::b4 es X.env:=by rfl) (hpl:(iT pos (b4 es X.env)).any (·.1)=false:=by rfl):PE X (.Call (.Name x p) (e::es) [] pos) (aAd r t):=by
 intro pins s σ H Q I h;refine iI (z6 I hg hm hv ?_ hn hdb);exact il (fT (ha pos pins s σ H _ I h) λus s1 ⟨vs,H1,I1,r1,q1⟩=>hc pins s1 σ H1 vs us Q I1 r1 q1) he hpl
end
end L2
namespace HT
open PySem PyProof.Rows
section
open PySem.SeqAt
open PySem.MeetsSeq PySem.MeetsSeq2 PySem.MeetsSeq3
end
section
variable{prog:bK}{w:bu}{A:cG}{E:aE->aO->Prop}{s:aO}
def lO(n d:Nat):Option Int->Nat
 |none=>d
 |some v=>if v<0 then(v+(n:Int)).toNat else min v.toNat n
theorem JI(n d:Nat):lO n d none=d:=rfl
theorem qw(n d k:Nat):lO n d (some (k:Int))=min k n:=by show(if(k:Int)<0 then((k:Int)+(n:Int)).toNat else min (k:Int).toNat n)=min k n;rw[iN (by omega),gL]
theorem Ro(n d:Nat)(hd:d<=n)(o:Option Int):lO n d o<=n:=by
 cases o with
 |none=>exact hd
 |some v=>
  show(if v<0 then(v+(n:Int)).toNat else min v.toNat n)<=n;by_cases hv:v<0
  ·rw[iP hv];omega
  ·rw[iN hv];exact Nat.min_le_right _ _
end
end HT
namespace L2
abbrev TO:=St->Hp->(Option Int->Hp->Prop)->Prop
def PO(X:Cx)(e:Option cQ)(t:TO):Prop:=
 ∀(pins:List (aF×Obj))(s:aO)(σ:St)(H:Hp)(Q:Option Int->Hp->Prop),aCd X pins σ H s->t σ H Q->
  bF (model X.prog X.w) X.A (evalPart e X.env) (λu s'=>∃o H',aCd X pins σ H' s'/\aAn u o/\Q o H') X.xe s
def Ma:TO:=λ_ H Q=>Q none H
inductive aDi(Q:(Option Int->Hp->Prop))(x:V)(H1:Hp):Prop
 |mk:∀i,x=.int i->Q (some i) H1->aDi Q x H1
def Vg(t:TE):TO:=λσ H Q=>t σ H (aDi Q)
section
variable{X:Cx}{e:cQ}{te:TE}{lo hi:Option cQ}{tl th:TO}{pos p2:Pos}
theorem G7:PO X none Ma:=by intro pins s σ H Q I h;rw[evalPart_none];exact aa ⟨none,H,I,.none,h⟩
theorem jc(h:PE X e te):PO X (some e) (Vg te):=by intro pins s σ H Q I hw;rw[evalPart_some];refine fT (h pins s σ H _ I hw) λu s1 ⟨x,H1,I1,r1,q1⟩=>?_;obtain⟨i,rfl,q⟩:=q1;obtain⟨t,rfl⟩:=r1;exact⟨some i,H1,I1,.int i t,q⟩
def aAt(X:Cx)(r:V->Option Int->Option Int->Hp->VK->Prop):Prop:=
 ∀(pins:List (aF×Obj))(s:aO)(σ:St)(H:Hp)(x:V)(v vl vu:aE)(lo hi:Option Int)(sl:aF)(Q:VK),aCd X pins σ H s->aCg x v->s.heap.IsSliceOf sl vl vu .none->aAn vl lo->aAn vu hi->r x lo hi H Q->
  ∃T id,typeLookup (.type T) "__getitem__"=pure (some (.builtin id))/\s.TypeIs v T/\bF (model X.prog X.w) X.A (Ji v (.ref sl)) (EP X pins σ Q) X.xe s
def tSl(r:V->Option Int->Option Int->Hp->VK->Prop)(te:TE)(tl th:TO):TE:=λσ H Q=>te σ H λx H1=>tl σ H1 λl H2=>th σ H2 λu H3=>r x l u H3 Q
theorem ly(hr:aAt X r)(he:PE X e te)(hl:PO X lo tl)(hu:PO X hi th):PE X (.Subscript e (.Slice lo hi none p2) pos) (tSl r te tl th):=by intro pins s σ H Q I h;refine WA (fT (he pins s σ H _ I h) λv s1 ⟨x,H1,I1,r1,q1⟩=>?_);refine wpAny_Slice (fT (hl pins s1 σ H1 _ I1 q1) λvl s2 ⟨l,H2,I2,pl,q2⟩=>fT (hu pins s2 σ H2 _ I2 q2) λvu s3 ⟨u,H3,I3,pu,q3⟩=>?_);rw[evalPart_none];refine aa ?_;have I4:aCd X pins σ H3 {s3 with heap:=s3.heap.push {cls:=.type "slice",data:=.fields #[vl,vu,.none]}}:=I3.kept (t':=s3.toks) λb ob q=>aY _ q;obtain⟨T,id,hT,ht,hg⟩:=hr pins {s3 with heap:=s3.heap.push {cls:=.type "slice",data:=.fields #[vl,vu,.none]}} σ H3 x v vl vu l u s3.heap.objs.size Q I4 r1 (Xh ..) pl pu q3;show bF (model X.prog X.w) X.A (subscriptTail e (.Slice lo hi none p2) v (.ref s3.heap.objs.size)) (EP X pins σ Q) X.xe {s3 with heap:=s3.heap.push {cls:=.type "slice",data:=.fields #[vl,vu,.none]}};exact tail_any (ops:=[.ref s3.heap.objs.size,v]) ht hT hg (by with_unfolding_all rfl)
def CF(xs:List V)(lo hi:Option Int):List V:=(xs.drop (HT.lO xs.length 0 lo)).take (HT.lO xs.length xs.length hi - HT.lO xs.length 0 lo)
theorem ID(xs:List V)(lo hi:Option Int):(CF xs lo hi).length<=xs.length:=by unfold CF;rw[cB,ay];omega
end
def TY(n:Nat)(i:Int):Option Nat:=if 0<=i then(if i<n then some i.toNat else none)else if -(n:Int)<=i then some (i+n).toNat else none
def TV{α:Type}(xs:List α)(i:Int):Option α:=(TY xs.length i).bind λj=>xs[j]?
theorem MH(h:TY n i=some j):seqIndex? i n=some j/\j<n/\-(n:Int)<=i/\i<n:=by
 unfold TY at h;by_cases h0:0<=i
 ·rw[iP h0]at h;by_cases h1:i<n
  ·rw[iP h1]at h;have e:i.toNat=j:=aV h;exact⟨by rw[Ub h0 h1,e],by omega,by omega,h1⟩
  ·rw[iN h1]at h;cases h
 ·rw[iN h0]at h;by_cases h1:-(n:Int)<=i
  ·rw[iP h1]at h;have e:(i+n).toNat=j:=aV h;exact⟨by rw[Rr (by omega) h1,e],by omega,h1,by omega⟩
  ·rw[iN h1]at h;cases h
theorem Fq{α:Type}{xs:List α}{i:Int}{v:α}(h:TV xs i=some v):∃j,seqIndex? i xs.length=some j/\xs[j]?=some v/\j<xs.length/\-(xs.length:Int)<=i/\i<xs.length:=by
 unfold TV at h;cases e:TY xs.length i with
 |none=>rw[e]at h;cases h
 |some j=>rw[e]at h;obtain⟨h1,h2,h3,h4⟩:=MH e;exact⟨j,h1,h,h2,h3,h4⟩
theorem Ts{α:Type}{xs:List α}{j:Nat}{v:α}(h:xs[j]?=some v):TV xs (j:Int)=some v:=by
 have hj:j<xs.length:=(a8.mp h).1;have e:TY xs.length (j:Int)=some j:=by unfold TY;rw[iP (by omega),iP (by omega)];simp
 unfold TV;rw[e];exact h
def Tc(b:cQ):Prop:=∀o i,subscripted b false o i=operate [o,i] (Ji o i)
def Xi(X:Cx)(r:R2):Prop:=
 ∀(value slice:cQ)(pins:List (aF×Obj))(s:aO)(σ:St)(H:Hp)(x y:V)(v u:aE)(Q:VK),aCd X pins σ H s->aCg x v->aCg y u->r x y H Q->
  subscripted slice false v u=operate [v,u] (Ji v u)->bF (model X.prog X.w) X.A (subscriptTail value slice v u) (EP X pins σ Q) X.xe s
def Vr(X:Cx)(id:String)(r:V->List V->Hp->VK->Prop):Prop:=
 ∀(pins:List (aF×Obj))(s:aO)(σ:St)(H:Hp)(x:V)(xs:List V)(v:aE)(us:List aE)(Q:VK),aCd X pins σ H s->aCg x v->aCh xs us->r x xs H Q->
  bF (model X.prog X.w) X.A (call (.builtin id) (v::us)) (EP X pins σ Q) X.xe s
section
variable{X:Cx}{a b:cQ}{ta tb:TE}{pos:Pos}
theorem fE(hr:Xi X r)(ha:PE X a ta)(hb:PE X b tb)(hs:Tc b):PE X (.Subscript a b pos) (Mb r ta tb):=by intro pins s σ H Q I h;exact WA (WI ha hb I h λv u s2 x y H2 I2 rx ry q=>hr a b pins s2 σ H2 x y v u Q I2 rx ry q (hs _ _))
inductive ZA(K:aU)(x:V)(y:V)(H:Hp)(Q:VK):Prop
 |mk:∀p xs i v,x=.ref p->y=.int i->bf K H p xs->TV xs i=some v->Q v H->ZA K x y H Q
inductive R5(K:aU)(x:V)(y:V)(H:Hp)(Q:VK):Prop
 |mk:∀p xs i v,x=.ref p->y=.int i->qU K H p xs->TV xs i=some v->Q v H->R5 K x y H Q
inductive aBk(x:V)(y:V)(H:Hp)(Q:VK):Prop
 |mk:∀z i c,x=.str z->y=.int i->z.length<=aj->TV z.cps.toList i=some c->Q (.str ⟨#[c]⟩) H->aBk x y H Q
theorem du:Xi X (ZA X.K):=by
 intro value slice pins s σ H x y v u Q I rx ry h hs;obtain⟨p,xs,i,z,rfl,rfl,hq,he,q⟩:=h;cases rx;obtain⟨t,rfl⟩:=ry;obtain⟨its,r,pl,hz⟩:=I.list hq;obtain⟨j,h1,h2,h3,h4,h5⟩:=Fq he;obtain⟨w,ew,rw'⟩:=r.get h2;have hl:=r.length;have hn:=we;have fin:EP X pins σ Q w s:=⟨z,H,I,rw',q⟩;by_cases h0:0<=i
 ·have hj:i.toNat=j:=by rw[Ub h0 h5]at h1;exact aV h1
  exact item_listR pl.isList h0 (by omega) (by rw[hj];simpa using ew) fin hs
 ·have hj:(i+(its.toArray.size:Int)).toNat=j:=by rw[Rr (by omega) h4]at h1;rw[bI,<-hl];exact aV h1
  exact S0 (x:=w) pl.isList.typeIs Xv.lookup
   (wpAny_getItem_list_neg (Q:=λr s'=>r=w/\EP X pins σ Q r s') pl.isList (by omega) (by rw[bI] <;> omega) (by omega) (by rw[hj];simpa using ew) ⟨rfl,fin⟩) hs
theorem wd:Xi X (R5 X.K):=by
 intro value slice pins s σ H x y v u Q I rx ry h hs;obtain⟨p,xs,i,z,rfl,rfl,hq,he,q⟩:=h;cases rx;obtain⟨t,rfl⟩:=ry;obtain⟨its,r,pl,hz⟩:=I.tuple hq;obtain⟨j,h1,h2,h3,h4,h5⟩:=Fq he;obtain⟨w,ew,rw'⟩:=r.get h2;have hl:=r.length;have hn:=we;have fin:EP X pins σ Q w s:=⟨z,H,I,rw',q⟩;exact S0 (x:=w) pl.typeIs slot_tuple_getitem.lookup
  (getItem_tuple (j:=j) (Q:=λr s'=>r=w/\EP X pins σ Q r s') pl (by omega) (by omega) (by rw[bI,<-hl];exact h1) (by simpa using ew) ⟨rfl,fin⟩) hs
theorem GU:Xi X aBk:=by
 intro value slice pins s σ H x y v u Q I rx ry h hs;obtain⟨z,i,c,rfl,rfl,hz,he,q⟩:=h;obtain⟨t,rfl⟩:=rx;obtain⟨t',rfl⟩:=ry;obtain⟨j,h1,h2,h3,h4,h5⟩:=Fq he;have hl:z.cps.toList.length=z.length:=by simp[Ov]
 rw[hl]at h1 h4 h5;have hn:=we
 exact tail_any (qz s z t) slot_str_getitem.lookup (getItem_str (c:=c) (by
  have e1:decide (i < -(2 ^ 63:Int))=false:=dF (by omega);have e2:decide (i≥2 ^ 63)=false:=dF (by omega);rw[e1,e2,xP]) (by rw[h1];simpa using h2) ⟨.str ⟨#[c]⟩,H,I.tok _,⟨_,rfl⟩,q⟩) hs
theorem Kb(its:List aE)(n j:Nat)(u:aE):zA (·.setIfInBounds j u) {cls:=.type "list",data:=.seq its.toArray n}={cls:=.type "list",data:=.seq (its.set j u).toArray n}:=by simp[zA]
theorem aCd.lst(I:aCd X pins σ H s)(h:H p=some (.lst xs)):
  ∃(its:List aE)(n:Nat),aCh xs its/\s.heap.get? p=some {cls:=.type "list",data:=.seq its.toArray n}/\xs.length<=aj:=by
 obtain⟨z,its,n,r,e⟩:=I.fC p _ h;exact⟨its,n,r,e,z⟩
theorem aCd.Wb{xs ys:List V}{its its':List aE}{n n':Nat}{f:Obj->Obj}(I:aCd X pins σ H s)(h:H p=some (.lst xs))
  (ho:s.heap.get? p=some {cls:=.type "list",data:=.seq its.toArray n}) (hf:f {cls:=.type "list",data:=.seq its.toArray n}={cls:=.type "list",data:=.seq its'.toArray n'}) (r:aCh ys its') (hz:ys.length<=aj) (t:Nat):
  aCd X pins σ (aCc H p (.lst ys)) {s with heap:=s.heap.update p f,toks:=t}:=by
 have e:(s.heap.update p f).get? p=some {cls:=.type "list",data:=.seq its'.toArray n'}:=by rw[gf f ho (by rw[hf] <;> rfl),hf]
 refine I.write (x:=p) (e:=p) (by rw[h];trivial) (.inl rfl) (λb u hb q=>(fN _ _ (j7 hb)).trans q) ⟨_,e⟩ ?_;exact⟨hz,its',n',r,e⟩
inductive ZC(o:V)(i:V)(v:V)(H:Hp)(Q:(Hp->Prop)):Prop
 |mk:∀p xs k j,o=.ref p->i=.int k->H p=some (.lst xs)->TY xs.length k=some j->Q (aCc H p (.lst (xs.set j v)))->ZC o i v H Q
theorem set_list:YM X ZC:=by
 intro pins s σ H o i v ov iv u Q I ro ri rv h;obtain⟨p,xs,k,j,rfl,rfl,hp,hj,q⟩:=h;cases ro;obtain⟨t,rfl⟩:=ri;obtain⟨its,n,r,ho,hz⟩:=I.lst hp;obtain⟨h1,h2,h3,h4⟩:=MH hj;have hl:=r.length;have hn:=we;have I':aCd X pins σ (aCc H p (.lst (xs.set j v))) {s with heap:=s.heap.update p (zA (·.setIfInBounds j u))}:=
  I.Wb hp ho (Kb its n j u) (r.set rv j) (by rw[se];exact hz) s.toks
 by_cases h0:0<=k
 ·have hk:k.toNat=j:=by rw[Ub h0 h4]at h1;exact aV h1
  exact PySem.W.ki_setAt ho h0 (by omega) (by rw[bI,<-hl];exact h4) (by rw[hk];exact⟨_,I',q⟩)
 ·have hk:(k+(its.toArray.size:Int)).toNat=j:=by rw[Rr (by omega) h3]at h1;rw[bI,<-hl];exact aV h1
  exact PySem.W.ki_setBack ho (by omega) (by rw[bI,<-hl];exact h3) (by omega) (by rw[hk];exact⟨_,I',q⟩)
theorem Gh(lo hi:Option Int)(n:Nat):(sliceBounds lo hi none n).1=((HT.lO n 0 lo:Nat):Int)/\(sliceBounds lo hi none n).2.1=((HT.lO n n hi:Nat):Int)/\(sliceBounds lo hi none n).2.2=1:=by
 refine⟨?_,?_,rfl⟩
 ·cases lo with
  |none=>simp[sliceBounds,HT.lO]
  |some i=>
   simp only[sliceBounds,HT.lO,O3,show(1:Int) > 0 by decide,if_true];by_cases h:i<0
   ·simp only[h,if_true] <;> omega
   ·simp only[h,if_false] <;> omega
 ·cases hi with
  |none=>simp[sliceBounds,HT.lO]
  |some i=>
   simp only[sliceBounds,HT.lO,O3,show(1:Int) > 0 by decide,if_true];by_cases h:i<0
   ·simp only[h,if_true] <;> omega
   ·simp only[h,if_false] <;> omega
theorem ES(its:List aE)(lo hi:Option Int):slicePick its.toArray lo hi none=((its.drop (HT.lO its.length 0 lo)).take (HT.lO its.length its.length hi - HT.lO its.length 0 lo)).toArray:=by obtain⟨h1,h2,h3⟩:=Gh lo hi its.toArray.size;unfold slicePick;rw[h1,h2,h3];simp only[sliceRange_one,pick_run,bI] <;> rfl
inductive ZD(K:aU)(x:V)(lo:Option Int)(hi:Option Int)(H:Hp)(Q:VK):Prop
 |mk:∀a xs,x=.ref a->bf K H a xs->(∀p,H p=none->Q (.ref p) (aCc H p (.lst (CF xs lo hi))))->ZD K x lo hi H Q
theorem B7:aAt X (ZD X.K):=by intro pins s σ H x v vl vu lo hi sl Q I rx hs pl pu h;obtain⟨a,xs,rfl,hx,q⟩:=h;cases rx;obtain⟨its,r,ht,hz⟩:=I.list hx;have hlen:=r.length;refine⟨"list",_,Xv.lookup,ht.isList.typeIs,?_⟩;refine wpAny_getItem_list_slice ht.isList hs pl pu .none (by simp) ?_ (by rw[bI] <;> omega);rw[ES,<-hlen];refine⟨.ref s.heap.objs.size,_,I.laid (t':=s.toks) (o:=.lst (CF xs lo hi)) (λb ob q=>aY _ q) (a9 _) ?_,rfl,q _ (I.fC.fresh (a9 _))⟩;exact⟨bw (ID xs lo hi) hz,_,0,(r.drop (HT.lO xs.length 0 lo)).take (HT.lO xs.length xs.length hi - HT.lO xs.length 0 lo),bJ _ rfl⟩
def lF:V->Bool
 |.fB=>true
 |.bl _=>true
 |.int _=>true
 |.str _=>true
 |_=>false
def Jh:V->V->Bool
 |.fB,.fB=>true
 |.bl a,.bl b=>a==b
 |.bl a,.int b=>(if a then 1 else 0)==b
 |.int a,.bl b=>a==(if b then 1 else 0)
 |.int a,.int b=>a==b
 |.str a,.str b=>a==b
 |_,_=>false
theorem WU(ry:aCg y u)(rx:aCg x v)(fy:lF y=true)(fx:lF x=true):Y3 A s u v (Jh y x):=by
 cases y with
 |fB=>
  cases ry;cases x with
  |fB=>cases rx;exact SeqAt.EqAt.same _
  |bl b=>cases rx;exact SeqAt.EqAt.none_bool b
  |int b=>obtain⟨t,rfl⟩:=rx;exact SeqAt.EqAt.none_int b t
  |str b=>obtain⟨t,rfl⟩:=rx;exact SeqAt.EqAt.none_str b t
  |_=>exact absurd (show false=true from fx) bD
 |bl a=>
  cases ry;cases x with
  |fB=>cases rx;exact SeqAt.EqAt.bool_none a
  |bl b=>cases rx;exact SeqAt.EqAt.bool_bool a b
  |int b=>obtain⟨t,rfl⟩:=rx;exact SeqAt.EqAt.bool_int a b t
  |str b=>obtain⟨t,rfl⟩:=rx;exact SeqAt.EqAt.bool_str a b t
  |_=>exact absurd (show false=true from fx) bD
 |int a=>
  obtain⟨t',rfl⟩:=ry;cases x with
  |fB=>cases rx;exact SeqAt.EqAt.int_none a t'
  |bl b=>cases rx;exact SeqAt.EqAt.int_bool a t' b
  |int b=>obtain⟨t,rfl⟩:=rx;exact SeqAt.EqAt.int_int a t' b t
  |str b=>obtain⟨t,rfl⟩:=rx;exact HI a t' b t
  |_=>exact absurd (show false=true from fx) bD
 |str a=>
  obtain⟨t',rfl⟩:=ry;cases x with
  |fB=>cases rx;exact SeqAt.EqAt.str_none a t'
  |bl b=>cases rx;exact SeqAt.EqAt.str_bool a t' b
  |int b=>obtain⟨t,rfl⟩:=rx;exact HJ a t' b t
  |str b=>obtain⟨t,rfl⟩:=rx;exact SeqAt.EqAt.str_str a t' b t
  |_=>exact absurd (show false=true from fx) bD
 |_=>exact absurd (show false=true from fy) bD
def GK(x:V)(u:aE):Bool:=match u with
 |.none=>Jh .fB x
 |.bool b=>Jh (.bl b) x
 |.int i _=>Jh (.int i) x
 |.str z _=>Jh (.str z) x
 |_=>false
theorem C5(r:aCg y u)(f:lF y=true):GK x u=Jh y x:=by
 cases y with
 |fB=>cases r;rfl
 |bl b=>cases r;rfl
 |int i=>obtain⟨t,rfl⟩:=r;rfl
 |str z=>obtain⟨t,rfl⟩:=r;rfl
 |_=>exact absurd (show false=true from f) bD
theorem xY:∀{xs:List V}{us:List aE},aCh xs us->xs.all lF=true->us.any (GK x)=xs.any λy=>Jh y x
 |_,_,.nil,_=>rfl
 |y::xs,u::us,.cons r t,f=>by rw[g6,bG]at f;rw[g7,g7,C5 r f.1,xY t f.2]
theorem n9(rx:aCg x v)(fx:lF x=true):∀{xs:List V}{us:List aE},aCh xs us->xs.all lF=true->∀u∈us,Y3 A s u v (GK x u)
 |_,_,.nil,_=>λu hu=>by cases hu
 |y::xs,u::us,.cons r t,f=>λu' hu=>by
  rw[g6,bG]at f;rcases af.mp hu with rfl|hu
  ·rw[C5 r f.1];exact WU r rx f.1 fx
  ·exact n9 rx fx t f.2 u' hu
def vw(x:V)(xs:List V):Bool:=xs.any λy=>Jh y x
inductive aAa(K:aU)(neg:Bool)(x:V)(y:V)(H:Hp)(Q:VK):Prop
 |mk:∀p xs,y=.ref p->(bf K H p xs\/qU K H p xs)->lF x=true->xs.all lF=true->Q (.bl (if neg then !vw x xs else vw x xs)) H->aAa K neg x y H Q
theorem kS:yt X (gC .In) (aAa X.K false):=by
 intro pins s σ H x y v u Q I rx ry h;obtain⟨p,xs,rfl,hq,fx,fs,q⟩:=h;cases ry;rcases hq with hq|hq
 ·obtain⟨its,r,pl,hz⟩:=I.list hq;refine SeqAt.in_listAt (GK x) pl.isList (λw hw=>n9 rx fx r fs w (by simpa using hw)) ⟨.bl _,H,I,rfl,?_⟩;rw[show its.toArray.any (GK x)=its.any (GK x)by simp,xY r fs];exact q
 ·obtain⟨its,r,pl,hz⟩:=I.tuple hq;refine SeqAt.in_tupleAt (GK x) pl (λw hw=>n9 rx fx r fs w (by simpa using hw)) ⟨.bl _,H,I,rfl,?_⟩;rw[show its.toArray.any (GK x)=its.any (GK x)by simp,xY r fs];exact q
theorem mh:yt X (gC .NotIn) (aAa X.K true):=by
 intro pins s σ H x y v u Q I rx ry h;obtain⟨p,xs,rfl,hq,fx,fs,q⟩:=h;cases ry;rcases hq with hq|hq
 ·obtain⟨its,r,pl,hz⟩:=I.list hq;refine SeqAt.notIn_listAt (GK x) pl.isList (λw hw=>n9 rx fx r fs w (by simpa using hw)) ⟨.bl _,H,I,rfl,?_⟩;rw[show its.toArray.any (GK x)=its.any (GK x)by simp,xY r fs];exact q
 ·obtain⟨its,r,pl,hz⟩:=I.tuple hq;refine SeqAt.notIn_tupleAt (GK x) pl (λw hw=>n9 rx fx r fs w (by simpa using hw)) ⟨.bl _,H,I,rfl,?_⟩;rw[show its.toArray.any (GK x)=its.any (GK x)by simp,xY r fs];exact q
theorem dC:pY X (.builtin "len") (λxs H Q=>∃p ys,xs=[.ref p]/\(bf X.K H p ys\/qU X.K H p ys)/\Q (.int ys.length) H):=by
 intro pins s σ H xs us Q I r h;obtain⟨p,ys,rfl,hq,q⟩:=h;obtain⟨u,rfl,rx⟩:=aCr r;cases rx;have hn:=we;rcases hq with hq|hq
 ·obtain⟨its,r',pl,hz⟩:=I.list hq;have hlen:=r'.length;exact Calls.call_len_list pl.isList (by simp only[bI] <;> omega) ⟨.int ys.length,H,I.tok _,⟨s.toks+1,by rw[bI,hlen]⟩,q⟩
 ·obtain⟨its,r',pl,hz⟩:=I.tuple hq;have hlen:=r'.length;exact len_tuple pl (by simp only[bI] <;> omega) ⟨.int ys.length,H,I.tok _,⟨s.toks+1,by rw[bI,hlen]⟩,q⟩
theorem gO:pY X (.builtin "len") (λxs H Q=>∃z,xs=[.str z]/\z.length<=aj/\Q (.int z.length) H):=by intro pins s σ H xs us Q I r h;obtain⟨z,rfl,hz,q⟩:=h;obtain⟨u,rfl,t,rfl⟩:=aCr r;have hn:=we;exact len_str (by omega) ⟨.int z.length,H,I.tok _,⟨_,rfl⟩,q⟩
theorem qZ:pY X (.type "list") (λxs H Q=>∃p ys,xs=[.ref p]/\(bf X.K H p ys\/qU X.K H p ys)/\∀l,H l=none->Q (.ref l) (aCc H l (.lst ys))):=by
 intro pins s σ H xs us Q I r h;obtain⟨p,ys,rfl,hq,q⟩:=h;obtain⟨u,rfl,rx⟩:=aCr r;cases rx;have fin:∀(its:List aE),aCh ys its->ys.length<=aj->∀(h':c9)(c':Nat),(∀b o',s.heap.get? b=some o'->h'.get? b=some o')->
   h'.get? s.heap.objs.size=some {cls:=.type "list",dict:=none,data:=.seq its.toArray c',slots:=#[]}->EP X pins σ Q (.ref s.heap.objs.size) {s with heap:=h'}:=λits r' hz h' c' kp e=>
  ⟨.ref s.heap.objs.size,_,I.laid (t':=s.toks) kp (a9 _) (show gB X.prog X.w _ h' _ (.lst ys)from⟨hz,its,c',r',e⟩),rfl,q _ (I.fC.fresh (a9 _))⟩
 rcases hq with hq|hq
 ·obtain⟨its,r',pl,hz⟩:=I.list hq;have hlen:=r'.length;obtain⟨o,ho,hc,n,hd⟩:=pl.isList;exact call_list_seq p (.inl rfl) ho hc hd (λh' c' kp e=>fin its r' hz h' c' kp e) (by simp only[bI] <;> omega)
 ·obtain⟨its,r',pl,hz⟩:=I.tuple hq;have hlen:=r'.length;obtain⟨o,ho,hc,n,hd⟩:=pl;exact call_list_seq p (.inr rfl) ho hc hd (λh' c' kp e=>fin its r' hz h' c' kp e) (by simp only[bI] <;> omega)
def aB7(K:aU)(T:String)(x:V)(H:Hp):Prop:=match x with
 |.str _=>T="str"
 |.int _=>T="int"
 |.ref p=>(T="list"/\∃xs,bf K H p xs)\/(T="tuple"/\∃o,K.lookup p=some o/\o.cls=.type "tuple"/\o.dict=none)\/
   (T="dict"/\((∃kvs,H p=some (.dK kvs))\/∃kvs,H p=some (.dT kvs)))\/(T="set"/\∃S n,H p=some (.set S n))
 |_=>False
theorem Sn(I:aCd X pins σ H s)(r:aCg x v)(ty:aB7 X.K T x H):
  s.TypeIs v T/\∀a,v=.ref a->∃ob,s.heap.get? a=some ob/\ob.dict=none:=by
 cases x with
 |str z=>obtain⟨t,rfl⟩:=r;cases(show T="str" from ty);exact⟨qz s z t,λ_ e=>nomatch e⟩
 |int i=>obtain⟨t,rfl⟩:=r;cases(show T="int" from ty);exact⟨X7 s i t,λ_ e=>nomatch e⟩
 |ref p=>
  cases r;rcases ty with⟨rfl,xs,hq⟩|⟨rfl,o,hk,hc,hd⟩|⟨rfl,hk⟩|⟨rfl,S,n,hk⟩
  ·obtain⟨its,_,pl,_⟩:=I.list hq;refine⟨pl.isList.typeIs,λa e=>?_⟩;cases e;obtain⟨o,n,e,c,hd,_⟩:=pl;exact⟨o,e,hd⟩
  ·refine⟨⟨o,I.vz p o hk,hc⟩,λa e=>?_⟩;cases e;exact⟨o,I.vz _ o hk,hd⟩
  ·have z:∃o,s.heap.get? p=some o/\o.ExactDict:=by
    rcases hk with⟨kvs,hk⟩|⟨kvs,hk⟩
    ·obtain⟨_,_,_,_,o,_,_,e,ex,_⟩:=I.fC p _ hk;exact⟨o,e,ex⟩
    ·obtain⟨_,_,_,_,o,_,_,e,ex,_⟩:=I.fC p _ hk;exact⟨o,e,ex⟩
   obtain⟨o,e,ex⟩:=z;refine⟨⟨o,e,ex.1⟩,λa e2=>?_⟩;cases e2;exact⟨o,e,ex.2.1⟩
  ·obtain⟨o,_,_,_,e,ex,_⟩:=I.fC p _ hk;refine⟨⟨o,e,ex.1⟩,λa e2=>?_⟩;cases e2;exact⟨o,e,ex.2.1⟩
 |_=>exact dm ty
def aBy(K:aU)(T:String)(r:V->List V->Hp->VK->Prop)(to:TE):TE:=λσ H Q=>to σ H λx H1=>aB7 K T x H1/\r x [] H1 Q
def aAc(K:aU)(T:String)(r:V->List V->Hp->VK->Prop)(to:TE)(t:TA):TE:=λσ H Q=>to σ H λx H1=>aB7 K T x H1/\t σ H1 λxs H2=>r x xs H2 Q
variable{o e:cQ}{es:List cQ}{to:TE}{t:TA}{name:Str}{apos cpos:Pos}{T id:String}{r:V->List V->Hp->VK->Prop}
theorem uO(pa:PlainAttrs T)(slot:Slot T name id)(hty:typeOf (.builtin id)=pure (.type "method_descriptor"))(hm:Vr X id r)(ho:PE X o to)
  (hbase:gk o name X.env (eval o X.env)=eval o X.env:=by rfl) (hline:(apos.endLine==cpos.line)=true:=by rfl):PE X (.Call (.Attribute o name apos) [] [] cpos) (aBy X.K T r to):=by
 intro pins s σ H Q I h;refine wpAny_Call_method0_late hbase hline (fT (ho pins s σ H _ I h) λv s1 ⟨x,H1,I1,r1,ty,q1⟩=>?_);obtain⟨h1,h2⟩:=Sn I1 r1 ty;exact⟨T,id,pa,slot,hty,h1,h2,iz rfl (PySem.evalArgs_none (hm pins s1 σ H1 x [] v [] Q I1 r1 .nil q1))⟩
theorem fZ(pa:PlainAttrs T)(slot:Slot T name id)(hty:typeOf (.builtin id)=pure (.type "method_descriptor"))(hm:Vr X id r)(ho:PE X o to)(ha:PA X (e::es) t)
  (hbase:gk o name X.env (eval o X.env)=eval o X.env:=by rfl)
  (hfew:((iT cpos (b4 (e::es) X.env)).all (λx=>!x.1)&&(oO cpos (jQ [] X.env)).all (λx=>x.1.isSome) &&decide ((e::es).length+([]:List Jd).length+(if([]:List Jd).isEmpty then 0 else 1)<30))=true:=by rfl)
  (hline:(apos.endLine==cpos.line)=true:=by rfl) (hs:b4 (e::es) X.env=(false,eval e X.env)::b4 es X.env:=by rfl) (hplain:(iT cpos (b4 es X.env)).any (·.1)=false:=by rfl):
  PE X (.Call (.Attribute o name apos) (e::es) [] cpos) (aAc X.K T r to t):=by
 intro pins s σ H Q I h;refine wpAny_Call_method_late hbase hfew hline rfl (fT (ho pins s σ H _ I h) λv s1 ⟨x,H1,I1,r1,ty,q1⟩=>?_);obtain⟨h1,h2⟩:=Sn I1 r1 ty;refine⟨T,id,pa,slot,hty,h1,h2,?_⟩;have hA:=ha cpos pins s1 σ H1 _ I1 q1;rw[hs]at hA ⊢;refine iz (by show(false||(iT cpos (b4 es X.env)).any (·.1))=false;rw[hplain] <;> rfl) (mJ ?_);exact fT hA λus s2 ⟨vs,H2,I2,r2,q2⟩=>hm pins s2 σ H2 x vs v us Q I2 r1 r2 q2
end
def aAq(X:Cx)(id:String)(r:V->List V->Hp->VK->Prop):Prop:=
 ∀(pins:List (aF×Obj))(s:aO)(σ:St)(H:Hp)(x:V)(xs:List V)(v:aE)(us:List aE)(Q:VK),aCd X pins σ H s->aCg x v->aCh xs us->r x xs H Q->
  bF (model X.prog X.w) X.A (call (.builtin id) (v::us)) (EP X pins σ Q) X.xe s
theorem aCh.one:∀{x:V}{us:List aE},aCh [x] us->∃u,us=[u]/\aCg x u
 |_,_,.cons r .nil=>⟨_,rfl,r⟩
theorem aCh.zero:∀{us:List aE},aCh [] us->us=[]
 |_,.nil=>rfl
theorem aCh.dropLast(h:aCh xs us):aCh xs.dropLast us.dropLast:=by
 induction h with
 |nil=>exact .nil
 |cons r t ih=>
  cases t with
  |nil=>exact .nil
  |cons q t'=>exact .cons r ih
theorem aCh.rep(h:aCh xs us):∀k:Nat,aCh (br k xs).flatten (br k us).flatten
 |0=>.nil
 |k+1=>by rw[fS,fS,lB,lB];exact aCh.append h (aCh.rep h k)
theorem KQ{α:Type}(l:List α):l.eraseIdx (l.length - 1)=l.dropLast:=by
 induction l with
 |nil=>rfl
 |cons a r ih=>
  cases r with
  |nil=>rfl
  |cons b r=>
   have e:(a::b::r).length - 1=((b::r).length - 1)+1:=by have h1:(a::b::r).length=r.length+2:=rfl;have h2:(b::r).length=r.length+1:=rfl;omega
   rw[e,List.eraseIdx_cons_succ,ih]
   all_goals rfl
theorem aCt(its:List aE):∀(k:Nat)(acc:List aE),
  O1 (λx1 x2=>x1++x2) acc.toArray (br k its.toArray)=(acc++(br k its).flatten).toArray
 |0,acc=>by simp
 |k+1,acc=>by
  have e:acc.toArray++its.toArray=(acc++its).toArray:=by simp
  have e2:(acc++its)++(br k its).flatten=acc++(br (k+1) its).flatten:=by rw[fS,lB,bV]
  rw[<-e2,<-aCt its k (acc++its),<-e,fS,Di]
section
variable{X:Cx}{pins:List (aF×Obj)}{σ:St}{H:Hp}{s:aO}{l b:aF}{xs ys zs:List V}
theorem aCd.Wa{its its':List aE}{n:Nat}{f:Array aE->Array aE}{t':Nat}(I:aCd X pins σ H s)(hH:H l=some (.lst xs))
  (e:s.heap.get? l=some {cls:=.type "list",data:=.seq its.toArray n}) (hf:f its.toArray=its'.toArray) (hv:aCh ys its') (hz:ys.length<=aj):
  aCd X pins σ (aCc H l (.lst ys)) {s with heap:=s.heap.update l (zA f),toks:=t'}:=by
 have q:=PySem.IsL.update e f;rw[hf]at q;refine I.write (x:=l) (e:=l) (by rw[hH];exact trivial) (.inl rfl) (λb' u hb hu=>(fN s.heap (zA f) (j7 hb)).trans hu) ⟨_,q⟩ ?_;exact⟨hz,its',_,hv,q⟩
theorem aCd.Yr{t':Nat}(I:aCd X pins σ H s)(hv:aCh ys its)(hz:ys.length<=aj):
  aCd X pins σ (aCc H s.heap.objs.size (.lst ys)) {s with heap:=s.heap.push {cls:=.type "list",data:=.seq its.toArray},toks:=t'}:=
 I.laid (λ_ _ q=>aY _ q) (a9 _) ⟨hz,its,0,hv,bJ _ rfl⟩
theorem aCd.fresh(I:aCd X pins σ H s):H s.heap.objs.size=none:=I.fC.fresh (a9 _)
theorem aCd.K8(I:aCd X pins σ H s)(hH:H l=some (.lst xs)):xs.length<=aj/\∃(its:List aE)(n:Nat),aCh xs its/\xs.length=its.length/\s.heap.get? l=some {cls:=.type "list",data:=.seq its.toArray n}:=by obtain⟨z,its,n,r,e⟩:=I.fC l _ hH;exact⟨z,its,n,r,r.length,e⟩
theorem Iq(h:n<=aj):j2 n=false:=by unfold j2;exact dF (by omega)
end
section
variable{X:Cx}
inductive B5(x:V)(vs:List V)(H:Hp)(Q:VK):Prop
 |mk:∀l xs y,x=.ref l->vs=[y]->H l=some (.lst xs)->xs.length<aj->Q .fB (aCc H l (.lst (xs++[y])))->B5 x vs H Q
theorem dU:aAq X "list.append" B5:=by intro pins s σ H x vs v us Q I rx rv h;obtain⟨l,xs,y,rfl,rfl,hH,hz,q⟩:=h;cases rx;obtain⟨u,rfl,ru⟩:=rv.one;obtain⟨z,its,n,r,hl,e⟩:=I.K8 hH;refine kI F.slot_list_append ⟨_,e,rfl⟩ F.entry_list_append (F.args_list_append_2 _ _) (PySem.list_append l its.toArray n u (by rw[bI];omega)) ⟨e,?_⟩;refine⟨.fB,_,I.Wa (its':=its++[u]) hH e (by simp) (r.append (.cons ru .nil)) ?_,rfl,q⟩;rw[aN,c4];omega
inductive M1(x:V)(vs:List V)(H:Hp)(Q:VK):Prop
 |mk:∀l b xs zs,x=.ref l->vs=[.ref b]->H l=some (.lst xs)->H b=some (.lst zs)->xs.length+zs.length<=aj->Q .fB (aCc H l (.lst (xs++zs)))->M1 x vs H Q
theorem iY:aAq X "list.extend" M1:=by
 intro pins s σ H x vs v us Q I rx rv h;obtain⟨l,b,xs,zs,rfl,rfl,hH,hB,hz,q⟩:=h;cases rx;obtain⟨u,rfl,ru⟩:=rv.one;cases ru;obtain⟨z,its,n,r,hl,e⟩:=I.K8 hH;obtain⟨z2,its2,n2,r2,hl2,e2⟩:=I.K8 hB;have hsz:its.toArray.size+its2.toArray.size<=aj:=by rw[bI,bI];omega
 have hlong:¬(!its.toArray.isEmpty&&j2 (its.toArray.size+its2.toArray.size))=true:=by rw[Iq hsz,je];exact bD
 refine kI F.slot_list_extend ⟨_,e,rfl⟩ F.entry_list_extend (F.args_list_extend_2 _ _)
  (AutoSeq1.list_extend_list_list_0 l its.toArray n b its2.toArray n2 hlong (by rw[bI];omega) (by omega)) ⟨e,e2,?_⟩
 refine⟨.fB,_,I.Wa (its':=its++its2) hH e (by simp) (r.append r2) ?_,rfl,q⟩;rw[aN];omega
inductive aBl(x:V)(vs:List V)(H:Hp)(Q:VK):Prop
 |mk:∀l xs y,x=.ref l->vs=[]->H l=some (.lst xs)->xs[xs.length - 1]?=some y->Q y (aCc H l (.lst xs.dropLast))->aBl x vs H Q
theorem uK:aAq X "list.pop" aBl:=by
 intro pins s σ H x vs v us Q I rx rv h;obtain⟨l,xs,y,rfl,rfl,hH,hy,q⟩:=h;cases rx;have hus:=rv.zero;subst hus;obtain⟨z,its,n,r,hl,e⟩:=I.K8 hH;obtain⟨u,hu,ru⟩:=r.get hy;have hy':its.toArray[its.toArray.size - 1]?=some u:=by show its.toArray[its.length - 1]?=some u;rw[<-Array.getElem?_toList,<-hl];exact hu
 refine kI F.slot_list_pop ⟨_,e,rfl⟩ F.entry_list_pop (F.args_list_pop_1 _) (MeetsSeq.list_pop_last l its.toArray n u hy' (by rw[bI];omega)) ⟨e,?_⟩;refine⟨y,_,I.Wa (its':=its.dropLast) hH e ?_ r.dropLast ?_,ru,q⟩
 ·show its.toArray.eraseIdxIfInBounds (its.toArray.size - 1)=its.dropLast.toArray;rw[bI,List.eraseIdxIfInBounds_toArray,KQ]
 ·rw[L8];omega
inductive Yz(x:V)(y:V)(H:Hp)(Q:VK):Prop
 |mk:∀l b xs zs,x=.ref l->y=.ref b->H l=some (.lst xs)->H b=some (.lst zs)->xs.length+zs.length<=aj->(∀p,H p=none->Q (.ref p) (aCc H p (.lst (xs++zs))))->Yz x y H Q
theorem wo:yt X (mL .Add) Yz:=by
 intro pins s σ H x y v u Q I rx ry h;obtain⟨l,b,xs,zs,rfl,rfl,hH,hB,hz,q⟩:=h;cases rx;cases ry;obtain⟨z,its,n,r,hl,e⟩:=I.K8 hH;obtain⟨z2,its2,n2,r2,hl2,e2⟩:=I.K8 hB;refine PySem.P.add_list e e2 ?_ (by rw[bI,bI];omega);have ea:its.toArray++its2.toArray=(its++its2).toArray:=by simp
 rw[ea];exact⟨.ref _,_,I.Yr (t':=s.toks) (r.append r2) (by rw[aN];omega),rfl,q _ I.fresh⟩
inductive aBm(x:V)(y:V)(H:Hp)(Q:VK):Prop
 |mk:∀l k xs,x=.ref l->y=.int k->H l=some (.lst xs)->-(2 ^ 63)<=k->k<2 ^ 63->xs.length*k.toNat<=aj->(∀p,H p=none->Q (.ref p) (aCc H p (.lst (br k.toNat xs).flatten)))->aBm x y H Q
theorem len_rep{α:Type}(xs:List α)(k:Nat):(br k xs).flatten.length=k*xs.length:=by
 induction k with
 |zero=>simp
 |succ k ih=>rw[fS,lB,aN,ih,Nat.succ_mul,YI]
theorem Wj:yt X (mL .Mult) aBm:=by
 intro pins s σ H x y v u Q I rx ry h;obtain⟨l,k,xs,rfl,rfl,hH,h1,h2,hz,q⟩:=h;cases rx;obtain⟨t,rfl⟩:=ry;obtain⟨z,its,n,r,hl,e⟩:=I.K8 hH;have hlen:its.toArray.size*k.toNat<=aj:=by rw[bI,<-hl];exact hz
 have hcap:¬its.toArray.size*k.toNat > (2 ^ 63 - 1)/8:=by
  have:(aj:Nat)<=(2 ^ 63 - 1)/8:=by decide
  omega
 have hfit:¬(!Z4 k)=true:=by rw[fitsIndex_both h1 h2];exact bD
 have hlong:¬j2 (its.toArray.size*k.toNat)=true:=by rw[Iq hlen];exact bD
 have hnew:O1 (λx1 x2=>x1++x2) #[] (br (if its.toArray.isEmpty=true then 0 else k.toNat) its.toArray)=(br k.toNat its).flatten.toArray:=by
  have f0:∀m:Nat,O1 (λx1 x2=>x1++x2) #[] (br m its.toArray)=(br m its).flatten.toArray:=λm=>by
   have:=aCt its m []
   rw[jL]at this;exact this
  rw[f0];cases its with
  |nil=>simp
  |cons a r'=>rw[iN (by simp)]
 refine wpAny_binaryOp_repeat_ref (T:="list") (U:="int") (by decide) ⟨_,e,rfl⟩ (λs'=>X7 s' k t) noFill_list_mul F.fills_int_mul Xg repeat_list F.slot_int_index.lookup
  (kI Xg (X7 s k t) F.entry_int_rmul (F.args_int_rmul_2 _ _) (int___rmul___int_list k t l its.toArray n) ⟨e,rfl,⟨_,e,rfl⟩,kI F.slot_list_mul ⟨_,e,rfl⟩ F.entry_list_mul (F.args_list_mul_2 _ _) (AutoListH.list___mul___list_int_3 l its.toArray n k t hfit hcap hlong) ⟨e,?_⟩⟩)
 rw[hnew];exact⟨.ref _,_,I.Yr (t':=s.toks) (r.rep k.toNat) (by rw[len_rep,Nat.mul_comm];exact hz),rfl,q _ I.fresh⟩
end
section
variable{prog:bK}{w:bu}{A:cG}{E:aE->aO->Prop}{s:aO}
end
section
variable{X:Cx}
end
section
variable{prog:bK}{w:bu}{A:cG}{E:aE->aO->Prop}{s:aO}{l:aF}{its:List aE}{ns:List Int}{Q:aE->aO->Prop}
end
section
variable{X:Cx}
end
section
variable{X:Cx}
inductive Ww(K:aU)(x:V)(xs:List V)(H:Hp)(Q:VK):Prop
 |mk:∀(a:aF)(ys:List V)(y:V)(j:Nat)(z:V),x=V.ref a->xs=[y]->bf K H a ys->lF y=true->ys.all lF=true->ys[j]?=some z->Jh z y=true->((∀(m:Nat)(z':V),m<j->ys[m]?=some z'->Jh z' y=false))->Q (.int (j:Nat)) H->Ww K x xs H Q
theorem MB{ys:List V}(f:ys.all lF=true){j:Nat}{z:V}(h:ys[j]?=some z):lF z=true:=dZ.mp f z (bp h)
theorem Q6:Vr X "list.index" (Ww X.K):=by
 intro pins s σ H x xs v us Q I rx rxs h;obtain⟨a,ys,y,j,z,rfl,rfl,hs,fy,fys,hz,hzj,hno,q⟩:=h;cases rx;cases rxs with
 |cons ry rt=>
  rename_i uy ut;cases rt;obtain⟨its,rv,⟨⟨cls,dd,data,sl⟩,n,ho,hc,hdn,hd⟩,hlen⟩:=I.list hs;simp only at hc hd;subst hc hd;obtain⟨u,hu,ru⟩:=rv.get hz;obtain⟨hjl,hje⟩:=a8.mp hu;have hvl:=rv.length;have hj:j<its.toArray.size:=by simpa using hjl
  have hsl:=ic;refine kI E7 ⟨_,ho,rfl⟩ PySem.F.entry_list_index (PySem.F.args_list_index_2 _ _)
   (SeqAt.list_indexAt a its.toArray n dd sl uy (GK y) j hj (by omega) ?_ ?_) ⟨ho,λu' hu'=>n9 ry fy rv fys u' (by simpa using hu'),?_⟩
  ·have e1:its.toArray[j]=u:=by simpa using hje
   rw[e1,C5 ru (MB fys hz)];exact hzj
  ·intro m hm hmj;have hml:m<its.length:=by simpa using hm
   have hmy:m<ys.length:=by omega
   have hy':ys[m]?=some ys[m]:=aX hmy;obtain⟨u2,hu2,ru2⟩:=rv.get hy';obtain⟨_,hme⟩:=a8.mp hu2;have e1:its.toArray[m]=u2:=by simpa using hme
   rw[e1,C5 ru2 (MB fys hy')];exact hno m _ hmj hy'
  ·exact⟨.int (j:Nat),H,I.tok _,⟨_,rfl⟩,q⟩
end
section
variable{X:Cx}
end
section
variable{X:Cx}
end
section
variable{X:Cx}{pins:List (aF×Obj)}{σ:St}{H:Hp}{s:aO}
end
section
variable{X:Cx}
end
abbrev Oi(h:c9)(c:aF)(v:Option aE):Prop:=h.IsCell c v
def aBo(scope sc:jJ):jJ:=
 {scope with names:=scope.names.map λ(n,k)=>if(k==.free&&sc.kind==.function&&sc.names.lookup n==some .cell)then(n,.cell)else(n,k)}
def fb(cells:List (Str×aF)):List (Str×ia)->List (Str×aF)->List (Str×aF)
 |[],acc=>acc
 |(n,k)::r,acc=>if k==.free then fb cells r ((n,(cells.lookup n).getD 0)::acc)else fb cells r acc
theorem xq(env:Env)(f:Str×ia->List (Str×aF)->Sem (ForInStep (List (Str×aF))))
  (hf:∀n k c,f (n,k) c=if k==.free then(do let a <-cellOf env n;pure (.yield ((n,a)::c)))else pure (.yield c)):
  ∀(names:List (Str×ia))(acc:List (Str×aF)),(∀y∈names,y.2=.free->∃c,env.cells.lookup y.1=some c)->forIn names acc f=pure (fb env.cells names acc)
 |[],acc,_=>by rw[E1];rfl
 |(n,k)::r,acc,h=>by
  rw[T6,hf];have ih:=λacc=>xq env f hf r acc λy hy=>h y (aq _ hy);unfold fb;by_cases hk:(k==lJ)=true
  ·rw[iP hk,iP hk];obtain⟨c,hc⟩:=h (n,k) cA (by simpa using hk);have e:cellOf env n=pure c:=by unfold cellOf;rw[hc]
   rw[e];have e2:(env.cells.lookup n).getD 0=c:=by rw[hc];rfl
   rw[e2];exact ih _
  ·rw[iN hk,iN hk];exact ih _
theorem KL(h:∀y∈scope.names,y.2=.free->∃c,env.cells.lookup y.1=some c):closureFor scope env=pure (fb env.cells scope.names []):=by simp only[closureFor];rw[xq env _ (λn k c=>rfl) scope.names [] h];rfl
theorem aCq{α:Type}:∀{l:List (Str×α)}{n:Str}{c:α},(n,c)∈l->∃c',l.lookup n=some c'
 |(k,v)::r,n,c,h=>by
  rw[cT];cases hb:n==k with
  |true=>exact⟨_,rfl⟩
  |false=>
   rcases af.mp h with e|h
   ·cases e;simp at hb
   ·exact aCq h
theorem oj:∀{names:List (Str×ia)}{acc:List (Str×aF)}{n:Str}{c:aF},(n,c)∈fb cells names acc->(n,c)∈acc\/((n,.free)∈names/\c=(cells.lookup n).getD 0)
 |[],_,_,_,h=>.inl h
 |(m,k)::r,acc,n,c,h=>by
  unfold fb at h;split at h
  ·rename_i hk;have hk:k=.free:=by simpa using hk
   rcases oj h with h|⟨h1,h2⟩
   ·rcases af.mp h with e|h
    ·cases e;exact .inr ⟨hk▸cA,rfl⟩
    ·exact .inl h
   ·exact .inr ⟨aq _ h1,h2⟩
  ·rcases oj h with h|⟨h1,h2⟩
   ·exact .inl h
   ·exact .inr ⟨aq _ h1,h2⟩
theorem tR:∀{names:List (Str×ia)}{acc:List (Str×aF)}{p:Str×aF},p∈acc->p∈fb cells names acc
 |[],_,_,h=>h
 |(m,k)::r,acc,p,h=>by
  unfold fb;split
  ·exact tR (aq _ h)
  ·exact tR h
theorem tS:∀{names:List (Str×ia)}{acc:List (Str×aF)}{n:Str},(n,.free)∈names->(n,(cells.lookup n).getD 0)∈fb cells names acc
 |(m,k)::r,acc,n,h=>by
  unfold fb;rcases af.mp h with e|h
  ·cases e;exact tR cA
  ·split
   ·exact tS h
   ·exact tS h
theorem pf:∀{names:List (Str×ia)}{h:c9}{acc:List (Str×aF)}{x:Str}{c:aF},(x,c)∈eU h.objs.size names acc->
  (x,c)∈acc\/((x,.cell)∈names/\h.objs.size<=c/\Oi (pushCells h names) c none)
 |[],_,_,_,_,h=>.inl h
 |(n,k)::r,h,acc,x,c,hm=>by
  unfold eU at hm;unfold pushCells;split at hm
  ·rename_i hk;rw[iP hk];have hk:k=.cell:=by simpa using hk
   rw[<-cb h {cls:=.type "cell",data:=.cell none}]at hm;rcases pf hm with hm|⟨h1,h2,h3⟩
   ·rcases af.mp hm with e|hm
    ·cases e;exact .inr ⟨hk▸cA,a9 _,_,xM r _ _ _ (bJ _ rfl),rfl⟩
    ·exact .inl hm
   ·rw[cb]at h2;exact .inr ⟨aq _ h1,qR h2,h3⟩
  ·rename_i hk;rw[iN hk];rcases pf hm with hm|⟨h1,h2,h3⟩
   ·exact .inl hm
   ·exact .inr ⟨aq _ h1,h2,h3⟩
theorem ue:∀{names:List (Str×ia)}{n:Nat}{acc:List (Str×aF)}{p:Str×aF},p∈acc->p∈eU n names acc
 |[],_,_,_,h=>h
 |(m,k)::r,n,acc,p,h=>by
  unfold eU;split
  ·exact ue (aq _ h)
  ·exact ue h
theorem zO:∀{names:List (Str×ia)}{n:Nat}{acc:List (Str×aF)}{x:Str},(x,.cell)∈names->∃c,(x,c)∈eU n names acc
 |(m,k)::r,n,acc,x,h=>by
  unfold eU;rcases af.mp h with e|h
  ·cases e;exact⟨n,ue cA⟩
  ·split
   ·exact zO h
   ·exact zO h
theorem zP:∀{names:List (Str×ia)}{h:c9}{acc:List (Str×aF)}{x y:Str}{c:aF},(∀p∈acc,p.2<h.objs.size)->(∀x y c,(x,c)∈acc->(y,c)∈acc->x=y)->
  (x,c)∈eU h.objs.size names acc->(y,c)∈eU h.objs.size names acc->x=y
 |[],_,_,_,_,_,_,hi,h1,h2=>hi _ _ _ h1 h2
 |(n,k)::r,h,acc,x,y,c,hl,hi,h1,h2=>by
  unfold eU at h1 h2;split at h1
  ·rename_i hk;rw[iP hk]at h2;rw[<-cb h {cls:=.type "cell",data:=.cell none}]at h1 h2;refine zP (h:=h.push _) (λp hp=>?_) (λx y c a b=>?_) h1 h2
   ·rw[cb];rcases af.mp hp with rfl|hp
    ·exact Bg _
    ·exact Ar (hl p hp)
   ·rcases af.mp a with e|a <;> rcases af.mp b with e'|b
    ·cases e;cases e';rfl
    ·cases e;exact absurd (hl _ b) (fO _)
    ·cases e';exact absurd (hl _ a) (fO _)
    ·exact hi _ _ _ a b
  ·rename_i hk;rw[iN hk]at h2;exact zP hl hi h1 h2
theorem Im{M:yy}{A:cG}{E:aE->aO->Prop}{s:aO}{scope:jJ}{globals:aF}{closure:List (Str×aF)}{qual:Str}{func:Option aF}{code:aE}{around:Env}{builtins:aF}{Q:Env->aO->Prop}
  (h:Q (newEnv scope s.heap.objs.size globals (eU (s.heap.objs.size+1) scope.names closure) qual func code (some around) builtins) {s with heap:=pushCells (s.heap.push {cls:=.type "dict",data:=.dict #[]}) scope.names}):
  bF M A (newFunctionEnv scope globals closure [] qual func code (some around) builtins) Q E s:=by
 simp only[newFunctionEnv,Ld,if_true];refine aI (wpAny_alloc ?_);refine aI (wpAny_layCells _ (λn k c=>rfl) scope.names closure _ _ ?_);rw[show({s with heap:=s.heap.push {cls:=.type "dict",data:=.dict #[]}}:aO).heap.objs.size=s.heap.objs.size+1 from cb ..];rw[E1];exact aI (aa (aa h))
theorem uH{sc:jJ}:∀{names:List (Str×ia)}{x:Str}{k:ia},
  (names.map λ(n,k)=>if(k==lJ&&sc.kind==.function&&sc.names.lookup n==some .cell)then(n,Dn)else(n,k)).lookup x=some k->
  ∃k',names.lookup x=some k'/\(k=k'\/(k'=.free/\k=.cell))
 |[],_,_,h=>by simp at h
 |(n,k₀)::r,x,k,h=>by
  have ih:=@uH sc r x k;have h':eB x ((if(k₀==lJ&&sc.kind==.function&&sc.names.lookup n==some .cell)=true then(n,Dn)else(n,k₀))::(r.map _))=some k:=h;cases hx:x==n with
  |true=>
   simp only[cT,hx];by_cases hc:(k₀==lJ&&sc.kind==.function&&sc.names.lookup n==some .cell)=true
   ·rw[iP hc]at h';simp only[cT,hx]at h';cases h';simp only[bG,beq_iff_eq]at hc;exact⟨k₀,rfl,.inr ⟨hc.1.1,rfl⟩⟩
   ·rw[iN hc]at h';simp only[cT,hx]at h';cases h';exact⟨_,rfl,.inl rfl⟩
  |false=>
   simp only[cT,hx];by_cases hc:(k₀==lJ&&sc.kind==.function&&sc.names.lookup n==some .cell)=true
   ·rw[iP hc]at h';simp only[cT,hx]at h';exact ih h'
   ·rw[iN hc]at h';simp only[cT,hx]at h';exact ih h'
structure HS(N:List Str)(sc scope:jJ)(own:List (Str×Nat)):Prop where
 kind:scope.kind=.function
 uniq:∀y∈scope.names,scope.names.lookup y.1=some y.2
 ix:∀p∈own,N[p.2]?=some p.1
 free:∀y∈scope.names,y.2=.free->sc.names.lookup y.1=some .cell\/sc.names.lookup y.1=some .free
 own:∀y∈scope.names,y.2=.local\/y.2=.cell->y.1∈own.map (·.1)\/y.1∉N
def wipe(σ:St):List Nat->St
 |[]=>σ
 |v::vs=>(wipe σ vs).set v none
theorem u5(σ:St):∀vs:List Nat,(wipe σ vs).length=σ.length
 |[]=>rfl
 |v::vs=>by unfold wipe;rw[se,u5 σ vs]
theorem zp:∀{vs:List Nat},(wipe σ vs)[i]?=some (some x)->σ[i]?=some (some x)/\i∉vs
 |[],h=>⟨h,by simp⟩
 |v::vs,h=>by
  unfold wipe at h;by_cases hi:v=i
  ·subst hi;by_cases hv:v<(wipe σ vs).length
   ·rw[jF hv]at h;cases h
   ·rw[Jo (by simpa using hv)]at h;cases h
  ·rw[ji hi]at h;obtain⟨h1,h2⟩:=zp h;exact⟨h1,by simp only[af,not_or];exact⟨λe=>hi e.symm,h2⟩⟩
abbrev Cx.Fs(X:Cx)(s:aO)(H:Hp)(scope:jJ)(cenv:Env)(fp:List aF):Cx:={X with sG:=s,VM:=H,env:=cenv,outer:=X.stack,ex:=fp,fn:=λx=>scope.names.lookup x==some .cell,pn:=[],xe:=λ_ _=>False}
section
variable{X:Cx}{pins:List (aF×Obj)}{σ:St}{H:Hp}{s:aO}
theorem Hj{scope:jJ}{own:List (Str×Nat)}{fp:List aF}(I:aCd X pins σ H s)(ok:HS X.N X.env.scope scope own)(hN:X.N.Nodup)(hfp:∀b∈fp,Ao X pins H b/\b<s.heap.objs.size):
  aCd (X.Fs s H scope (kJ scope (eU (s.heap.objs.size+1) scope.names (fb X.env.cells scope.names [])) s.heap.objs.size X.env) fp) [] (wipe σ (own.map (·.2))) H {s with heap:=pushCells (s.heap.push {cls:=.type "dict",data:=.dict #[]}) scope.names}:=by
 have hfree:∀y∈scope.names,y.2=.free->∃c,X.env.cells.lookup y.1=some c:=λy hy e=>by
  rcases ok.free y hy e with k|k
  ·exact I.ok.has _ (.inl k)
  ·exact I.ok.has _ (.inr k)
 generalize hcenv:kJ scope (eU (s.heap.objs.size+1) scope.names (fb X.env.cells scope.names [])) s.heap.objs.size X.env=cenv;have kp:∀b o,s.heap.get? b=some o->(pushCells (s.heap.push {cls:=.type "dict",data:=.dict #[]}) scope.names).get? b=some o:=λb o e=>xM _ _ _ _ (aY _ e);have hL:cenv.locals=s.heap.objs.size:=by rw[<-hcenv];rfl
 have hcl:cenv.cells=eU (s.heap.objs.size+1) scope.names (fb X.env.cells scope.names []):=by rw[<-hcenv];rfl
 have hsc:cenv.scope=aBo scope X.env.scope:=by rw[<-hcenv];rfl
 rw[<-cb s.heap {cls:=.type "dict",data:=.dict #[]}]at hcl;have cm:∀{y c},(y,c)∈fb X.env.cells scope.names []->X.env.cells.lookup y=some c/\c<s.heap.objs.size:=λ{y c} hm=>by
  rcases oj hm with hm|⟨h1,rfl⟩
  ·cases hm
  ·obtain⟨c,hc⟩:=hfree _ h1 rfl;rw[hc];obtain⟨w,z⟩:=I.cell _ _ hc;exact⟨rfl,z.lt⟩
 have mem:∀{y c},cenv.cells.lookup y=some c->(X.env.cells.lookup y=some c/\c<s.heap.objs.size)\/(s.heap.objs.size+1<=c/\Oi (pushCells (s.heap.push {cls:=.type "dict",data:=.dict #[]}) scope.names) c none):=λ{y c} e=>by
  rw[hcl]at e;rcases pf (cI e)with hm|⟨_,h2,h3⟩
  ·exact .inl (cm hm)
  ·rw[cb]at h2;exact .inr ⟨h2,h3⟩
 have look:∀{y},scope.names.lookup y=some .free->∃c,cenv.cells.lookup y=some c/\X.env.cells.lookup y=some c:=λ{y} hl=>by
  have hy:(y,lJ)∈scope.names:=cI hl;obtain⟨c',e'⟩:=aCq (ue (names:=scope.names) (n:=(s.heap.push {cls:=.type "dict",data:=.dict #[]}).objs.size) (tS (cells:=X.env.cells) (acc:=[]) hy));rw[<-hcl]at e';refine⟨c',e',?_⟩;rw[hcl]at e';rcases pf (cI e')with hm|⟨h1,_,_⟩
  ·exact(cm hm).1
  ·have:=ok.uniq _ h1
   rw[hl]at this;cases this
 have okB:(X.Fs s H scope cenv fp).Ok:=by
  refine⟨I.ok.mod,by show cenv.scope.kind=_;rw[hsc];exact ok.kind,by show cenv.globals=_;rw[<-hcenv];exact I.ok.glob,by show cenv.builtins=_;rw[<-hcenv];exact I.ok.blt,by show s.heap.objs.size<=cenv.locals;rw[hL];exact a9 _,
   λy z c e1 e2=>?_,λy hy=>?_,λy c z e=>?_,I.ok.hd,I.ok.frames,.inl rfl,λb hb=>⟨?_,λy c e z=>?_⟩,I.bs,bw I.ok.Od I.sz,λb o e hb=>?_,λb hb z=>?_,I.stack,I.B8⟩
  ·have e1:cenv.cells.lookup y=some c:=e1;have e2:cenv.cells.lookup z=some c:=e2;rw[hcl]at e1 e2;refine zP (λp hp=>?_) (λy z c a b=>I.ok.inj y z c (cm a).1 (cm b).1) (cI e1) (cI e2);rw[cb];exact Ar (cm (y:=p.1) (c:=p.2) hp).2
  ·show ∃c,cenv.cells.lookup y=some c;have key:∀k,cenv.kindOf y=some k->(k=.cell\/k=.free)->∃c,cenv.cells.lookup y=some c:=λk hk hk'=>by
    unfold Env.kindOf at hk;rw[hsc]at hk;obtain⟨k',e,r⟩:=uH hk
    have:k'=.cell\/k'=.free:=by
     rcases r with rfl|⟨rfl,_⟩
     ·exact hk'
     ·exact .inr rfl
    rcases this with rfl|rfl
    ·obtain⟨c,hm⟩:=zO (n:=(s.heap.push {cls:=.type "dict",data:=.dict #[]}).objs.size) (acc:=fb X.env.cells scope.names []) (cI e);obtain⟨c',e'⟩:=aCq hm;exact⟨c',by rw[hcl];exact e'⟩
    ·obtain⟨c,h1,_⟩:=look e;exact⟨c,h1⟩
   rcases hy with hy|hy
   ·exact key _ hy (.inl rfl)
   ·exact key _ hy (.inr rfl)
  ·have z:(scope.names.lookup y==some Dn)=true:=z;have z:scope.names.lookup y=some .cell:=by simpa using z
   have e:cenv.cells.lookup y=some c:=e;rw[hcl]at e;rcases pf (cI e)with hm|⟨_,h2,_⟩
   ·rcases oj hm with hm|⟨h1,_⟩
    ·cases hm
    ·have q:=ok.uniq _ h1;rw[z]at q;cases q
   ·rw[cb]at h2;exact qR h2
  ·show b≠cenv.locals;rw[hL];exact cO (hfp b hb).2
  ·have e:cenv.cells.lookup y=some c:=e;rcases mem e with⟨h1,_⟩|⟨h1,_⟩
   ·exact(hfp b hb).1.2.2.2.2.1 y c h1 z
   ·have h2:s.heap.objs.size+1<=b:=by rw[<-z];exact h1
    exact absurd (bo (hfp b hb).2 (qR h2)) (fO _)
  ·rcases(hfp b hb).1.2.2.2.1 with z|z
   ·exact I.ok.Ip b o e z
   ·exact absurd (bo (bC e) (bw I.ok.Od z)) (fO _)
  ·rcases af.mp (I.LC b z)with z|z
   ·exact(hfp b hb).1.2.1 z
   ·exact(hfp b hb).1.2.2.1 z
 refine⟨okB,rfl,I.bare,Un.kept kp,⟨λ_=>none,?_,λi y av e1 e2 e3=>?_⟩,λy c e=>?_,?_,λy c e=>?_,λp hp=>?_,I.fC.kept kp,by rw[u5];exact I.len⟩
 ·show Heap.Ns _ cenv.locals _;rw[hL];exact Heap.Ns.keeps (Heap.Ns.new ..) λb o e=>xM _ _ _ _ e
 ·obtain⟨e2,hne⟩:=zp e2;have hfr:scope.names.lookup y=some .free/\(cenv.kindOf y=some .cell\/cenv.kindOf y=some .free):=by
   have key:∀k,cenv.scope.names.lookup y=some k->k=.local\/k=.cell\/k=.free->scope.names.lookup y=some .free/\(cenv.kindOf y=some .cell\/cenv.kindOf y=some .free):=λk hk hk'=>by
    have hk0:=hk;rw[hsc]at hk;obtain⟨k',e,r⟩:=uH hk;have no:¬(k'=.local\/k'=.cell):=λhh=>by
     rcases ok.own _ (cI e) hh with e'|e'
     ·obtain⟨p,hp,hpy⟩:=iJ.mp e';have e3:=ok.ix p hp
      have:p.1=y:=hpy
      rw[this]at e3;exact hne (iJ.mpr ⟨p,hp,y3 hN e3 e1⟩)
     ·exact e' (bp e1)
    rcases r with rfl|⟨rfl,rfl⟩
    ·rcases hk' with rfl|rfl|rfl
     ·exact absurd (.inl rfl) no
     ·exact absurd (.inr rfl) no
     ·exact⟨e,.inr hk0⟩
    ·exact⟨e,.inl hk0⟩
   have e3:WD cenv.scope y:=e3;rcases e3 with e3|e3|e3
   ·exact key _ e3 (.inl rfl)
   ·exact key _ e3 (.inr (.inl rfl))
   ·exact key _ e3 (.inr (.inr rfl))
  obtain⟨m,hn,hl⟩:=I.loc;have hvis:WD X.env.scope y:=(ok.free _ (cI hfr.1) rfl).elim (λk=>.inr (.inl k)) (λk=>.inr (.inr k));obtain⟨w,r,q⟩:=hl i y av e1 e2 hvis;refine⟨w,r,.inr ⟨hfr.2,?_⟩⟩;obtain⟨c,h1,h2⟩:=look hfr.1;rcases q with⟨k,_⟩|⟨_,c',e',z⟩
  ·have k:X.env.scope.names.lookup y=some .local:=k;rcases ok.free _ (cI hfr.1) rfl with k'|k' <;> rw[show X.env.scope.names.lookup y=_ from k']at k <;> cases k
  ·rw[h2]at e';cases e';exact⟨c,h1,z.keeps kp⟩
 ·have e:cenv.cells.lookup y=some c:=e;rcases mem e with⟨h1,_⟩|⟨_,z⟩
  ·obtain⟨w,z⟩:=I.cell y c h1;exact⟨w,z.keeps kp⟩
  ·exact⟨_,z⟩
 ·show H cenv.locals=none;rw[hL];exact I.fC.fresh (a9 _)
 ·have e:cenv.cells.lookup y=some c:=e;rcases mem e with⟨h1,_⟩|⟨h1,_⟩
  ·exact I.kR y c h1
  ·exact I.fC.fresh (qR h1)
 ·exact absurd (show p∈([]:List (aF×Obj))++[]from hp) (by simp)
theorem WG{E:aE->aO->Prop}{Q:aE->aO->Prop}(I:aCd X pins σ H s)(hD:H D=some (.lst xs))(hz:xs.length<aj)(r:aCg y v)
  (h:∀s',aCd X pins σ (aCc H D (.lst (xs++[y]))) s'->Q .none s'):bF (model X.prog X.w) X.A (call (.builtin "list.append") [.ref D,v]) Q E s:=by
 obtain⟨hz',its,n,ri,e⟩:=I.fC D _ hD;have hl:=ri.length;refine append_at (hsz:=by rw[bI];omega) e λh' sb ho'=>?_;refine h {s with heap:=h'} (I.write (t':=s.toks) (by rw[hD];trivial) (.inl rfl) (λb u hb q=>(sb.2 b hb).trans q) ⟨_,ho'⟩ ⟨by rw[aN];exact hz,its++[v],n+1,ri.append (.cons r .nil),?_⟩);rw[ho'];simp
def YN(X:Cx)(ifs:List cQ)(t:TT):Prop:=
 ∀(pins:List (aF×Obj))(s:aO)(σ:St)(H:Hp)(Q:Bool->Hp->Prop),aCd X pins σ H s->t σ H Q->
  bF (model X.prog X.w) X.A (forIn ifs true λc r=>if r=true then do let ok <-isTrue c X.env (eval c X.env);pure (qP ok)else pure (qP r)) (TP X pins σ Q) X.xe s
def Uy:TT:=λ_ H Q=>Q true H
theorem kg:YN X [] Uy:=λ_ _ _ H _ I h=>wpAny_tests_nil ⟨H,I,h⟩
theorem uk(h:PT X c t):YN X [c] t:=λpins s σ H Q I hw=>wpAny_tests_one (h pins s σ H Q I hw)
end
theorem OL{α:Type}{t:Sem α}{Q Q':α->aO->Prop}{M:yy}{A:cG}{E:aE->aO->Prop}{s:aO}(h:bF M A t Q (λ_ _=>False) s)(hQ:∀a s,Q a s->Q' a s):bF M A t Q' E s:=e8 h hQ λ_ _ z=>dm z
theorem GG{prog:bK}{w:bu}{A:cG}{R:zC->aO->Prop}{s:aO}{elt target iter:cQ}{ifs:List cQ}{scope:jJ}{pos:Pos}{it acc:aE}{env:Env}(I:Nat->aO->Prop)
  (turn:∀n s,I n s->bF (model prog w) A (R4 it) (λr s₁=>match r with
   |none=>R (.ok .next) s₁
   |some v=>bF (model prog w) A (letOwnedTupleGo target it v) (λ_ s₁'=>bF (model prog w) A (assign target env v) (λ_ s₂=> bF (model prog w) A (forIn ifs true λc r=>if r=true then do let ok <-isTrue c env (eval c env);pure (qP ok)else pure (qP r)) (λok s₃=> if ok=true then bF (model prog w) A (eval elt env) (λx s₄=> bF (model prog w) A (call (.builtin "list.append") [acc,x]) (λ_ s₅=>∃m,m<n/\I m s₅) (notedBy (model prog w) A env λe s'=>R (.error e) s') s₄) (notedBy (model prog w) A env λe s'=>R (.error e) s') s₃ else ∃m,m<n/\I m s₃) (notedBy (model prog w) A env λe s'=>R (.error e) s') s₂) (notedBy (model prog w) A env λe s'=>R (.error e) s') s₁') (notedBy (model prog w) A env λe s'=>R (.error e) s') s₁) (notedBy (model prog w) A env λe s'=>R (.error e) s') s)
  (n:Nat) (h:I n s):
  lD (model prog w) A (.compLoop (.ListComp elt [⟨target,iter,ifs,0⟩] scope pos) 0 it acc env) R s:=by
 refine codeAny_loop rfl I (λn s hI=>?_) n h;show bF _ A ((compTurn (.ListComp elt [⟨target,iter,ifs,0⟩] scope pos) 0 it acc env).onRaise (λx=>do vF x env;theTreesLotGoes x)) _ _ s;refine wpAny_noted ?_;rw[compTurn_list];refine aI (kx (aI (e8 (turn n s hI) (λr s₁ h₁=>?_) λ_ _ h'=>h')));cases r with
 |none=>exact aa h₁
 |some v=>
  refine aI (e8 h₁ (λ_ s₁' h₁'=>?_) λ_ _ h'=>h');refine aI (e8 h₁' (λ_ s₂ h₂=>aI (e8 h₂ (λok s₃ h₃=>?_) λ_ _ h'=>h')) λ_ _ h'=>h');cases ok with
  |false=>exact aa ⟨rfl,h₃⟩
  |true=>exact aI (aI (e8 h₃ (λx s₄ h₄=>aI (e8 h₄ (λ_ s₅ h₅=>aa (aa ⟨rfl,h₅⟩)) λ_ _ h'=>h')) λ_ _ h'=>h'))
section
variable{X:Cx}
def X3(wi:TI)(g:TG)(tt:TT)(te:TE)(vs:List Nat):TE:=λσ H Q=>wi σ H λJ H1=>∀D,H1 D=none->∃W:Nat->Nat->Hp->Prop,(∃m,W 0 m (aCc H1 D (.lst [])))/\∀i m H,W i m H->
 (J.stop i H/\Q (.ref D) H)\/(J.go i H/\∃Nx:Hp->Prop,(∀H',Nx H'->∃m',m' < m/\W (i+1) m' H')/\∀x H',J.OW i H x H'->g x (wipe σ vs) H' λσ2 H2=>wipe σ2 vs=wipe σ vs/\tt σ2 H2 λb H3=> if b=true then te σ2 H3 λy H4=>∃acc,H4 D=some (.lst acc)/\acc.length<aj/\Nx (aCc H4 D (.lst (acc++[y])))else Nx H3)
theorem MM{pins:List (aF×Obj)}{s:aO}{σ:St}{H:Hp}{Q:VK}{elt tg iter:cQ}{ifs:List cQ}{scope:jJ}{own:List (Str×Nat)}{pos pos':Pos}{wi:TI}{g:TG}{tt:TT}{te:TE}{use:Option (aE->Sem Unit)}{Qf:aE->aO->Prop}
  (hc:X.calm=true) (hN:X.N.Nodup) (I:aCd X pins σ H s) (hi:PI X tg iter wi) (ok:HS X.N X.env.scope scope own)
  (hg:∀(s:aO)(H:Hp)(C:aF)(cl:List (Str×aF))(fp:List aF),PG (X.Fs s H scope (kJ scope cl C X.env) fp) tg g) (ht:∀(s:aO)(H:Hp)(C:aF)(cl:List (Str×aF))(fp:List aF),YN (X.Fs s H scope (kJ scope cl C X.env) fp) ifs tt)
  (he:∀(s:aO)(H:Hp)(C:aF)(cl:List (Str×aF))(fp:List aF),PE (X.Fs s H scope (kJ scope cl C X.env) fp) elt te) (hs:∀x,foldedSetIterable iter X.env x=pure x)
  (h:X3 wi g tt te (own.map (·.2)) σ H Q)
  (hRR:∀D C s' m H',aCd X pins σ H' s'->Q (.ref D) H'->s'.heap.Ns C m->Ao X pins H' C->compPost (model X.prog X.w) X.A X.xe use Qf (.ref D) C (.ok .next) s'):
  bF (model X.prog X.w) X.A (comprehension (.ListComp elt [⟨tg,iter,ifs,0⟩] scope pos) scope X.env pos' (newList []) false (eval iter X.env) use) Qf X.xe s:=by
 have hfree:∀y∈scope.names,y.2=.free->∃c,X.env.cells.lookup y.1=some c:=λy hy e=>by
  rcases ok.free y hy e with k|k
  ·exact I.ok.has _ (.inl k)
  ·exact I.ok.has _ (.inr k)
 refine wpAny_comprehension_free (use:=use) rfl hs (KL hfree) ok.kind (λy hy e=>by rw[ok.uniq y hy,e])
  (fT (hi pins s σ H _ I h) λxv s1 hx=>fT hx λitv s2 h2=>?_)
 obtain⟨it,fp,tn,J,H2,e,I2,T,st2,f2,q⟩:=h2;subst e;refine ig (Im ?_) (by show 0<=aj;decide);generalize hD:s2.heap.objs.size=D;have hDn:H2 D=none:=I2.fC.fresh (sf hD);obtain⟨W,⟨m0,w0⟩,turn⟩:=q D hDn;generalize hs3:({s2 with heap:=s2.heap.push {cls:=.type "list",data:=.seq ([]:List aE).toArray}}:aO)=s3;have I3:aCd X pins σ (aCc H2 D (.lst [])) s3:=by rw[<-hs3];refine I2.laid (t':=s2.toks) (λb o e=>aY _ e) (sf hD) ⟨bR _,[],0,.nil,?_⟩;rw[<-hD];exact bJ _ rfl
 have h3:s3.heap=s2.heap.push {cls:=.type "list",data:=.seq ([]:List aE).toArray}:=by rw[<-hs3]
 have sz:∀b∈fp,b<s2.heap.objs.size:=λb hb=>by obtain⟨o,e,_⟩:=T.obj _ _ st2 b hb;exact bC e
 have f3:∀b∈fp,Ao X pins (aCc H2 D (.lst [])) b/\b<s3.heap.objs.size:=λb hb=>by have hlt:=sz b hb;refine⟨⟨?_,(f2 b hb).2⟩,by rw[h3,cb];exact Ar hlt⟩;rw[aJ (by rw[<-hD];exact cO hlt)];exact(f2 b hb).1
 have st3:tn 0 s3.heap:=T.keep _ _ _ st2 λb _ o e=>by rw[h3];exact aY _ e
 have I4:=Hj I3 ok hN f3;have pg:=hg s3 (aCc H2 D (.lst [])) s3.heap.objs.size (eU (s3.heap.objs.size+1) scope.names (fb X.env.cells scope.names [])) fp;have pt:=ht s3 (aCc H2 D (.lst [])) s3.heap.objs.size (eU (s3.heap.objs.size+1) scope.names (fb X.env.cells scope.names [])) fp;have pe:=he s3 (aCc H2 D (.lst [])) s3.heap.objs.size (eU (s3.heap.objs.size+1) scope.names (fb X.env.cells scope.names [])) fp;show lD _ _ (.compStart (.ListComp elt [⟨tg,iter,ifs,0⟩] scope pos) 0 (.ref it) (.ref D) (kJ scope (eU (s3.heap.objs.size+1) scope.names (fb X.env.cells scope.names [])) s3.heap.objs.size X.env)) (compPost (model X.prog X.w) X.A X.xe use Qf (.ref D) s3.heap.objs.size) {s3 with heap:=pushCells (s3.heap.push {cls:=.type "dict",data:=.dict #[]}) scope.names};have nfp:∀b∈fp,(aCc H2 D (.lst [])) b=none:=λb hb=>(f3 b hb).1.1;generalize hce:kJ scope (eU (s3.heap.objs.size+1) scope.names (fb X.env.cells scope.names [])) s3.heap.objs.size X.env=ce at I4 pg pt pe ⊢;have cL:ce.locals=s3.heap.objs.size:=by subst hce;rfl
 generalize hH3:aCc H2 D (.lst [])=H3 at I3 I4 pg pt pe w0 nfp f3;generalize hs4:({s3 with heap:=pushCells (s3.heap.push {cls:=.type "dict",data:=.dict #[]}) scope.names}:aO)=s4 at I4 ⊢;have st4:tn 0 s4.heap:=T.keep _ _ _ st3 λb _ o e=>by rw[<-hs4];exact xM _ _ _ _ (aY _ e)
 have stat:∀{σ':St}{H':Hp}{s':aO},aCd (X.Fs s3 H3 scope ce fp) [] σ' H' s'->(∀b∈fp,H' b=none)->∀b∈fp,Ao (X.Fs s3 H3 scope ce fp) [] H' b:=λ{σ' H' s'} I' hn b hb=>⟨hn b hb,(I'.ok.WV b hb).1,I'.ok.IL b hb,.inl hb,λx c e=>(I'.ok.WV b hb).2 x c e,λp hp=>absurd (show p∈([]:List (aF×Obj))++[]from hp) (by simp)⟩;have loop:lD (model X.prog X.w) X.A (.compLoop (.ListComp elt [⟨tg,iter,ifs,0⟩] scope pos) 0 (.ref it) (.ref D) ce) (compPost (model X.prog X.w) X.A X.xe use Qf (.ref D) s3.heap.objs.size) s4:=by
  refine GG (λn s'=>∃i H',aCd (X.Fs s3 H3 scope ce fp) [] (wipe σ (own.map (·.2))) H' s'/\tn i s'.heap/\(∀b∈fp,H' b=none)/\W i n H') ?_ m0 ⟨0,H3,I4,st4,nfp,w0⟩;rintro n s5 ⟨i,H5,I5,st5,n5,w5⟩;rcases turn i n H5 w5 with⟨stop,qq⟩|⟨go,Nx,hNx,step⟩
  ·have td:=T.done (X.Fs s3 H3 scope ce fp) rfl rfl rfl hc i [] s5 _ H5 (λ_ _=>False) I5 (stat I5 n5) st5 stop;refine OL td λr s6 ⟨hr,I6⟩=>?_;subst hr;have I7:aCd X pins σ H5 s6:=I3.Hm (ch:=fp) I6.os I6.base I6.fC I6.bare λb hb=>⟨(f3 b hb).1.2.2.2.1,(f3 b hb).1.2.1,(f3 b hb).1.2.2.2.2.1,(f3 b hb).1.2.2.2.2.2⟩;have nC:H5 s3.heap.objs.size=none:=by have z:H5 ce.locals=none:=I6.free;rw[cL]at z;exact z
   obtain⟨m,hn,_⟩:=I6.loc;have hn:s6.heap.Ns ce.locals m:=hn;rw[cL]at hn;exact hRR D s3.heap.objs.size s6 m H5 I7 qq hn (I3.NU (a9 _) nC)
  ·have ti:=T.item (X.Fs s3 H3 scope ce fp) rfl rfl rfl hc i [] s5 _ H5 (λ_ _=>False) I5 (stat I5 n5) st5 go;refine OL ti λr s6 ⟨u,hr,h6⟩=>?_;subst hr;refine OL h6 λ_ s7 ⟨x,H7,I7,r7,y7,st7,n7⟩=>?_;have I7':=I7.pinned (stat I7 n7) (T.obj _ _ st7);refine OL (pg _ s7 _ H7 x u _ I7' r7 (step x H7 y7)) λ_ s8 ⟨σ8,H8,I8,hw8,q8⟩=>?_;refine OL (pt _ s8 σ8 H8 _ I8 q8) λb s9 ⟨H9,I9,q9⟩=>?_;have fin:∀{s':aO}{H':Hp},aCd (X.Fs s3 H3 scope ce fp) ([]++DH fp s7.heap) σ8 H' s'->Nx H'->∃m,m<n/\∃i H',aCd (X.Fs s3 H3 scope ce fp) [] (wipe σ (own.map (·.2))) H' s'/\tn i s'.heap/\(∀b∈fp,H' b=none)/\W i m H':=λ{s' H'} I' nx=>by
    obtain⟨m',hm,w'⟩:=hNx H' nx;have pin':∀b∈fp,∀o,s7.heap.get? b=some o->s'.heap.get? b=some o/\H' b=none:=λb hb o e=>
     let z:=I'.pin (b,o) (eY _ (eY _ (wg hb e)))
     ⟨z.1,z.2.1⟩
    have hl:(wipe σ (own.map (·.2))).length=σ8.length:=by rw[<-hw8,u5]
    refine⟨m',hm,i+1,H',(I'.ym (pins:=[])).weak hl (λj v e=>?_),T.keep _ _ _ st7 λb hb o e=>(pin' b hb o e).1,λb hb=>?_,w'⟩
    ·rw[<-hw8]at e;exact(zp e).1
    ·obtain⟨o,e,_⟩:=T.obj _ _ st7 b hb;exact(pin' b hb o e).2
   cases b with
   |false=>simp only[cS,if_false]at q9 ⊢;exact fin I9 q9
   |true=>simp only[if_true]at q9 ⊢;refine OL (pe _ s9 σ8 H9 _ I9 q9) λz s10 ⟨yv,H10,I10,r10,acc,hD10,hz10,nx⟩=>?_;exact WG (X:=X.Fs s3 H3 scope ce fp) I10 hD10 hz10 r10 λs11 I11=>fin I11 nx
 exact codeAny_compStart_list loop (T.self X.A 0 _ _ _ st4 loop)
theorem ni{elt tg iter:cQ}{ifs:List cQ}{pos:Pos}{g:TG}{tt:TT}{te:TE}(hc:X.calm=true)(hN:X.N.Nodup)(hi:PI X tg iter wi)(ok:HS X.N X.env.scope scope own)
  (hg:∀(s:aO)(H:Hp)(C:aF)(cl:List (Str×aF))(fp:List aF),PG (X.Fs s H scope (kJ scope cl C X.env) fp) tg g) (ht:∀(s:aO)(H:Hp)(C:aF)(cl:List (Str×aF))(fp:List aF),YN (X.Fs s H scope (kJ scope cl C X.env) fp) ifs tt)
  (he:∀(s:aO)(H:Hp)(C:aF)(cl:List (Str×aF))(fp:List aF),PE (X.Fs s H scope (kJ scope cl C X.env) fp) elt te) (hs:∀x,foldedSetIterable iter X.env x=pure x:=by intro _;rfl):
  PE X (.ListComp elt [⟨tg,iter,ifs,0⟩] scope pos) (X3 wi g tt te (own.map (·.2))):=by
 intro pins s σ H Q I h;rw[eval_ListComp];refine MM hc hN I hi ok hg ht he hs h λD C s' m H' I' q hn f=>⟨m,hn,λh'' sb=>?_⟩;obtain⟨f0,f1,f2,f3,f4,f5⟩:=f;exact⟨.ref D,H',I'.turned (t':=s'.toks) (λb o hb e=>(sb.2 b hb).trans e) f0 f1 f3 f4 f5,rfl,q⟩
theorem JA{py:Pos}{elt tg iter:cQ}{ifs:List cQ}{own:List (Str×Nat)}{pos spos:Pos}{wi:TI}{g:TG}{tt:TT}{te:TE}(hc:X.calm=true)(hN:X.N.Nodup)(hy:X.N[i]?=some y)(hyl:X.env.scope.names.lookup y=some .local)
  (hsw:lW (.ListComp elt [⟨tg,iter,ifs,0⟩] scope pos) (some (.Name y py)) spos.line X.env=pure true) (hi:PI X tg iter wi) (ok:HS X.N X.env.scope scope own)
  (hg:∀(s:aO)(H:Hp)(C:aF)(cl:List (Str×aF))(fp:List aF),PG (X.Fs s H scope (kJ scope cl C X.env) fp) tg g) (ht:∀(s:aO)(H:Hp)(C:aF)(cl:List (Str×aF))(fp:List aF),YN (X.Fs s H scope (kJ scope cl C X.env) fp) ifs tt)
  (he:∀(s:aO)(H:Hp)(C:aF)(cl:List (Str×aF))(fp:List aF),PE (X.Fs s H scope (kJ scope cl C X.env) fp) elt te) (hs:∀x,foldedSetIterable iter X.env x=pure x:=by intro _;rfl):
  PS X (.Assign [.Name y py] (.ListComp elt [⟨tg,iter,ifs,0⟩] scope pos) spos) (S2 (X3 wi g tt te (own.map (·.2))) (tw i)):=by
 intro pins s σ H D I h;rw[exec_Assign_Name_used _ _ _ _ hsw];refine aI (kx (aI ?_));show bF _ X.A (do let _ <-comprehension (.ListComp elt [⟨tg,iter,ifs,0⟩] scope pos) scope X.env (firstIterPos [⟨tg,iter,ifs,0⟩] pos) (newList []) false (eval iter X.env) (some (assign (.Name y py) X.env))) _ _ s;have h:X3 wi g tt te (own.map (·.2)) σ H (λx H1=>tw i x σ H1 D.nx):=h;refine aI (fT (MM (Qf:=λ_ s'=>SP X pins D .next s') hc hN I hi ok hg ht he hs h λL C s' m H' I' q hn f=>?_) λ_ s' hq=>aa (aa hq));show bF _ _ (assign (.Name y py) X.env (.ref L)) _ _ _;refine Xy (F2 (v:=V.ref L) I' hN hy (.inl hyl) rfl (λs2 I2 ⟨a,sb,ha⟩=>?_) (.inr hyl));obtain⟨f0,f1,f2,f3,f4,f5⟩:=f;have haC:C≠a:=by
  rcases ha with z|z
  ·rw[z];exact f1
  ·exact λe=>f4 y a z e.symm
 refine⟨m,hn.sameBut sb haC,λh3 sb3=>?_⟩;exact⟨_,H',I2.turned (t':=s2.toks) (λb o hb e=>(sb3.2 b hb).trans e) f0 f1 f3 f4 f5,q⟩
theorem M8{elt:cQ}{gs:List Comprehension}{l:Nat}(hk:env.scope.kind=.function)(hy:env.scope.names.lookup y=some .local)(hl:(py.line==pos.line)=true)
  (ha:(scope.names.any λ(n,k)=>n==y&&(k==.local||k==.cell))=false):lW (.ListComp elt gs scope pos) (some (.Name y py)) l env=pure true:=by
 have ky:env.kindOf y=some .local:=hy;have hb:env.blockKind=.function:=by unfold Env.blockKind;rw[hk];rfl
 unfold lW;simp only[hb,ky,ha,Expr.pos,hl];rfl
end
def Yb(N:List Str)(sc scope:jJ)(own:List (Str×Nat)):Bool:=
 (match scope.kind with|.function=>true|_=>false)&&(scope.names.all λy=>decide (scope.names.lookup y.1=some y.2))&&(own.all λp=>decide (N[p.2]?=some p.1))&&
  (scope.names.all λy=>match y.2 with
   |.free=>(match sc.names.lookup y.1 with|some .cell=>true|some .free=>true|_=>false)
   |.local=>decide (y.1∈own.map (·.1))||decide (y.1∉N)
   |.cell=>decide (y.1∈own.map (·.1))||decide (y.1∉N)
   |_=>true)
theorem fo(h:Yb N sc scope own=true):HS N sc scope own:=by
 unfold Yb at h;simp only[bG,dZ,decide_eq_true_eq]at h;obtain⟨⟨⟨h1,h2⟩,h3⟩,h4⟩:=h;refine⟨?_,h2,h3,λy hy e=>?_,λy hy e=>?_⟩
 ·split at h1
  ·assumption
  ·cases h1
 ·have q:=h4 y hy;simp only[e]at q;split at q <;> first|exact .inl (by assumption)|exact .inr (by assumption)|cases q
 ·have q:=h4 y hy;rcases e with e|e <;> (simp only[e,sU,decide_eq_true_eq]at q;exact q)
section
variable{prog:bK}{w:bu}{A:cG}{R:zC->aO->Prop}{s:aO}{elt t0 i0 t1 i1:cQ}{ifs0 ifs1:List cQ}{scope:jJ}{pos:Pos}{it acc:aE}{env:Env}
end
section
variable{X:Cx}
end
section
variable{κ:Type}[DecidableEq κ]
def gU(kvs:List (κ×V))(k:κ):Option V:=(kvs.find? λkv=>decide (kv.1=k)).map (·.2)
def aCo(kvs:List (κ×V))(k:κ)(v:V):List (κ×V):=
 if(kvs.any λkv=>decide (kv.1=k))=true then kvs.map (λkv=>if kv.1=k then(kv.1,v)else kv)else kvs++[(k,v)]
def rS(kvs:List (κ×V))(k:κ):List (κ×V):=kvs.filter λkv=>decide (kv.1≠k)
theorem hJ{p:κ×V}{r:List (κ×V)}{k:κ}(e:p.1=k):gU (p::r) k=some p.2:=by simp[gU,cw,e]
theorem hG{p:κ×V}{r:List (κ×V)}{k:κ}(e:¬p.1=k):gU (p::r) k=gU r k:=by simp[gU,cw,e]
theorem qN(k:κ):∀kvs:List (κ×V),(kvs.any λkv=>decide (kv.1=k))=(gU kvs k).isSome
 |[]=>rfl
 |p::r=>by
  rw[g7];by_cases e:p.1=k
  ·simp only[hJ e,dE e,Ja,Ld]
  ·rw[hG e,dF e,mI];exact qN k r
theorem JZ(k j:κ)(y:V):∀kvs:List (κ×V),gU (kvs.map λkv=>if kv.1=k then(kv.1,y)else kv) j=(gU kvs j).map λx=>if j=k then y else x
 |[]=>rfl
 |p::r=>by
  have ih:=JZ k j y r;rw[bO];by_cases h:p.1=k
  ·rw[iP h];by_cases e:p.1=j
   ·rw[hJ (p:=(p.1,y)) e,hJ e,rn,iP (e.symm.trans h)]
   ·rw[hG (p:=(p.1,y)) e,hG e,ih]
  ·rw[iN h];by_cases e:p.1=j
   ·rw[hJ (p:=p) e,hJ e,rn,iN (λz=>h (e.trans z))]
   ·rw[hG (p:=p) e,hG e,ih]
theorem F7(k j:κ)(y:V):∀kvs:List (κ×V),gU kvs k=none->gU (kvs++[(k,y)]) j=if j=k then some y else gU kvs j
 |[],_=>by
  by_cases e:k=j
  ·rw[iP e.symm];exact hJ (p:=(k,y)) e
  ·rw[iN (λz=>e z.symm)];exact hG (p:=(k,y)) e
 |p::r,hn=>by
  rw[mE];have hk:¬p.1=k:=λz=>by rw[hJ z]at hn;cases hn
  rw[hG hk]at hn;have ih:=F7 k j y r hn;by_cases e:p.1=j
  ·rw[hJ e,hJ e,iN (λz=>hk (e.trans z))]
  ·rw[hG e,hG e,ih]
theorem Dc(kvs:List (κ×V))(k j:κ)(y:V):gU (aCo kvs k y) j=if j=k then some y else gU kvs j:=by
 unfold aCo;by_cases a:(kvs.any λkv=>decide (kv.1=k))=true
 ·rw[iP a,JZ];rw[qN]at a;by_cases e:j=k
  ·obtain⟨x,hx⟩:=E3.mp a;rw[iP e,e,hx,rn,iP rfl]
  ·rw[iN e];cases gU kvs j with
   |none=>rfl
   |some x=>rw[rn,iN e]
 ·rw[iN a];refine F7 k j y kvs ?_;rw[qN]at a;cases q:gU kvs k with
  |none=>rfl
  |some x=>rw[q]at a;exact(a rfl).elim
theorem Ia(kvs:List (κ×V))(k:κ)(v:V):(aCo kvs k v).length<=kvs.length+1:=by
 unfold aCo;split
 ·rw[aB];omega
 ·rw[aN,aG,bh];omega
theorem R3{kvs:List (κ×V)}{k:κ}(v:V)(h:gU kvs k=none):aCo kvs k v=kvs++[(k,v)]:=by unfold aCo;rw[qN,h];exact iN (by decide)
theorem nF.zV(r:nF o u):o.isSome=u.isSome:=by
 cases o with
 |none=>cases u with
  |none=>rfl
  |some _=>exact(show False from r).elim
 |some _=>cases u with
  |none=>exact(show False from r).elim
  |some _=>rfl
theorem nF.getD(r:nF o u)(rd:aCg d d'):aCg (o.getD d) (u.getD d'):=by
 cases o with
 |none=>cases u with
  |none=>exact rd
  |some _=>exact(show False from r).elim
 |some _=>cases u with
  |none=>exact(show False from r).elim
  |some _=>exact r
theorem KV.val(r:KV kvs vs)(k:κ):nF (gU kvs k) (fw vs k):=by
 unfold KV at r
 induction r with
 |nil=>exact jj
 |@cons p q ps qs h t ih=>
  obtain⟨h1,h2⟩:=h;by_cases e:p.1=k
  ·have e':q.1=k:=h1.symm.trans e;have b:fw (q::qs) k=some q.2:=by simp[fw,cw,e']
   rw[hJ e,b];exact h2
  ·have e':¬q.1=k:=λz=>e (h1.trans z);have b:fw (q::qs) k=fw qs k:=by simp[fw,cw,e']
   rw[hG e,b];exact ih
theorem KV.any(r:KV kvs vs)(k:κ):(kvs.any λkv=>decide (kv.1=k))=vs.any λkv=>decide (kv.1=k):=by
 unfold KV at r
 induction r with
 |nil=>rfl
 |cons h t ih=>rw[g7,g7,ih,h.1]
theorem KV.Wz(r:KV kvs vs)(k:κ)(ry:aCg y u):
  KV (kvs.map λkv=>if kv.1=k then(kv.1,y)else kv) (vs.map λkv=>if kv.1=k then(kv.1,u)else kv):=by
 unfold KV at r ⊢
 induction r with
 |nil=>exact .nil
 |@cons p q ps qs h t ih=>
  rw[bO,bO];refine .cons ?_ ih;obtain⟨h1,h2⟩:=h;by_cases e:p.1=k
  ·rw[iP e,iP (h1.symm.trans e)];exact⟨h1,ry⟩
  ·rw[iN e,iN (λz=>e (h1.trans z))];exact⟨h1,h2⟩
theorem KV.put(r:KV kvs vs)(k:κ)(ry:aCg y u):KV (aCo kvs k y) (stored vs k u):=by
 unfold aCo stored;rw[r.any k];by_cases e:(vs.any λkv=>decide (kv.1=k))=true
 ·rw[iP e,iP e];exact r.Wz k ry
 ·rw[iN e,iN e];exact Vt r ⟨rfl,ry⟩
theorem KV.drop(r:KV kvs vs)(k:κ):KV (rS kvs k) (without vs k):=by
 unfold KV at r ⊢;unfold rS without
 induction r with
 |nil=>exact .nil
 |@cons p q ps qs h t ih=>
  obtain⟨h1,h2⟩:=h;rw[mF,mF];by_cases e:p.1=k
  ·have a:¬decide (p.1≠k)=true:=by simp[e]
   have b:¬decide (q.1≠k)=true:=by simp[h1.symm.trans e]
   rw[iN a,iN b];exact ih
  ·have e':¬q.1=k:=λz=>e (h1.trans z);have a:decide (p.1≠k)=true:=by simp[e]
   have b:decide (q.1≠k)=true:=by simp[e']
   rw[iP a,iP b];exact .cons ⟨h1,h2⟩ ih
theorem KV.length(r:KV kvs vs):kvs.length=vs.length:=lZ r
theorem P6(kvs:List (κ×V))(k:κ):(rS kvs k).length<=kvs.length:=cP _ _
end
theorem yT(r:aCg (kV k) u):(fA P w).is k u=true:=by
 cases k with
 |inl i=>obtain⟨t,e⟩:=(show ∃t,u=oE i t from r);subst e;exact pA P w i t
 |inr x=>obtain⟨t,e⟩:=(show ∃t,u=vR x t from r);subst e;exact Ii P w x t
abbrev KT(H:Hp):List (List Key×V)->List (List Key×aF×aE)->Prop:=Ot λp q=>p.1=q.1/\H q.2.1=some (.tup (p.1.map kV))/\aCg p.2 q.2.2
theorem KT.val(r:KT H kvs xs)(k:List Key):nF (gU kvs k) ((atKey xs k).map (·.2)):=by
 induction r with
 |nil=>exact jj
 |@cons p q ps qs h t ih=>
  obtain⟨h1,_,h2⟩:=h;by_cases e:p.1=k
  ·have e':q.1=k:=h1.symm.trans e;have b:atKey (q::qs) k=some q.2:=by simp[atKey,cw,e']
   rw[hJ e,b];exact h2
  ·have e':¬q.1=k:=λz=>e (h1.trans z);have b:atKey (q::qs) k=atKey qs k:=by simp[atKey,cw,e']
   rw[hG e,b];exact ih
theorem KT.Wz(r:KT H kvs xs)(k:List Key)(ry:aCg y u):
  KT H (kvs.map λkv=>if kv.1=k then(kv.1,y)else kv) (xs.map (putAt k u)):=by
 induction r with
 |nil=>exact .nil
 |@cons p q ps qs h t ih=>
  rw[bO,bO];refine .cons ?_ ih;obtain⟨h1,h2,h3⟩:=h;unfold putAt;by_cases e:p.1=k
  ·rw[iP e,iP (h1.symm.trans e)];exact⟨h1,h2,ry⟩
  ·rw[iN e,iN (λz=>e (h1.trans z))];exact⟨h1,h2,h3⟩
theorem KT.put(r:KT H kvs xs)(k:List Key)(hb:H b=some (.tup (k.map kV)))(ry:aCg y u):
  KT H (aCo kvs k y) (storedH xs k b u):=by
 have e:(kvs.any λkv=>decide (kv.1=k))=(atKey xs k).isSome:=by rw[qN,(r.val k).zV,Option.isSome_map]
 unfold aCo storedH;rw[e];by_cases q:(atKey xs k).isSome=true
 ·rw[iP q,iP q];exact r.Wz k ry
 ·rw[iN q,iN q];exact Vt r ⟨rfl,hb,ry⟩
theorem KT.keeps(r:KT H kvs xs)(ht:∀b ys,H b=some (.tup ys)->H' b=some (.tup ys)):KT H' kvs xs:=
 Paired.Wc r λ_ _ z=>⟨z.1,ht _ _ z.2.1,z.2.2⟩
section
variable{P:bK}{w:bu}{H:Hp}{h:c9}{a:aF}
theorem rb(ok:oX P w H h)(e:Rd H a u):gB P w H h a u:=e.ok ok
theorem yG(ok:oX P w H h)(e:Rd H a (.dK kvs)):kvs.length<=aj/\(a==gD)=false/\∃vs,KV kvs vs/\h.DictOf (fA P w) a vs:=
 show gB P w H h a (.dK kvs)from rb ok e
theorem P5(ok:oX P w H h)(e:H a=some (.dK kvs)):kvs.length<=aj/\(a==gD)=false/\∃vs,KV kvs vs/\h.DictOf (fA P w) a vs:=yG ok (.inl e)
end
def rj(H:Hp)(a:aF)(y:V)(r:Option V):Prop:=
 (∃kvs k,Rd H a (.dK kvs)/\y=kV k/\r=gU kvs k)\/False
def Be(H:Hp)(a:aF)(y v:V)(H':Hp):Prop:=
 (∃kvs k,H a=some (.dK kvs)/\y=kV k/\kvs.length<aj/\H'=aCc H a (.dK (aCo kvs k v)))\/False
theorem rj.k{H:Hp}{a:aF}{kvs:List (Key×V)}{k:Key}(e:H a=some (.dK kvs)):rj H a (kV k) (gU kvs k):=.inl ⟨kvs,k,.inl e,rfl,rfl⟩
theorem Be.k{H:Hp}{a:aF}{kvs:List (Key×V)}{k:Key}{v:V}(e:H a=some (.dK kvs))(hl:kvs.length<aj):Be H a (kV k) v (aCc H a (.dK (aCo kvs k v))):=.inl ⟨kvs,k,e,rfl,hl,rfl⟩
section
variable{X:Cx}{pins:List (aF×Obj)}{σ:St}{H:Hp}{s:aO}{a:aF}{y v:V}{u r:aE}{o:Option V}{A:cG}{E:aE->aO->Prop}
theorem aCd.big(I:aCd X pins σ H s):gD<s.heap.objs.size:=by have h:cK<s.heap.objs.size:=(I.mod.glob.keeps I.bk).lt;exact Nat.lt_trans (by decide) h
theorem NQ(hu:A.units+1<zD)(I:aCd X pins σ H s)(g:rj H a y (some v))(ry:aCg y u)(h:∀w' s',aCd X pins σ H s'->aCg v w'->Q w' s'):
  bF (model X.prog X.w) A (Ji (.ref a) u) Q E s:=by
 rcases g with⟨kvs,k,e,ey,l⟩|g
 ·subst ey;obtain⟨z,hd,vs,rel,dd⟩:=yG I.fC e;obtain⟨w',hw,rw'⟩:=nF.some_of (v:=v) (o:=fw vs k) (by rw[l];exact rel.val k);exact Gu (yT ry) dd.mapOf hw (h w' _ (I.tok _) rw')
 ·exact g.elim
theorem aA4(hu:A.units+1<zD)(I:aCd X pins σ H s)(g:rj H a y o)(ry:aCg y u)(h:∀s',aCd X pins σ H s'->Q (.bool o.isSome) s'):
  bF (model X.prog X.w) A (gC .In u (.ref a)) Q E s:=by
 rcases g with⟨kvs,k,e,ey,l⟩|g
 ·subst ey;obtain⟨z,hd,vs,rel,dd⟩:=yG I.fC e;refine wpAny_in_of (yT ry) hd dd.mapOf ?_;rw[<-(rel.val k).zV,<-l];exact h _ (I.tok _)
 ·exact g.elim
theorem Tz(hu:A.units+1<zD)(I:aCd X pins σ H s)(g:rj H a y o)(ry:aCg y u)(h:∀s',aCd X pins σ H s'->Q (.bool (!o.isSome)) s'):
  bF (model X.prog X.w) A (gC .NotIn u (.ref a)) Q E s:=by
 rcases g with⟨kvs,k,e,ey,l⟩|g
 ·subst ey;obtain⟨z,hd,vs,rel,dd⟩:=yG I.fC e;refine wpAny_notIn_of (yT ry) hd dd.mapOf ?_;rw[<-(rel.val k).zV,<-l];exact h _ (I.tok _)
 ·exact g.elim
theorem Lr{t':Nat}(I:aCd X pins σ H s)(mu:VP (H a))(hs:js a s.heap h')(he:∃q,h'.get? a=some q)(new:gB X.prog X.w (aCc H a ob) h' a ob):
  aCd X pins σ (aCc H a ob) {s with heap:=h',toks:=t'}:=
 I.write (x:=a) (e:=a) mu (.inl rfl) (λb q hb z=>(hs.2 b hb).trans z) he new
theorem P4{H':Hp}(z:kvs.length<=aj)(hd:(a==gD)=false)(rel:KV kvs vs)(dd:h'.DictOf (fA P w) a vs):
  gB P w H' h' a (.dK kvs):=⟨z,hd,vs,rel,dd⟩
theorem NR(hu:A.units+1<zD)(I:aCd X pins σ H s)(g:Be H a y v H')(ry:aCg y u)(rv:aCg v r)(h:∀s',aCd X pins σ H' s'->Q () s'):
  bF (model X.prog X.w) A (setItem (.ref a) u r) Q E s:=by
 rcases g with⟨kvs,k,e,ey,l,eH⟩|g
 ·subst ey eH;obtain⟨z,hd,vs,rel,dd⟩:=P5 I.fC e;have hz:vs.length<=aj:=by rw[<-rel.length];exact z
  have hl:(aCo kvs k v).length<=aj:=by have:=Ia kvs k v;omega
  refine wpAny_setItem_pairs (hsz:=hz) (yT ry) dd λh' dd' hs=>h _ ?_;have he:∃q,h'.get? a=some q:=let ⟨q,_,_,hq,_⟩:=dd';⟨q,hq⟩;exact Lr I (by rw[e];exact jj) hs he (P4 hl hd (rel.put k rv) dd')
 ·exact g.elim
end
section
variable{X:Cx}{pins:List (aF×Obj)}{σ:St}{H:Hp}{s:aO}{a:aF}{kvs:List (Key×V)}{k:Key}{u:aE}{A:cG}{E:aE->aO->Prop}
theorem Yd{Q:aE->aO->Prop}(I:aCd X pins σ H s)(e:H a=some (.dK kvs))(ry:aCg (kV k) u)(l:gU kvs k=some v)(hm:more=[]\/∃x,more=[x])
  (h:∀w' s',aCd X pins σ (aCc H a (.dK (rS kvs k))) s'->aCg v w'->Q w' s'):bF (model X.prog X.w) A (call (.builtin "dict.pop") (.ref a::u::more)) Q E s:=by
 obtain⟨z,hd,vs,rel,dd⟩:=P5 I.fC e;obtain⟨w',hw,rw'⟩:=nF.some_of (v:=v) (o:=fw vs k) (by rw[<-l];exact rel.val k);have hp:(keyPart u).isSome=true:=by
  cases k with
  |inl i=>obtain⟨t,q⟩:=(show ∃t,u=oE i t from ry);subst q;rfl
  |inr x=>obtain⟨t,q⟩:=(show ∃t,u=vR x t from ry);subst q;rfl
 have ha:argsOk "dict.pop" ⟨.ref a::u::more,[]⟩:=by
  rcases hm with q|⟨x,q⟩
  ·subst q;exact PySem.F.args_dict_pop_2 _ _
  ·subst q;exact E4 _ _ _
 refine PV rq dd.typeIs Fi ha (meets_dict_pop_there (fA X.prog X.w) a (yT ry) more hm hp)
  ⟨vs,w',dd,by rw[<-rel.length];exact z,hw,λh' dd' hs=>h w' _ ?_ rw'⟩
 have he:∃q,h'.get? a=some q:=let ⟨q,_,_,hq,_⟩:=dd';⟨q,hq⟩;exact Lr I (by rw[e];exact jj) hs he (P4 (bw (P6 kvs k) z) hd (rel.drop k) dd')
theorem WR(I:aCd X pins σ H s)(e:H a=some (.dK kvs))(ry:aCg (kV k) u)(l:gU kvs k=none)(h:∀s',aCd X pins σ H s'->Q r s'):
  bF (model X.prog X.w) A (call (.builtin "dict.pop") [.ref a,u,r]) Q E s:=by
 obtain⟨z,hd,vs,rel,dd⟩:=P5 I.fC e;have hn:fw vs k=none:=nF.none_of (by rw[<-l];exact rel.val k);have hp:(keyPart u).isSome=true:=by
  cases k with
  |inl i=>obtain⟨t,q⟩:=(show ∃t,u=oE i t from ry);subst q;rfl
  |inr x=>obtain⟨t,q⟩:=(show ∃t,u=vR x t from ry);subst q;rfl
 exact PV rq dd.typeIs Fi (E4 _ _ _) (meets_dict_pop_default (fA X.prog X.w) a (yT ry) hd hp r) ⟨vs,dd,hn,h _ (I.tok _)⟩
theorem Yc(I:aCd X pins σ H s)(e:Rd H a (.dK kvs))(h:∀t s',aCd X pins σ H s'->Q (.int kvs.length t) s'):bF (model X.prog X.w) A (call (.builtin "len") [.ref a]) Q E s:=by obtain⟨z,hd,vs,rel,dd⟩:=yG I.fC e;refine call_len_dict hd dd (by rw[<-rel.length];rw[ic]at z;omega) ?_;rw[<-rel.length];exact h _ _ (I.tok _)
end
def Ta(i:cQ):Prop:=∀ov iv,subscripted i false ov iv=operate [ov,iv] (Ji ov iv)
theorem Gp{prog:bK}{w:bu}{A:cG}{E:aE->aO->Prop}{s:aO}{env:Env}{value slice:cQ}{pos:Pos}{T id:String}{Q:aE->aO->Prop}
  (hl:typeLookup (.type T) "__getitem__"=pure (some (.builtin id))) (hs:Ta slice)
  (h:bF (model prog w) A (eval value env) (λo s₁=>bF (model prog w) A (eval slice env) (λi s₂=>s₂.TypeIs o T/\bF (model prog w) A (Ji o i) Q E s₂) E s₁) E s):
  bF (model prog w) A (eval (.Subscript value slice pos) env) Q E s:=by
 refine WA (e8 h (λo s₁ h₁=>e8 h₁ (λi s₂ h₂=>?_) λ_ _ x=>x) λ_ _ x=>x);obtain⟨hT,h₂⟩:=h₂;unfold subscriptTail;refine aI ?_;rw[getitemInPython_of_ne hT.not_modules];refine aI (wpAny_specialOf hT hl ?_);have fin:bF (model prog w) A (subscripted slice false o i) (λr s₃=>bF (model prog w) A (letTemporaryGo value o r >>=λ_=>pure r) Q E s₃) E s₂:=by rw[hs o i];exact wpAny_operating (e8 h₂ (λr s₃ h₃=>aI (wpAny_letTemporaryGo (aa h₃))) λ_ _ x=>x)
 first
  |exact aa (aI fin)
  |exact aI (aa (aI fin))
  |exact aI fin
theorem IH(I:aCd X pins σ H s)(g:rj H a y o):s.TypeIs (.ref a) "dict":=by
 rcases g with⟨kvs,k,e,_,_⟩|g
 ·obtain⟨_,_,vs,_,dd⟩:=yG I.fC e;exact dd.typeIs
 ·exact g.elim
inductive aDf(Q:VK)(x:V)(y:V)(H2:Hp):Prop
 |mk:∀a v,x=.ref a->rj H2 a y (some v)->Q v H2->aDf Q x y H2
def ZL(td ty:TE):TE:=λσ H Q=>td σ H λx H1=>ty σ H1 (aDf Q x)
inductive aDp(Q:VK)(y:V)(x:V)(H2:Hp):Prop
 |mk:∀a o,x=.ref a->rj H2 a y o->Q (.bl o.isSome) H2->aDp Q y x H2
def aBz(ty td:TE):TE:=λσ H Q=>ty σ H λy H1=>td σ H1 (aDp Q y)
inductive aC0(Q:VK)(y:V)(x:V)(H2:Hp):Prop
 |mk:∀a o,x=.ref a->rj H2 a y o->Q (.bl (!o.isSome)) H2->aC0 Q y x H2
def Ux(ty td:TE):TE:=λσ H Q=>ty σ H λy H1=>td σ H1 (aC0 Q y)
inductive aDk(D:Ends)(σ:St)(v:V)(x:V)(y:V)(H3:Hp):Prop
 |mk:∀a H4,x=.ref a->Be H3 a y v H4->D.nx σ H4->aDk D σ v x y H3
def ZE(td ty tv:TE):TS:=λD σ H=>tv σ H λv H1=>td σ H1 λx H2=>ty σ H2 (aDk D σ v x)
section
variable{X:Cx}{o i e value:cQ}{pos pos' tpos:Pos}{td ty tv:TE}
theorem y9(hu:X.A.units+1<zD)(ho:PE X o td)(hi:PE X i ty)(hs:Ta i):PE X (.Subscript o i pos) (ZL td ty):=by intro pins s σ H Q I h;refine Gp oK.lookup hs (fT (ho pins s σ H _ I h) λu s1 ⟨x,H1,I1,rx,q1⟩=>fT (hi pins s1 σ H1 _ I1 q1) λiv s2 ⟨y,H2,I2,ry,a,v,ex,g,q2⟩=>?_);subst ex;obtain rfl:u=b5 a:=rx;exact⟨IH I2 g,NQ hu I2 g ry λw' s3 I3 rw'=>⟨v,H2,I3,rw',q2⟩⟩
theorem RN(hu:X.A.units+1<zD)(hi:PE X i ty)(ho:PE X o td):PC X .In i o (aBz ty td):=by intro pins s σ H Q I h;refine fT (hi pins s σ H _ I h) λiv s1 ⟨y,H1,I1,ry,q1⟩=>fT (ho pins s1 σ H1 _ I1 q1) λu s2 ⟨x,H2,I2,rx,a,ov,ex,g,q2⟩=>?_;subst ex;obtain rfl:u=b5 a:=rx;exact aA4 hu I2 g ry λs3 I3=>⟨.bl ov.isSome,H2,I3,rfl,q2⟩
theorem FK(hu:X.A.units+1<zD)(hi:PE X i ty)(ho:PE X o td):PC X .NotIn i o (Ux ty td):=by intro pins s σ H Q I h;refine fT (hi pins s σ H _ I h) λiv s1 ⟨y,H1,I1,ry,q1⟩=>fT (ho pins s1 σ H1 _ I1 q1) λu s2 ⟨x,H2,I2,rx,a,ov,ex,g,q2⟩=>?_;subst ex;obtain rfl:u=b5 a:=rx;exact Tz hu I2 g ry λs3 I3=>⟨.bl (!ov.isSome),H2,I3,rfl,q2⟩
theorem qp(hu:X.A.units+1<zD)(ho:PE X o td)(hi:PE X i ty)(hv:PE X value tv)(hs:lW value (some (.Subscript o i pos')) pos.line X.env=pure false):
  PS X (.Assign [.Subscript o i pos'] value pos) (ZE td ty tv):=by
 intro pins s σ H D I h;refine wpAny_Assign_Subscript (fT (hv pins s σ H _ I h) λr s1 ⟨v,H1,I1,rv,q1⟩=>fT (ho pins s1 σ H1 _ I1 q1) λu s2 ⟨x,H2,I2,rx,q2⟩=>fT (hi pins s2 σ H2 _ I2 q2) λiv s3 ⟨y,H3,I3,ry,a,H4,ex,g,q3⟩=>?_) hs;subst ex;obtain rfl:u=b5 a:=rx;exact NR hu I3 g ry rv λs4 I4=>⟨σ,H4,I4,q3⟩
end
theorem P2(h:c9)(hb:gD<h.objs.size):gB P w H (h.push {cls:=.type "dict",data:=.dict #[]}) h.objs.size (.dK []):=
 ⟨bR _,beq_eq_false_iff_ne.mpr (j7 (cO hb)),[],.nil,aAm h⟩
def XZ:TE:=λ_ H Q=>∀p,H p=none->Q (.ref p) (aCc H p (.dK []))
section
variable{X:Cx}{pos:Pos}
theorem qH:PE X (.Dict [] [] pos) XZ:=λpins s σ H Q I h=>wpAny_Dict_empty ⟨.ref s.heap.objs.size,_,I.laid (a:=s.heap.objs.size) (o:=.dK []) (t':=s.toks) (λ_ _ q=>aY _ q) (a9 _) (P2 s.heap I.big),rfl,h _ (I.fC.fresh (a9 _))⟩
end
structure M2(X:Cx)(o:cQ)(m:Str)(apos:Pos)(e f:cQ)(cpos:Pos):Prop where
 base:gk o m X.env (eval o X.env)=eval o X.env
 few:((iT cpos (b4 [e,f] X.env)).all (λx=>!x.1)&&(oO cpos (jQ [] X.env)).all (λx=>x.1.isSome) &&decide (([e,f]:List cQ).length+([]:List Jd).length+(if([]:List Jd).isEmpty then 0 else 1)<30))=true
 line:(apos.endLine==cpos.line)=true
 trees:iT cpos (b4 [e,f] X.env)=[(false,eval e X.env),(false,eval f X.env)]
def Z5(H:Hp)(a:aF):Prop:=(∃kvs,Rd H a (.dK kvs))\/False
theorem QX(I:aCd X pins σ H s)(d:Z5 H a):
  s.TypeIs (.ref a) "dict"/\(∀b,b5 a=.ref b->∃ob,s.heap.get? b=some ob/\ob.dict=none)/\(a==gD)=false:=by
 rcases d with⟨kvs,e⟩|g
 ·obtain⟨_,hd,vs,_,dd⟩:=yG I.fC e;refine⟨dd.typeIs,λb q=>?_,hd⟩;cases q;obtain⟨ob,_,_,h1,h2,_⟩:=dd;exact⟨ob,h1,h2.2.1⟩
 ·exact g.elim
section
variable{X:Cx}{pins:List (aF×Obj)}{σ:St}{H:Hp}{s:aO}{a:aF}{y d:V}{u r:aE}{o:Option V}{A:cG}{E:aE->aO->Prop}
theorem WQ(hu:A.units+1<zD)(I:aCd X pins σ H s)(g:rj H a y o)(ry:aCg y u)(rd:aCg d r)(h:∀w' s',aCd X pins σ H s'->aCg (o.getD d) w'->Q w' s'):
  bF (model X.prog X.w) A (call (.builtin "dict.get") [.ref a,u,r]) Q E s:=by
 rcases g with⟨kvs,k,e,ey,l⟩|g
 ·subst ey;obtain⟨z,hd,vs,rel,dd⟩:=yG I.fC e;refine PV HH dd.typeIs PySem.F.entry_dict_get (PySem.F.args_dict_get_3 _ _ _) (meets_dict_get_default (fA X.prog X.w) a (yT ry) hd r) ⟨_,dd.mapOf,h _ _ (I.tok _) ?_⟩;rw[l];exact(rel.val k).getD rd
 ·exact g.elim
end
def XY(td ty tx:TE):TE:=λσ H Q=>td σ H λx H1=>∃a,x=.ref a/\Z5 H1 a/\ty σ H1 λy H2=>tx σ H2 λz H3=>∃o,rj H3 a y o/\Q (o.getD z) H3
def X0(td ty tx:TE):TE:=λσ H Q=>td σ H λx H1=>∃a,x=.ref a/\Z5 H1 a/\ty σ H1 λy H2=>tx σ H2 λz H3=>∃kvs k,H3 a=some (.dK kvs)/\y=kV k/\
 (∀v,gU kvs k=some v->Q v (aCc H3 a (.dK (rS kvs k))))/\(gU kvs k=none->Q z H3)
section
variable{X:Cx}{o e f:cQ}{apos cpos:Pos}{td ty tx:TE}
theorem RR(hu:X.A.units+1<zD)(ho:PE X o td)(he:PE X e ty)(hf:PE X f tx)(m:M2 X o "get" apos e f cpos):PE X (.Call (.Attribute o "get" apos) [e,f] [] cpos) (XY td ty tx):=by intro pins s σ H Q I h;refine Xx m.base m.few m.line E5 HH PySem.F.type_dict_get (fT (ho pins s σ H _ I h) λu s1 ⟨x,H1,I1,rx,a,ex,d,q1⟩=>?_);subst ex;obtain rfl:u=b5 a:=rx;obtain⟨t1,t2,_⟩:=QX I1 d;refine⟨t1,t2,?_⟩;rw[m.trees];refine iz rfl (mJ (jA (fT (he pins s1 σ H1 _ I1 q1) λiv s2 ⟨y,H2,I2,ry,q2⟩=> jA (fT (hf pins s2 σ H2 _ I2 q2) λfv s3 ⟨z,H3,I3,rz,ov,g,q3⟩=>pW ?_))));exact WQ hu I3 g ry rz λw' s4 I4 rw'=>⟨_,H3,I4,rw',q3⟩
theorem RS(ho:PE X o td)(he:PE X e ty)(hf:PE X f tx)(m:M2 X o "pop" apos e f cpos):PE X (.Call (.Attribute o "pop" apos) [e,f] [] cpos) (X0 td ty tx):=by
 intro pins s σ H Q I h;refine Xx m.base m.few m.line E5 rq PySem.F.type_dict_pop (fT (ho pins s σ H _ I h) λu s1 ⟨x,H1,I1,rx,a,ex,d,q1⟩=>?_);subst ex;obtain rfl:u=b5 a:=rx;obtain⟨t1,t2,_⟩:=QX I1 d;refine⟨t1,t2,?_⟩;rw[m.trees];refine iz rfl (mJ (jA (fT (he pins s1 σ H1 _ I1 q1) λiv s2 ⟨y,H2,I2,ry,q2⟩=> jA (fT (hf pins s2 σ H2 _ I2 q2) λfv s3 ⟨z,H3,I3,rz,kvs,k,ea,ey,q3,q4⟩=>pW ?_))));subst ey;cases l:gU kvs k with
 |some v=>exact Yd I3 ea ry l (.inr ⟨fv,rfl⟩) λw' s4 I4 rw'=>⟨v,_,I4,rw',q3 v l⟩
 |none=>exact WR I3 ea ry l λs4 I4=>⟨z,H3,I4,rz,q4 l⟩
end
section
variable{X:Cx}{pins:List (aF×Obj)}{σ:St}{H:Hp}{s:aO}{a:aF}{kvs:List (Key×V)}{A:cG}{E:aE->aO->Prop}
end
section
variable{X:Cx}{pins:List (aF×Obj)}{σ:St}{H:Hp}{s:aO}{a:aF}{y:V}{u:aE}{A:cG}{E:aE->aO->Prop}
end
section
variable{prog:bK}{w:bu}{A:cG}{E:aE->aO->Prop}
end
section
variable{X:Cx}
end
section
variable{X:Cx}{pins:List (aF×Obj)}{σ:St}{H:Hp}{s:aO}{h':c9}
theorem aCd.VG{t':Nat}{ch:List aF}(I:aCd X pins σ H s)(k:∀b o,b∉ch->s.heap.get? b=some o->h'.get? b=some o)(hf:∀b∈ch,Ao X pins H b):aCd X pins σ H {s with heap:=h',toks:=t'}:=by
 have nit:∀b u,H b=some u->b∉ch:=λb u e z=>by have q:=(hf b z).1;rw[q]at e;cases e
 refine I.step (g':=s.gens) (d':=s.drawn) (ch:=ch) (λb hb=>⟨(hf b hb).2.2.2.1,(hf b hb).2.1,(hf b hb).2.2.2.2.1,(hf b hb).2.2.2.2.2⟩) (λb o _ _ hc e _=>k b o hc e) (λb o _ _ hc e _=>⟨o.slots,k b o hc e⟩)
  (λ_ _ _ _ n=>n) (λb o hc e=>⟨o,k b o hc e⟩) (λ_ _ e=>e) (λ_ _ _ e=>e) (λb ps e=>⟨#[],by rw[e];simp⟩) (λm hm=>?_) (λb u e=>?_) I.bare
 ·obtain⟨o,es,ep,ho,r⟩:=hm;exact⟨o,es,ep,k _ o (λz=>(hf _ z).2.1 rfl) ho,r⟩
 ·refine(I.fC b u e).sH (λc v hc q=>k c v ?_ q) (λ_ q=>q) λ_ _ q=>q;rcases hc with z|z
  ·rw[z];exact nit b u e
  ·exact nit c _ z
theorem aCd.zo{t':Nat}{ch:List aF}{T:aF}{ob:HO}(I:aCd X pins σ H s)(k:∀b o,b∉ch->s.heap.get? b=some o->h'.get? b=some o)(hf:∀b∈ch,Ao X pins H b)(hT:s.heap.objs.size<=T)
  (new:gB X.prog X.w (aCc H T ob) h' T ob):aCd X pins σ (aCc H T ob) {s with heap:=h',toks:=t'}:=by
 have hn:H T=none:=I.fC.fresh hT;have nit:∀b u,H b=some u->b∉ch:=λb u e z=>by have q:=(hf b z).1;rw[q]at e;cases e
 refine I.step (g':=s.gens) (d':=s.drawn) (ch:=ch) (λb hb=>⟨(hf b hb).2.2.2.1,(hf b hb).2.1,(hf b hb).2.2.2.2.1,(hf b hb).2.2.2.2.2⟩) (λb o _ _ hc e _=>k b o hc e) (λb o _ _ hc e _=>⟨o.slots,k b o hc e⟩)
  (λb o _ e n=>?_) (λb o hc e=>⟨o,k b o hc e⟩) (λb xs e=>?_) (λb o u e=>?_) (λb ps e=>⟨#[],?_⟩) (λm hm=>?_) (λb u e=>?_) I.bare
 ·rw[aJ (cO (bo (bC e) hT))];exact n
 ·rw[aJ (aK e hn)];exact e
 ·rw[aJ (aK e hn)];exact e
 ·rw[aJ (aK e hn),e];simp
 ·obtain⟨o,es,ep,ho,r⟩:=hm;exact⟨o,es,ep,k _ o (λz=>(hf _ z).2.1 rfl) ho,r⟩
 ·by_cases hb:b=T
  ·subst hb;rw[aC]at e;cases e;exact new
  ·rw[aJ hb]at e;refine(I.fC b u e).sH (λc v hc q=>k c v ?_ q) (λc q=>by rw[aJ (aK q hn)];exact q) λc xs q=>by rw[aJ (aK q hn)];exact q
   rcases hc with z|z
   ·rw[z];exact nit b u e
   ·exact nit c _ z
theorem aCd.lock(I:aCd X pins σ H s)(h:H d=some u)(mu:VP (some u)):∃od,aCd X pins σ (aCc H d (.k9 od u)) s:=by
 have x:=I.fC d u h;have ex:∃od,s.heap.get? d=some od:=by
  cases u with
  |lst xs=>obtain⟨_,_,_,_,e⟩:=x;exact⟨_,e⟩
  |dK kvs=>obtain⟨_,_,_,_,o,_,_,e,_⟩:=x;exact⟨o,e⟩
  |dT kvs=>obtain⟨_,_,_,_,o,_,_,e,_⟩:=x;exact⟨o,e⟩
  |set S n=>obtain⟨o,_,_,_,e,_⟩:=x;exact⟨o,e⟩
  |ins C dx fs=>obtain⟨_,_,_,e,_⟩:=x;exact⟨_,e⟩
  |ext φ=>obtain⟨_,⟨_,e⟩,_⟩:=x;exact⟨_,e⟩
  |_=>exact dm mu
 obtain⟨od,e⟩:=ex;have new:gB X.prog X.w (aCc H d (.k9 od u)) s.heap d (.k9 od u):=by
  refine⟨e,x.sH (λb v _ q=>q) (λb q=>?_) λb xs q=>?_⟩
  ·rw[aJ (λz=>by rw[z,h]at q;cases q;exact mu)];exact q
  ·rw[aJ (λz=>by rw[z,h]at q;cases q;exact mu)];exact q
 exact⟨od,I.write (x:=d) (e:=d) (t':=s.toks) (h':=s.heap) (by rw[h];exact mu) (.inl rfl) (λb v _ q=>q) ⟨od,e⟩ new⟩
theorem aCd.MT(I:aCd X pins σ H s)(h:H d=some u)(mu:VP (some u)):∀o' u',X.VM d≠some (.k9 o' u'):=λo' u' e=>by have q:=I.base.tu d o' u' e;rw[h]at q;cases q;exact mu
theorem aCd.unlock(I:aCd X pins σ H s)(h:H d=some (.k9 od u))(hn:∀o' u',X.VM d≠some (.k9 o' u')):aCd X pins σ (aCc H d u) s:=by
 have neH:∀b o,H b=some o->(∀o' u',o≠.k9 o' u')->b≠d:=λb o e hne z=>by rw[z,h]at e;cases e;exact hne _ _ rfl
 have neN:∀b,H b=none->b≠d:=λb e z=>by rw[z,h]at e;cases e
 refine⟨I.ok,I.os,I.bare,⟨I.base.keep,I.base.slot,λb o e n hx=>?_,I.base.there,λb xs e=>?_,λb o x e=>?_,λb ps e=>?_⟩,I.loc,I.cell,?_,λx c e=>?_,λp hp=>?_,λb o e=>?_,I.len⟩
 ·rw[aJ (neN b (I.base.free b o e n hx))];exact I.base.free b o e n hx
 ·have q:=I.base.xC b xs e;rw[aJ (neH b _ q (λ_ _ z=>nomatch z))];exact q
 ·have q:=I.base.tu b o x e;rw[aJ (λz=>by rw[z]at e;exact hn _ _ e)];exact q
 ·obtain⟨m,q⟩:=I.base.xB b ps e;exact⟨m,by rw[aJ (neH b _ q (λ_ _ z=>nomatch z))];exact q⟩
 ·rw[aJ (neN _ I.free)];exact I.free
 ·rw[aJ (neN c (I.kR x c e))];exact I.kR x c e
 ·obtain⟨e,n,r⟩:=I.pin p hp;exact⟨e,by rw[aJ (neN _ n)];exact n,r⟩
 ·by_cases hb:b=d
  ·rw[hb,aC]at e;cases e;rw[hb];obtain⟨_,x⟩:=I.fC d _ h;exact x.sH (λc v _ q=>q) (λc q=>by rw[aJ (neH c _ q (λ_ _ z=>nomatch z))];exact q) λc xs q=>by rw[aJ (neH c _ q (λ_ _ z=>nomatch z))];exact q
  ·rw[aJ hb]at e;exact(I.fC b o e).sH (λc v _ q=>q) (λc q=>by rw[aJ (neH c _ q (λ_ _ z=>nomatch z))];exact q) λc xs q=>by rw[aJ (neH c _ q (λ_ _ z=>nomatch z))];exact q
end
def ZP(t:TS):TS:=λD σ H=>∃d u,H d=some u/\VP (some u)/\∀od,t ⟨λσ' H'=>H' d=some (.k9 od u)/\D.nx σ' (aCc H' d u),λv H'=>H' d=some (.k9 od u)/\D.rt v (aCc H' d u),λσ' H'=>H' d=some (.k9 od u)/\D.bk σ' (aCc H' d u),λσ' H'=>H' d=some (.k9 od u)/\D.ct σ' (aCc H' d u)⟩ σ (aCc H d (.k9 od u))
section
variable{X:Cx}
theorem yd{st:Stmt}{t:TS}(h:PS X st t):PS X st (ZP t):=by
 intro pins s σ H D I hw;obtain⟨d,u,hd,mu,hw⟩:=hw;obtain⟨od,I1⟩:=I.lock hd mu;refine fT (h pins s σ _ _ I1 (hw od)) λf s1 q=>?_;cases f with
 |next=>obtain⟨σ',H',I2,e,q⟩:=q;exact⟨σ',_,I2.unlock e (I.MT hd mu),q⟩
 |brk=>obtain⟨σ',H',I2,e,q⟩:=q;exact⟨σ',_,I2.unlock e (I.MT hd mu),q⟩
 |cont=>obtain⟨σ',H',I2,e,q⟩:=q;exact⟨σ',_,I2.unlock e (I.MT hd mu),q⟩
 |ret v=>obtain⟨x,σ',H',I2,r,e,q⟩:=q;exact⟨x,σ',_,I2.unlock e (I.MT hd mu),r,q⟩
theorem G4{tg:cQ}{R:It->Hp->Prop}{J:It}{tn:Nat->c9->Prop}{tk:Nat}(I:aCd X pins σ H s)(o:Obj)
  (T:Turn X.prog X.w X.K tg J [s.heap.objs.size] s.heap.objs.size tn) (st:tn 0 (s.heap.push o)) (q:R J H):PIE X pins σ tg R (.ref s.heap.objs.size) {s with heap:=s.heap.push o,toks:=tk}:=by
 refine⟨s.heap.objs.size,[s.heap.objs.size],tn,J,H,rfl,I.kept λb ob e=>aY _ e,T,st,λb hb=>?_,q⟩;have e:b=s.heap.objs.size:=by simpa using hb
 subst e;exact I.NU (a9 _) (I.fC.fresh (a9 _))
end
def YC(lo c:Int)(n:Nat):It:=⟨λi _=>i<n,λi H x H'=>H'=H/\x=.int (lo+(i:Nat)*c),λi _=>n<=i⟩
theorem JX{P:bK}{w:bu}{K:aU}{tg:cQ}(it:aF)(lo c:Int)(n:Nat):Turn P w K tg (YC lo c n) [it] it (λi h=>IsRangeIter h it (lo+(i:Nat)*c) ((n:Int) - (i:Nat)) c) where
 mem:=by simp
 obj:=λi h st b hb=>by
  have e:b=it:=by simpa using hb
  subst e;exact⟨_,st,λv z=>nomatch z⟩
 keep:=λi h h' st k=>k it (by simp) _ st
 item:=by intro X hP hw hK hc i pins s σ H E I hf st hg;subst hP hw hK;obtain⟨f0,f1,f2,f3,f4,f5⟩:=hf it (by simp);have W:=Walks.range (prog:=X.prog) (w:=X.w) (I.ok.hd hc) it lo c n;refine W.item i s _ _ hg st λv h' tk hv st' kk=>?_;obtain⟨t,rfl⟩:=hv;have I1:aCd X pins σ H {s with heap:=h',toks:=tk}:=I.turned (λb o hb e=>kk b o (by simpa using hb) e) f0 f1 f3 f4 f5;exact⟨_,rfl,MD (s:={s with heap:=h',toks:=tk}) (n:="range_iterator") st' rfl rfl (by decide) ⟨.int (lo+(i:Nat)*c),H,I1,⟨t,rfl⟩,⟨rfl,rfl⟩,st',λb hb=>(hf b hb).1⟩⟩
 done:=by intro X hP hw hK hc i pins s σ H E I hf st hg;subst hP hw hK;obtain⟨f0,f1,f2,f3,f4,f5⟩:=hf it (by simp);exact wpAny_pyNext_range_end (I.ok.hd hc) st (by have:n<=i:=hg;omega) λh' eb=>⟨rfl,I.turned (t':=s.toks) (λb o hb e=>eb b o hb e) f0 f1 f3 f4 f5⟩
 self:=λA i s Q E st h=>wpAny_pyIter_rangeiter st h
def Zs(i j c:Int)(n:Nat):Prop:=c≠0/\c.natAbs<1073741824/\Xz i j c=true/\zt i j c=n
theorem Zs.neg(ha:-(2 ^ 62)<=i)(ha':i<2 ^ 62)(hb:-(2 ^ 62)<=j)(hb':j<2 ^ 62):Zs i j (-1) (i - j).toNat:=
 ⟨by decide,by decide,PySem.W.small_down ha ha' hb hb',PySem.W.rangeSize_downNat i j⟩
inductive aDd(R:(It->Hp->Prop))(vs:List V)(H1:Hp):Prop
 |mk:∀(i j c:Int)(n:Nat),vs=[.int i,.int j,.int c]->Zs i j c n->R (YC i c n) H1->aDd R vs H1
def Yo(ta:TA):TI:=λσ H R=>ta σ H (aDd R)
section
variable{X:Cx}{tg:cQ}
theorem Na{p pos:Pos}(hg:Gl X "range")(hm:X.mg "range"=none)(ha:PA X [a,b,c] ta)
  (hs:b4 [a,b,c] X.env=(false,eval a X.env)::b4 [b,c] X.env:=by rfl) (hpl:(iT pos (b4 [b,c] X.env)).any (·.1)=false:=by rfl):
  PI X tg (.Call (.Name "range" p) [a,b,c] [] pos) (Yo ta):=by
 intro pins s σ H R I h;refine Call_ (z6 I hg hm boot_range (il (fT (ha pos pins s σ H _ I h) λus s1 ⟨vs,H1,I1,r1,q1⟩=>?_) hs hpl));obtain⟨i,j,k,n,e,⟨c0,c1,c2,c3⟩,q⟩:=q1;subst e;cases r1 with
 |cons r rr=>
  cases rr with
  |cons r' rr=>
   cases rr with
   |cons r'' rr=>
    cases rr;obtain⟨t,rfl⟩:=r;obtain⟨t',rfl⟩:=r';obtain⟨t'',rfl⟩:=r'';refine call_range_3 c0 ?_ (.inl (Fh c1));refine wpAny_pyIter_range (IsRange.new ..) c2 ?_;have I2:aCd X pins σ H1 {s1 with heap:=s1.heap.push {cls:=.type "range",data:=.fields #[.int i t,.int j t',.int k t'']}}:=I1.kept (t':=s1.toks) λb o e=>aY _ e;refine G4 (tk:=s1.toks) I2 _ (JX _ i k n) ?_ q;have e1:i+((0:Nat):Int)*k=i:=by simp
    have e2:(n:Int) - ((0:Nat):Int)=zt i j k:=by rw[c3];simp
    show IsRangeIter _ _ (i+((0:Nat):Int)*k) ((n:Int) - ((0:Nat):Int)) k;rw[e1,e2];exact bJ _ rfl
end
theorem KS{lo c:Int}{n:Nat}{g:TG}{tb:TS}{D:Ends}(Pv:Nat->St->Hp->Prop)(h0:Pv 0 σ H)
  (hs:∀i σ H,i<n->Pv i σ H->g (.int (lo+(i:Nat)*c)) σ H λσ2 H2=>tb {D with nx:=Pv (i+1),ct:=Pv (i+1),bk:=D.nx} σ2 H2) (hd:∀σ H,Pv n σ H->D.nx σ H):
  ∃W:Nat->Nat->St->Hp->Prop,(∃m,W 0 m σ H)/\∀i m σ H,W i m σ H->
   ((YC lo c n).stop i H/\D.nx σ H)\/((YC lo c n).go i H/\∃N:St->Hp->Prop,(∀σ' H',N σ' H'->∃m',m' < m/\W (i+1) m' σ' H')/\∀x H',(YC lo c n).OW i H x H'->g x σ H' λσ2 H2=>tb {D with nx:=N,ct:=N,bk:=D.nx} σ2 H2):=by
 refine⟨λi m σ H=>m=n - i/\i<=n/\Pv i σ H,⟨n,by simp,bR _,h0⟩,?_⟩;rintro i m σ H ⟨rfl,hi,p⟩;by_cases hlt:i<n
 ·refine .inr ⟨hlt,Pv (i+1),λσ' H' p'=>⟨n - (i+1),by omega,rfl,hlt,p'⟩,λx H' y=>?_⟩;obtain⟨e,y⟩:=y;subst e y;exact hs i σ _ hlt p
 ·have e:i=n:=by omega
  subst e;exact .inl ⟨a9 _,hd σ H p⟩
section
variable{X:Cx}{tg:cQ}
end
def Its(x:Str):It:=⟨λi _=>i<x.cps.size,λi H v H'=>H'=H/\∃c,x.cps[i]?=some c/\v=.str ⟨#[c]⟩,λi _=>x.cps.size<=i⟩
theorem JY{P:bK}{w:bu}{K:aU}{tg:cQ}(it:aF)(x:Str)(t:Tok)(ty:String)(hty:ty="str_ascii_iterator"\/ty="str_iterator"):
  Turn P w K tg (Its x) [it] it (λi h=>h.IsStrIter it ty x t i) where
 mem:=by simp
 obj:=λi h st b hb=>by
  have e:b=it:=by simpa using hb
  subst e;obtain⟨o,e,c,d⟩:=st;exact⟨o,e,λv z=>by rw[d]at z;cases z⟩
 keep:=λi h h' st k=>let ⟨o,ho,r⟩:=st;⟨o,k it (by simp) o ho,r⟩
 item:=by
  intro X hP hw hK hc i pins s σ H E I hf st hg;subst hP hw hK;obtain⟨f0,f1,f2,f3,f4,f5⟩:=hf it (by simp);have W:Walks X.prog X.w X.A it [it] [it] x.cps.size (SignAt x) (λi h=>h.IsStrIter it ty x t i):=by
   rcases hty with e|e
   ·rw[e];exact Walks.strAscii (I.ok.hd hc) it x t
   ·rw[e];exact Walks.strWide (I.ok.hd hc) it x t
  have hno:["enumerate","zip","dict_itemiterator","dict_reverseitemiterator","odict_iterator","itertools.zip_longest","itertools.pairwise"].contains ty=false:=by
   rcases hty with e|e
   ·rw[e];decide
   ·rw[e];decide
  refine W.item i s _ _ hg st λv h' tk hv st' kk=>?_;obtain⟨c,u,hcx,rfl⟩:=hv;have I1:aCd X pins σ H {s with heap:=h',toks:=tk}:=I.turned (λb o hb e=>kk b o (by simpa using hb) e) f0 f1 f3 f4 f5;obtain⟨oi,e,cc,dd⟩:=id st';exact⟨_,rfl,MD (s:={s with heap:=h',toks:=tk}) e cc dd hno ⟨.str ⟨#[c]⟩,H,I1,⟨u,rfl⟩,⟨rfl,c,hcx,rfl⟩,st',λb hb=>(hf b hb).1⟩⟩
 done:=by
  intro X hP hw hK hc i pins s σ H E I hf st hg;subst hP hw hK;obtain⟨f0,f1,f2,f3,f4,f5⟩:=hf it (by simp);have hx:x.cps[i]?=none:=rh hg;rcases hty with e|e
  ·rw[e]at st;exact wpAny_pyNext_ascii_end (I.ok.hd hc) st hx λh' eb=>⟨rfl,I.turned (t':=s.toks) (λb o hb e=>eb b o hb e) f0 f1 f3 f4 f5⟩
  ·rw[e]at st;exact wpAny_pyNext_wide_end (I.ok.hd hc) st hx λh' eb=>⟨rfl,I.turned (t':=s.toks) (λb o hb e=>eb b o hb e) f0 f1 f3 f4 f5⟩
 self:=λA i s Q E st h=>by
  rcases hty with e|e
  ·rw[e]at st;exact wpAny_pyIter_striter_ascii st h
  ·rw[e]at st;exact wpAny_pyIter_striter_wide st h
inductive aDn(R:(It->Hp->Prop))(v:V)(H1:Hp):Prop
 |mk:∀x,v=.str x->R (Its x) H1->aDn R v H1
def aA9(te:TE):TI:=λσ H R=>te σ H (aDn R)
theorem Km(he:PE X e te):PI X tg e (aA9 te):=by
 intro pins s σ H R I h;refine fT (he pins s σ H _ I h) λv s1 ⟨y,H1,I1,r1,x,ex,q⟩=>?_;subst ex;obtain⟨t,rfl⟩:=r1;cases ha:x.cps.all (· < 128)
 ·exact wpAny_pyIter_wide ha (G4 (tk:=s1.toks) I1 _ (JY _ x t "str_iterator" (.inr rfl)) ⟨_,bJ _ rfl,rfl,rfl⟩ q)
 ·exact wpAny_pyIter_ascii ha (G4 (tk:=s1.toks) I1 _ (JY _ x t "str_ascii_iterator" (.inl rfl)) ⟨_,bJ _ rfl,rfl,rfl⟩ q)
section
variable{prog:bK}{w:bu}{A:cG}{E:aE->aO->Prop}{s:aO}
theorem ui{Q:aE->aO->Prop}(hd:(d==gD)=false)(ho:s.heap.get? d=some o)(hc:o.ExactDict)(hdat:o.data=.dict es ep)
  (hQ:Q (.ref s.heap.objs.size) {s with heap:=s.heap.push {cls:=.type "dict_keyiterator",data:=.fields #[.ref d,.int 0 0,.int es.size 0,.int ep 0]}}):
  bF (model prog w) A (pyIter (.ref d)) Q E s:=by
 have hT:s.TypeIs (.ref d) "dict":=⟨o,ho,hc.1⟩;refine wpAny_pyIter_slot hT Vp (vJ Vp hT F.entry_dict_iter ?_ (F.args_dict_iter_1 _));unfold Builtin.«dict.__iter__»;refine aI ?_;unfold Z3;refine aI (wpAny_notOrdered_dict hT ?_);show bF _ _ (pure (b5 d)) _ _ s;refine aa ?_;show bF _ _ (Ba d >>=_) _ _ s;unfold Ba;rw[iN (by rw[hd];exact bD)];refine aI (aa ?_);refine aI (sQ ho hdat ?_);refine aI (xN ho hdat ?_);refine aI (ig (aa ⟨_,rfl,"dict_keyiterator",_,⟨_,bJ _ rfl,rfl⟩,dk.lookup,?_⟩));simpa[pR]using hQ
theorem GW{Q:Option aE->aO->Prop}(hh:A.handled=none)(hit:s.heap.IsKeyIter it d i n ep)(hod:s.heap.get? d=some od)(hdd:od.data=.dict es ep)
  (hsz:es.size=n) (hge:n<=i) (hQ:∀h',L5 it s.heap h'->Q none {s with heap:=h'}):bF (model prog w) A (R4 (.ref it)) Q E s:=by
 obtain⟨o,ho,hc,hd⟩:=id hit;unfold R4;refine aI (OU (vH (name:=oM "__next__") hit.typeIs dk (vJ dk hit.typeIs nB ?_ (mW _))));refine aI (aa ?_);refine aI ?_;refine aI ?_
 first|refine aI (e9 hit.typeIs (aa ?_))|refine aI (gK hit.typeIs (aa ?_))
 refine aI (LQ ho hd ?_);have hown:kN "dict_keyiterator"=false:=by decide
 simp only[hown,cS,if_false];show bF _ _ (if(b5 d==f7)=true then _ else _) _ _ s;rw[iN (show ¬((b5 d==f7)=true)from bD)];refine aI (aa ?_);refine aI (sQ hod hdd ?_);rw[iN (by rw[hsz];simp)];refine aI (aa ?_);refine aI (xN hod hdd ?_);rw[iN (by simp)];refine aa ?_;have hge':es.size<=i:=by rw[hsz];exact hge
 simp only[show ¬((i:Int)<0)from by omega,if_false,gL,rh hge'];refine aI ?_
 first|refine aI (e9 hit.typeIs (aa ?_))|refine aI (gK hit.typeIs (aa ?_))
 show bF _ _ (setField (.ref it) 0 .none >>=_) _ _ s;refine aI (rB ho hd (by simp) ?_);show bF _ _ (newExc (.type "StopIteration") [] >>=_) _ _ _;refine aI ?_;simp only[newExc,newTuple];refine aI (ig ?_ (by size_fits));refine aI (m:=firstArgMember _ _) (VL (a:=f7) (by first|rfl|(simp only[firstArgMember];rfl)) ?_);refine ig ?_ (by size_fits);simp only[raiseNew];refine aI (wpAny_handled ?_);rw[show A.in1.handled=none from hh];refine aI (aa (wpAny_throw ?_));refine aI (wpAny_isInstance (T:="StopIteration") (b:=true) ⟨_,bJ _ rfl,rfl⟩ isSubtype_stop ?_);exact aa (hQ _ (((rF ..).extBut.push _).push _))
end
theorem QZ{κ:Type}{kvs:List (κ×V)}{vs:List (κ×aE)}(h:KV kvs vs):∀{i:Nat}{k:κ}{v:V},kvs[i]?=some (k,v)->∃u,vs[i]?=some (k,u)/\aCg v u:=by
 unfold KV at h
 induction h with
 |nil=>intro i k v e;simp at e
 |@cons a b l₁ l₂ r t ih=>
  intro i k v e;cases i with
  |zero=>simp only[rG,mn]at e;subst e;refine⟨b.2,?_,r.2⟩;simp only[rG];exact congrArg some (Prod.ext r.1.symm rfl)
  |succ j=>simp only[List.getElem?_cons_succ]at e ⊢;exact ih e
theorem JE(h:yU k u=true):aCg (kV k) u:=by
 rcases fq h with⟨i,t,rfl,rfl⟩|⟨x,t,rfl,rfl⟩
 ·exact⟨t,rfl⟩
 ·exact⟨t,rfl⟩
section
variable{X:Cx}{pins:List (aF×Obj)}{σ:St}{H:Hp}{s:aO}{d:aF}{o:Obj}
theorem aCd.NV(I:aCd X pins σ H s)(h:H d=some (.k9 o (.dK kvs))):
  (d==gD)=false/\s.heap.get? d=some o/\o.ExactDict/\∃(es:Array ei)(ep:Nat)(vs:List (Key×aE)),o.data=.dict es ep/\es.size=kvs.length/\KV kvs vs/\s.heap.DictAt (fA X.prog X.w) d vs ep:=by
 obtain⟨hd,z,hs,vs,kv,o',es,ep,ho,hx,hdt,r⟩:=I.fC d _ h;rw[hd]at ho;cases ho;refine⟨hs,hd,hx,es,ep,vs,hdt,?_,kv,o,es,hd,hx,hdt,r⟩;have l1:=r.2.1.length;have l2:kvs.length=vs.length:=lZ kv;rw[mj]at l1;omega
end
def Itk(d:aF)(o:Obj)(kvs:List (Key×V)):It:=
 ⟨λi H=>H d=some (.k9 o (.dK kvs))/\i<kvs.length,λi H x H'=>H'=H/\∃k v,kvs[i]?=some (k,v)/\x=kV k,λi H=>H d=some (.k9 o (.dK kvs))/\kvs.length<=i⟩
theorem yF{o:Obj}{es es':Array ei}{ep ep':Nat}(h:o.data=.dict es ep)(h':o.data=.dict es' ep'):es'=es/\ep'=ep:=by rw[h]at h';cases h';exact⟨rfl,rfl⟩
section
variable{P:bK}{w:bu}{K:aU}{tg:cQ}{d:aF}{o:Obj}{es:Array ei}{ep:Nat}
theorem OM{kvs:List (Key×V)}(it:aF)(hod:o.data=.dict es ep):Turn P w K tg (Itk d o kvs) [it] it (λi h=>h.IsKeyIter it d i kvs.length ep) where
 mem:=by simp
 obj:=λi h st b hb=>by
  have e:b=it:=by simpa using hb
  subst e;obtain⟨oi,e,c,dd⟩:=st;exact⟨oi,e,λv z=>by rw[dd]at z;cases z⟩
 keep:=λi h h' st k=>st.at λoi e=>k it (by simp) oi e
 item:=by intro X hP hw hK hc i pins s σ H E I hf st hg;subst hP hw hK;obtain⟨hd,hi⟩:=hg;obtain⟨f0,f1,f2,f3,f4,f5⟩:=hf it (by simp);obtain⟨hs,hgd,hx,es',ep',vs,hdt,hsz,kv,hm⟩:=I.NV hd;obtain⟨rfl,rfl⟩:=yF hod hdt;obtain⟨⟨k,v⟩,hkv⟩:∃p,kvs[i]?=some p:=⟨kvs[i],aX hi⟩;obtain⟨u,hu,ru⟩:=QZ kv hkv;have hl:kvs.length=vs.length:=lZ kv;rw[hl]at st;refine wpAny_pyNext_dict_item st hm hu λkey h' hkey st' sb=>?_;have I1:aCd X pins σ H {s with heap:=h'}:=I.turned (t':=s.toks) (λb ob hb e=>(sb.2 b hb).trans e) f0 f1 f3 f4 f5;obtain⟨oi,e,c,dd⟩:=id st';refine⟨key,rfl,MD (s:={s with heap:=h'}) e c dd (by decide) ⟨kV k,H,I1,JE (show yU k key=true from hkey),⟨rfl,k,v,hkv,rfl⟩,?_,λb hb=>(hf b hb).1⟩⟩;show h'.IsKeyIter it d (i+1) kvs.length _;rw[hl];exact st'
 done:=by intro X hP hw hK hc i pins s σ H E I hf st hg;subst hP hw hK;obtain⟨hd,hi⟩:=hg;obtain⟨f0,f1,f2,f3,f4,f5⟩:=hf it (by simp);obtain⟨hs,hgd,hx,es',ep',vs,hdt,hsz,kv,hm⟩:=I.NV hd;obtain⟨rfl,rfl⟩:=yF hod hdt;exact GW (I.ok.hd hc) st hgd hdt hsz hi λh' eb=>⟨rfl,I.turned (t':=s.toks) (λb ob hb e=>eb b ob hb e) f0 f1 f3 f4 f5⟩
 self:=λA i s Q E st h=>wpAny_pyIter_keyiter st h
end
def Yn(td:TE):TI:=λσ H R=>td σ H λx H1=>∃d o,x=.ref d/\((∃kvs,H1 d=some (.k9 o (.dK kvs))/\R (Itk d o kvs) H1)\/False)
section
variable{X:Cx}{tg e:cQ}{td:TE}{apos cpos:Pos}
theorem G3(he:PE X e td):PI X tg e (Yn td):=by
 intro pins s σ H R I h;refine fT (he pins s σ H _ I h) λu s1 ⟨x,H1,I1,rx,d,o,ex,q⟩=>?_;subst ex;obtain rfl:u=b5 d:=rx;rcases q with⟨kvs,hd,q⟩|g
 ·obtain⟨hs,hgd,hx,es,ep,vs,hdt,hsz,kv,hm⟩:=I1.NV hd;refine ui hs hgd hx hdt (G4 (tk:=s1.toks) I1 _ (OM _ hdt) ⟨_,bJ _ rfl,rfl,?_⟩ q);rw[hsz] <;> rfl
 ·exact g.elim
end
theorem NF:fU "zip"=some (.type "zip"):=by trivial
def Itz(K:aU)(a b:aF):It:=
 ⟨λi H=>∃(xs ys:List V)(x y:V),bf K H a xs/\bf K H b ys/\xs[i]?=some x/\ys[i]?=some y,λi H v H'=>∃T x y,v=.ref T/\H T=none/\H'=aCc H T (.tup [x,y])/\(∀xs,bf K H a xs->xs[i]?=some x)/\∀ys,bf K H b ys->ys[i]?=some y,λi H=>∃xs ys:List V,bf K H a xs/\bf K H b ys/\(xs.length<=i\/ys.length<=i)⟩
theorem Sm{P:bK}{w:bu}{K:aU}{elts:List cQ}{kk:Nat}{tpos:Pos}{a b z TI TO i1 i2:aF}(D:ZipApart z TI TO i1 i2 a b):
  Turn P w K (.Tuple elts kk tpos) (Itz K a b) [z,TI,TO,i1,i2] z (λi h=>IsZip h z TI TO .none/\IsPair h TI (.ref i1) (.ref i2)/\(∃x y,IsPair h TO x y)/\h.IsListIter i1 a i/\h.IsListIter i2 b i) where
 mem:=by simp
 obj:=λi h st c hc=>by
  obtain⟨hz,hTI,⟨x,y,hTO⟩,⟨o1,e1,_,d1⟩,⟨o2,e2,_,d2⟩⟩:=st;have e':c=z\/c=TI\/c=TO\/c=i1\/c=i2:=by simpa using hc
  rcases e' with q|q|q|q|q
  ·rw[q];exact⟨_,hz,λv q=>nomatch q⟩
  ·rw[q];exact⟨_,hTI,λv q=>nomatch q⟩
  ·rw[q];exact⟨_,hTO,λv q=>nomatch q⟩
  ·rw[q];exact⟨o1,e1,λv q=>by rw[d1]at q;cases q⟩
  ·rw[q];exact⟨o2,e2,λv q=>by rw[d2]at q;cases q⟩
 keep:=λi h h' st k=>by obtain⟨hz,hTI,⟨x,y,hTO⟩,h1,h2⟩:=st;exact⟨k z (by simp) _ hz,k TI (by simp) _ hTI,⟨x,y,k TO (by simp) _ hTO⟩,h1.at λo q=>k i1 (by simp) o q,h2.at λo q=>k i2 (by simp) o q⟩
 item:=by
  intro X hP hw hK hc i pins s σ H E I hf st hg;subst hP hw hK;obtain⟨hz,hTI,⟨x0,y0,hTO⟩,h1,h2⟩:=st;obtain⟨xs,ys,x,y,hqx,hqy,hx,hy⟩:=hg;obtain⟨its,rv,p,_⟩:=I.list hqx;obtain⟨its2,rv2,p2,_⟩:=I.list hqy;obtain⟨u,hu,ru⟩:=rv.get hx;obtain⟨u2,hu2,ru2⟩:=rv2.get hy;have hzl:z<s.heap.objs.size:=bC hz;refine wpAny_pyNext_zip_item D hz hTI hTO h1 h2 p.isList p2.isList (x:=u) (y:=u2) (by simpa using hu) (by simpa using hu2) λh' z' TO' h1' h2' hT hsz hk=>?_;refine⟨_,rfl,wpAny_letOwnedTupleGo_zip (s:={s with heap:=h'}) z' λh'' z'' sb=>?_⟩;have hT2:h''.get? s.heap.objs.size=some {cls:=.type "tuple",data:=.seq #[u,u2]}:=(sb.2 _ (si hzl)).trans hT;have new:gB X.prog X.w (aCc H s.heap.objs.size (.tup [x,y])) h'' s.heap.objs.size (.tup [x,y]):=
   ⟨by show 2<=aj;decide,[u,u2],.cons ru (.cons ru2 .nil),⟨_,hT2,rfl,_,rfl⟩⟩
  have I1:aCd X pins σ (aCc H s.heap.objs.size (.tup [x,y])) {s with heap:=h''}:=
   I.zo (t':=s.toks) (ch:=[z,TI,TO,i1,i2]) (λc o hb q=>(sb.2 c (λq'=>hb (by simp[q']))).trans (hk c o (λq'=>hb (by simp[q'])) (λq'=>hb (by simp[q'])) (λq'=>hb (by simp[q'])) (λq'=>hb (by simp[q'])) q)) hf (a9 _) new
  refine⟨.ref s.heap.objs.size,_,I1,rfl,⟨_,x,y,rfl,I.fC.fresh (a9 _),rfl,λl hl=>by rw[I.yV hl hqx];exact hx,λl hl=>by rw[I.yV hl hqy];exact hy⟩,⟨z'',?_,⟨u,u2,?_⟩,?_,?_⟩,λc hcm=>?_⟩
  ·exact(sb.2 _ D.TIz).trans (hk _ _ D.TIz D.TITO D.TIi1 D.TIi2 hTI)
  ·exact(sb.2 _ D.TOz).trans TO'
  ·exact h1'.at λo q=>(sb.2 _ D.i1z).trans q
  ·exact h2'.at λo q=>(sb.2 _ D.i2z).trans q
  ·have hlt:c<s.heap.objs.size:=by
    have e':c=z\/c=TI\/c=TO\/c=i1\/c=i2:=by simpa using hcm
    rcases e' with q|q|q|q|q
    ·rw[q];exact hzl
    ·rw[q];exact bC hTI
    ·rw[q];exact bC hTO
    ·rw[q];obtain⟨_,e1,_⟩:=h1;exact bC e1
    ·rw[q];obtain⟨_,e2,_⟩:=h2;exact bC e2
   rw[aJ (cO hlt)];exact(hf c hcm).1
 done:=by
  intro X hP hw hK hc i pins s σ H E I hf st hg;subst hP hw hK;obtain⟨hz,hTI,⟨x0,y0,hTO⟩,h1,h2⟩:=st;obtain⟨xs,ys,hqx,hqy,hend⟩:=hg;obtain⟨its,rv,p,_⟩:=I.list hqx;obtain⟨its2,rv2,p2,_⟩:=I.list hqy;have l1:=rv.length;have l2:=rv2.length;have he:its.toArray[i]?=none\/its2.toArray[i]?=none:=by
   rcases hend with q|q
   ·exact .inl (by simp;omega)
   ·exact .inr (by simp;omega)
  exact wpAny_pyNext_zip_end (I.ok.hd hc) D hz hTI hTO h1 h2 p.isList p2.isList he λh' hk=>⟨rfl,I.VG (t':=s.toks) (ch:=[z,TI,TO,i1,i2]) (λc o hb q=> hk c o (λq'=>hb (by simp[q'])) (λq'=>hb (by simp[q'])) (λq'=>hb (by simp[q'])) (λq'=>hb (by simp[q'])) q) hf⟩
 self:=λA i s Q E st h=>ZW st.1 h
inductive aDo(K:aU)(R:(It->Hp->Prop))(vs:List V)(H1:Hp):Prop
 |mk:∀a b xs ys,vs=[.ref a,.ref b]->bf K H1 a xs->bf K H1 b ys->R (Itz K a b) H1->aDo K R vs H1
def Yp(K:aU)(ta:TA):TI:=λσ H R=>ta σ H (aDo K R)
theorem Wm{X:Cx}{e e2:cQ}{ta:TA}{p pos tpos:Pos}{elts:List cQ}{kk:Nat}(hg:Gl X "zip")(hm:X.mg "zip"=none)(ha:PA X [e,e2] ta)
  (hs:b4 [e,e2] X.env=(false,eval e X.env)::b4 [e2] X.env:=by rfl) (hpl:(iT pos (b4 [e2] X.env)).any (·.1)=false:=by rfl):
  PI X (.Tuple elts kk tpos) (.Call (.Name "zip" p) [e,e2] [] pos) (Yp X.K ta):=by
 intro pins s σ H R I h;refine Call_ (z6 I hg hm NF (il (fT (ha pos pins s σ H _ I h) λus s1 ⟨vs,H1,I1,r1,q1⟩=>?_) hs hpl));obtain⟨a,b,xs,ys,ex,hqx,hqy,q⟩:=q1;subst ex;cases r1 with
 |cons r rr=>
  cases rr with
  |cons r' rr=>
   cases rr;cases r;cases r';obtain⟨its,rv,p1,_⟩:=I1.list hqx;obtain⟨its2,rv2,p2,_⟩:=I1.list hqy;have la:a<s1.heap.objs.size:=p1.lt;have lb:b<s1.heap.objs.size:=p2.lt;refine call_zip_2 p1.isList p2.isList λh' hz hTI hTO h1 h2 hsz hk=>ZW hz ?_;have I2:aCd X pins σ H1 {s1 with heap:=h'}:=I1.kept (t':=s1.toks) hk;refine⟨s1.heap.objs.size+4,[s1.heap.objs.size+4,s1.heap.objs.size+2,s1.heap.objs.size+3,s1.heap.objs.size,s1.heap.objs.size+1],_,_,H1,rfl,I2,Sm (PySem.W.ktu_apart s1.heap.objs.size a b la lb),⟨hz,hTI,⟨_,_,hTO⟩,h1,h2⟩,λc hcm=>?_,q⟩;have e':c=s1.heap.objs.size+4\/c=s1.heap.objs.size+2\/c=s1.heap.objs.size+3\/c=s1.heap.objs.size\/c=s1.heap.objs.size+1:=by simpa using hcm
   have hle:s1.heap.objs.size<=c:=by
    rcases e' with z|z|z|z|z
    ·rw[z];exact jv _ _
    ·rw[z];exact jv _ _
    ·rw[z];exact jv _ _
    ·rw[z];exact a9 _
    ·rw[z];exact jv _ _
   exact I1.NU hle (I1.fC.fresh hle)
end L2
section
namespace Bits
open PySem PyProof.Rows
end Bits
end
section
namespace TL
open PySem PySem.Builtin PySem.Builtin.Str PySem.StrLaws
abbrev tl(x:Str):List Nat:=x.cps.toList
theorem z7(x:Str):x.length=(tl x).length:=by simp[tl,Ov]
theorem QE(h:tl x=tl y):x=y:=Str.ext' (Array.toList_inj.mp h)
theorem F4(x y:Str):tl (x++y)=tl x++tl y:=by show(x++y).cps.toList=_;rw[Str.cps_append,Array.toList_append]
theorem Cp:∀{l m:List Str},l.map tl=m.map tl->l=m
 |[],[],_=>rfl
 |[],_::_,h=>by simp at h
 |_::_,[],h=>by simp at h
 |x::l,y::m,h=>by rw[bO,bO]at h;injection h with h1 h2;rw[QE h1,Cp h2]
def pre(S l:List Nat):Bool:=l.take S.length==S
def Af(S:List Nat):Nat->List Nat->List Nat->List (List Nat)
 |_,acc,[]=>[acc]
 |0,acc,c::r=>if pre S (c::r)=true then acc::Af S (S.length - 1) [] r else Af S 0 (acc++[c]) r
 |k+1,acc,_::r=>Af S k acc r
theorem Gj(S:List Nat)(k:Nat)(acc:List Nat):Af S k acc []=[acc]:=by cases k <;> rfl
theorem M6(h:pre S (c::r)=true):Af S 0 acc (c::r)=acc::Af S (S.length - 1) [] r:=by show(if pre S (c::r)=true then acc::Af S (S.length - 1) [] r else Af S 0 (acc++[c]) r)=_;rw[iP h]
theorem JP(h:pre S (c::r)=false):Af S 0 acc (c::r)=Af S 0 (acc++[c]) r:=by show(if pre S (c::r)=true then acc::Af S (S.length - 1) [] r else Af S 0 (acc++[c]) r)=_;rw[iN (by rw[h];exact bD)]
theorem JQ(S:List Nat):∀(k:Nat)(acc l:List Nat),Af S k acc l=Af S 0 acc (l.drop k)
 |0,_,_=>by rw[vM]
 |k+1,acc,[]=>by rw[List.drop_nil,Gj,Gj]
 |k+1,acc,c::r=>by show Af S k acc r=Af S 0 acc (r.drop k);exact JQ S k acc r
theorem U5(hS:S≠[]):pre S []=false:=by
 cases S with
 |nil=>exact absurd rfl hS
 |cons s S=>rfl
theorem Iz(S r:List Nat)(h:c≠s):pre (s::S) (c::r)=false:=by
 cases hp:pre (s::S) (c::r)with
 |false=>rfl
 |true=>have e:(c::r).take (s::S).length=s::S:=eq_of_beq hp;rw[aG,nE]at e;injection e with e1 e2;exact absurd e1 h
theorem yR{L:List Nat}{a:Nat}(h:a<L.length):∃c,L.drop a=c::L.drop (a+1):=⟨L[a],b3 h⟩
theorem Gk(S L:List Nat):∀(m a:Nat)(acc:List Nat),a+m<=L.length->(∀k,a<=k->k<a+m->pre S (L.drop k)=false)->
  Af S 0 acc (L.drop a)=Af S 0 (acc++(L.drop a).take m) (L.drop (a+m))
 |0,a,acc,_,_=>by rw[o8,bg,Nat.add_zero]
 |m+1,a,acc,h,hn=>by
  have hlt:a<L.length:=by omega
  obtain⟨c,e⟩:=yR hlt;have h0:=hn a (a9 _) (by omega);have ih:=Gk S L m (a+1) (acc++[c]) (by omega) (λk h1 h2=>hn k (by omega) (by omega));have e2:a+1+m=a+(m+1):=by omega
  rw[e2]at ih;rw[e]at h0;rw[e,JP h0,ih,nE,bV] <;> rfl
theorem P7(L:List Nat)(a b:Nat):(L.drop a).drop b=L.drop (a+b):=by
 first
  |rw[lA]
  |rw[lA,YI]
theorem XQ{S L:List Nat}(hS:S≠[]){c:Nat}{acc:List Nat}(h:pre S (L.drop c)=true):Af S 0 acc (L.drop c)=acc::Af S 0 [] (L.drop (c+S.length)):=by
 rw[<-P7];cases e:L.drop c with
 |nil=>rw[e,U5 hS]at h;cases h
 |cons d r=>
  rw[e]at h;rw[M6 h,JQ];cases S with
  |nil=>exact absurd rfl hS
  |cons s S=>rfl
theorem Oy(hy:tl y≠[])(i:Nat):At x y x.length i↔pre (tl y) ((tl x).drop i)=true:=by
 have hx:=z7 x;have hl:=z7 y
 constructor
 ·intro h;have h2:=h.2;rw[subAt_eq,hl]at h2;exact h2
 ·intro h;have e:((tl x).drop i).take (tl y).length=tl y:=eq_of_beq h;have e1:=congrArg L6 e;rw[cB,ay]at e1;have e2:0<(tl y).length:=Mu.mpr hy;refine⟨by omega,?_⟩;rw[subAt_eq,hl];exact h
theorem V4(hy:tl y≠[])(h:¬At x y x.length i):pre (tl y) ((tl x).drop i)=false:=by
 cases hp:pre (tl y) ((tl x).drop i)with
 |false=>rfl
 |true=>exact absurd ((Oy hy i).mpr hp) h
theorem aBb(hy:tl y≠[]):1<=y.length:=by have e2:0<(tl y).length:=Mu.mpr hy;rw[z7 y];exact e2
theorem F5(x:Str)(i j:Nat):tl (strSub x i j)=((tl x).drop i).take (j - i):=strSub_toList x i j
theorem EU(x:Str)(i:Nat):tl (strSub x i x.length)=(tl x).drop i:=by rw[F5,z7 x];exact sN (by rw[ay] <;> omega)
theorem FJ{x y:Str}(hy:tl y≠[]):∀(cuts:List Nat)(a f:Nat),a<=(tl x).length->ChainG x y x.length a cuts f->(∀k,f<=k->¬At x y x.length k)->
  (partsFrom x y.length a cuts).map tl=Af (tl y) 0 [] ((tl x).drop a)
 |[],a,f,ha,h,hn=>by
  have e:f=a:=h;subst e;show[tl (strSub x f x.length)]=_;have run:=Gk (tl y) (tl x) ((tl x).length - f) f [] (by omega) (λk h1 _=>V4 hy (hn k h1));have e2:f+((tl x).length - f)=(tl x).length:=by omega
  rw[e2,fD,Gj,jL,sN (by rw[ay] <;> omega)]at run;rw[run,EU]
 |c::r,a,f,ha,h,hn=>by
  obtain⟨h1,h2,h3,h4⟩:=h;have hc:c+y.length<=x.length:=h2.1;have hx:=z7 x;have hl:=z7 y;have ih:=FJ hy r (c+y.length) f (by omega) h4 hn;show tl (strSub x a c)::(partsFrom x y.length (c+y.length) r).map tl=_;have run:=Gk (tl y) (tl x) (c - a) a [] (by omega) (λk k1 k2=>V4 hy (h3 k k1 (by omega)));have e2:a+(c - a)=c:=by omega
  rw[e2,jL,XQ hy ((Oy hy c).mp h2)]at run;rw[run,ih,F5,hl]
theorem OH(x y:Str)(hy:tl y≠[])(hk:¬eC x<eC y):(kj x y).map tl=Af (tl y) 0 [] (tl x):=by
 obtain⟨f,g,hn⟩:=occ_tight x y (aBb hy);have key:=FJ hy _ 0 f (bR _) g hn;rw[vM]at key;have none_case:occurrences x y 0 x.length (x.length+1)=[]->[x].map tl=Af (tl y) 0 [] (tl x):=λho=>by rw[ho]at key;rw[<-key];show[tl x]=[tl (strSub x 0 x.length)];rw[sub_whole]
 unfold kj;by_cases h1:(decide (x.length<y.length)||decide (eC x<eC y))=true
 ·rw[iP h1];have hlt:x.length<y.length:=by
   simp only[sU,decide_eq_true_eq]at h1;rcases h1 with h|h
   ·exact h
   ·exact absurd h hk
  refine none_case ?_;cases ho:occurrences x y 0 x.length (x.length+1)with
  |nil=>rfl
  |cons c r=>rw[ho]at g;have hc:c+y.length<=x.length:=g.2.1.1;omega
 ·rw[iN h1];by_cases h2:(occurrences x y 0 x.length (x.length+1)).isEmpty=true
  ·rw[iP h2];exact none_case (TH.mp h2)
  ·rw[iN h2,partsBetween_eq];exact key
theorem UL(h:y.cps.all (· < 256)=true):¬eC x<eC y:=by
 have e:eC y=1:=by unfold eC;rw[iP h]
 rw[e];unfold eC;split
 ·omega
 ·split <;> omega
def vx(S:List Nat):List (List Nat)->List Nat
 |[]=>[]
 |[p]=>p
 |p::q::r=>p++(S++vx S (q::r))
theorem Md(y:Str):∀parts:List Str,tl (Vz y parts)=vx (tl y) (parts.map tl)
 |[]=>rfl
 |[_]=>rfl
 |x::z::r=>by show tl (x++y++Vz y (z::r))=tl x++(tl y++vx (tl y) ((z::r).map tl));rw[F4,F4,Md y (z::r),bV]
theorem join_eq(y:Str)(parts:List Str):Fo y parts=Vz y parts:=glued_eq_join y parts
end TL
end
namespace L2
theorem F8:∀l:List (Str×Tok),aCh ((l.map (·.1)).map V.str) (strValues l)
 |[]=>.nil
 |p::r=>.cons ⟨p.2,rfl⟩ (F8 r)
theorem qy:∀{ys:List Str}{us:List aE},aCh (ys.map V.str) us->StrsAre us ys
 |[],_,.nil=>.nil
 |y::ys,_,.cons r t=>by obtain⟨k,rfl⟩:=r;exact .cons y k (qy t)
def DK(ys:List Str):Hp->VK->Prop:=λH Q=>∀p,H p=none->Q (.ref p) (aCc H p (.lst (ys.map V.str)))
section
variable{X:Cx}{pins:List (aF×Obj)}{σ:St}{H:Hp}{s:aO}{Q:VK}
theorem zZ{k:Nat}(I:aCd X pins σ H s)(e:l.map (·.1)=ys)(hz:ys.length<=aj)(h:DK ys H Q):
  EP X pins σ Q (.ref s.heap.objs.size) {s with toks:=k,heap:=s.heap.push {cls:=.type "list",data:=.seq (strValues l).toArray}}:=by
 have hp:=I.fC.fresh (a9 _);refine⟨.ref s.heap.objs.size,aCc H s.heap.objs.size (.lst (ys.map V.str)),I.laid (λb u q=>aY _ q) (a9 _) ⟨by rw[aB];exact hz,strValues l,_,?_,bJ _ rfl⟩,rfl,h _ hp⟩;rw[<-e];exact F8 l
end
section
variable{X:Cx}
theorem Q7:Vr X "str.split" (λx xs H Q=>∃a b,x=.str a/\xs=[.str b]/\(b.length==0)=false/\a.length+2<=aj/\DK (kj a b) H Q):=by
 intro pins s σ H x xs v us Q I rx rs h;obtain⟨a,b,rfl,rfl,hb,hz,h⟩:=h;obtain⟨t,rfl⟩:=rx;cases rs with
 |cons r1 rs=>
  cases rs;obtain⟨u,rfl⟩:=r1;have hl:(kj a b).length<=aj:=bw (Bi a b) hz;have hn:(Ak a (oH a b 0 a.length (a.length+1)) b.length).length<=aj:=by have e1:=StrLaws.occ_length_le a b 0 a.length (a.length+1);rw[length_partsBetween];omega
  cases h1:(decide (a.length<b.length)||decide (eC a<eC b))
  ·cases hf:(oH a b 0 a.length (a.length+1)).isEmpty
   ·refine kI sY (qz _ _ _) Bf (An _ _) (meets_str_split_sep a b t u h1 hb hf (by omega) hn) ?_;show EP X pins σ Q (.ref s.heap.objs.size) {s with toks:=_,heap:=s.heap.push {cls:=.type "list",data:=.seq (strsFrom s.toks (Ak a (oH a b 0 a.length (a.length+1)) b.length)).toArray}};rw[strsFrom_eq];exact zZ (ys:=kj a b) I ((numbered_texts _ _).trans ((iN (ne_true_of_eq_false h1)).trans (iN (ne_true_of_eq_false hf))).symm) hl h
   ·refine kI sY (qz _ _ _) Bf (An _ _) (meets_str_split_not_found a b t u h1 hb hf) ?_;exact zZ (l:=[(a,t)]) (ys:=kj a b) (k:=s.toks) I ((iN (ne_true_of_eq_false h1)).trans (iP hf)).symm hl h
  ·refine kI sY (qz _ _ _) Bf (An _ _) (meets_str_split_cannot_occur a b t u h1) ?_;exact zZ (l:=[(a,t)]) (ys:=kj a b) (k:=s.toks) I (iP h1).symm hl h
theorem UP:Vr X "str.join" (λx xs H Q=>∃a p,∃ys:List Str,x=.str a/\xs=[.ref p]/\(bf X.K H p (ys.map V.str)\/qU X.K H p (ys.map V.str))/\ (ys.map (·.length)).sum+ys.length*a.length<=16777216/\Q (.str (Fo a ys)) H):=by
 intro pins s σ H x xs v us Q I rx rs h;obtain⟨a,p,ys,rfl,rfl,hp,hz,h⟩:=h;obtain⟨t,rfl⟩:=rx;cases rs with
 |cons r1 rs=>
  cases rs;cases r1;rcases hp with hp|hp
  ·obtain⟨its,r,⟨o,n,ho,hc,_,hd⟩,_⟩:=I.list hp;exact Z9 (items:=its.toArray) ⟨o,ho,hc,n,hd⟩ (by rw[Mv];exact qy r) hz λt' k=>⟨.str _,H,I.tok k,⟨t',rfl⟩,h⟩
  ·obtain⟨its,r,ht,_⟩:=I.tuple hp;exact Za (items:=its.toArray) ht (by rw[Mv];exact qy r) hz λt' k=>⟨.str _,H,I.tok k,⟨t',rfl⟩,h⟩
theorem xf:pY X (.type "int") (λxs H Q=>∃a n,xs=[.str a]/\PySem.intText? a=some n/\a.length<=640/\Q (.int n) H):=by
 intro pins s σ H xs us Q I rs h;obtain⟨a,n,rfl,hn,hl,h⟩:=h;cases rs with
 |cons r1 rs=>cases rs;obtain⟨t,rfl⟩:=r1;exact aAs hn hl ⟨.int n,H,I.tok _,⟨_,rfl⟩,h⟩
end
section
variable{X:Cx}{o e:cQ}{to te:TE}
def aB2(r:V->List V->Hp->VK->Prop)(to te:TE):TE:=λσ H Q=>to σ H λx H1=>(∃a,x=.str a)/\te σ H1 λy H2=>r x [y] H2 Q
theorem V7{id:String}{name:Str}{apos pos:Pos}{r:V->List V->Hp->VK->Prop}(slot:Slot "str" name id)(ty:typeOf (.builtin id)=pure (.type "method_descriptor"))(rule:Vr X id r)(ho:PE X o to)(he:PE X e te)
  (hs:b4 [e] X.env=[(false,eval e X.env)]:=by rfl) (hbase:gk o name X.env (eval o X.env)=eval o X.env:=by rfl) (hline:(apos.endLine==pos.line)=true:=by rfl):
  PE X (.Call (.Attribute o name apos) [e] [] pos) (aB2 r to te):=by
 intro pins s σ H Q I h;refine PySem.Call_method1 hbase hs hline (fT (ho pins s σ H _ I h) λv s1 ⟨x,H1,I1,r1,q1⟩=>?_);obtain⟨⟨a,rfl⟩,q1⟩:=q1;obtain⟨t,rfl⟩:=_root_.id r1;refine⟨"str",_,F.plainAttrs_str,slot,ty,qz _ _ _,(λ_ e=>nomatch e),iz rfl (mJ (jA ?_))⟩;exact fT (he pins s1 σ H1 _ I1 q1) λu s2 ⟨y,H2,I2,r2,q2⟩=>pW (rule pins s2 σ H2 _ [y] _ [u] Q I2 r1 (.cons r2 .nil) q2)
theorem yb(ho:PE X o to)(he:PE X e te)(hs:b4 [e] X.env=[(false,eval e X.env)]:=by rfl)(hbase:gk o "split" X.env (eval o X.env)=eval o X.env:=by rfl)(hline:(apos.endLine==pos.line)=true:=by rfl):
  PE X (.Call (.Attribute o "split" apos) [e] [] pos) (aB2 (λx xs H Q=>∃a b,x=.str a/\xs=[.str b]/\(b.length==0)=false/\a.length+2<=aj/\DK (kj a b) H Q) to te):=
 V7 sY F.type_str_split Q7 ho he hs hbase hline
theorem BZ(ho:PE X o to)(he:PE X e te)(hs:b4 [e] X.env=[(false,eval e X.env)]:=by rfl)(hbase:gk o "join" X.env (eval o X.env)=eval o X.env:=by rfl)(hline:(apos.endLine==pos.line)=true:=by rfl):
  PE X (.Call (.Attribute o "join" apos) [e] [] pos) (aB2 (λx xs H Q=>∃a p,∃ys:List Str,x=.str a/\xs=[.ref p]/\(bf X.K H p (ys.map V.str)\/qU X.K H p (ys.map V.str))/\ (ys.map (·.length)).sum+ys.length*a.length<=16777216/\Q (.str (Fo a ys)) H) to te):=
 V7 F.slot_str_join F.type_str_join UP ho he hs hbase hline
end
section
variable{X:Cx}
theorem lM:yt X (gC .In) (λx y H Q=>∃(c:Nat)(z:Str),x=.str ⟨#[c]⟩/\y=.str z/\Q (.bl (decide (c∈z.cps.toList))) H):=by intro pins s σ H x y v u Q I rx ry h;obtain⟨c,z,rfl,rfl,q⟩:=h;obtain⟨t,rfl⟩:=rx;obtain⟨t',rfl⟩:=ry;exact Z8 (e7 I q (YY z c).symm)
end
theorem IsPart.raw(p:aAn v o):∃l:Option (Int×Tok),v=partValue l/\l.map (·.1)=o:=by
 cases p with
 |none=>exact⟨none,rfl,rfl⟩
 |int i t=>exact⟨some (i,t),rfl,rfl⟩
def Hv(n d:Nat):Option Int->Int
 |none=>(d:Int)
 |some i=>max 0 (min (if i<0 then i+(n:Int)else i) (n:Int))
theorem Hw(n d:Nat)(o:Option Int):Hv n d o=((HT.lO n d o:Nat):Int):=by
 cases o with
 |none=>rfl
 |some v=>
  show max (0:Int) (min (if v<0 then v+(n:Int)else v) (n:Int))=(((if v<0 then(v+(n:Int)).toNat else min v.toNat n):Nat):Int);by_cases hv:v<0
  ·simp only[iP hv];omega
  ·simp only[iN hv];omega
theorem Nt(a b:Option Int)(n:Nat):c5 a b 1 n=sliceRange (Hv n 0 a) (Hv n n b) 1:=by
 have h1:((1:Int) > 0)=True:=by simp
 cases a <;> cases b <;> first
  |rfl
  |(simp only[c5,Hv,h1,if_true];rfl)
  |simp[c5,Hv]
theorem aBt(a b:Option Int)(n:Nat):c5 a b 1 n=(ek (HT.lO n n b - HT.lO n 0 a)).map (λk=>HT.lO n 0 a+k):=by
 rw[Nt,Hw,Hw];generalize HT.lO n 0 a=p;generalize HT.lO n n b=q;simp only[sliceRange,show((1:Int) > 0)=True from by simp,if_true];by_cases hlt:(p:Int)<q
 ·have e3:(((q:Int) - p+1 - 1)/1).toNat=q - p:=by first|omega|(simp;done)|(simp;omega)
  simp only[hlt,if_true,e3];refine i9 λk _=>?_;omega
 ·have:q - p=0:=by omega
  simp[hlt,this]
def KN(z:Str)(lo hi:Option Int):Str:=
 ⟨((z.cps.toList.drop (HT.lO z.length 0 lo)).take (HT.lO z.length z.length hi - HT.lO z.length 0 lo)).toArray⟩
theorem wH(z:Str)(lo hi:Option Int):fY z lo hi=KN z lo hi:=by
 have h1:HT.lO z.length 0 lo<=z.length:=HT.Ro _ _ (bR _) _;have h2:HT.lO z.length z.length hi<=z.length:=HT.Ro _ _ (a9 _) _;have hp:HT.lO z.length 0 lo<=max (HT.lO z.length 0 lo) (HT.lO z.length z.length hi):=Nat.le_max_left _ _;have hq:max (HT.lO z.length 0 lo) (HT.lO z.length z.length hi)<=z.length:=Nat.max_le.mpr ⟨h1,h2⟩;have hd:max (HT.lO z.length 0 lo) (HT.lO z.length z.length hi) - HT.lO z.length 0 lo=HT.lO z.length z.length hi - HT.lO z.length 0 lo:=by omega
 have e:c5 lo hi 1 z.length=
   c5 (some ((HT.lO z.length 0 lo:Nat):Int)) (some ((max (HT.lO z.length 0 lo) (HT.lO z.length z.length hi):Nat):Int)) 1 z.length:=by
  rw[Y0 hp hq,hd,aBt]
 have e2:fY z lo hi=
   fY z (some ((HT.lO z.length 0 lo:Nat):Int)) (some ((max (HT.lO z.length 0 lo) (HT.lO z.length z.length hi):Nat):Int)):=by
  unfold fY;rw[e]
 rw[e2,YZ z hp hq,hd];rfl
theorem IA(z:Str)(lo hi:Option Int):(KN z lo hi).length<=z.length:=by show(((z.cps.toList.drop (HT.lO z.length 0 lo)).take (HT.lO z.length z.length hi - HT.lO z.length 0 lo)).toArray).size<=z.cps.size;rw[bI,cB,ay,mj];omega
inductive aBn(x:V)(lo:Option Int)(hi:Option Int)(H:Hp)(Q:VK):Prop
 |mk:∀z,x=.str z->z.length<=aj->Q (.str (KN z lo hi)) H->aBn x lo hi H Q
theorem Gg:aAt X aBn:=by
 intro pins s σ H x v vl vu lo hi sl Q I rx hs pl pu h;obtain⟨z,rfl,hz,q⟩:=h;obtain⟨t,rfl⟩:=rx;obtain⟨os,hos,hcs,hds⟩:=hs;obtain⟨l,rfl,rfl⟩:=IsPart.raw pl;obtain⟨u,rfl,rfl⟩:=IsPart.raw pu;refine⟨"str",_,F.slot_str_getitem.lookup,qz _ _ _,?_⟩;refine wpAny_getItem_str_slice (l:=l) (u:=u) (st:=none) ⟨os,hos,hcs,hds⟩ rfl ?_;have hl:(fY z (l.map (·.1)) (u.map (·.1))).length<=aj:=by rw[wH];exact bw (IA z _ _) hz
 rw[<-wH]at q;unfold fY at q hl;show Made.post (if((1:Int)==1&&(c5 (l.map (·.1)) (u.map (·.1)) 1 z.length).length==z.length)=true then Made.val (.str z t)else Made.str ⟨((c5 (l.map (·.1)) (u.map (·.1)) 1 z.length).filterMap (z.cps[·]?)).toArray⟩) (EP X pins σ Q) s;by_cases c:((1:Int)==1&&(c5 (l.map (·.1)) (u.map (·.1)) 1 z.length).length==z.length)=true
 ·rw[iP c]at q ⊢;exact⟨.str z,H,I,⟨t,rfl⟩,q⟩
 ·rw[iN c]at q hl ⊢;exact⟨hl,.str _,H,I.tok _,⟨_,rfl⟩,q⟩
end L2
namespace Att
open PySem PySem.W PySem.Calls PyProof.Rows
section
variable{prog:bK}{w:bu}{A:cG}{E:aE->aO->Prop}{s:aO}{K:Frag}
end
end Att
namespace L2
def aCi(s:Stmt)(j:Nat):Stmt:=match s with
 |.ClassDef _ _ _ body _ _ _ _ _ _ _=>body.getD j (.Pass ⟨0,0,0,0⟩)
 |_=>.Pass ⟨0,0,0,0⟩
def lT(s:Stmt):Arguments:=match s with
 |.FunctionDef _ a _ _ _ _ _ _ _ _=>a
 |_=>{posonlyargs:=[],args:=[],vararg:=none,kwonlyargs:=[],kw_defaults:=[],kwarg:=none,defaults:=[]}
def jM(s:Stmt):List Stmt:=match s with
 |.FunctionDef _ _ b _ _ _ _ _ _ _=>b
 |_=>[]
def dS(s:Stmt):jJ:=match s with
 |.FunctionDef _ _ _ _ _ _ sc _ _ _=>sc
 |_=>{kind:=.function,names:=[],isGenerator:=false,isCoroutine:=false}
abbrev E0:XK:=λ_ _ _=>False
structure Gz(K:aU)(x qual:Str)(st:Stmt)(f:aF)(fd:gN):Prop where
 ex:∃(oc:aE)(od:Option aF)(kV doc pm:aE)(an:Option aF)(cdv ct:aE)(osl:Array (Option aE)),
  fd=mY x qual (lT st) (jM st) (dS st) .none kV doc pm an cdv ct/\K.lookup f=some ⟨oc,od,.func fd,osl⟩/\Bk K cdv qual=true
 kp:g8 K (.ref f)=true
section
variable{P:bK}{w:bu}{K:aU}{mg:Str->Option aE}{base:c9}
theorem Gz.binds{x qual:Str}{st:Stmt}{f:aF}{fd:gN}{ps:List Str}(F:Gz K x qual st f fd)
  (h:∀(kV doc pm:aE)(an:Option aF)(cdv ct:aE)(us:List aE),us.length=ps.length->bindArgs (mY x qual (lT st) (jM st) (dS st) .none kV doc pm an cdv ct) ⟨us,[]⟩=pure (ps.zip us)):aCl K fd ps []:=by
 obtain⟨oc,od,kV,doc,pm,an,cdv,ct,osl,rfl,lk,hcd⟩:=F.ex;exact .all (h kV doc pm an cdv ct)
theorem pO{x qual:Str}{st:Stmt}{f:aF}{oc:aE}{od an:Option aF}{osl:Array (Option aE)}{kV doc pm cdv ct:aE}(l:K.lookup f=some ⟨oc,od,.func (mY x qual (lT st) (jM st) (dS st) .none kV doc pm an cdv ct),osl⟩)
  (c:Bk K cdv qual=true) (k:g8 K (.ref f)=true):Gz K x qual st f (mY x qual (lT st) (jM st) (dS st) .none kV doc pm an cdv ct):=⟨⟨oc,od,kV,doc,pm,an,cdv,ct,osl,rfl,l,c⟩,k⟩
end
theorem lh(hr:jS k A):A.units+1<zD:=Nat.lt_of_le_of_lt (Nat.add_le_add_left (by decide:1<=64) _) hr.units
section
variable{X:Cx}
theorem pv(i:Nat){pos:Pos}(hN:X.N[i]?=some x:=by rfl)(hv:WD X.env.scope x:=by first|exact zx rfl|exact HF (zx rfl)|exact HF (HF rfl))(hd:(x==("__debug__":Str))=false:=by decide)
  (hcd:(x==("__classdict__":Str))=false:=by decide):PE X (.Name x pos) (g9 i):=Wk hN hv hd hcd
theorem uc:pY X (.builtin "len") (λxs H Q=>∃a kvs,xs=[V.ref a]/\H a=some (.dK kvs)/\Q (.int kvs.length) H):=by intro pins s σ H xs us Q I r h;obtain⟨a,kvs,rfl,ha,q⟩:=h;obtain⟨u,rfl,ru⟩:=aCr r;cases ru;exact Yc I (.inl ha) λt s' I'=>⟨.int kvs.length,H,I',⟨t,rfl⟩,q⟩
end
theorem bW{A B:Prop}(h:B):if false=true then A else B:=by rw[iN bD];exact h
theorem bq{A B:Prop}(h:A):if true=true then A else B:=by rw[iP rfl];exact h
def bA(H H':Hp):Prop:=∀b o,H b=some o->H' b=some o
section
variable{κ:Type}[DecidableEq κ]
end
section
variable{X:Cx}{pos:Pos}
theorem bb(hN:X.N.Nodup)(he:PE X e te)(hi:X.N[i]?=some x:=by rfl)(hx:Loc X.env.scope x:=by exact zx rfl)(hs:lW e (some (.Name x pos')) pos.line X.env=pure false:=by rfl)(hf:X.fn x=true\/X.env.scope.names.lookup x=some .local:=by first|exact .inl rfl|exact .inr rfl|assumption):PS X (.Assign [.Name x pos'] e pos) (S2 te (tw i)):=G8 hN hi hx he hs hf
theorem d7(hN:X.N.Nodup)(hi:X.N[i]?=some x:=by rfl)(hx:Loc X.env.scope x:=by exact zx rfl)(hf:X.fn x=true\/X.env.scope.names.lookup x=some .local:=by first|exact .inl rfl|exact .inr rfl|assumption):PG X (.Name x pos) (tw i):=MY hN hi hx hf
end
end L2
namespace L2
open PySem.W (WData Codec OpenSpec Well ReadsW ReadsAllW)
mutual
/-- x stands for the datum d,lists and tuples all the way -/
inductive Dw(K:aU)(H:Hp):V->j8->Prop
 |fB:Dw K H .fB .none
 |bl (b:Bool):Dw K H (.bl b) (.bool b)
 |int (i:Int):Dw K H (.int i) (.int i)
 |str (x:Str):Dw K H (.str x) (.str x)
 |Fu (b:Array UInt8):Dw K H (.Fu b) (.bytes b.toList)
 |lst {a:aF} {xs:List V} {ds:List j8}:bf K H a xs->rE K H xs ds->Dw K H (.ref a) (.list ds)
 |tup {a:aF} {xs:List V} {ds:List j8}:qU K H a xs->rE K H xs ds->Dw K H (.ref a) (.tuple ds)
inductive rE(K:aU)(H:Hp):List V->List j8->Prop
 |nil:rE K H [] []
 |cons {v:V} {vs:List V} {d:j8} {ds:List j8}:Dw K H v d->rE K H vs ds->rE K H (v::vs) (d::ds)
end
theorem Lz{K:aU}{H:Hp}:∀ns:List Int,rE K H (ns.map V.int) (ns.map Zw)
 |[]=>.nil
 |n::r=>.cons (.int n) (Lz r)
theorem MG{K:aU}{H:Hp}:∀(ns:List Int)(xs:List V),rE K H xs (ns.map Zw)->xs=ns.map V.int
 |[],xs,h=>by cases h;rfl
 |n::r,xs,h=>by
  cases h with
  |cons h1 h2=>cases h1;rw[MG r _ h2] <;> rfl
section
variable{P:bK}{w:bu}{K:aU}{H:Hp}{h:c9}{R:NA}{cl:Str->Option aF}
theorem XR(fC:oX P w H h)(KX:K.In h)(q:bf K H a xs):∃(its:List aE)(o:Obj)(n:Nat),aCh xs its/\h.get? a=some o/\o.cls=.type "list"/\o.data=.seq its.toArray n:=by
 rcases q with q|⟨o,its,n,e,hc,_,hd,_,hv⟩
 ·obtain⟨_,its,n,hv,e⟩:=(show gB P w H h a (.lst xs)from q.ok fC);exact⟨its,_,n,hv,e,rfl,rfl⟩
 ·exact⟨its.toList,o,n,hv,KX _ _ e,hc,by simp[hd]⟩
theorem XS(fC:oX P w H h)(KX:K.In h)(q:qU K H a xs):∃(its:List aE)(o:Obj)(n:Nat),aCh xs its/\h.get? a=some o/\o.cls=.type "tuple"/\o.data=.seq its.toArray n:=by
 rcases q with q|⟨o,its,n,e,hc,hd,_,hv⟩
 ·obtain⟨_,its,hv,o,e,hc,n,hd⟩:=(show gB P w H h a (.tup xs)from q.ok fC);exact⟨its,o,n,hv,e,hc,hd⟩
 ·exact⟨its.toList,o,n,hv,KX _ _ e,hc,by simp[hd]⟩
mutual
theorem Dw.reads(fC:oX P w H h)(KX:K.In h):∀(d:j8)(v:V)(u:aE),Dw K H v d->aCg v u->∃as,ReadsW R cl h u d as
 |.none,_,_,x,r=>by cases x;cases r;exact⟨_,ReadsW.none⟩
 |.bool b,_,_,x,r=>by cases x;cases r;exact⟨_,ReadsW.bool b⟩
 |.int i,_,_,x,r=>by cases x;obtain⟨t,rfl⟩:=r;exact⟨_,ReadsW.int i t⟩
 |.str s,_,_,x,r=>by cases x;obtain⟨t,rfl⟩:=r;exact⟨_,ReadsW.str s t⟩
 |.bytes b,_,_,x,r=>by cases x;obtain⟨t,rfl⟩:=r;exact⟨_,ReadsW.bytes _ t⟩
 |.list ds,_,_,x,r=>by
  cases x with
  |lst hs ha=>cases r;obtain⟨its,o,n,rv,ho,hc,hd⟩:=XR fC KX hs;obtain⟨as,hr⟩:=Dw.readsAll fC KX ds _ its ha rv;exact⟨_,ReadsW.list ho hc hd hr⟩
 |.tuple ds,_,_,x,r=>by
  cases x with
  |tup hs ha=>cases r;obtain⟨its,o,n,rv,ho,hc,hd⟩:=XS fC KX hs;obtain⟨as,hr⟩:=Dw.readsAll fC KX ds _ its ha rv;exact⟨_,ReadsW.tuple ho hc hd hr⟩
 |.float _,_,_,x,_=>by cases x
 |.dict _,_,_,x,_=>by cases x
 |.bytearray _,_,_,x,_=>by cases x
 |.set _,_,_,x,_=>by cases x
 |.frozenset _,_,_,x,_=>by cases x
 |.obj _ _,_,_,x,_=>by cases x
theorem Dw.readsAll(fC:oX P w H h)(KX:K.In h):∀(ds:List j8)(vs:List V)(us:List aE),rE K H vs ds->aCh vs us->∃as,ReadsAllW R cl h us ds as
 |[],_,_,x,r=>by cases x;cases r;exact⟨_,ReadsAllW.nil⟩
 |d::ds,_,_,x,r=>by
  cases x with
  |cons h1 h2=>
   cases r with
   |cons r1 r2=>obtain⟨as,q1⟩:=Dw.reads fC KX d _ _ h1 r1;obtain⟨bs,q2⟩:=Dw.readsAll fC KX ds _ _ h2 r2;exact⟨_,ReadsAllW.cons q1 q2⟩
end
end
mutual
/-- data that a codec tells -/
def M0:j8->Bool
 |.none=>true
 |.bool _=>true
 |.int _=>true
 |.str _=>true
 |.bytes _=>true
 |.list xs=>BM xs
 |.tuple xs=>BM xs
 |_=>false
def BM:List j8->Bool
 |[]=>true
 |x::r=>M0 x&&BM r
end
theorem Iy{α:Type}{f:α->j8}(h:∀a,M0 (f a)=true):∀l:List α,BM (l.map f)=true
 |[]=>rfl
 |x::r=>by show(M0 (f x)&&BM (r.map f))=true;rw[h x,Iy h r] <;> rfl
theorem uQ:∀(c:aAj)(a:c.denote),M0 (c.enc a)=true
 |.unit,_=>rfl
 |.bool,_=>rfl
 |.int _ _,_=>rfl
 |.nat _ _,_=>rfl
 |.u8,_=>rfl
 |.bytes _ _,_=>rfl
 |.text _ _ _ _,_=>rfl
 |.list _ _ c,a=>Iy (λx=>uQ c x) a
 |.pair c d,a=>by show(M0 (c.enc a.1)&&(M0 (d.enc a.2)&&true))=true;rw[uQ c a.1,uQ d a.2] <;> rfl
 |.triple c d e,a=>by show(M0 (c.enc a.1)&&(M0 (d.enc a.2.1)&&(M0 (e.enc a.2.2)&&true)))=true;rw[uQ c a.1,uQ d a.2.1,uQ e a.2.2] <;> rfl
 |.option c,none=>rfl
 |.option c,some x=>uQ c x
theorem FO:∀(cs:List aAj)(a:sI cs),BM (nA cs a)=true
 |[],_=>rfl
 |c::cs,a=>by show(M0 (c.enc a.1)&&BM (nA cs a.2))=true;rw[uQ c a.1,FO cs a.2] <;> rfl
theorem xD:∀{xs:List j8}{d:j8},d∈xs->d.weight<=sP xs
 |[],d,h=>absurd h (by simp)
 |x::r,d,h=>by
  show d.weight<=x.weight+1+sP r;rcases af.mp h with e|m
  ·rw[e];omega
  ·have z:=xD m;omega
def toV:aE->V
 |.none=>.fB
 |.bool b=>.bl b
 |.int i _=>.int i
 |.str x _=>.str x
 |.bytes b _=>.Fu b
 |.ref a=>.ref a
 |_=>.fB
def My(A:List aF):aE->Prop
 |.none=>True
 |.bool _=>True
 |.int _ _=>True
 |.str _ _=>True
 |.bytes _ _=>True
 |.ref a=>a∈A
 |_=>False
theorem My.mono(h:∀a∈A,a∈B):∀{u:aE},My A u->My B u:=λ{u} x=>by
 cases u with
 |ref a=>exact h a x
 |none=>trivial
 |bool b=>trivial
 |int i t=>trivial
 |str s t=>trivial
 |bytes b t=>trivial
 |_=>exact dm x
theorem R9(x:My A u):aCg (toV u) u:=by
 cases u with
 |ref a=>rfl
 |none=>rfl
 |bool b=>rfl
 |int i t=>exact⟨t,rfl⟩
 |str s t=>exact⟨t,rfl⟩
 |bytes b t=>exact⟨t,rfl⟩
 |_=>exact dm x
theorem qO:∀{vs:List aE},(∀u∈vs,My A u)->aCh (vs.map toV) vs
 |[],_=>.nil
 |u::r,h=>.cons (R9 (h u (cA ..))) (qO λx hx=>h x (aq _ hx))
def rD(h:c9)(A:List aF)(a:aF):Prop:=∃vs:List aE,vs.length<=aj/\(∀u∈vs,My A u)/\
 (h.get? a=some {cls:=.type "list",data:=.seq vs.toArray}\/h.get? a=some {cls:=.type "tuple",data:=.seq vs.toArray})
theorem rD.mono(k:∀a∈A,a∈B)(x:rD h A a):rD h B a:=by obtain⟨vs,h1,h2,h3⟩:=x;exact⟨vs,h1,λu hu=>(h2 u hu).mono k,h3⟩
theorem pK:∀{vs:List aE}{ds:List j8},wN P h vs ds->vs.length=ds.length
 |_,_,.nil=>rfl
 |_,_,.cons _ b=>by show _+1=_+1;rw[pK b]
theorem Fd(x:Well P h v (.list ds)):∃(a:aF)(vs:List aE),v=.ref a/\h.get? a=some {cls:=.type "list",data:=.seq vs.toArray}/\wN P h vs ds:=by
 cases x with
 |list ho hall=>exact⟨_,_,rfl,ho,hall⟩
theorem De(x:Well P h v (.tuple ds)):∃(a:aF)(vs:List aE),v=.ref a/\h.get? a=some {cls:=.type "tuple",data:=.seq vs.toArray}/\wN P h vs ds:=by
 cases x with
 |tuple ho hall=>exact⟨_,_,rfl,ho,hall⟩
theorem Fc(x:wN P h us (d::ds)):∃(v:aE)(vs:List aE),us=v::vs/\Well P h v d/\wN P h vs ds:=by
 cases x with
 |cons a b=>exact⟨_,_,rfl,a,b⟩
theorem MN(h:n<=1048576):n<=aj:=bw h (by decide)
section
variable{P:Bh}{h:c9}
mutual
theorem Ow:∀(d:j8)(v:aE),Well P h v d->M0 d=true->d.weight<=1048576->∃A:List aF,My A v/\∀a∈A,rD h A a
 |.none,_,x,_,_=>by cases x;exact⟨[],trivial,λa m=>absurd m (by simp)⟩
 |.bool b,_,x,_,_=>by cases x;exact⟨[],trivial,λa m=>absurd m (by simp)⟩
 |.int i,_,x,_,_=>by cases x;exact⟨[],trivial,λa m=>absurd m (by simp)⟩
 |.str s,_,x,_,_=>by cases x;exact⟨[],trivial,λa m=>absurd m (by simp)⟩
 |.bytes b,_,x,_,_=>by cases x;exact⟨[],trivial,λa m=>absurd m (by simp)⟩
 |.list ds,_,x,p,z=>by
  obtain⟨a,vs,rfl,ho,hall⟩:=Fd x;have z2:sP ds<=1048576:=z;obtain⟨A,h1,h2⟩:=xZ ds _ hall p λd hd=>bw (xD hd) z2;have k:∀b∈A,b∈a::A:=λb hb=>aq _ hb;refine⟨a::A,cA ..,λb hb=>?_⟩;rcases af.mp hb with e|m
  ·rw[e];exact⟨vs,MN (by rw[pK hall];exact bw (Au ds) z2),λu hu=>(h1 u hu).mono k,.inl ho⟩
  ·exact(h2 b m).mono k
 |.tuple ds,_,x,p,z=>by
  obtain⟨a,vs,rfl,ho,hall⟩:=De x;have z2:sP ds<=1048576:=z;obtain⟨A,h1,h2⟩:=xZ ds _ hall p λd hd=>bw (xD hd) z2;have k:∀b∈A,b∈a::A:=λb hb=>aq _ hb;refine⟨a::A,cA ..,λb hb=>?_⟩;rcases af.mp hb with e|m
  ·rw[e];exact⟨vs,MN (by rw[pK hall];exact bw (Au ds) z2),λu hu=>(h1 u hu).mono k,.inr ho⟩
  ·exact(h2 b m).mono k
 |.float _,_,_,p,_=>dX (show false=true from p)
 |.dict _,_,_,p,_=>dX (show false=true from p)
 |.bytearray _,_,_,p,_=>dX (show false=true from p)
 |.set _,_,_,p,_=>dX (show false=true from p)
 |.frozenset _,_,_,p,_=>dX (show false=true from p)
 |.obj _ _,_,_,p,_=>dX (show false=true from p)
theorem xZ:∀(ds:List j8)(vs:List aE),wN P h vs ds->BM ds=true->(∀d∈ds,d.weight<=1048576)->∃A:List aF,(∀u∈vs,My A u)/\∀a∈A,rD h A a
 |[],_,x,_,_=>by cases x;exact⟨[],λu m=>absurd m (by simp),λa m=>absurd m (by simp)⟩
 |d::ds,_,x,p,z=>by
  obtain⟨v,vs,rfl,x1,x2⟩:=Fc x;have q:M0 d=true/\BM ds=true:=LW.mp p;obtain⟨A,a1,a2⟩:=Ow d v x1 q.1 (z d (cA ..));obtain⟨B,b1,b2⟩:=xZ ds vs x2 q.2 λe he=>z e (aq _ he);have kA:∀b∈A,b∈A++B:=λb hb=>bZ.mpr (.inl hb);have kB:∀b∈B,b∈A++B:=λb hb=>bZ.mpr (.inr hb);refine⟨A++B,λu hu=>?_,λb hb=>?_⟩
  ·rcases af.mp hu with e|m
   ·rw[e];exact a1.mono kA
   ·exact(b1 u m).mono kB
  ·rcases bZ.mp hb with m|m
   ·exact(a2 b m).mono kA
   ·exact(b2 b m).mono kB
end
end
def UG(o:Obj):Option HO:=match o.data with
 |.seq vs _=>if(o.cls==kW "list")=true then some (.k9 o (.lst (vs.toList.map toV)))else some (.k9 o (.tup (vs.toList.map toV)))
 |_=>none
def qX(K:aU)(h:c9)(A:List aF):Hp:=λb=>if b∈A then(if(K.lookup b).isNone=true then(h.get? b).bind UG else none)else none
def Lc(H:Hp):Prop:=∀b,H b=none\/∃o u,H b=some (.k9 o u)
theorem IU(vs:List aE):UG {cls:=.type "list",data:=.seq vs.toArray}=some (.k9 {cls:=.type "list",data:=.seq vs.toArray} (.lst (vs.map toV))):=by show(if(kW "list"==kW "list")=true then some (HO.k9 {cls:=.type "list",data:=.seq vs.toArray} (.lst (vs.toArray.toList.map toV)))else some (HO.k9 {cls:=.type "list",data:=.seq vs.toArray} (.tup (vs.toArray.toList.map toV))))=_;rw[iP (beq_self_eq_true _)]
theorem IV(vs:List aE):UG {cls:=.type "tuple",data:=.seq vs.toArray}=some (.k9 {cls:=.type "tuple",data:=.seq vs.toArray} (.tup (vs.map toV))):=by show(if(kW "tuple"==kW "list")=true then some (HO.k9 {cls:=.type "tuple",data:=.seq vs.toArray} (.lst (vs.toArray.toList.map toV)))else some (HO.k9 {cls:=.type "tuple",data:=.seq vs.toArray} (.tup (vs.toArray.toList.map toV))))=_;rw[iN (by decide)]
section
variable{P:bK}{w:bu}{K:aU}{h:c9}{A:List aF}
theorem BS(hb:b∈A)(hk:K.lookup b=none)(e:h.get? b=some o):qX K h A b=UG o:=by unfold qX;rw[iP hb,hk,iP (show(none:Option Obj).isNone=true from rfl),e] <;> rfl
theorem UT(q:qX K h A b=some u):b∈A/\K.lookup b=none:=by
 unfold qX at q;by_cases hb:b∈A
 ·rw[iP hb]at q;cases hk:K.lookup b with
  |none=>exact⟨hb,rfl⟩
  |some o=>rw[hk,iN (by simp)]at q;cases q
 ·rw[iN hb]at q;cases q
theorem BU(ar:∀a∈A,rD h A a)(q:qX K h A b=some u):K.lookup b=none/\∃vs:List aE,vs.length<=aj/\(∀u∈vs,My A u)/\
  ((h.get? b=some {cls:=.type "list",data:=.seq vs.toArray}/\u=.k9 {cls:=.type "list",data:=.seq vs.toArray} (.lst (vs.map toV)))\/ (h.get? b=some {cls:=.type "tuple",data:=.seq vs.toArray}/\u=.k9 {cls:=.type "tuple",data:=.seq vs.toArray} (.tup (vs.map toV)))):=by
 obtain⟨hb,hk⟩:=UT q;obtain⟨vs,h1,h2,h3⟩:=ar b hb;refine⟨hk,vs,h1,h2,?_⟩;rcases h3 with e|e
 ·rw[BS hb hk e,IU]at q;exact .inl ⟨e,(aV q).symm⟩
 ·rw[BS hb hk e,IV]at q;exact .inr ⟨e,(aV q).symm⟩
theorem NC(ar:∀a∈A,rD h A a):Lc (qX K h A):=λb=>by
 cases q:qX K h A b with
 |none=>exact .inl rfl
 |some u=>
  obtain⟨_,vs,_,_,⟨_,e⟩|⟨_,e⟩⟩:=BU ar q
  ·exact .inr ⟨_,_,by rw[e]⟩
  ·exact .inr ⟨_,_,by rw[e]⟩
theorem Tq(ar:∀a∈A,rD h A a):oX P w (qX K h A) h:=λb u q=>by
 obtain⟨_,vs,h1,h2,⟨e,rfl⟩|⟨e,rfl⟩⟩:=BU ar q
 ·exact⟨e,by rw[aB];exact h1,vs,_,qO h2,e⟩
 ·exact⟨e,by rw[aB];exact h1,vs,qO h2,_,e,rfl,_,rfl⟩
theorem B6{c c':aE}{vs us:List aE}(e:(some {cls:=c,data:=.seq vs.toArray}:Option Obj)=some {cls:=c',data:=.seq us.toArray}):c=c'/\vs=us:=by have e1:=aV e;have e2:c=c':=congrArg Obj.cls e1;have e3:LZ vs.toArray=LZ us.toArray:=congrArg Obj.data e1;injection e3 with e4;refine⟨e2,?_⟩;have e5:=congrArg Vm e4;simpa using e5
theorem Tr(KX:K.In h)(ar:∀a∈A,rD h A a){a:aF}{vs:List aE}(ha:a∈A)(e:h.get? a=some {cls:=.type "list",data:=.seq vs.toArray}):(∀u∈vs,My A u)/\bf K (qX K h A) a (vs.map toV):=by
 obtain⟨us,h1,h2,h3⟩:=ar a ha;have hu:us=vs:=by
  rcases h3 with q|q
  ·rw[e]at q;exact(B6 q).2.symm
  ·rw[e]at q;exact absurd (zy (B6 q).1) (by decide)
 subst hu;refine⟨h2,?_⟩;cases hk:K.lookup a with
 |none=>exact .inl (.inr ⟨_,by rw[BS ha hk e,IU]⟩)
 |some o=>have e2:=KX a o hk;rw[e]at e2;obtain rfl:=aV e2;exact .inr ⟨_,us.toArray,_,hk,rfl,rfl,rfl,by rw[bI];exact h1,by simpa using qO h2⟩
theorem aA1(KX:K.In h)(ar:∀a∈A,rD h A a){a:aF}{vs:List aE}(ha:a∈A)(e:h.get? a=some {cls:=.type "tuple",data:=.seq vs.toArray}):(∀u∈vs,My A u)/\qU K (qX K h A) a (vs.map toV):=by
 obtain⟨us,h1,h2,h3⟩:=ar a ha;have hu:us=vs:=by
  rcases h3 with q|q
  ·rw[e]at q;exact absurd (zy (B6 q).1) (by decide)
  ·rw[e]at q;exact(B6 q).2.symm
 subst hu;refine⟨h2,?_⟩;cases hk:K.lookup a with
 |none=>exact .inl (.inr ⟨_,by rw[BS ha hk e,IV]⟩)
 |some o=>have e2:=KX a o hk;rw[e]at e2;obtain rfl:=aV e2;exact .inr ⟨_,us.toArray,_,hk,rfl,rfl,by rw[bI];exact h1,by simpa using qO h2⟩
mutual
theorem WS{Pm:Bh}(KX:K.In h)(ar:∀a∈A,rD h A a):∀(d:j8)(v:aE),Well Pm h v d->M0 d=true->My A v->Dw K (qX K h A) (toV v) d
 |.none,_,x,_,_=>by cases x;exact .fB
 |.bool b,_,x,_,_=>by cases x;exact .bl b
 |.int i,_,x,_,_=>by cases x;exact .int i
 |.str s,_,x,_,_=>by cases x;exact .str s
 |.bytes b,_,x,_,_=>by cases x;have z:=Dw.Fu (K:=K) (H:=qX K h A) b.toArray;exact z
 |.list ds,_,x,p,hu=>by obtain⟨a,vs,rfl,ho,hall⟩:=Fd x;obtain⟨h2,hs⟩:=Tr KX ar hu ho;exact .lst hs (GJ KX ar ds _ hall p h2)
 |.tuple ds,_,x,p,hu=>by obtain⟨a,vs,rfl,ho,hall⟩:=De x;obtain⟨h2,hs⟩:=aA1 KX ar hu ho;exact .tup hs (GJ KX ar ds _ hall p h2)
 |.float _,_,_,p,_=>dX (show false=true from p)
 |.dict _,_,_,p,_=>dX (show false=true from p)
 |.bytearray _,_,_,p,_=>dX (show false=true from p)
 |.set _,_,_,p,_=>dX (show false=true from p)
 |.frozenset _,_,_,p,_=>dX (show false=true from p)
 |.obj _ _,_,_,p,_=>dX (show false=true from p)
theorem GJ(KX:K.In h)(ar:∀a∈A,rD h A a):∀(ds:List j8)(vs:List aE),wN Pm h vs ds->BM ds=true->(∀u∈vs,My A u)->rE K (qX K h A) (vs.map toV) ds
 |[],_,x,_,_=>by cases x;exact .nil
 |d::ds,_,x,p,hu=>by obtain⟨v,vs,rfl,x1,x2⟩:=Fc x;have q:M0 d=true/\BM ds=true:=LW.mp p;exact .cons (WS KX ar d v x1 q.1 (hu _ (cA ..))) (GJ KX ar ds vs x2 q.2 λu m=>hu u (aq _ m))
end
end
theorem OG{P:bK}{w:bu}{K:aU}{mg mb:Str->Option aE}{CX:Jb}{k:Nat}{fa:aF}{fd:gN}{ps:List Str}{sp:Sp}{s₁:aO}{vals:List aE}{ds:List j8}{R:NA}{cl:Str->Option aF}{d0:j8}
  (KX:K.In s₁.heap) (hns:s₁.heap.Ns cK mg) (hb:s₁.heap.Ns builtinsNs mb) (hbb:∀x:Str,x≠"__name__"->mb x=fU x) (hlim:s₁.heap.NoLimit) (hg:s₁.gens=#[])
  (hwl:wN w.params s₁.heap vals ds) (hpl:BM ds=true) (hwt:∀d∈ds,d.weight<=1048576) (hr:jS k callerA)
  (F:∀base:c9,K.In base->base.Ns cK mg->sZ P w K mg base CX k fa fd ps sp) (hbind:∀(s:aO)(us:List aE),us.length=ps.length->Oh s fd ⟨us,[]⟩ (ps.zip us)) (hlen:ds.length=ps.length)
  (hsp:∀(H:Hp)(xs:List V),Lc H->rE K H xs ds->sp xs H (λv H'=>Dw K H' v d0) λ_ _ _=>False)
  (hCX:∀H e s',CX [] H s₁ (λ_ _ _=>False) e s'->False):
  lD (model P w) callerA (.call (.ref fa) ⟨vals,[]⟩) (λr s'=>∃u as,r=.ok (.ret u)/\ReadsW R cl s'.heap u d0 as/\OldK s₁.heap s'.heap/\s'.os=s₁.os/\zr s'.gens) s₁:=by
 obtain⟨A,ho,ar⟩:=xZ ds vals hwl hpl hwt;have hO:Lc (qX K s₁.heap A):=NC ar;have fC:oX P w (qX K s₁.heap A) s₁.heap:=Tq ar;have hS:=GJ KX ar ds vals hwl hpl ho;have hV:=qO ho;have hK:∀b u,qX K s₁.heap A b=some u->K.lookup b=none:=λb u q=>(BU ar q).1;have noA:∀{b:aF}{o:Obj}{es:Array ei}{ep:Nat},s₁.heap.get? b=some o->o.data=.dict es ep->qX K s₁.heap A b=none:=λ{b o es ep} e d=>by
  cases q:qX K s₁.heap A b with
  |none=>rfl
  |some u=>
   obtain⟨_,vs,_,_,⟨e2,_⟩|⟨e2,_⟩⟩:=BU ar q
   ·rw[e2]at e;cases e;have d':LZ vs.toArray _=aAk es ep:=d;cases d'
   ·rw[e2]at e;cases e;have d':LZ vs.toArray _=aAk es ep:=d;cases d'
 generalize qX K s₁.heap A=H at hO fC hS hK noA;have base_of:∀{b:aF}{o:Obj},s₁.heap.get? b=some o->H b=none->(GQ s₁.heap H).get? b=some o:=λe n=>QM e n;have nsK:∀{b:aF}{m:Str->Option aE},s₁.heap.Ns b m->(GQ s₁.heap H).Ns b m:=λ{b m} ⟨o,es,ep,e,d,r⟩=>⟨o,es,ep,base_of e (noA e d),d,r⟩;have nK:∀b o,K.lookup b=some o->H b=none:=λb o e=>by
  cases q:H b with
  |none=>rfl
  |some u=>rw[hK b u q]at e;cases e
 have hKb:K.In (GQ s₁.heap H):=λb o e=>base_of (KX b o e) (nK b o e);have hM:Mod K mg (GQ s₁.heap H):=⟨hKb,nsK hns,⟨mb,nsK hb,hbb⟩,let ⟨mc,h1,h2⟩:=hlim;⟨mc,nsK h1,h2⟩⟩;have e0:Jj P w K mg (GQ s₁.heap H) callerA [] s₁ H:=⟨rfl,hM,λb o e=>UU e,sf (NX _ _),trivial,λb hb=>absurd (show b∈([]:List aF)from hb) (by simp),fC,.of_eq hg⟩;have hl:vals.length=ps.length:=by rw[pK hwl];exact hlen
 refine pj ((F _ hKb (nsK hns)).run callerA [] s₁ H ⟨vals,[]⟩ vals (vals.map toV) _ _ hr e0 (hbind s₁ vals hl) hV (hsp H _ hO hS)) λr s' x=>?_;cases r with
 |error e=>exact(hCX H e s' x).elim
 |ok fl=>
  cases fl with
  |next=>exact dm x
  |brk=>exact dm x
  |cont=>exact dm x
  |ret u=>
   obtain⟨v,H',os,bare,un,hok',r',q⟩:=x;have kept:∀b o,s₁.heap.get? b=some o->s'.heap.get? b=some o:=λb o e=>by
    cases q2:H b with
    |none=>exact un.keep b o e q2 (by intro z;exact absurd (show b∈([]:List aF)from z) (by simp)) (by simp)
    |some u2=>
     rcases hO b with z|⟨ob,u3,z⟩
     ·rw[q2]at z;cases z
     ·have z2:=un.tu b ob _ z;obtain⟨e1,_⟩:=fC b _ z;obtain⟨e2,_⟩:=hok' b _ z2;rw[e]at e1;cases e1;exact e2
   have KX':K.In s'.heap:=λb o e=>kept b o (KX b o e);obtain⟨as,hrd⟩:=Dw.reads (R:=R) (cl:=cl) hok' KX' d0 v u q r';exact⟨u,as,rfl,hrd,OldK.of_keep kept,os,bare⟩
theorem Cj(h:WData.layableAll ds=true):∀d∈ds,d.weight<=1048576:=λd hd=>(PySem.W.layableW_iff.mp (dZ.mp h d hd)).2.2
theorem CW:∀(cs:List aAj)(a:sI cs),(nA cs a).length=cs.length
 |[],_=>rfl
 |c::cs,a=>by show(nA cs a.2).length+1=cs.length+1;rw[CW cs a.2]
theorem OT{r:Tb}{k:Nat}{q:bK}{loose:List Str}{XP:(Str->Option aE)->c9->Prop}{YP:bu->c9->Prop}{d:DefRec}{K:Bh->aU}{CX:bu->Jb}{ps:List Str}{sp:bu->Sp}
  (hwell:r.wellSaid=true) (hdf:d.params.defaults=[]) (hlen:r.args.length=ps.length) (hr:jS k callerA)
  (hY:∀(w:bu)(h:c9),YP w h->(K w.params).In h)
  (F:∀(w:bu)(mg:Str->Option aE)(fa:aF)(h:c9),YP w h->(K w.params).In h->h.Ns cK mg->mg d.name=some (.ref fa)-> ∃fd:gN,(∀(s:aO)(us:List aE),us.length=ps.length->Oh s fd ⟨us,[]⟩ (ps.zip us))/\ ∀base:c9,(K w.params).In base->base.Ns cK mg->sZ r.prog w (K w.params) mg base (CX w) k fa fd ps (sp w))
  (hsp:∀(w:bu)(H:Hp)(xs:List V)(a:sI r.args),Lc H->TB r.args a=true->Am r.args r.asked a=true->rE (K w.params) H xs (nA r.args a)-> sp w xs H (λv H'=>Dw (K w.params) H' v (r.ret.enc (Am r.args r.f a))) λ_ _ _=>False)
  (hCX:∀(w:bu)(H:Hp)(s:aO)(e:aE)(s':aO),CX w [] H s (λ_ _ _=>False) e s'->False):
  Ou q loose XP YP r d [] (λf vs=>Y2 f vs):=by
 intro w sG s₁ mg mb G Y fa o pm cd doc dV kV ho hd hcd hD hmg hg args vals as hpre hlay hrd hwl hlo;obtain⟨a,e1,e2⟩:=PySem.W.os_pre_some hpre;obtain⟨e3,hwi⟩:=Codec.encAll_of_decAll r.args args a e1;subst e3;have KX:=hY w _ Y;obtain⟨fd,hb,hF⟩:=F w mg fa _ Y KX G.T.g hmg;refine PySem.W.enter_call (pj (OG (R:=[]) (cl:=classAt sG.heap) (d0:=r.ret.enc (Am r.args r.f a)) KX G.T.g G.T.b G.T.builtins G.T.nolimit hg hwl (FO _ _) (Cj hlay) hr hF hb (by rw[CW];exact hlen) (λH xs hO hS=>hsp w H xs a hO hwi e2 hS) λH e s'=>hCX w H s₁ e s') λr' s' hq=>?_);obtain⟨u,as',rfl,h1,h2,h3,h4⟩:=hq;exact⟨.inl ⟨u,_,as',rfl,λ_=>rfl,h1,(OpenSpec.post_iff hwell hwi _ _).mpr rfl,λz=>dX (show false=true from z)⟩,h2,h3,h4⟩
structure HV(fs ch:List aF)(h h':c9):Prop where
 keep:∀b o,b∉ch->b∉fs->h.get? b=some o->h'.get? b=some o
 slot:∀b o,b∉ch->h.get? b=some o->∃sl,h'.get? b=some {o with slots:=sl}
theorem HV.trans(a:HV fs c1 h h1)(b:HV fs c2 h1 h2):HV fs (c1++c2) h h2 where
 keep:=λx o hx hf e=>b.keep x o (λz=>hx (bZ.mpr (.inr z))) hf (a.keep x o (λz=>hx (bZ.mpr (.inl z))) hf e)
 slot:=λx o hx e=>by obtain⟨s1,e1⟩:=a.slot x o (λz=>hx (bZ.mpr (.inl z))) e;obtain⟨s2,e2⟩:=b.slot x _ (λz=>hx (bZ.mpr (.inr z))) e1;exact⟨s2,e2⟩
theorem HV.mono(a:HV fs c h h1)(hf:∀b∈fs,b∈fs')(hc:∀b∈c,b∈c'):HV fs' c' h h1:=
 ⟨λx o hx hg e=>a.keep x o (λz=>hx (hc x z)) (λz=>hg (hf x z)) e,λx o hx e=>a.slot x o (λz=>hx (hc x z)) e⟩
inductive BR(h:c9)(e:aF)(C:aE)(d:Option aF)(tb:aE):Prop
 |mk:∀oe vs,h.get? e=some oe->oe.cls=C->oe.dict=d->oe.data=.fields vs->vs[1]?=some tb->BR h e C d tb
inductive Bn(h:c9)(T:aF)(fl:aE):Prop
 |mk:∀oT ts,h.get? T=some oT->oT.data=.fields ts->ts[3]?=some fl->Bn h T fl
theorem CO(o:Obj)(f:Array aE->Array aE):(gb f o).dict=o.dict:=by obtain⟨c,d,dt,sl⟩:=o;cases dt <;> rfl
theorem JB{g:c9}{e:aF}{oe ot:Obj}{us:Array aE}(q:g.get? e=some oe)(qd:oe.data=.fields us)(q1:1<us.size)(qt:ot.isFreed=false):
  BR ((g.push ot).update e (gb (·.setIfInBounds 1 (.ref g.objs.size)))) e oe.cls oe.dict (.ref g.objs.size)/\
  ((g.push ot).update e (gb (·.setIfInBounds 1 (.ref g.objs.size)))).get? g.objs.size=some ot/\
  ∀b o,b≠e->g.get? b=some o->((g.push ot).update e (gb (·.setIfInBounds 1 (.ref g.objs.size)))).get? b=some o:=by
 have ne:e≠g.objs.size:=cO (bC q);have p1:=aY ot q;have p2:=jI qd (·.setIfInBounds 1 (b5 g.objs.size));refine⟨⟨_,_,gf _ p1 (mG p2),TN _ _,CO _ _,p2,by simp[q1]⟩,?_,λb o nb qb=>?_⟩
 ·exact(fN _ _ ne).trans (bJ g qt)
 ·exact(fN _ _ (j7 nb)).trans (aY ot qb)
section
variable{E:aE->aO->Prop}{M:yy}{s:aO}{A:cG}
theorem P9{ground:c9}{env:Env}{outer:List Env}{L e:aF}{C:aE}{d:Option aF}{tb head:aE}{more:Bool}{Q:Unit->aO->Prop}
  (fr:A.frames=some (env::outer)) (ff:s.heap.FunFrames ground (env::outer)) (fe:env.frame=some L) (hX:BR s.heap e C d tb)
  (h:∀h' T,s.heap.get? T=none->T≠e->BR h' e C d (.ref T)->Bn h' T (pR L)->HV (BK (env::outer)) [e] s.heap h'->Q () {s with heap:=h'}):
  bF M A (do setField (.ref e) 1 (<-EntryCells.newEntry head (<-frameOf env) .none (pR L) .none (<-entryPlaceOf L more))) Q E s:=by
 obtain⟨oe,us,q,rfl,rfl,qd,q1⟩:=hX;have big:1<us.size:=(j6.mp q1).1;have apart:e∉BK (env::outer):=λz=>by obtain⟨-,ob,z1,z2⟩:=ff.mem z;obtain rfl:=aV (q.symm.trans z1);exact z2 us qd
 refine aI (wpAny_frameOf_fun fr ff fe λg so=>aI (wpAny_entryPlaceOf λpl ip=>aI ?_));refine ig ?_ (ip.sizeOk5 _ _ _ _ _);have qg:=(so.2.1 e apart).trans q;have P:=λot (z:Obj.isFreed ot=false)=>JB (ot:=ot) qg qd big z;refine rB (aY _ qg) qd big ?_;refine h _ g.objs.size (jg (sf so.1.symm)) (si (bC qg)) (P _ rfl).1 ⟨_,_,(P _ rfl).2.1,rfl,?_⟩ ⟨λb o nb nf z=>(P _ rfl).2.2 b o (λy=>nb (by simp[y])) ((so.2.1 b nf).trans z),λb o nb z=>?_⟩
 ·rcases ip with rfl|⟨_,_,_,_,_,_,_,rfl⟩ <;> simp
 ·obtain⟨sl,z'⟩:=so.2.2 b o z;exact⟨sl,(P _ rfl).2.2 b _ (λy=>nb (by simp[y])) z'⟩
theorem N7{ground:c9}{env:Env}{outer:List Env}{L e:aF}{C:aE}{d:Option aF}{Q:Unit->aO->Prop}
  (fr:A.frames=some (env::outer)) (ff:s.heap.FunFrames ground (env::outer)) (fe:env.frame=some L) (hX:BR s.heap e C d .none)
  (h:∀h' T,s.heap.get? T=none->T≠e->BR h' e C d (.ref T)->Bn h' T (pR L)->HV (BK (env::outer)) [e] s.heap h'->Q () {s with heap:=h'}):bF M A (vF (.ref e) env) Q E s:=by
 obtain⟨oe,us,q,-,-,qd,q1⟩:=id hX;unfold vF;simp only[fe];refine aI (HQ q qd q1 ?_);exact P9 fr ff fe hX h
theorem RF{ground:c9}{env:Env}{outer:List Env}{L e T0:aF}{C:aE}{d:Option aF}{Q:Unit->aO->Prop}
  (fr:A.frames=some (env::outer)) (ff:s.heap.FunFrames ground (env::outer)) (fe:env.frame=some L) (hX:BR s.heap e C d (.ref T0)) (hT:Bn s.heap T0 .none) (hne:T0≠e)
  (h:∀h' T,s.heap.get? T=none->T≠e->BR h' e C d (.ref T)->Bn h' T (pR L)->HV (BK (env::outer)) [T0,e] s.heap h'->Q () {s with heap:=h'}):bF M A (vF (.ref e) env) Q E s:=by
 obtain⟨oe,us,q,cl,dc,qd,q1⟩:=hX;obtain⟨ot,ts,qt,td,t3⟩:=hT;unfold vF;simp only[fe];refine aI (HQ q qd q1 ?_);rw[iP (by simp)];refine aI (HQ qt td t3 ?_);rw[iN (by simp[pR])];refine aI (rB qt td (j6.mp t3).1 ?_);have past:∀b,b≠T0->(s.heap.update T0 (gb (·.setIfInBounds 3 f7))).get? b=s.heap.get? b:=λb nb=>fN _ _ (j7 nb);have here:=gf (gb (·.setIfInBounds 3 f7)) qt (mG (jI td _));have ff':(s.heap.update T0 (gb (·.setIfInBounds 3 f7))).FunFrames ground (env::outer):=ff.of_keeps λb o z nf=>⟨o,(past b λy=>(by subst y;exact nf ts (by rw[aV (z.symm.trans qt)];exact td))).trans z,rfl⟩;refine P9 fr ff' fe ⟨oe,us,(past e (j7 hne)).trans q,cl,dc,qd,q1⟩ λh' T n1 n2 x1 x2 ef=>?_;have nT:T≠T0:=λy=>by subst y;exact nomatch n1.symm.trans here
 refine h h' T ((past T nT).symm.trans n1) n2 x1 x2 ⟨λb o nb nf z=>?_,λb o nb z=>?_⟩
 ·exact ef.keep b o (λy=>nb (.tail _ y)) nf ((past b λy=>nb (by simp[y])).trans z)
 ·exact ef.slot b o (λy=>nb (.tail _ y)) ((past b λy=>nb (by simp[y])).trans z)
theorem MC{Q:Unit->aO->Prop}(hX:BR s.heap e C d (.ref T))(hT:Bn s.heap T fl)(hne:T≠e)
  (h:∀h',BR h' e C d (.ref T)->Bn h' T .none->HV [] [T] s.heap h'->Q () {s with heap:=h'}):bF M A (setFlight (.ref e) none) Q E s:=by
 obtain⟨oe,us,q,cl,dc,qd,q1⟩:=hX;obtain⟨ot,ts,qt,td,t3⟩:=hT;have big:3<ts.size:=(j6.mp t3).1;refine wpAny_setFlight_none q qd q1 qt td big (h _ ?_ ?_ ?_)
 ·exact⟨oe,us,(fN _ _ hne).trans q,cl,dc,qd,q1⟩
 ·exact⟨_,_,gf _ qt (mG (jI td _)),jI td _,by simp[Array.getElem?_setIfInBounds,big]⟩
 ·have past:∀b o,b∉[T]->s.heap.get? b=some o->(s.heap.update T (gb (·.setIfInBounds 3 .none))).get? b=some o:=λb o nb z=>(fN _ _ λy=>nb (by simp[y])).trans z;exact⟨λb o nb _ z=>past b o nb z,λb o nb z=>⟨o.slots,past b o nb z⟩⟩
end
theorem gB.got(x:gB P w H h a o):∃u,h.get? a=some u:=by
 cases o with
 |lst xs=>obtain⟨_,_,_,_,e⟩:=x;exact⟨_,e⟩
 |tup xs=>obtain⟨_,_,_,_,e,_⟩:=x;exact⟨_,e⟩
 |dK kvs=>obtain⟨_,_,_,_,o,_,_,e,_⟩:=x;exact⟨_,e⟩
 |dT kvs=>obtain⟨_,_,_,_,o,_,_,e,_⟩:=x;exact⟨_,e⟩
 |set S n=>obtain⟨o,_,_,_,e,_⟩:=x;exact⟨_,e⟩
 |ins C dx fs=>obtain⟨_,_,_,e,_⟩:=x;exact⟨_,e⟩
 |own y=>exact x
 |xd fs=>obtain⟨_,⟨_,_,_,e,_⟩,_⟩:=x;exact⟨_,e⟩
 |aAb lo hi=>obtain⟨_,_,_,e⟩:=x;exact⟨_,e⟩
 |k9 ob u=>obtain⟨e,_⟩:=x;exact⟨_,e⟩
 |Vi ps=>exact⟨_,x⟩
 |met f y=>exact⟨_,x⟩
 |ext φ=>obtain⟨_,e,_⟩:=x;exact e
theorem oX.mQ(ok:oX P w H h)(n:h.get? a=none):H a=none:=by
 cases q:H a with
 |none=>rfl
 |some o=>obtain⟨u,e⟩:=(ok a o q).got;rw[n]at e;cases e
theorem oX.Yg(ok:oX P w H h)(x:HV fs ch h h')(hf:∀b∈fs,H b=none)(hc:∀b∈ch,H b=none):oX P w H h':=λa o e=>by
 have tr:∀b o,H b=some o->b∉ch/\b∉fs:=λb o q=>⟨λz=>(by rw[hc b z]at q;cases q),λz=>(by rw[hf b z]at q;cases q)⟩;refine(ok a o e).sH (λb u hb q=>?_) (λ_ q=>q) λ_ _ q=>q;rcases hb with rfl|hb
 ·exact x.keep _ u (tr _ _ e).1 (tr _ _ e).2 q
 ·exact x.keep b u (tr b _ hb).1 (tr b _ hb).2 q
theorem Un.Yg(u:Un fs [] H H1 h h1)(x:HV (L::fs) ch h1 h2)(hL:h.get? L=none)(hc:∀b∈ch,h.get? b=none):Un fs [] H H1 h h2:=by
 have nc:∀b o,h.get? b=some o->b∉ch:=λb o q z=>by rw[hc b z]at q;cases q
 have nL:∀b o,h.get? b=some o->b≠L:=λb o q z=>by rw[z,hL]at q;cases q
 refine⟨λb o q n hb he=>x.keep b o (nc b o q) (λz=>?_) (u.keep b o q n hb he),λb o q n hb he=>?_,u.free,λb o q he=>?_,u.xC,u.tu,u.xB⟩
 ·rcases af.mp z with z|z
  ·exact nL b o q z
  ·exact hb z
 ·obtain⟨sl,e⟩:=u.slot b o q n hb he;obtain⟨pG,e'⟩:=x.slot b _ (nc b o q) e;exact⟨pG,e'⟩
 ·obtain⟨o',e⟩:=u.there b o q he;obtain⟨pG,e'⟩:=x.slot b _ (nc b o q) e;exact⟨_,e'⟩
def xQ(P:bK)(w:bu):Jb:=λouter H s E e s'=>∃(a:aF)(C:aE)(d:Option aF)(T:aF)(H':Hp),e=.ref a/\s.heap.get? a=none/\s.heap.get? T=none/\T≠a/\H' a=none/\H' T=none/\
 BR s'.heap a C d (.ref T)/\Bn s'.heap T .none/\s'.os=s.os/\zr s'.gens/\Un (BK outer) [] H H' s.heap s'.heap/\oX P w H' s'.heap/\E C d H'
theorem aCd.mQ(I:aCd X pins σ H s)(hex:X.ex=[])(n:s.heap.get? a=none):X.sG.heap.get? a=none:=by
 cases q:X.sG.heap.get? a with
 |none=>rfl
 |some o=>obtain⟨o',e⟩:=I.base.there a o q (by rw[hex];simp);rw[n]at e;cases e
structure Body(X:Cx):Prop where
 st:X.stack=X.env::X.outer
 fe:X.env.frame=some X.env.locals
 ex:X.ex=[]
section
variable{X:Cx}{pins:List (aF×Obj)}{σ:St}{H:Hp}{s:aO}
theorem Body.BK(B:Body X):BK X.stack=X.env.locals::BK X.outer:=by rw[B.st];show List.filterMap _ _=_;rw[gP,B.fe];rfl
def L0(X:Cx)(H:Hp)(h:c9)(a:aF)(tb:aE):Prop:=
 tb=.none\/∃T,tb=.ref T/\Bn h T .none/\T≠a/\X.sG.heap.get? T=none/\H T=none
theorem Ir{Q:Unit->aO->Prop}{Ee:aE->aO->Prop}(I:aCd X pins σ H s)(B:Body X)(hX:BR s.heap a C d tb)(hF:L0 X H s.heap a tb)(hn:X.sG.heap.get? a=none)(hH:H a=none)
  (k:∀h' T ch,BR h' a C d (.ref T)->Bn h' T .none->T≠a->s.heap.get? T=none->X.sG.heap.get? T=none->H T=none->HV (BK X.stack) ch s.heap h'->(∀b∈ch,X.sG.heap.get? b=none/\H b=none/\(b=T\/b=a\/tb=.ref b))->Q () {s with heap:=h'}):
  bF (model X.prog X.w) X.A (vF (.ref a) X.env) (λ_ s2=>bF (model X.prog X.w) X.A (setFlight (.ref a) none) Q Ee s2) Ee s:=by
 have fr:=I.ok.frames;have ff:=I.stack;rw[B.st]at fr ff;have go:∀(h1:c9)(T:aF)(c1:List aF),s.heap.get? T=none->T≠a->BR h1 a C d (.ref T)->Bn h1 T (pR X.env.locals)->HV (L2.BK (X.env::X.outer)) c1 s.heap h1->(∀b∈c1,X.sG.heap.get? b=none/\H b=none/\(b=T\/b=a\/tb=.ref b))->
   bF (model X.prog X.w) X.A (setFlight (.ref a) none) Q Ee {s with heap:=h1}:=λh1 T c1 n1 n2 x1 x2 ef hc=>by
  refine MC (s:={s with heap:=h1}) x1 x2 n2 λh2 y1 y2 ef2=>?_;refine k h2 T (c1++[T]) y1 y2 n2 n1 (I.mQ B.ex n1) (I.fC.mQ n1) ?_ λb hb=>?_
  ·rw[B.st];exact ef.trans (ef2.mono (λb z=>nomatch z) λb z=>z)
  ·rcases bZ.mp hb with z|z
   ·exact hc b z
   ·obtain rfl:=aQ.mp z;exact⟨I.mQ B.ex n1,I.fC.mQ n1,.inl rfl⟩
 rcases hF with rfl|⟨T0,rfl,ht,hne,t1,t2⟩
 ·refine N7 fr ff B.fe hX λh1 T n1 n2 x1 x2 ef=>go h1 T [a] n1 n2 x1 x2 ef λb hb=>?_;obtain rfl:=aQ.mp hb;exact⟨hn,hH,.inr (.inl rfl)⟩
 ·refine RF fr ff B.fe hX ht hne λh1 T n1 n2 x1 x2 ef=>go h1 T [T0,a] n1 n2 x1 x2 ef λb hb=>?_;rcases af.mp hb with rfl|hb1
  ·exact⟨t1,t2,.inr (.inr rfl)⟩
  ·obtain rfl:=aQ.mp hb1;exact⟨hn,hH,.inr (.inl rfl)⟩
theorem US{Q:Unit->aO->Prop}{Ee:aE->aO->Prop}(I:aCd X pins σ H s)(B:Body X)(hX:BR s.heap a C d tb)(hF:L0 X H s.heap a tb)(hn:X.sG.heap.get? a=none)(hH:H a=none)
  (k:∀h' T ch,BR h' a C d (.ref T)->Bn h' T .none->T≠a->s.heap.get? T=none->X.sG.heap.get? T=none->H T=none->HV (BK X.stack) ch s.heap h'->(∀b∈ch,X.sG.heap.get? b=none/\H b=none/\(b=T\/b=a\/tb=.ref b))->Q () {s with heap:=h'}):
  bF (model X.prog X.w) X.A (leaving X.env (.ref a)) Q Ee s:=aI (Ir I B hX hF hn hH k)
theorem I0{E0:XK}{Ee:aE->aO->Prop}(I:aCd X pins σ H s)(B:Body X)(hX:BR s.heap a C d tb)(hF:L0 X H s.heap a tb)(hn:X.sG.heap.get? a=none)(hH:H a=none)(q:E0 C d H):
  bF (model X.prog X.w) X.A (leaving X.env (.ref a)) (λ_ s''=>xQ X.prog X.w X.outer X.VM X.sG E0 (.ref a) s'') Ee s:=by
 refine US I B hX hF hn hH λh' T ch x1 x2 n2 n1 n3 n4 ef hc=>?_;have ub:=I.base;rw[B.ex]at ub;refine⟨a,C,d,T,H,rfl,hn,n3,n2,hH,n4,x1,x2,I.os,I.bare,ub.Yg (L:=X.env.locals) (by rw[<-B.BK];exact ef) ?_ λb hb=>(hc b hb).1,I.fC.Yg ef I.B8 λb hb=>(hc b hb).2.1,q⟩;exact jg I.ok.above
theorem aCd.raised{E:XK}(I:aCd X pins σ H s)(B:Body X)(h:xQ X.prog X.w X.stack H s E e s'):
  ∃(a:aF)(C:aE)(d:Option aF)(T:aF)(H':Hp),e=.ref a/\s.heap.get? a=none/\aCd X pins σ H' s'/\BR s'.heap a C d (.ref T)/\L0 X H' s'.heap a (.ref T)/\X.sG.heap.get? a=none/\H' a=none/\E C d H':=by
 obtain⟨a,C,d,T,H',rfl,n1,n2,n3,n4,n5,x1,x2,os,ba,un,fC,q⟩:=h;exact⟨a,C,d,T,H',rfl,n1,I.Hm os un fC ba (λb z=>nomatch z),x1,.inr ⟨T,rfl,x2,n3,I.mQ B.ex n2,n5⟩,I.mQ B.ex n1,n4,q⟩
end
theorem qY{CX:Jb}{P:bK}{w:bu}{K:aU}{mg:Str->Option aE}{base:c9}{N:List Str}{qual:Str}{scope:jJ}{f:aF}{cd:aE}{A:cG}{outer:List Env}{s:aO}{H:Hp}{E:XK}:
  Body (vE CX P w K mg base N qual scope f cd A outer s H E):=⟨rfl,rfl,rfl⟩
theorem Yw{P:bK}{w:bu}{K:aU}{mg:Str->Option aE}{base:c9}{N:List Str}{qual:Str}{scope:jJ}{f:aF}{cd:aE}{A:cG}{outer:List Env}{s:aO}{H:Hp}{E E':XK}
  (k:∀C d H',E' C d H'->E C d H'):aCm (xQ P w) (vE (xQ P w) P w K mg base N qual scope f cd A outer s H E) E':=λpins σ H1 s1 e s' I h=>by
 obtain⟨a,C,d,T,H',rfl,n1,I',x1,fl,n2,n3,q⟩:=I.raised qY h;exact I0 I' qY x1 fl n2 n3 (k _ _ _ q)
theorem jC{P:bK}{w:bu}{K:aU}{mg:Str->Option aE}{base:c9}{N:List Str}{qual:Str}{scope:jJ}{f:aF}{cd:aE}{A:cG}{outer:List Env}{s:aO}{H:Hp}{E:XK}:
  YO (model P w) (vE (xQ P w) P w K mg base N qual scope f cd A outer s H E).A (vE (xQ P w) P w K mg base N qual scope f cd A outer s H E).env (vE (xQ P w) P w K mg base N qual scope f cd A outer s H E).xe:=PassesOwn.leaving
section
variable{P:bK}{w:bu}{K:aU}{mg:Str->Option aE}{base:c9}
theorem Gz.Yu{x qual:Str}{st:Stmt}{f:aF}{fd:gN}{N ps:List Str}{k:Nat}{sp:Sp}(F:Gz K x qual st f fd)(S:kD N ps (dS st))(len:∀vs H Q E,sp vs H Q E->vs.length=ps.length)
  (hbody:∀(cdv:aE)(A:cG)(outer:List Env)(s:aO)(H:Hp)(vs:List V)(Q:VK)(E:XK),jS k (A.deeper (wZ qual (dS st) s.heap.objs.size f cdv))->sp vs H Q E-> ∃t,HG (vE (xQ P w) P w K mg base N qual (dS st) f cdv A outer s H E) (jM st) t/\t {nx:=λ_ H'=>Q .fB H',rt:=Q} (start N vs) H):sZ P w K mg base (xQ P w) (k+1) f fd ps sp:=by
 obtain⟨oc,od,kV,doc,pm,an,cdv,ct,osl,rfl,lk,hcd⟩:=F.ex;exact Yj lk hcd S len λA outer s H vs Q E hr hsp=>hbody cdv A outer s H vs Q E hr hsp
theorem Gz.ok0{x qual:Str}{st:Stmt}{f:aF}{fd:gN}{N ps:List Str}{k:Nat}{sp:Sp}(F:Gz K x qual st f fd)(S:kD N ps (dS st))(len:∀vs H Q E,sp vs H Q E->vs.length=ps.length)
  (hbody:∀(cdv:aE)(A:cG)(outer:List Env)(s:aO)(H:Hp)(vs:List V)(Q:VK)(E:XK),jS k (A.deeper (wZ qual (dS st) s.heap.objs.size f cdv))->sp vs H Q E-> ∃t,HG (vE (xQ P w) P w K mg base N qual (dS st) f cdv A outer s H E).Yt (jM st) t/\t {nx:=λ_ H'=>Q .fB H',rt:=Q} (start N vs) H):sZ P w K mg base (xQ P w) (k+1) f fd ps sp:=
 F.Yu S len λcdv A outer s H vs Q E hr hsp=>by obtain⟨t,h,q⟩:=hbody cdv A outer s H vs Q E hr hsp;exact⟨t,h.Yt,q⟩
end
theorem DD:aCm (xQ P w) X E0:=λ_ _ _ _ _ _ _ h=>by obtain⟨_,_,_,_,_,_,_,_,_,_,_,_,_,_,_,_,_,q⟩:=h;exact q.elim
def XC(h:c9)(C:aF)(bm:List aE):Prop:=
 ∃nm q N bs hdct sn sub ab col dd k0 k1 k2 k3 k5,h.get? C=some (excClassObj nm q C N bs bm hdct sn sub ab col dd k0 k1 k2 k3 k5 "Exception.__new__")
structure XM(bm:List aE):Prop where
 ex:bm.contains (.type "Exception")=true
 bx:bm.contains (.type "BaseException")=true
 na:bm.contains (.type "AttributeError")=false
 nn:bm.contains (.type "NameError")=false
theorem XM.plus(m:XM bm)(C:aF)(T:String):(b5 C::bm).contains (.type T)=bm.contains (.type T):=by rw[oY];rfl
abbrev mZ(us:List aE):Obj:={cls:=.type "tuple",data:=.seq us.toArray}
abbrev nX(C t:aF):Obj:={cls:=.ref C,data:=.fields #[.ref t,.none,.none,.none,.bool false,.none]}
section
variable{prog:bK}{w:bu}{A:cG}{h:c9}{g:Array aAl}{d:Drawn}{t:Nat}{os:OsState}{C:aF}{bm:List aE}
theorem LV{M:yy}{E:aE->aO->Prop}{us:List aE}(hC:XC h C bm)(m:XM bm)(k:Q () ⟨h,g,d,t,os⟩):
  bF M A (checkBuiltinCall "Exception.__new__" ⟨.ref C::us,[]⟩) Q E ⟨h,g,d,t,os⟩:=by
 obtain⟨nm,q,N,bs,hdct,sn,sub,ab,col,dd,k0,k1,k2,k3,k5,hC⟩:=hC;have F:=oJ;have has:(b5 C::bm).contains (.type "Exception")=true:=(m.plus C "Exception").trans m.ex;have star:=F.noStar;simp only[checkBuiltinCall,F.newKind,F.newSplit,F.newRow]
 repeat (first
  |refine gX hC ?_
  |(refine pX hC ?_;rw[has])
  |refine wpAny_staticBase_exc hC ?_
  |refine ZV hC ?_
  |simp only[bne_self_eq_false,cS,if_false]
  |wp_step)
 exact k
theorem OV{R:zC->aO->Prop}(hC:XC h C bm)(m:XM bm)(hu:us.length<=aj)
  (k:R (.ok (.ret (.ref (h.objs.size+1)))) ⟨(h.push (mZ us)).push (nX C h.objs.size),g,d,t,os⟩):
  lD (model prog w) A (.builtin "Exception.__new__" ⟨.ref C::us,[]⟩) R ⟨h,g,d,t,os⟩:=by
 obtain⟨nm,q,N,bs,hdct,sn,sub,ab,col,dd,k0,k1,k2,k3,k5,hC⟩:=hC;have F:=oJ;have ends:=F.ends;have has1:(b5 C::bm).contains (.type "Exception")=true:=(m.plus C _).trans m.ex;have has2:(b5 C::bm).contains (.type "AttributeError")=false:=(m.plus C _).trans m.na;have has3:(b5 C::bm).contains (.type "NameError")=false:=(m.plus C _).trans m.nn;refine codeAny_builtinAt F.entry (TR ?_);show PySem.wpAt _ _ _ (stack >>=_) _ _ _;refine TR (PySem.wpAt_stack λ_ _=>Lg ?_)
 wp_walk
 refine Lg ?_;rw[F.owner]
 repeat (first
  |with_reducible refine wpAny_madeHere_exc F.canon hC ?_
  |with_reducible refine gX hC ?_
  |(with_reducible refine pX hC ?_;first|rw[has1]|rw[has2]|rw[has3])
  |wp_step)
 show R _ _;rw[cb];exact k
end
section
variable{prog:bK}{w:bu}{A:cG}{s:aO}{C fI:aF}{bm:List aE}{K:aU}
theorem ZX{R:zC->aO->Prop}(X:K.In s.heap)(hC:XC s.heap C bm)(m:XM bm)(hi:c7 K (.ref C) "__init__"=some (some (.ref fI)))(hf:Bm K (.ref fI)=some (.type "function"))(hu:us.length<=aj)
  (k:lD (model prog w) (A.under (.builtin "type.__call__" ⟨.ref C::us,[]⟩)) (.call (.ref fI) ⟨.ref (s.heap.objs.size+1)::us,[]⟩) (Mz (s.heap.objs.size+1) R) {s with heap:=(s.heap.push (mZ us)).push (nX C s.heap.objs.size)}):
  lD (model prog w) A (.call (.ref C) ⟨us,[]⟩) R s:=by
 obtain⟨h,g,d,t,os⟩:=s;obtain⟨nm,q,N,bs,hdct,sn,sub,ab,col,dd,k0,k1,k2,k3,k5,hC⟩:=id hC;have XCh:XC h C bm:=⟨nm,q,N,bs,hdct,sn,sub,ab,col,dd,k0,k1,k2,k3,k5,hC⟩;have f1:=tc_lookup;have f2:=tc_bind (.ref C);have ty:Tf ⟨h,g,d,t,os⟩ (.ref C) "type":=⟨_,hC,rfl⟩;refine Hx (show bF _ _ (callAny (.ref C) _) _ _ _ from ?_)
 repeat (any_goals (first
  |assumption
  |with_reducible refine gX hC ?_
  |wp_step))
 refine⟨rfl,?_⟩;refine codeAny_call_builtin_at (yq _ (by trivial)) entry_typeCall (wpAny_check_type_call_sub hC ?_)
 repeat (first
  |with_reducible refine gX hC ?_
  |with_reducible refine ZV hC ?_
  |wp_step)
 refine codeAny_call_builtin_code (yq _ oJ.quiet) (LV XCh m (OV XCh m hu ?_));show bF _ _ _ _ _ _;have kp:∀b o,h.get? b=some o->((h.push (mZ us)).push (nX C h.objs.size)).get? b=some o:=λb o e=>aY _ (aY _ e);have hC1:=kp _ _ hC;have X1:K.In ((h.push (mZ us)).push (nX C h.objs.size)):=λb o e=>kp b o (X b o e);have he:((h.push (mZ us)).push (nX C h.objs.size)).get? (h.objs.size+1)=some (nX C h.objs.size):=by heap_get
 have has:(b5 C::bm).contains (.ref C)=true:=by simp
 unfold isInstance
 repeat (first
  |with_reducible refine gX he ?_
  |wp_step)
 refine(show bF _ _ (isSubtype (.ref C) (.ref C)) _ _ ⟨(h.push (mZ us)).push (nX C h.objs.size),g,d,t,os⟩from pX hC1 ?_);rw[has]
 repeat (first
  |with_reducible refine gX he ?_
  |wp_step)
 refine(show bF _ _ (typeLookup (.ref C) _) _ _ _ from(HY X1 hi).at ?_);refine iy (aI ((O4 X1 _ hf).at ?_));refine aI (xE (pj k λr s' z=>?_));rcases r with e'|(v|_|_|_) <;> first|exact z|exact z.elim|skip;obtain⟨rfl,z⟩:=z
 wp_walk
 exact z
end
end L2
namespace L2
open PySem.W (InstAt Looks clsIn mroIn looks_mroIn looks_takesIn takerIn)
open PySem.Builtin PySem.Builtin.ObjectAttr
def lV:List aE->Bool
 |[.type a,.type b,.type c]=>a=="Exception"&&b=="BaseException"&&c=="object"
 |.ref _::r=>lV r
 |_=>false
theorem y6(self:aE):∀{l:List aE},lV l=true->refuseLoop self "__setattr__" l=pure ()
 |[.type a,.type b,.type c],e=>by have e:((a=="Exception"&&b=="BaseException")&&c=="object")=true:=e;simp only[bG,beq_iff_eq]at e;obtain⟨⟨rfl,rfl⟩,rfl⟩:=e;exact PySem.F.store_Exception.passes self
 |.ref c::r,e=>by rw[refuseLoop_ref];exact y6 self (l:=r) (by cases r <;> exact e)
theorem Aa:∀{l:List aE},lV l=true->l.contains (.type "object")=true/\l.contains (.type "BaseException")=true/\l.isEmpty=false
 |[.type a,.type b,.type c],e=>by have e:((a=="Exception"&&b=="BaseException")&&c=="object")=true:=e;simp only[bG,beq_iff_eq]at e;obtain⟨⟨rfl,rfl⟩,rfl⟩:=e;exact⟨by trivial,by trivial,rfl⟩
 |.ref c::r,e=>by obtain⟨h1,h2,_⟩:=Aa (l:=r) (by cases r <;> exact e);exact⟨by rw[oY,h1,Xe],by rw[oY,h2,Xe],rfl⟩
def DA(K:aU)(C:aF):Bool:=(clsIn K C).any λkd=>lV kd.mro
section
variable{prog:bK}{w:bu}{A:cG}{s:aO}{C x:aF}{K:aU}{ox:Obj}{od:Option Obj}{name:Str}{v:aE}
theorem Z2(X:K.In h)(I:InstAt h x ox C od)(hp:DA K C=true)(hT:T="object"\/T="BaseException"):Looks M h (isInstance (.ref x) (.type T)) true:=by
 obtain⟨kd,hc,ho⟩:=Jw hp;obtain⟨h1,h2,h3⟩:=Aa ho;refine I.type.andThen (looks_mroIn X ?_);unfold mroIn;rw[hc,Option.bind_some,iN (by rw[h3];decide)];rcases hT with rfl|rfl
 ·rw[h1]
 ·rw[h2]
theorem ZZ{tk:Tok}{R:zC->aO->Prop}(X:K.In s.heap)(I:InstAt s.heap x ox C od)(hp:DA K C=true)(ht:takerIn K C name=some none)
  (h:∀b,bF (model prog w) A.in1 (storeInOwnDict (.ref x) (.ref C) (.str name tk) name v b) (λfin s'=>match fin with|.done f=>R (.ok f) s'|.again c'=>c'.quiet=true/\lD (model prog w) A c' R s') (λe s'=>R (.error e) s') s):
  lD (model prog w) A (.call (.builtin "object.__setattr__") (Args.mk [.ref x,.str name tk,v] [])) R s:=by
 have SO:=PySem.F.store_object;obtain⟨kd,hc,ho⟩:=Jw hp;refine oS SO.slot.plain SO.entry (@WM (model prog w) _ _ s "object.__setattr__" "object" "__setattr__" (.ref x) [.str name tk,v] [] _ SO.kind SO.split (Z2 X I hp (.inl rfl)) (SO.args (.ref x) (.str name tk) v) ?_);obtain⟨att,ha,hr⟩:=Option.bind_eq_some_iff.mp ht;have hm:Looks (model prog w) s.heap (mroOf (.ref C)) kd.mro:=(HP X hc).andThen .now;have tk3:Looks (model prog w) s.heap (storeTaker? att) none:=by
  cases att with
  |none=>exact .now
  |some a=>
   obtain⟨b,hb0,z⟩:=HE.mp hr;refine(looks_takesIn X hb0).andThen ?_;cases b with
   |true=>cases z
   |false=>exact .now
 rw[PySem.W.osa_eq,refuse_eq];refine aI (aI (I.type.here (aI (hm.here (by rw[y6 _ ho];exact aa (aI (I.type.here (aI ((HY X ha).here (aI (tk3.here (h _))))))))))))
theorem Z0{E:aE->aO->Prop}{Q:Unit->aO->Prop}(X:K.In s.heap)(hx:s.heap.get? x=some ox)(hcl:ox.cls=.ref C)(hdi:ox.dict=none)(hda:ox.data=.fields vs)
  (hs:c7 K (.ref C) "__setattr__"=some (some (.builtin "object.__setattr__"))) (hp:DA K C=true) (ht:takerIn K C name=some none) (hh:kY K C=true)
  (h:∀h' d,s.heap.get? d=none->h'.get? x=some {ox with dict:=some d}->h'.Ns1 d (λy=>if y=name then some v else none)->(∀b o,b≠x->s.heap.get? b=some o->h'.get? b=some o)->d≠x->Q () {s with heap:=h',toks:=s.toks+2}):
  bF (model prog w) A (setAttr (.ref x) name v) Q E s:=by
 obtain⟨kd,hc,hd'⟩:=Jw hh;obtain⟨cl0,di0,da0,sl0⟩:=ox;dsimp only at hcl hdi hda;subst hcl hdi hda;have I:InstAt s.heap x ⟨.ref C,none,.fields vs,sl0⟩ C none:=⟨hx,rfl,rfl,jj⟩;refine xX X I hs (ZZ (s:={s with toks:=s.toks+1}) X I hp ht λb=>?_);have ne:x≠s.heap.objs.size:=cO (bC hx);have hx1:(s.heap.push cu).get? x=some ⟨.ref C,none,.fields vs,sl0⟩:=aY _ hx;refine aI (aa (aI (aI (LS hx (aI (YH (s:={s with toks:=s.toks+1}) (HP X hc) ?_))))));rw[hd'];refine aI (wpAny_alloc' (aI (wpAny_update' hx1 (aa ?_))));have gd:((s.heap.push cu).update x λo=>{o with dict:=some s.heap.objs.size}).get? s.heap.objs.size=some cu:=(Mq _ _ _ _ ne.symm).trans (Heap.get?_push_at rfl rfl);have nd:((s.heap.push cu).update x λo=>{o with dict:=some s.heap.objs.size}).Ns s.heap.objs.size (λ_=>none):=⟨_,#[],_,gd,rfl,λe he=>absurd he (by simp),λ_=>rfl⟩;have gx:((s.heap.push cu).update x λo=>{o with dict:=some s.heap.objs.size}).get? x=some ⟨.ref C,some s.heap.objs.size,.fields vs,sl0⟩:=gf _ hx1 rfl;refine aI (aa (aI (Sv (Jl nd) λh' hn' sb=>?_)));obtain⟨oQ,esQ,epQ,hoQ,hdQ,hcQ⟩:=hn'.count (Within.cons name v Within.nil);refine aI (Gv hoQ (by rw[hdQ];exact GZ (bw hcQ (by rw[aG,bh,ic];omega))) (aa ?_));refine h h' s.heap.objs.size (jg (a9 _)) ((sb.2 x ne).trans gx) hn' (λb o nb e=>?_) ne.symm;exact(sb.2 b (cO (bC e))).trans ((Mq _ _ _ _ nb).trans (aY _ e))
theorem Z1{E:aE->aO->Prop}{Q:Unit->aO->Prop}{mA:Str->Option aE}{ns:List Str}(X:K.In s.heap)(hx:s.heap.get? x=some ox)(hcl:ox.cls=.ref C)(hdi:ox.dict=some dx)(hda:ox.data=.fields vs)
  (hs:c7 K (.ref C) "__setattr__"=some (some (.builtin "object.__setattr__"))) (hp:DA K C=true) (ht:takerIn K C name=some none) (hh:kY K C=true) (hm:s.heap.Ns1 dx mA) (hw:sC mA ns) (hz:ns.length<1000)
  (h:∀h',h'.Ns1 dx (λy=>if y=name then some v else mA y)->js dx s.heap h'->Q () {s with heap:=h',toks:=s.toks+2}):bF (model prog w) A (setAttr (.ref x) name v) Q E s:=by
 obtain⟨kd,hc,hd'⟩:=Jw hh;obtain⟨cl0,di0,da0,sl0⟩:=ox;dsimp only at hcl hdi hda;subst hcl hdi hda;obtain⟨odd,hod,_⟩:=z8 hm;have I:InstAt s.heap x ⟨.ref C,some dx,.fields vs,sl0⟩ C (some odd):=⟨hx,rfl,rfl,hod⟩;refine xX X I hs (ZZ (s:={s with toks:=s.toks+1}) X I hp ht λb=>?_);refine aI (aa (aI (aI (LS hx (aI (YH (s:={s with toks:=s.toks+1}) (HP X hc) ?_))))));rw[hd'];refine aa (a:=some dx) (aI (aa (aI (Sv (s:={s with toks:=s.toks+1}) hm λh' hn2 sb=>?_))));obtain⟨oQ,esQ,epQ,hoQ,hdQ,hcQ⟩:=hn2.count (Fm name v hw);refine aI (Gv hoQ (by rw[hdQ];exact GZ (bw hcQ (by rw[aG,ic];omega))) (aa ?_));exact h h' hn2 sb
theorem aCa{E:aE->aO->Prop}{Q:aE->aO->Prop}{expr:Bool}(X:K.In s.heap)(hx:s.heap.get? x=some ox)(hcl:ox.cls=.ref C)(hdi:ox.dict=some dx)(hda:ox.data=.fields vs)(hm:s.heap.Ns1 dx mA)
  (hg:c7 K (.ref C) "__getattribute__"=some (some (.builtin "BaseException.__getattribute__"))) (hk:c7 K (.ref C) "__getattr__"=some none) (hp:DA K C=true) (hh:kY K C=true) (ha:c7 K (.ref C) name=some none)
  (hv:mA name=some v) (hv':zB v=true) (h:Q v {s with toks:=s.toks+1}):bF (model prog w) A (getAttr (.ref x) name expr) Q E s:=by
 obtain⟨cl0,di0,da0,sl0⟩:=ox;dsimp only at hcl hdi hda;subst hcl hdi hda;obtain⟨odd,hod,hl⟩:=z8 hm;have I:InstAt s.heap x ⟨.ref C,some dx,.fields vs,sl0⟩ C (some odd):=⟨hx,rfl,rfl,hod⟩;have L1:=PySem.W.looks_find (M:=model prog w) X I (Jf hh ha rfl (by rw[hl,hv]));have GA:=PySem.F.excAttr_ValueError.ga;refine aI (wpAny_mkText (iy (aI (I.type _ _ _ _ (λ_ _ e=>e) (aI (HY X hg _ _ _ _ (λ_ _ e=>e) ?_))))));dsimp only;rw[iN (by rw[show(Fp "BaseException.__getattribute__"==Fp "object.__getattribute__")=false from by trivial,je];decide)];refine aI (PySem.W.looks_hook (mc:=.ref C) (r:=none) X hk _ _ _ _ (λ_ _ e=>e) (aI (OU (iy ?_))));unfold callGetattribute;rw[iN (by rw[show(expr&&onTheHeap (Fp "BaseException.__getattribute__"))=false from je _];decide)];unfold boundAndCalled;rw[GA.bind];refine aI (aa (show bF _ _ (call (.builtin "BaseException.__getattribute__") [.ref x,.str name s.toks]) _ _ _ from xE (oS GA.plain PySem.F.entry_bexc_ga ?_)));refine @WM (model prog w) _ _ {s with toks:=s.toks+1} "BaseException.__getattribute__" "BaseException" "__getattribute__" (.ref x) [.str name s.toks] [] _ (by trivial) (by trivial) (Z2 X I hp (.inr rfl)) (PySem.F.args_bexc_ga _ _) ?_;refine aI (aa (aI (aa (aI (I.type _ _ _ _ (λ_ _ e=>e) (aI (L1 _ _ _ _ (λ_ _ e=>e) (aa ?_))))))));refine(show bF _ _ (handedOut v) _ _ _ from ?_);rw[PySem.W.handedOut_of hv'];exact aa h
end
abbrev XO(a C:aF)(d:Option aF)(tb:aE):HO:=.ext λh=>BR h a (.ref C) d tb
theorem Mm(x:BR h a (.ref C) d tb):gB P w H h a (XO a C d tb):=by obtain⟨o,vs,e,_⟩:=id x;exact⟨x,⟨o,e⟩,λh1 h2 ⟨o',vs',e',a,b,c,d⟩ k=>⟨o',vs',k o' e',a,b,c,d⟩⟩
theorem Ml(ok:oX P w H h)(e:H a=some (XO a C d tb)):BR h a (.ref C) d tb:=(ok a _ e).1
structure Xr(K:aU)(C:aF):Prop where
 sa:c7 K (.ref C) "__setattr__"=some (some (.builtin "object.__setattr__"))
 ov:DA K C=true
 hd:kY K C=true
 ga:c7 K (.ref C) "__getattribute__"=some (some (.builtin "BaseException.__getattribute__"))
 gt:c7 K (.ref C) "__getattr__"=some none
def IG(H:Hp)(a:aF):Hp:=λb=>if b=a then none else H b
theorem yE(h:b≠a):IG H a b=H b:=iN h
theorem zQ:IG H a a=none:=iP rfl
section
variable{X:Cx}{pins:List (aF×Obj)}{σ:St}{H:Hp}{s:aO}{a C d:aF}{tb:aE}
theorem aCd.del(I:aCd X pins σ H s)(e:H a=some (XO a C o tb)):aCd X pins σ (IG H a) s:=by
 have to:∀b u,IG H a b=some u->H b=some u:=λb u q=>by
  by_cases z:b=a
  ·rw[z,zQ]at q;cases q
  ·rwa [yE z]at q
 have ap:∀b u,H b=some u->(∀φ,u≠.ext φ)->IG H a b=some u:=λb u q nu=>by rw[yE (λz=>by subst z;rw[e]at q;exact nu _ (aV q).symm)];exact q
 have no:∀b,H b=none->IG H a b=none:=λb q=>by
  by_cases z:b=a
  ·rw[z];exact zQ
  ·rw[yE z];exact q
 refine⟨I.ok,I.os,I.bare,⟨I.base.keep,I.base.slot,λb u q m x=>no b (I.base.free b u q m x),I.base.there,λb xs q=>ap b _ (I.base.xC b xs q) (by intro φ z;cases z),λb u xs q=>ap b _ (I.base.tu b u xs q) (by intro φ z;cases z),λb ps q=>?_⟩,I.loc,I.cell,no _ I.free,λx c q=>no c (I.kR x c q),λp hp=>?_,λb u q=>?_,I.len⟩
 ·obtain⟨more,z⟩:=I.base.xB b ps q;exact⟨more,ap b _ z (by intro φ z;cases z)⟩
 ·obtain⟨p1,p2,p3⟩:=I.pin p hp;exact⟨p1,no _ p2,p3⟩
 ·exact(I.fC b u (to b u q)).sH (λc v _ r=>r) (λc r=>ap c _ r (by intro φ z;cases z)) λc xs r=>ap c _ r (by intro φ z;cases z)
theorem aCd.ZY{t':Nat}(I:aCd X pins σ H s)(e:H d=some (.xd fs))(sb:js d s.heap h')(new:gB X.prog X.w (aCc H d (.xd fs')) h' d (.xd fs')):aCd X pins σ (aCc H d (.xd fs')) {s with heap:=h',toks:=t'}:=by
 have ap:∀b u,H b=some u->(∀l,u≠.xd l)->aCc H d (.xd fs') b=some u:=λb u q nu=>by rw[aJ (λz=>by subst z;rw[e]at q;exact nu _ (aV q).symm)];exact q
 have nb:∀b,H b=none->b≠d:=λb q z=>by rw[z,e]at q;cases q
 have there:∃u,h'.get? d=some u:=new.got;refine I.un ⟨λb u q n _ _=>(sb.2 b (nb b n)).trans q,λb u q n _ _=>⟨u.slots,(sb.2 b (nb b n)).trans q⟩,λb u q n _=>by rw[aJ (nb b n)];exact n,λb u q _=>?_,λb xs q=>ap b _ q (by intro l z;cases z),λb u xs q=>ap b _ q (by intro l z;cases z),λb ps q=>⟨#[],by rw[ap b _ q (by intro l z;cases z)];simp⟩⟩ λb u q=>?_
 ·by_cases z:b=d
  ·subst z;exact there
  ·exact⟨u,(sb.2 b z).trans q⟩
 ·by_cases z:b=d
  ·subst z;rw[aC]at q;cases q;exact new
  ·rw[aJ z]at q;refine(I.fC b u q).sH (λc v hc r=>(sb.2 c ?_).trans r) (λc r=>ap c _ r (by intro l z;cases z)) λc xs r=>ap c _ r (by intro l z;cases z);rcases hc with rfl|hc
   ·exact z
   ·exact λy=>by rw[y,e]at hc;cases hc
end
theorem FD:∀{fs:List (Str×V)},fs.lookup f≠none->f∈fs.map (·.1)
 |[],h=>absurd rfl h
 |(g,v)::r,h=>by
  by_cases z:f=g
  ·subst z;exact cA
  ·have:(eB f ((g,v)::r))=eB f r:=by rw[cT,show(f==g)=false from beq_eq_false_iff_ne.mpr z]
   rw[this]at h;exact aq _ (FD h)
section
variable{X:Cx}{e o value:cQ}{ta tv:TE}{f:Str}{pos pos':Pos}
inductive xXf(K:aU)(f:Str)(Q:VK)(x:V)(H1:Hp):Prop
 |mk:∀a C d tb fs v,x=.ref a->H1 a=some (XO a C (some d) tb)->H1 d=some (.xd fs)->Xr K C->dN K C f->fs.lookup f=some v->Q v H1->xXf K f Q x H1
def tXf(K:aU)(ta:TE)(f:Str):TE:=λσ H Q=>ta σ H (xXf K f Q)
theorem RU(he:PE X e ta)(hb:gk e f X.env (eval e X.env)=eval e X.env):PE X (.Attribute e f pos) (tXf X.K ta f):=by intro pins s σ H Q I h;refine Ll hb (fT (he pins s σ H _ I h) λu s1 ⟨x,H1,I1,rx,a,C,d,tb,fs,v,ex,ea,ed,c,n,l,q⟩=>?_);subst ex;obtain rfl:u=b5 a:=rx;obtain⟨ox,vs,g1,g2,g3,g4,g5⟩:=Ml I1.fC ea;obtain⟨mA,hn,hr⟩:=I1.fC d _ ed;obtain⟨u,hu,ru⟩:=nF.some_of (v:=v) (o:=mA f) (by rw[<-l];exact hr f);exact aCa I1.vz g1 g2 g3 g4 hn c.ga c.gt c.ov c.hd n hu (Ew ru) ⟨v,H1,I1.tok _,ru,q⟩
inductive aDs(K:aU)(f:Str)(D:Ends)(σ:St)(y:V)(x:V)(H2:Hp):Prop
 |mk:∀a C tb,x=.ref a->H2 a=some (XO a C none tb)->Xr K C->dN K C f->(∀d,H2 d=none->d≠a->D.nx σ (aCc (aCc H2 d (.xd [(f,y)])) a (XO a C (some d) tb)))->aDs K f D σ y x H2
def aBr(K:aU)(ta tv:TE)(f:Str):TS:=λD σ H=>tv σ H λy H1=>ta σ H1 (aDs K f D σ y)
theorem Wr(ha:PE X o ta)(hv:PE X value tv)(hs:lW value (some (.Attribute o f pos')) pos.line X.env=pure false):PS X (.Assign [.Attribute o f pos'] value pos) (aBr X.K ta tv f):=by
 intro pins s σ H D I h;refine mi (fT (hv pins s σ H _ I h) λu s1 ⟨y,H1,I1,ry,h1⟩=>fT (ha pins s1 σ H1 _ I1 h1) λv s2 ⟨x,H2,I2,rx,a,C,tb,ex,ea,c,n,q⟩=>?_) hs;subst ex;obtain rfl:v=b5 a:=rx;obtain⟨ox,vs,g1,g2,g3,g4,g5⟩:=Ml I2.fC ea;refine Z0 I2.vz g1 g2 g3 g4 c.sa c.ov n.Sf c.hd λh' d n1 gx hn kp ne=>?_;have hd0:H2 d=none:=I2.fC.mQ n1;have la:∀b,H2 b=none->b≠a:=λb z y=>by rw[y,ea]at z;cases z
 have J1:aCd X pins σ (aCc H2 a (XO a C (some d) tb)) {s2 with heap:=h',toks:=s2.toks+2}:=I2.write (x:=a) (e:=a) (by rw[ea];exact jj) (.inl rfl) (λb u nb z=>kp b u nb z) ⟨_,gx⟩ (Mm ⟨_,vs,gx,g2,rfl,g4,g5⟩)
 have new:∀H',gB X.prog X.w H' h' d (.xd [(f,y)]):=λH'=>⟨_,hn,λg=>by
  show nF (eB g [(f,y)]) (if g=f then some u else none);rw[cT];by_cases z:g=f
  ·rw[iP z,show(g==f)=true from beq_iff_eq.mpr z];exact ry
  ·rw[iN z,show(g==f)=false from beq_eq_false_iff_ne.mpr z];exact jj⟩
 have sw:aCc (aCc H2 d (.xd [(f,y)])) a (XO a C (some d) tb)=aCc (aCc H2 a (XO a C (some d) tb)) d (.xd [(f,y)]):=by
  funext b
  by_cases z:b=a
  ·rw[z,aC,aJ ne.symm,aC]
  ·rw[aJ z];by_cases y:b=d
   ·rw[y,aC,aC]
   ·rw[aJ y,aJ y,aJ z]
 refine⟨σ,_,?_,q d hd0 ne⟩;rw[sw];have k1:(aCc H2 a (XO a C (some d) tb)) d=none:=by rw[aJ ne];exact hd0
 have dead:∀b o,s2.heap.get? b=some o->b≠d:=λb o z y=>by rw[y,n1]at z;cases z
 refine⟨J1.ok,J1.os,J1.bare,?_,J1.loc,J1.cell,?_,λx c q=>?_,λp hp=>?_,λb u q=>?_,J1.len⟩
 ·have s0:∀b o,X.sG.heap.get? b=some o->b∉X.ex->b≠d:=λb o z hx=>by obtain⟨o',z'⟩:=I2.base.there b o z hx;exact dead b o' z'
  have td:∀b u,(aCc H2 a (XO a C (some d) tb)) b=some u->aCc (aCc H2 a (XO a C (some d) tb)) d (.xd [(f,y)]) b=some u:=λb u z=>by rw[aJ (λw=>by rw[w,k1]at z;cases z)];exact z
  refine⟨J1.base.keep,J1.base.slot,λb o z m hx=>by rw[aJ (s0 b o z hx)];exact J1.base.free b o z m hx,J1.base.there,λb xs z=>td b _ (J1.base.xC b xs z),λb o xs z=>td b _ (J1.base.tu b o xs z),λb ps z=>?_⟩;obtain⟨more,z'⟩:=J1.base.xB b ps z;exact⟨more,td b _ z'⟩
 ·obtain⟨m,⟨o',_,_,ho',_⟩,_⟩:=I2.loc;rw[aJ (dead _ o' ho')];exact J1.free
 ·obtain⟨v',o',ho',_⟩:=I2.cell x c q;rw[aJ (dead _ o' ho')];exact J1.kR x c q
 ·obtain⟨p1,p2,p3⟩:=J1.pin p hp;obtain⟨p4,_⟩:=I2.pin p hp;exact⟨p1,by rw[aJ (dead _ _ p4)];exact p2,p3⟩
 ·by_cases z:b=d
  ·subst z;rw[aC]at q;cases q;exact new _
  ·rw[aJ z]at q;refine(J1.fC b u q).sH (λc v _ r=>r) (λc r=>?_) λc xs r=>?_
   ·rw[aJ (λw=>by rw[w,k1]at r;cases r)];exact r
   ·rw[aJ (λw=>by rw[w,k1]at r;cases r)];exact r
inductive aDt(K:aU)(f:Str)(D:Ends)(σ:St)(y:V)(x:V)(H2:Hp):Prop
 |mk:∀a C d tb fs,x=.ref a->H2 a=some (XO a C (some d) tb)->H2 d=some (.xd fs)->fs.length<1000->Xr K C->dN K C f->D.nx σ (aCc H2 d (.xd (jP f y fs)))->aDt K f D σ y x H2
def aBs(K:aU)(ta tv:TE)(f:Str):TS:=λD σ H=>tv σ H λy H1=>ta σ H1 (aDt K f D σ y)
theorem Wu(ha:PE X o ta)(hv:PE X value tv)(hs:lW value (some (.Attribute o f pos')) pos.line X.env=pure false):PS X (.Assign [.Attribute o f pos'] value pos) (aBs X.K ta tv f):=by
 intro pins s σ H D I h;refine mi (fT (hv pins s σ H _ I h) λu s1 ⟨y,H1,I1,ry,h1⟩=>fT (ha pins s1 σ H1 _ I1 h1) λv s2 ⟨x,H2,I2,rx,a,C,d,tb,fs,ex,ea,ed,hl,c,n,q⟩=>?_) hs;subst ex;obtain rfl:v=b5 a:=rx;obtain⟨ox,vs,g1,g2,g3,g4,g5⟩:=Ml I2.fC ea;obtain⟨mA,hn,hr⟩:=I2.fC d _ ed
 have wi:sC mA (fs.map (·.1)):=λg hg=>FD λz=>hg (by
  have r:=hr g;rw[z]at r;exact nF.none_of r)
 refine Z1 (name:=f) (v:=u) I2.vz g1 g2 g3 g4 c.sa c.ov n.Sf c.hd hn wi (by rw[aB];exact hl) λh' hn' sb=>⟨σ,_,I2.ZY ed sb ⟨_,hn',λg=>?_⟩,q⟩;show nF ((jP f y fs).lookup g) (if g=f then some u else mA g);rw[uG];by_cases z:g=f
 ·rw[iP z,iP z];exact ry
 ·rw[iN z,iN z];exact hr g
end
section
variable{X:Cx}{CX:Jb}{k:Nat}{f C:aF}{fd:gN}{ps:List Str}{sp:Sp}{dvs:List V}{ds:List aE}{E E0:XK}{x m:Str}{p pos apos cpos np:Pos}{e:cQ}{es:List cQ}{t:TA}{bm:List aE}
theorem Yx{pl:Sem Bool}(hg:Gl X x)(hm:X.mg x=some (.ref C))(hs:Lf X.K (.ref C) "__getattribute__"=some (some (.builtin "type.__getattribute__")))(hrd:O7 X.K C mc=true)(hc:O5 X.K (.ref C) mc m=some (.val (.ref f)))
  (kp:g8 X.K (.ref f)=true) (F:sZ X.prog X.w X.K X.mg X.base CX k f fd ps sp) (hr:jS k X.A) (hb:aCl X.K fd ps ds) (hd:aCh dvs ds) (hx:aCm CX X E) (ha:PA X (e::es) t) (hdb:(x==("__debug__":Str))=false:=by decide)
  (hst:b4 (e::es) X.env=(false,eval e X.env)::b4 es X.env:=by rfl) (hpl:(iT pos (b4 es X.env)).any (·.1)=false:=by rfl)
  (ht:eval (.Call (.Attribute (.Name x p) m apos) (e::es) [] pos) X.env=(do
   let ov <-eval (.Name x p) X.env
   Ag apos.atName
   let (f,first) <-A2 [ov] (A1 ov m pl)
   callWith pos f first (iT pos (b4 (e::es) X.env)) (oO pos (jQ [] X.env))):=by rfl):
  PE X (.Call (.Attribute (.Name x p) m apos) (e::es) [] pos) (S7 sp dvs E t):=by
 intro pins s σ H Q I h;refine sA (pl:=pl) (ke I hg hm ?_ hdb) ht;refine PySem.W.method_cls I.vz hs (PySem.W.cls_value I.vz hrd hc rfl ?_);refine iq (first:=[]) (h₀:=X.base) I.ok.mod.V3 kp (fT (ha pos pins _ σ H _ (I.tok _) h) λus s2 ⟨vs,H2,I2,r,q2⟩=>⟨I2.vz,?_⟩) hst hpl;exact DS F hr hb hd hx I2 r q2
structure WE(K:aU)(C f:aF):Prop where
 obj:∃bm nm q N bs hdct sn sub ab col dd k0 k1 k2 k3 k5,K.lookup C=some (excClassObj nm q C N bs bm hdct sn sub ab col dd k0 k1 k2 k3 k5 "Exception.__new__")/\XM bm
 init:c7 K (.ref C) "__init__"=some (some (.ref f))
 fn:Bm K (.ref f)=some (.type "function")
 kp:g8 K (.ref C)=true
theorem WE.at{K:aU}(M:WE K C f)(X:K.In h):∃bm,XC h C bm/\XM bm:=by obtain⟨bm,nm,q,N,bs,hdct,sn,sub,ab,col,dd,k0,k1,k2,k3,k5,e,m⟩:=M.obj;exact⟨bm,⟨nm,q,N,bs,hdct,sn,sub,ab,col,dd,k0,k1,k2,k3,k5,X _ _ e⟩,m⟩
def Raises(X:Cx)(E0:XK):Prop:=∀(pins:List (aF×Obj))(σ:St)(H:Hp)(s:aO)(a:aF)(C:aE)(d:Option aF),aCd X pins σ H s->BR s.heap a C d .none->X.sG.heap.get? a=none->H a=none->E0 C d H->X.xe (.ref a) s
theorem FU{Q:Flow->aO->Prop}{env:Env}{M:yy}{Ee:aE->aO->Prop}{y:cQ}{s:aO}(hh:A.handled=none)
  (h:bF M A (eval y env) (λv s1=>∃a C d bm,v=.ref a/\BR s1.heap a (.ref C) d .none/\XC s1.heap C bm/\XM bm/\Ee (.ref a) s1) Ee s):bF M A (exec (.Raise (some y) none pos) env) Q Ee s:=by
 rw[arm_exec_Raise];refine aI (kx ?_);show bF M A (raiseStmt env (some (do let v <-eval y env;Ag pos;pure v)) none) Q Ee s;unfold raiseStmt;refine aI (aI (e8 h (λv s1 h1=>aI (kx (aa ?_))) λ_ _ z=>z));obtain⟨a,C,d,bm,rfl,⟨oe,vs,he,hcls,hdi,hda,h1⟩,⟨nm,q,N,bs,hdct,sn,sub,ab,col,dd,k0,k1,k2,k3,k5,hC⟩,m,hE⟩:=h1;have has:(b5 C::bm).contains (.type "BaseException")=true:=(m.plus C _).trans m.bx;obtain⟨hp,g,dr,tk,os⟩:=s1
 repeat (first
  |(with_reducible refine gX he ?_;rw[hcls])
  |with_reducible refine HQ he hda h1 ?_
  |with_reducible refine gX hC ?_
  |(with_reducible refine pX hC ?_;rw[has])
  |wp_step)
 exact wpAny_raiseNew_none (e:=.ref a) hh hE
end
section
variable{X:Cx}{CX:Jb}{k:Nat}{f C:aF}{fd:gN}{ps:List Str}{sp:Sp}{dvs:List V}{ds:List aE}{E E0:XK}{x:Str}{p pos cpos np:Pos}{e:cQ}{es:List cQ}{t:TA}
theorem Np{pins:List (aF×Obj)}{σ:St}{H:Hp}{s:aO}{us:List aE}{vs:List V}{Q:aE->aO->Prop}(M:WE X.K C f)(F:sZ X.prog X.w X.K X.mg X.base CX k f fd ps sp)(hr:jS (k+1) X.A)(hb:aCl X.K fd ps ds)(hd:aCh dvs ds)
  (hx:aCm CX X E) (B:Body X) (I:aCd X pins σ H s) (r:aCh vs us) (hz:vs.length<=aj) {q:aF->VK}
  (h:∀a,H a=none->sp (.ref a::(vs++dvs)) (aCc H a (XO a C none .none)) (q a) E)
  (go:∀a v H2 s2 u,X.sG.heap.get? a=none->aCd X pins σ H2 s2->aCg v u->q a v H2->u=.none/\Q (.ref a) s2):
  bF (model X.prog X.w) X.A (call (.ref C) us) Q X.xe s:=by
 obtain⟨bm,hC,m⟩:=M.at I.vz;have n0:s.heap.get? (s.heap.objs.size+1)=none:=jg (Dp _);have nH:H (s.heap.objs.size+1)=none:=I.fC.mQ n0;have n1:=I.mQ B.ex n0;have hq:=h _ nH;have ge:((s.heap.push (mZ us)).push (nX C s.heap.objs.size)).get? (s.heap.objs.size+1)=some (nX C s.heap.objs.size):=by
  have z:=bJ (s.heap.push (mZ us)) (o:=nX C s.heap.objs.size) rfl
  rwa [cb]at z
 have I2:aCd X pins σ (aCc H (s.heap.objs.size+1) (XO (s.heap.objs.size+1) C none .none)) {s with heap:=(s.heap.push (mZ us)).push (nX C s.heap.objs.size),toks:=s.toks}:=
  I.laid (λb u q=>aY _ (aY _ q)) (Dp _) (Mm ⟨_,_,ge,rfl,rfl,rfl,rfl⟩)
 have r2:aCh (V.ref (s.heap.objs.size+1)::(vs++dvs)) (b5 (s.heap.objs.size+1)::(us++ds)):=.cons rfl (r.append hd);have hl:(b5 (s.heap.objs.size+1)::us++ds).length=ps.length:=r2.length.symm.trans (F.len _ _ _ _ hq);refine xE (ZX (fI:=f) I.vz hC m M.init M.fn (by rw[<-r.length];exact hz) (pj (F.run _ X.stack _ _ ⟨b5 (s.heap.objs.size+1)::us,[]⟩ (b5 (s.heap.objs.size+1)::(us++ds)) _ _ E (hr.make C us []) (I2.WT.make C us []) (hb _ (b5 (s.heap.objs.size+1)::us) I2.vz hl) r2 hq) λr' s' hq'=>?_));cases r' with
 |error e'=>exact hx pins σ _ _ e' s' I2 hq'
 |ok fl=>
  cases fl with
  |ret u=>obtain⟨v,H',I3,rv,q3⟩:=I2.after hq';exact go _ v H' s' u n1 I3 rv q3
  |next=>exact dm hq'
  |brk=>exact dm hq'
  |cont=>exact dm hq'
theorem JC{pins:List (aF×Obj)}{σ:St}{H:Hp}{s:aO}{us:List aE}{vs:List V}(M:WE X.K C f)(F:sZ X.prog X.w X.K X.mg X.base CX k f fd ps sp)(hr:jS (k+1) X.A)(hb:aCl X.K fd ps ds)(hd:aCh dvs ds)
  (hx:aCm CX X E) (B:Body X) (hR:Raises X E0) (I:aCd X pins σ H s) (r:aCh vs us) (hz:vs.length<=aj)
  (h:∀a,H a=none->sp (.ref a::(vs++dvs)) (aCc H a (XO a C none .none)) (λv H2=>v=.fB/\∃d,H2 a=some (XO a C (some d) .none)/\E0 (.ref C) (some d) (IG H2 a)) E):
  bF (model X.prog X.w) X.A (call (.ref C) us) (λv s1=>∃a C d bm,v=.ref a/\BR s1.heap a (.ref C) d .none/\XC s1.heap C bm/\XM bm/\X.xe (.ref a) s1) X.xe s:=by
 refine Np M F hr hb hd hx B I r hz h λa v H2 s2 u n I2 rv q=>?_;obtain⟨rfl,d,ea,q⟩:=q;obtain⟨bm,hC,m⟩:=M.at I2.vz;have xa:=Ml I2.fC ea;exact⟨rv,a,C,some d,bm,rfl,xa,hC,m,hR pins σ _ s2 a _ _ (I2.del ea) xa n zQ q⟩
end
theorem M3{P:bK}{w:bu}{K:aU}{mg:Str->Option aE}{base:c9}{N:List Str}{qual:Str}{scope:jJ}{f:aF}{cd:aE}{A:cG}{outer:List Env}{s:aO}{H:Hp}{E:XK}:
  Raises (vE (xQ P w) P w K mg base N qual scope f cd A outer s H E) E:=λpins σ H1 s1 a C d I x n hn q=>I0 I qY x (.inl rfl) n hn q
theorem aCd.frame(I:aCd X pins σ H s)(sb:js X.env.locals s.heap h')(hn':h'.Ns X.env.locals m')(hlen:σ'.length=σ.length)
  (hl:∀(i:Nat)(x:Str)(v:V),X.N[i]?=some x->σ'[i]?=some (some v)->WD X.env.scope x->∃u,aCg v u/\Look X.env s.heap m' x u):aCd X pins σ' H {s with heap:=h'}:=by
 have neL:∀b o,X.sG.heap.get? b=some o->b≠X.env.locals:=λb o e=>cO (bo (bC e) I.ok.above);refine⟨I.ok,I.os,I.bare,⟨λb o e n hb hx=>(sb.2 b (neL b o e)).trans (I.base.keep b o e n hb hx),λb o e n hb hx=>?_,I.base.free,λb o e hx=>?_,I.base.xC,I.base.tu,I.base.xB⟩,⟨m',hn',λi x v e1 e2 e3=>?_⟩,λy c e=>?_,I.free,I.kR,λp hp=>?_,λb o e=>?_,hlen.trans I.len⟩
 ·obtain⟨sl,e1⟩:=I.base.slot b o e n hb hx;exact⟨sl,(sb.2 b (neL b o e)).trans e1⟩
 ·obtain⟨o',e1⟩:=I.base.there b o e hx;exact⟨o',(sb.2 b (neL b o e)).trans e1⟩
 ·obtain⟨u,r,l⟩:=hl i x v e1 e2 e3;refine⟨u,r,?_⟩;rcases l with l|⟨k,c,e,z⟩
  ·exact .inl l
  ·exact .inr ⟨k,c,e,z.sameBut sb (I.Tv x c e)⟩
 ·obtain⟨w',z⟩:=I.cell y c e;exact⟨w',z.sameBut sb (I.Tv y c e)⟩
 ·obtain⟨e,n,ne,nf,d⟩:=I.pin p hp;exact⟨(sb.2 p.1 ne).trans e,n,ne,nf,d⟩
 ·refine(I.fC b o e).sH (λc v hc q=>(sb.2 c ?_).trans q) (λ_ q=>q) λ_ _ q=>q;have fr:=I.free;rcases hc with rfl|hc
  ·rintro rfl;rw[fr]at e;cases e
  ·rintro rfl;rw[fr]at hc;cases hc
theorem OP{pos:Pos}{M:yy}{A:cG}{E:aE->aO->Prop}{Q:Unit->aO->Prop}(I:aCd X pins σ H s)(hN:X.N.Nodup)(hi:X.N[i]?=some n)(hk:X.env.scope.names.lookup n=some .local)
  (h:∀s',aCd X pins (σ.set i none) H s'->Q () s'):bF M A (do bindName X.env n .none;unbindBehindTheSuite X.env n pos) Q E s:=by
 refine aI (aI (iy (HR (aI (uW (v:=.fB) I hN hi (.inl hk) rfl (λs1 I1=>HR ?_) (.inr hk))))));obtain⟨m,hn,hl⟩:=id I1.loc;have hiσ:i<σ.length:=by rw[I.len];exact(a8.mp hi).1
 obtain⟨u,ru,lu⟩:=hl i n .fB hi (jF hiσ) (.inl hk);have hv:m n=some u:=by
  rcases lu with⟨_,z⟩|⟨z,_⟩
  ·exact z
  ·have hk':X.env.kindOf n=some .local:=hk;rw[hk']at z;rcases z with z|z <;> cases z
 unfold unbindBehindTheSuite;refine wpAny_onRaise (wpAny_unbindName_local hk hn hv (by rw[I.ok.kind];rfl) λh' w hn' sb=>h _ ?_);refine I1.frame sb hn' (by rw[se,se]) λj x v e1 e2 e3=>?_;by_cases hj:j=i
 ·subst hj;rw[jF hiσ]at e2;cases e2
 ·rw[ji (j7 hj)]at e2;obtain⟨u',r',q⟩:=hl j x v e1 (by rw[ji (j7 hj)];exact e2) e3;have nx:x≠n:=λz=>hj (y3 hN e1 (z▸hi));refine⟨u',r',?_⟩;rcases q with⟨k,e⟩|q
  ·exact .inl ⟨k,by show(if x=n then w else m x)=_;rw[iN nx];exact e⟩
  ·exact .inr q
abbrev Cx.at_(X:Cx)(pn:List (aF×Obj))(xe:aE->aO->Prop):Cx:={X with pn:=pn,xe:=xe}
abbrev Cx.K1(X:Cx)(e:aE):Cx:={X with A:=X.A.mark (some e),calm:=false,xe:=λ_ _=>False}
theorem Cx.Ok.at_{X:Cx}(ok:X.Ok)(pn:List (aF×Obj))(xe:aE->aO->Prop):(X.at_ pn xe).Ok:=
 ⟨ok.mod,ok.kind,ok.glob,ok.blt,ok.above,ok.inj,ok.has,ok.VY,ok.hd,ok.frames,ok.XT,ok.WV,ok.bs,ok.Od,ok.Ip,ok.IL,ok.w8,ok.TX⟩
theorem Cx.Ok.back{X:Cx}{pn:List (aF×Obj)}{xe:aE->aO->Prop}(ok:(X.at_ pn xe).Ok):X.Ok:=
 ⟨ok.mod,ok.kind,ok.glob,ok.blt,ok.above,ok.inj,ok.has,ok.VY,ok.hd,ok.frames,ok.XT,ok.WV,ok.bs,ok.Od,ok.Ip,ok.IL,ok.w8,ok.TX⟩
theorem Cx.Ok.K1{X:Cx}(ok:X.Ok)(e:aE):(X.K1 e).Ok:=
 ⟨ok.mod,ok.kind,ok.glob,ok.blt,ok.above,ok.inj,ok.has,ok.VY,(λz=>nomatch z),ok.frames,ok.XT,ok.WV,ok.bs,ok.Od,ok.Ip,ok.IL,ok.w8,ok.TX⟩
section
variable{X:Cx}{pins:List (aF×Obj)}{σ:St}{H:Hp}{s:aO}
theorem aCd.at_(I:aCd X pins σ H s)(xe:aE->aO->Prop):aCd (X.at_ (X.pn++pins) xe) [] σ H s:=⟨I.ok.at_ _ _,I.os,I.bare,I.base,I.loc,I.cell,I.free,I.kR,by
 show ∀p∈(X.pn++pins)++[],_;rw[bg];exact I.pin,I.fC,I.len⟩
theorem aCd.back{pn pins':List (aF×Obj)}{xe:aE->aO->Prop}(I:aCd (X.at_ (X.pn++pn) xe) pins' σ H s):aCd X pn σ H s:=⟨I.ok.back,I.os,I.bare,I.base,I.loc,I.cell,I.free,I.kR,λp hp=>I.pin p (bZ.mpr (.inl hp)),I.fC,I.len⟩
theorem aCd.K1(I:aCd X pins σ H s)(e:aE):aCd (X.K1 e) pins σ H s:=⟨I.ok.K1 e,I.os,I.bare,I.base,I.loc,I.cell,I.free,I.kR,I.pin,I.fC,I.len⟩
theorem aCd.ZT(I:aCd (X.K1 e) pins σ H s)(ok:X.Ok):aCd X pins σ H s:=⟨ok,I.os,I.bare,I.base,I.loc,I.cell,I.free,I.kR,I.pin,I.fC,I.len⟩
end
theorem Ic{K:aU}(X:K.In h){R:aF}(e:(lP K R).isSome=true):TQ M h (isType (.ref R)) true:=by
 unfold lP at e;split at e
 ·rename_i ho;exact(Fj (part:=some headPart) (X _ _ ho)).andThen .now
 ·cases e
theorem Xb{prog:bK}{w:bu}{A:cG}{E:aE->aO->Prop}{K:aU}{a C R:aF}{Q:Bool->aO->Prop}(X:K.In s.heap)(x:BR s.heap a (.ref C) d tb)
  (h1:Bl K (.ref R) (.type "tuple")=some false) (h2:(lP K R).isSome=true) (h3:lQ K R (.type "BaseException")=some true) (h4:lQ K C (.ref R)=some true) (h:Q true s):
  bF (model prog w) A (excMatches (.ref a) (.ref R)) Q E s:=by
 obtain⟨o,vs,e,c,_⟩:=x;have e5:TQ (model prog w) s.heap (typeOf (.ref a)) (.ref C):=c▸(Fj e).andThen .now;unfold excMatches isExcClass;refine aI ((PySem.W.looks_instIn X h1).here ?_);rw[iN (by decide)];refine aI (aa ?_);simp only[E1,T6];refine aI (aI (aI (aI ((Ic X h2).here ?_))));rw[iP rfl];refine(Jg X h3).here ?_;rw[iN (by decide)];refine aa (aa (aI (e5.here (aI (aI (aI ((Jg X h4).here ?_)))))));rw[iP rfl];exact aa (aa (aa h))
def Ends.un(D:Ends)(i:Nat):Ends:={nx:=λσ H=>D.nx (σ.set i none) H,rt:=D.rt,bk:=λσ H=>D.bk (σ.set i none) H,ct:=λσ H=>D.ct (σ.set i none) H}
def aB6(N:List Str)(i:Nat)(tb:TS)(E':XK)(th:aF->TS):TS:=λD σ H=>tb D σ H/\∀(c dx a:aF)(tv:aE)(H1:Hp)(σ':St),E' (.ref c) (some dx) H1->H1 a=none->σ'.length=N.length->
 th a (D.un i) (σ'.set i (some (.ref a))) (aCc H1 a (XO a c (some dx) tv))
section
variable{X:Cx}
theorem XU{A:cG}{M:yy}{a:aF}{n:Str}{env:Env}{b0:Stmt}{suite:List Stmt}{hpos:Pos}{s:aO}{R:zC->aO->Prop}{prog:bK}{w:bu}
  (h:bF (model prog w) A (setFlight (.ref a) none) (λ_ s1=>bF (model prog w) A (bindName env n (.ref a)) (λ_ s2=>bF (model prog w) A (execs (b0::suite) env) (λf s3=>R (.ok f) s3) (λ_ _=>False) s2) (λ_ _=>False) s1) (λ_ _=>False) s):
  lD (model prog w) A (.handlers (.ref a) [.ExceptHandler none (some n) (b0::suite) hpos] env) R s:=by
 refine Hx ?_;show bF _ A (do return Fin.done (<-(handleWith (.ref a) env [.ExceptHandler none (some n) (b0::suite) hpos]).onRaise (λx=>do vF x env;theTreesLotGoes x))) _ _ s;refine aI ?_;refine wpAny_noted ?_;unfold handleWith;refine aI (kx (aI (e8 h (λ_ s1 h1=>aI (e8 h1 (λ_ s2 h2=>aI (OU (e8 h2 (λf s3 h3=>aa (aa h3)) λ_ _ z=>z.elim))) λ_ _ z=>z.elim)) λ_ _ z=>z.elim)))
theorem Un.Yh(u:Un fs [] H H1 h h1)(x:HV fs ch h1 h2)(hc:∀b∈ch,h.get? b=none):Un fs [] H H1 h h2:=by
 have nc:∀b o,h.get? b=some o->b∉ch:=λb o q z=>by rw[hc b z]at q;cases q
 refine⟨λb o q n hb he=>x.keep b o (nc b o q) hb (u.keep b o q n hb he),λb o q n hb he=>?_,u.free,λb o q he=>?_,u.xC,u.tu,u.xB⟩
 ·obtain⟨sl,e⟩:=u.slot b o q n hb he;obtain⟨pG,e'⟩:=x.slot b _ (nc b o q) e;exact⟨pG,e'⟩
 ·obtain⟨o',e⟩:=u.there b o q he;obtain⟨pG,e'⟩:=x.slot b _ (nc b o q) e;exact⟨_,e'⟩
theorem Un.JW(u:Un fs [] H H1 h h1)(n:h.get? a=none)(n1:H1 a=none):Un fs [] H (aCc H1 a o) h h1:=by
 have td:∀b v,H1 b=some v->aCc H1 a o b=some v:=λb v z=>by rw[aJ (aK z n1)];exact z
 refine⟨u.keep,u.slot,λb v q m x=>?_,u.there,λb xs q=>td b _ (u.xC b xs q),λb v xs q=>td b _ (u.tu b v xs q),λb ps q=>?_⟩
 ·rw[aJ (λz=>by rw[z,n]at q;cases q)];exact u.free b v q m x
 ·obtain⟨more,z⟩:=u.xB b ps q;exact⟨more,td b _ z⟩
theorem oX.JW(ok:oX P w H h)(n:H a=none)(new:gB P w (aCc H a o) h a o):oX P w (aCc H a o) h:=λb v q=>by
 by_cases z:b=a
 ·subst z;rw[aC]at q;cases q;exact new
 ·rw[aJ z]at q;exact(ok b v q).sH (λc u _ r=>r) (λc r=>by rw[aJ (aK r n)];exact r) λc xs r=>by rw[aJ (aK r n)];exact r
variable{body suite:List Stmt}{b0:Stmt}{n rx:Str}{i:Nat}{R:aF}{np hpos pos:Pos}{tb:TS}{E':XK}{th:aF->TS}
theorem R1(B:Body X)(hN:X.N.Nodup)(hi:X.N[i]?=some n)(hk:X.env.scope.names.lookup n=some .local)(hg:Gl X rx)(hm:X.mg rx=some (.ref R))
  (h1:Bl X.K (.ref R) (.type "tuple")=some false) (h2:(lP X.K R).isSome=true) (h3:lQ X.K R (.type "BaseException")=some true)
  (hE:∀C d H,E' C d H->∃c dx,C=.ref c/\d=some dx/\lQ X.K c (.ref R)=some true)
  (hb:∀pn xe,aCm (xQ X.prog X.w) (X.at_ pn xe) E'->HG (X.at_ pn xe) body tb) (hs:∀a,HG (X.K1 (.ref a)) (b0::suite) (th a)) (hdb:(rx==("__debug__":Str))=false:=by decide):
  PS X (.Try body [.ExceptHandler (some (.Name rx np)) (some n) (b0::suite) hpos] [] [] pos) (aB6 X.N i tb E' th):=by
 intro pins s σ H D I h;refine wpAny_Try_except (e8 (hb (X.pn++pins) _ ?_ [] s σ H D (I.at_ _) h.1) (λf s1 q=>?_) λe s1 q=>q)
 ·-- the exception comes
  intro pins' σ' H1 s1 e s' J x;obtain⟨a,C,d,T0,H',rfl,n1,n2,n3,n4,n5,x1,x2,os,ba,un,fC,q⟩:=x;have J0:aCd X pins σ' H1 s1:=J.back;have J':aCd X pins σ' H' s':=J0.Hm os un fC ba (λb z=>nomatch z);refine Ir J' B x1 (.inr ⟨T0,rfl,x2,n3,J0.mQ B.ex n2,n5⟩) (J0.mQ B.ex n1) n4 λh' T ch y1 y2 ne t1 t2 t3 ef hc=>?_;obtain⟨c,dx,rfl,rfl,mr⟩:=hE _ _ _ q;have un2:Un (BK X.stack) [] H1 H' s1.heap h':=un.Yh ef λb hb=>by
   rcases(hc b hb).2.2 with rfl|rfl|z
   ·cases w:s1.heap.get? b with
    |none=>rfl
    |some o=>obtain⟨o',w'⟩:=un.there b o w (by simp);rw[t1]at w';cases w'
   ·exact n1
   ·obtain rfl:T0=b:=by injection z
    exact n2
  have hok2:oX X.prog X.w H' h':=fC.Yg ef (J'.B8) λb hb=>(hc b hb).2.1;have new:gB X.prog X.w (aCc H' a (XO a c (some dx) (.ref T))) h' a (XO a c (some dx) (.ref T)):=Mm y1;have I3:aCd X pins σ' (aCc H' a (XO a c (some dx) (.ref T))) {s' with heap:=h'}:=J0.Hm os (un2.JW n1 n4) (hok2.JW n4 new) ba (λb z=>nomatch z);have Ih:=I3.K1 (.ref a);refine wpAny_handleBy_cons (codeAny_handlers_test (ke (X:=X.K1 (.ref a)) Ih hg hm ?_ hdb)) (λz=>nomatch z);refine Xb Ih.vz y1 h1 h2 h3 mr ?_;have hsp:=h.2 c dx a (.ref T) H' σ' q n4 I3.len;refine XU (M:=model X.prog X.w) (MC y1 y2 ne λh4 z1 z2 ef4=>?_);have I4:aCd X pins σ' (aCc H' a (XO a c (some dx) (.ref T))) {s' with heap:=h4}:=by
   have un4:Un (BK X.stack) [] H1 H' s1.heap h4:=un2.Yh (ef4.mono (λb z=>nomatch z) λb z=>z) λb hb=>by
    obtain rfl:=aQ.mp hb;cases w:s1.heap.get? b with
    |none=>rfl
    |some o=>obtain⟨o',w'⟩:=un.there b o w (by simp);rw[t1]at w';cases w'
   have hok4:oX X.prog X.w H' h4:=hok2.Yg ef4 (λb z=>nomatch z) λb hb=>by obtain rfl:=aQ.mp hb;exact t3
   exact J0.Hm os (un4.JW n1 n4) (hok4.JW n4 (Mm z1)) ba (λb z=>nomatch z)
  have Ih4:=I4.K1 (.ref a);refine aI (iy (HR (aI (uW (X:=X.K1 (.ref a)) (v:=.ref a) Ih4 hN hi (.inl hk) rfl (λs5 I5=>HR ?_) (.inr hk)))));refine fT (hs a pins s5 _ _ (D.un i) I5 hsp) λf s6 q6=>?_;have done:∀{σ6:St}{H6:Hp}{Q:Unit->aO->Prop},aCd (X.K1 (.ref a)) pins σ6 H6 s6->(∀s7,aCd X pins (σ6.set i none) H6 s7->Q () s7)->bF (model X.prog X.w) X.A (do bindName X.env n .none;unbindBehindTheSuite X.env n hpos) Q X.xe s6:=λI6 k=>OP (I6.ZT I.ok) hN hi hk k;cases f with
  |next=>obtain⟨σ6,H6,I6,q7⟩:=q6;exact done I6 λs7 I7=>⟨_,H6,I7,q7⟩
  |brk=>obtain⟨σ6,H6,I6,q7⟩:=q6;exact done I6 λs7 I7=>⟨_,H6,I7,q7⟩
  |cont=>obtain⟨σ6,H6,I6,q7⟩:=q6;exact done I6 λs7 I7=>⟨_,H6,I7,q7⟩
  |ret u=>obtain⟨v,σ6,H6,I6,rv,q7⟩:=q6;exact done I6 λs7 I7=>⟨v,_,H6,I7,rv,q7⟩
 ·-- no exception
  cases f with
  |next=>obtain⟨σ',H',J,q⟩:=q;exact pU ⟨σ',H',J.back,q⟩
  |brk=>obtain⟨σ',H',J,q⟩:=q;exact⟨σ',H',J.back,q⟩
  |cont=>obtain⟨σ',H',J,q⟩:=q;exact⟨σ',H',J.back,q⟩
  |ret u=>obtain⟨v,σ',H',J,rv,q⟩:=q;exact⟨v,σ',H',J.back,rv,q⟩
end
section
variable{X:Cx}
theorem Hk{bs:List Bool}{its:List aE}(r:aCh (bs.map V.bl) its){i:Nat}{v:aE}(h:its.toArray[i]?=some v):∃b,bs[i]?=some b/\v=.bool b:=by
 have h':its[i]?=some v:=by simpa using h
 cases e:bs[i]? with
 |none=>
  have n:(bs.map V.bl)[i]?=none:=by rw[aP,e];rfl
  rw[r.none_of n]at h';cases h'
 |some b=>
  have n:(bs.map V.bl)[i]?=some (.bl b):=by rw[aP,e];rfl
  obtain⟨u,hu,ru⟩:=r.get n;rw[h']at hu;cases hu;exact⟨b,rfl,ru⟩
theorem range_all{bs:List Bool}:(ek bs.length).all (λi=>bs.getD i false)=bs.all id:=by
 have e:(ek bs.length).map (λi=>bs.getD i false)=bs:=TF (by simp) λi h1 h2=>by simp[aX h2]
 rw[show(ek bs.length).all (λi=>bs.getD i false)=((ek bs.length).map λi=>bs.getD i false).all id from by rw[gW];rfl,e]
theorem range_any{bs:List Bool}:(ek bs.length).any (λi=>bs.getD i false)=bs.any id:=by
 have e:(ek bs.length).map (λi=>bs.getD i false)=bs:=TF (by simp) λi h1 h2=>by simp[aX h2]
 rw[show(ek bs.length).any (λi=>bs.getD i false)=((ek bs.length).map λi=>bs.getD i false).any id from by rw[jD];rfl,e]
theorem xb(hc:X.calm=true):pY X (.builtin "all") (λxs H Q=>∃(a:aF)(bs:List Bool),xs=[.ref a]/\bf X.K H a (bs.map V.bl)/\Q (.bl (bs.all id)) H):=by
 intro pins s σ H xs us Q I r h;obtain⟨a,bs,rfl,hq,q⟩:=h;obtain⟨u,rfl,ru⟩:=aCr r;cases ru;obtain⟨its,rv,p,hz⟩:=I.list hq;have ho:∃o,s.heap.get? a=some o:=let ⟨o,_,e,_⟩:=p;⟨o,e⟩;obtain⟨o,ho⟩:=ho;have hne:a≠s.heap.objs.size:=cO (bC ho);have hn:its.toArray.size=bs.length:=by have:=rv.length;simp at this;simp;omega
 refine call_all_walk (jt p.isList ⟨_,_,_,_,_,_,λi=>bs.getD i false,rfl,Y8 (prog:=X.prog) (w:=X.w) (A:=X.A.in1) (I.ok.hd hc) _ a hne its.toArray,⟨⟨_,bJ _ rfl,rfl,rfl⟩,p.isList.at λo e=>aY _ e⟩,λi v s' Q' E' hP hQ=>?_,λh' tk hk=>?_⟩)
 ·obtain⟨b,hb,rfl⟩:=Hk rv hP;have hQ:Q' (bs.getD i false) s':=hQ;rw[jh,hb]at hQ;exact gY hQ
 ·rw[hn,range_all];refine⟨.bl (bs.all id),H,I.kept (t':=tk) λb u e=>hk b u (λz=>?_) (aY _ e),rfl,q⟩;rw[aQ.mp z]at e;exact absurd (bC e) (fO _)
theorem Hn(hc:X.calm=true):pY X (.builtin "any") (λxs H Q=>∃(a:aF)(bs:List Bool),xs=[.ref a]/\bf X.K H a (bs.map V.bl)/\Q (.bl (bs.any id)) H):=by
 intro pins s σ H xs us Q I r h;obtain⟨a,bs,rfl,hq,q⟩:=h;obtain⟨u,rfl,ru⟩:=aCr r;cases ru;obtain⟨its,rv,p,hz⟩:=I.list hq;have ho:∃o,s.heap.get? a=some o:=let ⟨o,_,e,_⟩:=p;⟨o,e⟩;obtain⟨o,ho⟩:=ho;have hne:a≠s.heap.objs.size:=cO (bC ho);have hn:its.toArray.size=bs.length:=by have:=rv.length;simp at this;simp;omega
 refine call_any_walk (jt p.isList ⟨_,_,_,_,_,_,λi=>bs.getD i false,rfl,Y8 (prog:=X.prog) (w:=X.w) (A:=X.A.in1) (I.ok.hd hc) _ a hne its.toArray,⟨⟨_,bJ _ rfl,rfl,rfl⟩,p.isList.at λo e=>aY _ e⟩,λi v s' Q' E' hP hQ=>?_,λh' tk hk=>?_⟩)
 ·obtain⟨b,hb,rfl⟩:=Hk rv hP;have hQ:Q' (bs.getD i false) s':=hQ;rw[jh,hb]at hQ;exact gY hQ
 ·rw[hn,range_any];refine⟨.bl (bs.any id),H,I.kept (t':=tk) λb u e=>hk b u (λz=>?_) (aY _ e),rfl,q⟩;rw[aQ.mp z]at e;exact absurd (bC e) (fO _)
inductive Wv(K:aU)(x:V)(xs:List V)(H:Hp)(Q:VK):Prop
 |mk:∀(a:aF)(ys:List V)(y:V),x=V.ref a->xs=[y]->bf K H a ys->lF y=true->ys.all lF=true->Q (.int (ys.countP (λz=>Jh z y):Nat)) H->Wv K x xs H Q
theorem AG:∀{ys:List V}{us:List aE},aCh ys us->ys.all lF=true->us.countP (GK y)=ys.countP (λz=>Jh z y)
 |_,_,.nil,_=>rfl
 |z::ys,u::us,.cons r t,f=>by rw[g6,bG]at f;rw[TC,TC,AG t f.2,C5 r f.1]
theorem N4:Vr X "list.count" (Wv X.K):=by
 intro pins s σ H x xs v us Q I rx rxs h;obtain⟨a,ys,y,rfl,rfl,hs,fy,fys,q⟩:=h;cases rx;cases rxs with
 |cons ry rt=>rename_i uy ut;cases rt;obtain⟨its,rv,⟨⟨cls,dd,data,sl⟩,n,ho,hc,hdn,hd⟩,hlen⟩:=I.list hs;simp only at hc hd;subst hc hd;refine kI E6 ⟨_,ho,rfl⟩ PySem.F.entry_list_count (PySem.F.args_list_count_2 _ _) (SeqAt.list_countAt a its.toArray n dd sl uy (GK y)) ⟨ho,λu' hu'=>n9 ry fy rv fys u' (by simpa using hu'),?_⟩;refine⟨.int _,H,I.tok _,⟨_,rfl⟩,?_⟩;have e:its.toArray.toList.countP (GK y)=ys.countP (λz=>Jh z y):=AG (us:=its) rv fys;rw[e];exact q
variable{e:cQ}{es:List cQ}{te:TE}{pos:Pos}
abbrev TJ:=Str->St->Hp->VK->Prop
def PJ(X:Cx)(es:List cQ)(t:TJ):Prop:=∀(pins:List (aF×Obj))(s:aO)(σ:St)(H:Hp)(out:Str)(Q:VK),aCd X pins σ H s->t out σ H Q->bF (model X.prog X.w) X.A (joinParts out (evalEach es X.env)) (EP X pins σ Q) X.xe s
def W5:TJ:=λout _ H Q=>out.length<=aj/\Q (.str out) H
inductive aDl(t:TJ)(out:Str)(σ:St)(Q:VK)(x:V)(H1:Hp):Prop
 |mk:∀y,x=.str y->(out++y).length<=aj->t (out++y) σ H1 Q->aDl t out σ Q x H1
def uF(te:TE)(t:TJ):TJ:=λout σ H Q=>te σ H (aDl t out σ Q)
theorem RX:PJ X [] W5:=λpins s σ H out Q I h=>joinParts_nil (out:=out) ⟨.str out,H,I.tok _,⟨_,rfl⟩,h.2⟩ h.1
theorem pC(he:PE X e te)(ht:PJ X es t):PJ X (e::es) (uF te t):=λpins s σ H out Q I h=>by show bF _ _ (joinParts out (eval e X.env::evalEach es X.env)) _ _ s;refine joinParts_cons (fT (he pins s σ H _ I h) λu s1 ⟨x,H1,I1,r,y,ex,hz,q⟩=>?_);subst ex;obtain⟨t',rfl⟩:=r;exact⟨hz,ht pins s1 σ H1 _ Q I1 q⟩
def Gq(t:TJ):TE:=λσ H Q=>t o9 σ H Q
theorem FN(h:PJ X (e1::e2::es) t):PE X (.JoinedStr (e1::e2::es) pos) (Gq t):=λpins s σ H Q I hq=>JoinedStr_many (h pins s σ H o9 Q I hq)
end
section
variable{X:Cx}{e:cQ}{te:TE}{pos:Pos}
theorem G0(he:PE X e te):PE X (.FormattedValue e (-1) none pos) (λσ H Q=>te σ H λx H1=>∃y,x=.str y/\y.length<=aj/\Q x H1):=by intro pins s σ H Q I h;refine FormattedValue_plain (fT (he pins s σ H _ I h) λu s1 ⟨x,H1,I1,r,y,ex,hz,q⟩=>?_);subst ex;obtain⟨t',rfl⟩:=r;exact formatField_str (λt tk=>⟨.str y,H1,I1.tok tk,⟨_,rfl⟩,q⟩) hz
end
section
variable{prog:bK}{w:bu}{A:cG}{E:aE->aO->Prop}{s:aO}
abbrev Cf(l:aF):Obj:={cls:=.type "list_iterator",data:=.fields #[.ref l,.int 0 0]}
abbrev IK(it:aF):Obj:={cls:=.type "enumerate",data:=.fields #[.none,.bool false,.ref it,pR 1,.none,.none]}
theorem NT{t:Tok}{R:zC->aO->Prop}{Z:Code->aO->Prop}(hL:s.heap.IsList l items)(k:R (.ok (.ret (.ref (s.heap.push (Cf l)).objs.size))) {s with heap:=(s.heap.push (Cf l)).push (IK s.heap.objs.size)}):
  bF (model prog w) A (Builtin.«enumerate.__new__» ⟨[.type "enumerate",.ref l],[("start",.int 1 t)]⟩) (λfin s'=>match fin with|.done f=>R (.ok f) s'|.again c'=>Z c' s') (λe s'=>R (.error e) s') s:=by
 obtain⟨h0,g0,d0,t0,o0⟩:=s;have self:=sub_enumerate
 wp_walk
 refine aAg λacts=>aa ?_;split
 ·rename_i who _ _ _ _ _;cases who==kW "enumerate"
  ·wp_walk using jt hL
   exact k
  ·wp_walk using jt hL
   exact k
 ·wp_walk using jt hL
  exact k
theorem CZ(a b:aE):checkTypeCall "enumerate" ⟨[a],[("start",b)]⟩=pure ():=by kernel_rfl
theorem EM(a b:aE):checkBuiltinCall "enumerate.__new__" ⟨[.type "enumerate",a],[("start",b)]⟩=pure ():=by kernel_rfl
theorem CY(a b c:aE):argsOk "object.__init__" ⟨[a,b],[("start",c)]⟩:=by unfold argsOk;kernel_rfl
theorem Jz{t:Tok}{Q:aE->aO->Prop}(hL:s.heap.IsList l items)
  (h:∀h',Jm h' (s.heap.objs.size+1) s.heap.objs.size 1 .none->h'.IsListIter s.heap.objs.size l 0->h'.objs.size=s.heap.objs.size+2->(∀b o,s.heap.get? b=some o->h'.get? b=some o)->Q (.ref (s.heap.objs.size+1)) {s with heap:=h'}):
  bF (model prog w) A (call (.type "enumerate") [.ref l] [("start",.int 1 t)]) Q E s:=by
 have ft:=PySem.F.called_enumerate;obtain⟨c0,tl,hmro⟩:=ft.mro;have hmade:=ft.made;have hsub:=ft.sub;have f1:=ft.notType;have f2:=ft.canCreate;have f3:=CZ (.ref l) (.int 1 t);refine xE (Hx (show bF _ _ (callAny (.type "enumerate") _) _ _ _ from aa ⟨yq _ (by trivial),codeAny_builtin PySem.F.entry_type_call ?_⟩));rw[Around.under_plain (weight_type_call_type "enumerate" [.ref l] [("start",.int 1 t)]) (units_type_call_type "enumerate" [.ref l] [("start",.int 1 t)])]
 repeat (any_goals (first
  |assumption
  |wp_step))
 have z:(s.heap.push (Cf l)).objs.size=s.heap.objs.size+1:=cb _ _;have en:Jm ((s.heap.push (Cf l)).push (IK s.heap.objs.size)) (s.heap.objs.size+1) s.heap.objs.size 1 .none:=by
  have y:=bJ (s.heap.push (Cf l)) (o:=IK s.heap.objs.size) rfl
  rwa [z]at y
 have made:∀R0:zC->aO->Prop,R0 (.ok (.ret (.ref (s.heap.objs.size+1)))) {s with heap:=(s.heap.push (Cf l)).push (IK s.heap.objs.size)}->
   lD (model prog w) A.in1 (.call (.builtin "enumerate.__new__") ⟨[.type "enumerate",.ref l],[("start",.int 1 t)]⟩) R0 s:=λR0 q=>
  oS ft.plain PySem.F.entry_enumerate_new (VL (EM _ _) (NT hL (by rw[z];exact q)))
 refine made _ (show bF _ _ _ _ _ _ from ?_);have hT:Tf {s with heap:=(s.heap.push (Cf l)).push (IK s.heap.objs.size)} (.ref (s.heap.objs.size+1)) "enumerate":=⟨_,en,rfl⟩;have li:=ft.init.lookup;have bi:=ft.init.bind (.ref (s.heap.objs.size+1));have fin:=h _ en ⟨_,aY _ (bJ _ rfl),rfl,rfl⟩ (by rw[cb,z]) λb o q=>aY _ (aY _ q)
 repeat (any_goals (first
  |assumption
  |wp_step))
 refine oS ft.init.plain PySem.F.entry_object_init (ft.init.check _ _ _ _ _ _ _ _ hT (CY _ _ _) ?_)
 repeat (any_goals (first
  |assumption
  |wp_step))
end
def Sy(C:aF)(o:Obj):Bool:=match o with
 |⟨.type t,_,.cls cd,sl⟩=>t=="type"&&(match cd.mro with|.ref c::bm=>c==C&&lV bm|_=>false)&&!cd.hasDel&&(match sl.toList with|[_,_,_,_,some (.builtin i),_]=>i=="Exception.__new__"|_=>false)
 |_=>false
theorem Cw:∀{bm:List aE},lV bm=true->XM bm
 |[.type a,.type b,.type c],e=>by have e:((a=="Exception"&&b=="BaseException")&&c=="object")=true:=e;simp only[bG,beq_iff_eq]at e;obtain⟨⟨rfl,rfl⟩,rfl⟩:=e;exact⟨by trivial,by trivial,by trivial,by trivial⟩
 |.ref c::r,e=>by have m:=Cw (bm:=r) (by cases r <;> exact e);exact⟨(m.plus c _).trans m.ex,(m.plus c _).trans m.bx,(m.plus c _).trans m.na,(m.plus c _).trans m.nn⟩
theorem Mo(h:Sy C o=true):∃bm nm q N bs hdct sn sub ab col dd k0 k1 k2 k3 k5,o=excClassObj nm q C N bs bm hdct sn sub ab col dd k0 k1 k2 k3 k5 "Exception.__new__"/\lV bm=true:=by
 obtain⟨cls,dd,data,sl⟩:=o;unfold Sy at h;split at h
 ·rename_i t d0 cd sl0 heq;injection heq with e1 e2 e3 e4;subst e1 e2 e3 e4;obtain⟨nm,bs,mro,nsA,q,hdct,sn,sub,ab,col,hdel⟩:=cd;simp only[bG,Bool.not_eq_true',beq_iff_eq]at h;obtain⟨⟨⟨rfl,h2⟩,h3⟩,h4⟩:=h;obtain⟨l⟩:=sl
  match mro,h2 with
  |.ref c::bm,h5=>
   have h5:(c==C&&lV bm)=true:=h5;simp only[bG,beq_iff_eq]at h5;obtain⟨rfl,h6⟩:=h5
   match l,h4 with
   |[k0,k1,k2,k3,some (.builtin i),k5],h4=>have h4:(i=="Exception.__new__")=true:=h4;obtain rfl:=beq_iff_eq.mp h4;have h3:hdel=false:=h3;subst h3;exact⟨bm,nm,q,nsA,bs,hdct,sn,sub,ab,col,_,k0,k1,k2,k3,k5,rfl,h6⟩
 ·cases h
section
variable{K:aU}{C f:aF}{o:Obj}
theorem Xc(l:K.lookup C=some o)(x:Sy C o=true)(i:c7 K (.ref C) "__init__"=some (some (.ref f)))(fn:xV K (.ref f)=true)(kp:g8 K (.ref C)=true):WE K C f:=by obtain⟨bm,nm,q,N,bs,hdct,sn,sub,ab,col,dd,k0,k1,k2,k3,k5,rfl,e⟩:=Mo x;exact⟨⟨bm,nm,q,N,bs,hdct,sn,sub,ab,col,dd,k0,k1,k2,k3,k5,l,Cw e⟩,i,beq_iff_eq.mp fn,kp⟩
theorem Xa(l:K.lookup C=some o)(x:Sy C o=true)(sa:c7 K (.ref C) "__setattr__"=some (some (.builtin "object.__setattr__")))(hd:kY K C=true)
  (ga:c7 K (.ref C) "__getattribute__"=some (some (.builtin "BaseException.__getattribute__"))) (gt:c7 K (.ref C) "__getattr__"=some none):Xr K C:=by
 obtain⟨bm,nm,q,N,bs,hdct,sn,sub,ab,col,dd,k0,k1,k2,k3,k5,rfl,e⟩:=Mo x;refine⟨sa,?_,hd,ga,gt⟩;unfold DA lP;rw[l];show lV (b5 C::bm)=true;unfold lV;exact e
end
def Ez:List ei->Option (List (Int×aE))
 |[]=>some []
 |⟨h,.int k _,v⟩::r=>if h==hashInt k then(Ez r).map λl=>(k,v)::l else none
 |_=>none
theorem A3:∀{es:List ei}{kvs:List (Int×aE)},Ez es=some kvs->(∀e∈es,∃k,(fA P w).is k e.key=true/\e.hash=(fA P w).hash k)/\Pairs (fA P w) es (kvs.map λp=>(ee p.1,p.2))
 |[],kvs,e=>by cases e;exact⟨(λe h=>nomatch h),.nil⟩
 |⟨h,.int k t,v⟩::r,kvs,e=>by
  unfold Ez at e;split at e
  ·rename_i hh;obtain⟨l,el,rfl⟩:=HE.mp e;obtain⟨i1,i2⟩:=A3 (P:=P) (w:=w) el;refine⟨λe he=>?_,.cons (pA P w k t) rfl i2⟩;rcases af.mp he with rfl|he2
   ·exact⟨ee k,pA P w k t,beq_iff_eq.mp hh⟩
   ·exact i1 e he2
  ·cases e
 |⟨h,.none,v⟩::r,kvs,e=>nomatch e
 |⟨h,.bool _,v⟩::r,kvs,e=>nomatch e
 |⟨h,.str _ _,v⟩::r,kvs,e=>nomatch e
 |⟨h,.bytes _ _,v⟩::r,kvs,e=>nomatch e
 |⟨h,.float _ _,v⟩::r,kvs,e=>nomatch e
 |⟨h,.ref _,v⟩::r,kvs,e=>nomatch e
 |⟨h,.type _,v⟩::r,kvs,e=>nomatch e
 |⟨h,.builtin _,v⟩::r,kvs,e=>nomatch e
def KTab(K:aU)(a:aF)(kvs:List (Int×aE)):Prop:=∃(es:Array ei)(ep:Nat),K.lookup a=some ⟨.type "dict",none,.dict es ep,#[]⟩/\Ez es.toList=some kvs/\(kvs.map (·.1)).Nodup
theorem KTab.dict{K:aU}(T:KTab K a kvs)(X:K.In h)(P:bK)(w:bu):h.DictOf (fA P w) a (kvs.map λp=>(ee p.1,p.2)):=by
 obtain⟨es,ep,l,e,nd⟩:=T;obtain⟨i1,i2⟩:=A3 (P:=P) (w:=w) e;refine⟨_,es,ep,X _ _ l,⟨rfl,rfl,rfl⟩,rfl,λe he=>i1 e (uw.mpr he),i2,?_⟩;rw[bN];have q:(vN ((λx=>x.fst)∘λp=>((ee p.1:Key),p.2)) kvs)=(kvs.map (·.1)).map (ee:Int->Key):=by rw[bN];rfl
 rw[q];exact YG _ (λa b (z:a≠b) y=>z (Hc y)) nd
theorem yn:∀(kvs:List (Int×aE))(k:Int),fw (kvs.map λp=>((ee p.1:Key),p.2)) (ee k)=kvs.lookup k
 |[],k=>rfl
 |(j,v)::r,k=>by
  unfold fw;rw[bO,cw,cT];by_cases z:j=k
  ·subst z;simp
  ·have e1:decide ((ee j:Key)=ee k)=false:=dF (λq=>z (Hc q));have e2:(k==j)=false:=beq_eq_false_iff_ne.mpr (j7 z);rw[e1,e2];exact yn r k
section
variable{X:Cx}{i:cQ}{ty:TE}{x:Str}{p pos:Pos}
inductive aDg(kvs:List (Int×aE))(Q:VK)(y:V)(H1:Hp):Prop
 |mk:∀k u v,y=.int k->kvs.lookup k=some u->aCg v u->Q v H1->aDg kvs Q y H1
def ZN(kvs:List (Int×aE))(ty:TE):TE:=λσ H Q=>ty σ H (aDg kvs Q)
theorem MX(hg:Gl X x)(hm:X.mg x=some (.ref a))(T:KTab X.K a kvs)(hi:PE X i ty)(hs:Ta i)(hdb:(x==("__debug__":Str))=false:=by decide):PE X (.Subscript (.Name x p) i pos) (ZN kvs ty):=by intro pins s σ H Q I h;refine Gp oK.lookup hs (ke I hg hm ?_ hdb);refine fT (hi pins s σ H _ I h) λiv s2 ⟨y,H2,I2,ry,k,u,v,ey,el,rv,q⟩=>?_;subst ey;obtain⟨t,rfl⟩:=ry;have d:=T.dict I2.vz X.prog X.w;refine⟨d.typeIs,Gu (k:=ee k) (pA _ _ k t) d.mapOf (v:=u) ?_ ⟨v,H2,I2.tok _,rv,q⟩⟩;rw[yn];exact el
inductive aC9(spOf:aF->Option Sp)(E:XK)(t:TA)(σ:St)(Q:VK)(x:V)(H1:Hp):Prop
 |mk:∀f sp,x=.ref f->spOf f=some sp->(t σ H1 λvs H2=>sp vs H2 Q E)->aC9 spOf E t σ Q x H1
def XW{σ:Type}(tf:TE)(spOf:aF->Option Sp)(E:XK)(t:TA):TE:=λσ H Q=>tf σ H (aC9 spOf E t σ Q)
theorem RO{CX:Jb}{k:Nat}{fn e:cQ}{es:List cQ}{t:TA}{E:XK}{spOf:aF->Option Sp}(hf:PE X fn tf)
  (F:∀f sp,spOf f=some sp->g8 X.K (.ref f)=true/\∃fd ps,sZ X.prog X.w X.K X.mg X.base CX k f fd ps sp/\aCl X.K fd ps []) (hr:jS k X.A) (hx:aCm CX X E) (ha:PA X (e::es) t)
  (hc:eval (.Call fn (e::es) [] pos) X.env=(do callWith pos (<-eval fn X.env) [] (iT pos (b4 (e::es) X.env)) (oO pos (jQ [] X.env))):=by rfl)
  (he:b4 (e::es) X.env=(false,eval e X.env)::b4 es X.env:=by rfl) (hpl:(iT pos (b4 es X.env)).any (·.1)=false:=by rfl):
  PE X (.Call fn (e::es) [] pos) (XW (σ:=Unit) tf spOf E t):=by
 intro pins s σ H Q I h;refine Call_ (fT (hf pins s σ H _ I h) λu s1 ⟨x,H1,I1,rx,f,sp,ex,es',q⟩=>?_) hc;subst ex;obtain rfl:u=b5 f:=rx;obtain⟨kp,fd,ps,G,b⟩:=F f sp es';refine iq (h₀:=X.base) I.ok.mod.V3 kp (fT (ha pos pins s1 σ H1 _ I1 q) λus s2 ⟨vs,H2,I2,r,q2⟩=>⟨I2.vz,?_⟩) he hpl;refine DS (dvs:=[]) G hr b .nil hx I2 r ?_;rw[bg];exact q2
end
theorem II(D:Draws prog w A it fp n P S):
  Draws prog w A it fp (n+1) (λj v=>P (j - 1) v) (λj h=>1<=j/\S (j - 1) h) where
 live:=λj h z=>D.live _ h z.2
 frame:=λj h h' z k=>⟨z.1,D.frame _ h h' z.2 k⟩
 item:=λj s Q E hj z k=>D.item (j - 1) s Q E (by have:=z.1;omega) z.2 λx h' tk p q sb=>k x h' tk p ⟨VQ 1 j,by
  rw[show j+1 - 1=j - 1+1 by have:=z.1;omega];exact q⟩ sb
 done:=λs Q E z k=>D.done s Q E z.2 k
structure HU(X:Cx)(it a:aF)(items:Array aE)(i:Nat):Prop where
 ne:a≠it
 le:items.size<=i
theorem QA{E:aE->aO->Prop}{Q:Option aE->aO->Prop}(hh:X.A.handled=none)(z:HU X it a items i)(he:Jm s.heap e it c old)(hit:s.heap.IsListIter it a i)(hl:s.heap.IsList a items)
  (k:∀h',L5 it s.heap h'->Q none {s with heap:=h'}):bF (model X.prog X.w) X.A (R4 (.ref e)) Q E s:=by
 have D:Draws X.prog X.w X.A.in1 it [it,a] i (λ_ _=>False) (λj h=>j=i/\h.IsListIter it a i/\h.IsList a items):=
  ⟨λj h q=>let ⟨o,ho,_⟩:=q.2.1;⟨o,ho⟩,λj h h' q m=>⟨q.1,q.2.1.at λo r=>m it (by simp) o r,q.2.2.at λo r=>m a (by simp) o r⟩,λj s Q E hj q _=>absurd hj (by rw[q.1];exact fO _),λs Q E q m=>wpAny_nextOf_list_end hh q.2.1 q.2.2 (by simpa using z.le) m⟩
 exact Sw D he ⟨rfl,hit,hl⟩ k
def YD(K:aU)(a:aF):It:=
 ⟨λi H=>∃(xs:List V)(x:V),bf K H a xs/\xs[i]?=some x,λi H v H'=>∃T x,v=.ref T/\H T=none/\H'=aCc H T (.tup [.int ((i+1:Nat):Int),x])/\∀xs,bf K H a xs->xs[i]?=some x,λi H=>∃xs:List V,bf K H a xs/\xs.length<=i⟩
theorem LL{P:bK}{w:bu}{K:aU}{elts:List cQ}{kk:Nat}{tpos:Pos}(a e it:aF):
  Turn P w K (.Tuple elts kk tpos) (YD K a) [e,it] e (λi h=>(∃old,Jm h e it ((i+1:Nat):Int) old)/\h.IsListIter it a i/\e≠it) where
 mem:=by simp
 obj:=λi h st b hb=>by
  obtain⟨⟨old,he⟩,⟨o,ho,hc,hd⟩,_⟩:=st;have e':b=e\/b=it:=by simpa using hb
  rcases e' with z|z
  ·rw[z];exact⟨_,he,λv q=>nomatch q⟩
  ·rw[z];exact⟨o,ho,λv q=>by rw[hd]at q;cases q⟩
 keep:=λi h h' st k=>let ⟨⟨old,he⟩,hi,hne⟩:=st;⟨⟨old,k e (by simp) _ he⟩,hi.at λo q=>k it (by simp) o q,hne⟩
 item:=by
  intro X hP hw hK hc i pins s σ H E I hf st hg;subst hP hw hK;obtain⟨⟨old,he⟩,hit,hne⟩:=st;obtain⟨xs,x,hq,hx⟩:=hg;obtain⟨its,rv,p,hz⟩:=I.list hq;obtain⟨u,hu,ru⟩:=rv.get hx;have hel:e<s.heap.objs.size:=bC he;have hil:it<s.heap.objs.size:=by obtain⟨_,q,_⟩:=hit;exact bC q
  have hlt:i<its.toArray.size:=by
   have:=(a8.mp hu).1
   simpa using this
  obtain⟨ol,nl,hol,hcl,_⟩:=id p;have nal:a≠it:=λz=>by obtain⟨oi,hoi,hci,_⟩:=id hit;rw[z,hoi]at hol;cases hol;exact nomatch hcl.symm.trans hci
  have nea:e≠a:=λz=>by have he:s.heap.get? e=some _:=he;rw[z,hol]at he;cases he;exact absurd (zy hcl) (by decide)
  have D:=II (Draws.list (prog:=X.prog) (w:=X.w) (A:=X.A.in1) (I.ok.hd hc) it a nal its.toArray);refine Og (i:=i+1) D he ⟨VQ 1 i,hit,p.isList⟩ (by omega) hne (by simp[hne,nea]) λy h' tk hy ho hst' hT hsz hk=>?_;have hy:its.toArray[i]?=some y:=hy;obtain rfl:u=y:=by
   have hu':its.toArray[i]?=some u:=by simpa using hu
   exact aV (hu'.symm.trans hy)
  have hit':h'.IsListIter it a (i+1):=hst'.2.1;refine⟨_,rfl,LR (s:={s with heap:=h',toks:=tk+1}) ho λh'' he' sb=>?_⟩;have hT2:h''.get? s.heap.objs.size=some {cls:=.type "tuple",data:=.seq #[.int ((i+1:Nat):Int) tk,u]}:=(sb.2 _ (si hel)).trans hT;have new:gB X.prog X.w (aCc H s.heap.objs.size (.tup [.int ((i+1:Nat):Int),x])) h'' s.heap.objs.size (.tup [.int ((i+1:Nat):Int),x]):=
   ⟨by show 2<=aj;decide,[.int ((i+1:Nat):Int) tk,u],.cons ⟨_,rfl⟩ (.cons ru .nil),⟨_,hT2,rfl,_,rfl⟩⟩
  have I1:aCd X pins σ (aCc H s.heap.objs.size (.tup [.int ((i+1:Nat):Int),x])) {s with heap:=h'',toks:=tk+1}:=
   I.zo (ch:=[e,it]) (λb ob hb q=>(sb.2 b (λz=>hb (by simp[z]))).trans (hk b ob (λz=>hb (by simp[z])) (λz=>hb (by simp[z])) q)) hf (a9 _) new
  refine⟨.ref s.heap.objs.size,_,I1,rfl,⟨_,x,rfl,I.fC.fresh (a9 _),rfl,λys hy=>by rw[I.yV hy hq];exact hx⟩,⟨⟨u,?_⟩,hit'.at λo q=>(sb.2 it (j7 hne)).trans q,hne⟩,λb hb=>?_⟩
  ·have e1:((i+1+1:Nat):Int)=((i+1:Nat):Int)+1:=by omega
   rw[e1];exact he'
  ·have hb':b<s.heap.objs.size:=by
    have e':b=e\/b=it:=by simpa using hb
    rcases e' with z|z
    ·rw[z];exact hel
    ·rw[z];exact hil
   rw[aJ (cO hb')];exact(hf b hb).1
 done:=by
  intro X hP hw hK hc i pins s σ H E I hf st hg;subst hP hw hK;obtain⟨⟨old,he⟩,hit,hne⟩:=st;obtain⟨xs,hq,hx⟩:=hg;obtain⟨its,rv,p,hz⟩:=I.list hq;obtain⟨f0,f1,f2,f3,f4,f5⟩:=hf it (by simp);have hl:=rv.length;obtain⟨ol,nl,hol,hcl,_⟩:=id p;have nal:a≠it:=λz=>by obtain⟨oi,hoi,hci,_⟩:=id hit;rw[z,hoi]at hol;cases hol;exact nomatch hcl.symm.trans hci
  have last:HU X it a its.toArray i:=⟨nal,by simp;omega⟩;exact QA (I.ok.hd hc) last he hit p.isList λh' eb=>⟨rfl,I.turned (t':=s.toks) (λb o hb q=>eb b o hb q) f0 f1 f3 f4 f5⟩
 self:=λA i s Q E st h=>let ⟨⟨_,he⟩,_⟩:=st;sR he h
inductive aC5(K:aU)(R:(It->Hp->Prop))(vs:List V)(H1:Hp):Prop
 |mk:∀a xs,vs=[.ref a]->bf K H1 a xs->R (YD K a) H1->aC5 K R vs H1
def W0(K:aU)(ta:TA):TI:=λσ H R=>ta σ H (aC5 K R)
theorem Iw{p pos tpos kpos cpos:Pos}{elts:List cQ}{kk j:Nat}(hg:Gl X "enumerate")(hm:X.mg "enumerate"=none)(ha:PA X [e] ta)(hs:b4 [e] X.env=[(false,eval e X.env)]:=by rfl):
  PI X (.Tuple elts kk tpos) (.Call (.Name "enumerate" p) [e] [⟨some "start",.Constant (.int 1) j cpos,kpos⟩] pos) (W0 X.K ta):=by
 intro pins s σ H R I h;have he:eval (.Call (.Name "enumerate" p) [e] [⟨some "start",.Constant (.int 1) j cpos,kpos⟩] pos) X.env=(do callWith pos (<-eval (.Name "enumerate" p) X.env) [] (iT pos (b4 [e] X.env)) (oO pos (jQ [⟨some "start",.Constant (.int 1) j cpos,kpos⟩] X.env))):=rfl;rw[he];refine aI (z6 I hg hm aA3 ?_);refine PySem.W.callWith_of (P:=λ_=>True) (by rw[hs];rfl) (λ_ _=>⟨.machine,.inr (.inl rfl),Y1 rfl⟩) ?_;refine evalArgs_kw2 (by rfl) (fT (ha pos pins s σ H _ I h) λus s1 ⟨vs,H1,I1,r1,q1⟩=>?_) hs;obtain⟨a,xs,ex,hq,q⟩:=q1;subst ex;have hk1:PK X [⟨some "start",.Constant (.int 1) j cpos,kpos⟩] (gT (tC (.int 1)) oA):=U3 bB Wn;refine fT (hk1 pos pins s1 σ H1 (λws H'=>ws=[.int 1]/\H'=H1) I1 ⟨rfl,rfl⟩) λks s2 ⟨ws,H2,I2,rw2,ew,eH⟩=>⟨jj,?_⟩;subst ew eH;cases rw2 with
 |cons rk rr=>
  cases rr;obtain⟨t,rfl⟩:=rk;cases r1 with
  |cons r rr=>
   cases rr;cases r;obtain⟨its,rv,p',hz⟩:=I2.list hq;show bF _ _ (call (.type "enumerate") [.ref a] [("start",.int 1 t)]) _ _ s2;refine Jz p'.isList λh' he hit hsz hk=>sR he ?_;have I3:aCd X pins σ H2 {s2 with heap:=h'}:=I2.kept (t':=s2.toks) hk;refine⟨s2.heap.objs.size+1,[s2.heap.objs.size+1,s2.heap.objs.size],_,_,H2,rfl,I3,LL a (s2.heap.objs.size+1) s2.heap.objs.size,⟨⟨.none,he⟩,hit,T9 _⟩,λb hb=>?_,q⟩;have e':b=s2.heap.objs.size+1\/b=s2.heap.objs.size:=by simpa using hb
   have hle:s2.heap.objs.size<=b:=by
    rcases e' with z|z
    ·rw[z];exact jv _ _
    ·rw[z];exact a9 _
   exact I2.NU hle (I2.fC.fresh hle)
section
variable{X:Cx}
theorem MK:∀{kvs:List (Key×V)}{vs:List (Key×aE)}{acc:List aE},KV kvs vs->acc.length=vs.length->(∀(j:Nat)(v:aE),acc[j]?=some v->∃(k:Key)(x:aE),vs[j]?=some (k,x)/\(fA P w).is k v=true)->aCh (kvs.map λkv=>kV kv.1) acc
 |_,_,[],r,hl,_=>by
  cases r with
  |nil=>exact .nil
  |cons _ _=>simp at hl
 |_,_,a::acc,r,hl,h=>by
  cases r with
  |nil=>simp at hl
  |cons p q=>
   obtain⟨k,x,e,i⟩:=h 0 a rfl;simp only[rG,mn]at e;refine .cons ?_ (MK (P:=P) (w:=w) q (by simpa using hl) λj v e=>h (j+1) v (by simpa using e));have h1:=p.1;rw[e]at h1;have h1:_=k:=h1;show aCg (kV _) a;rw[h1];rcases fq i with⟨n,t,rfl,rfl⟩|⟨y,t,rfl,rfl⟩
   ·exact⟨t,rfl⟩
   ·exact⟨t,rfl⟩
theorem KC(hc:X.calm=true):pY X (.type "list") (λxs H Q=>∃a kvs,xs=[V.ref a]/\Rd H a (.dK kvs)/\∀l,H l=none->Q (.ref l) (aCc H l (.lst (kvs.map λkv=>kV kv.1)))):=by
 intro pins s σ H xs us Q I r h;obtain⟨a,kvs,rfl,hq,q⟩:=h;obtain⟨u,rfl,rx⟩:=aCr r;cases rx;obtain⟨hz,hS,vs,rel,dd⟩:=yG I.fC hq;obtain⟨ep,da⟩:∃ep,s.heap.DictAt (fA X.prog X.w) a vs ep:=by obtain⟨o,es,ep,h1,h2,h3,h4⟩:=dd;exact⟨ep,o,es,h1,h2,h3,h4⟩
 have hlen:kvs.length=vs.length:=lZ rel;refine PySem.W.kdl_call (PySem.W.kdl_dict (kvs:=vs) (ep:=ep) hS) (I.ok.hd hc) da (by omega) λh' tk acc' c' kp e it=>?_;refine⟨.ref s.heap.objs.size,_,I.laid (t':=tk) kp (a9 _) (show gB X.prog X.w _ h' _ (.lst (kvs.map λkv=>kV kv.1))from⟨by rw[aB];exact hz,acc'.toList,c',?_,by simpa using e⟩),rfl,q _ (I.fC.fresh (a9 _))⟩;exact MK (P:=X.prog) (w:=X.w) rel (by simpa using it.1) λj v hj=>it.2 j v (by simpa using hj)
def KD(P:bK)(w:bu)(K:aU)(a:aF)(kvs:List (Key×aE)):Prop:=(a==gD)=false/\∀h,K.In h->h.DictOf (fA P w) a kvs
inductive aDa(kvs:List (Key×aE))(Q:VK)(y:V)(H1:Hp):Prop
 |mk:∀k u v,y=kV k->fw kvs k=some u->aCg v u->Q v H1->aDa kvs Q y H1
def X2(kvs:List (Key×aE))(ty:TE):TE:=λσ H Q=>ty σ H (aDa kvs Q)
inductive aDh(kvs:List (Key×aE))(Q:VK)(y:V)(H1:Hp):Prop
 |mk:∀k,y=kV k->Q (.bl (fw kvs k).isSome) H1->aDh kvs Q y H1
def ZO(kvs:List (Key×aE))(ty:TE):TE:=λσ H Q=>ty σ H (aDh kvs Q)
variable{i:cQ}{ty:TE}{x:Str}{p pos:Pos}
theorem RT(hg:Gl X x)(hm:X.mg x=some (.ref a))(T:KD X.prog X.w X.K a kvs)(hi:PE X i ty)(hs:Ta i)(hdb:(x==("__debug__":Str))=false:=by decide):PE X (.Subscript (.Name x p) i pos) (X2 kvs ty):=by intro pins s σ H Q I h;refine Gp oK.lookup hs (ke I hg hm ?_ hdb);refine fT (hi pins s σ H _ I h) λiv s2 ⟨y,H2,I2,ry,k,u,v,ey,el,rv,q⟩=>?_;subst ey;have d:=T.2 _ I2.vz;exact⟨d.typeIs,Gu (k:=k) (yT ry) d.mapOf (v:=u) el ⟨v,H2,I2.tok _,rv,q⟩⟩
theorem U1(hi:PE X i ty)(hg:Gl X x)(hm:X.mg x=some (.ref a))(T:KD X.prog X.w X.K a kvs)(hdb:(x==("__debug__":Str))=false:=by decide):PC X .In i (.Name x p) (ZO kvs ty):=by intro pins s σ H Q I h;refine fT (hi pins s σ H _ I h) λiv s1 ⟨y,H1,I1,ry,k,ey,q⟩=>ke I1 hg hm ?_ hdb;subst ey;have d:=T.2 _ I1.vz;exact wpAny_in_of (yT ry) T.1 d.mapOf ⟨.bl (fw kvs k).isSome,H1,I1.tok _,rfl,q⟩
end
section
variable{prog:bK}{w:bu}{A:cG}{E:aE->aO->Prop}{s:aO}
theorem Kf{en:ei}{Q:aE->aO->Prop}(hit:s.heap.IsKeyIter it d i n ep)(hod:s.heap.get? d=some od)(hdd:od.data=.dict es ep)
  (hsz:es.size=n) (hx:es[i]?=some en) (hQ:∀h',h'.IsKeyIter it d (i+1) n ep->js it s.heap h'->Q en.key {s with heap:=h'}):bF (model prog w) A (ik (.ref it)) Q E s:=by
 obtain⟨o,ho,hc,hd⟩:=id hit;rw[ik];refine aI (vH (name:=oM "__next__") hit.typeIs dk (vJ dk hit.typeIs nB ?_ (mW _)));refine aI (aa ?_);refine aI ?_;refine aI ?_
 first|refine aI (e9 hit.typeIs (aa ?_))|refine aI (gK hit.typeIs (aa ?_))
 refine aI (LQ ho hd ?_);have hown:kN "dict_keyiterator"=false:=by decide
 simp only[hown,cS,if_false];show bF _ _ (if(b5 d==f7)=true then _ else _) _ _ s;rw[iN (show ¬((b5 d==f7)=true)from bD)];refine aI (aa ?_);refine aI (sQ hod hdd ?_);rw[iN (by rw[hsz];simp)];refine aI (aa ?_);refine aI (xN hod hdd ?_);rw[iN (by simp)];refine aa ?_;obtain⟨hlt',hen⟩:=j6.mp hx;simp only[show ¬((i:Int)<0)from by omega,if_false,gL,EZ hlt'];refine aI ?_
 first|refine aI (e9 hit.typeIs (aa ?_))|refine aI (gK hit.typeIs (aa ?_))
 refine aI (T4 hit.typeIs ?_);show bF _ _ (setField (.ref it) 1 (pR ((i:Int)+1)) >>=_) _ _ s;refine aI (rB ho hd (by simp) ?_);have hit':(s.heap.update it (gb (·.setIfInBounds 1 (pR ((i:Int)+1))))).IsKeyIter it d (i+1) n ep:=
  ⟨_,gf _ ho (mG (jI hd _)),(TN ..).trans hc,by rw[jI hd];simp[pR]⟩
 refine aI (iy ?_);refine aI (T4 (s:={s with heap:=s.heap.update it (gb (·.setIfInBounds 1 (pR ((i:Int)+1))))}) hit'.typeIs ?_);show bF _ _ (pure es[i].key) _ _ _;rw[hen];exact aa (aa ⟨_,rfl,aa (hQ _ hit' (rF ..))⟩)
theorem EN{Q:aE->aO->Prop}(hh:A.handled=none)(hit:s.heap.IsKeyIter it d i n ep)(hod:s.heap.get? d=some od)(hdd:od.data=.dict es ep)
  (hsz:es.size=n) (hge:n<=i) (hX:∀h' e,L5 it s.heap h'->(∃o,h'.get? e=some o/\o.cls=.type "StopIteration")->E (.ref e) {s with heap:=h'}):bF (model prog w) A (ik (.ref it)) Q E s:=by
 obtain⟨o,ho,hc,hd⟩:=id hit;rw[ik];refine aI (vH (name:=oM "__next__") hit.typeIs dk (vJ dk hit.typeIs nB ?_ (mW _)));refine aI (aa ?_);refine aI ?_;refine aI ?_
 first|refine aI (e9 hit.typeIs (aa ?_))|refine aI (gK hit.typeIs (aa ?_))
 refine aI (LQ ho hd ?_);have hown:kN "dict_keyiterator"=false:=by decide
 simp only[hown,cS,if_false];show bF _ _ (if(b5 d==f7)=true then _ else _) _ _ s;rw[iN (show ¬((b5 d==f7)=true)from bD)];refine aI (aa ?_);refine aI (sQ hod hdd ?_);rw[iN (by rw[hsz];simp)];refine aI (aa ?_);refine aI (xN hod hdd ?_);rw[iN (by simp)];refine aa ?_;have hge':es.size<=i:=by rw[hsz];exact hge
 simp only[show ¬((i:Int)<0)from by omega,if_false,gL,rh hge'];refine aI ?_
 first|refine aI (e9 hit.typeIs (aa ?_))|refine aI (gK hit.typeIs (aa ?_))
 show bF _ _ (setField (.ref it) 0 .none >>=_) _ _ s;refine aI (rB ho hd (by simp) ?_);show bF _ _ (newExc (.type "StopIteration") [] >>=_) _ _ _;refine aI ?_;simp only[newExc,newTuple];refine aI (ig ?_ (by size_fits));refine aI (m:=firstArgMember _ _) (VL (a:=f7) (by first|rfl|(simp only[firstArgMember];rfl)) ?_);refine ig ?_ (by size_fits);simp only[raiseNew];refine aI (wpAny_handled ?_);rw[show A.in1.handled=none from hh];refine aI (aa (wpAny_throw ?_));exact hX _ _ (((rF ..).extBut.push _).push _) ⟨_,bJ _ rfl,rfl⟩
theorem CU(hh:A.handled=none)(hdd:od.data=.dict es ep)(hsz:es.size=n)(hne:d≠it):
  Draws prog w A it [it,d] n (λi x=>∃en,es[i]?=some en/\x=en.key) (λi h=>h.IsKeyIter it d i n ep/\h.get? d=some od) where
 live:=λi h st=>by obtain⟨⟨o,ho,_⟩,_⟩:=st;exact⟨o,ho⟩
 frame:=λi h h' st k=>⟨st.1.at λo q=>k it (by simp) o q,k d (by simp) _ st.2⟩
 item:=λi s Q E hi st k=>by have hx:es[i]?=some es[i]:=EZ (by omega);exact Kf st.1 st.2 hdd hsz hx λh' q sb=>k _ h' s.toks ⟨_,hx,rfl⟩ ⟨q,(sb.2 d hne).trans st.2⟩ sb
 done:=λs Q E st k=>EN hh st.1 st.2 hdd hsz (a9 _) k
abbrev IZ(d:aF)(n ep:Nat):Obj:={cls:=.type "dict_keyiterator",data:=.fields #[.ref d,.int 0 0,.int n 0,.int ep 0]}
abbrev KP(it:aF):Obj:={cls:=.type "enumerate",data:=.fields #[.none,.bool false,.ref it,pR 0,.none,.none]}
theorem Ig(d:aF)(o:Obj)(es:Array ei)(ep:Nat)(hd:(d==gD)=false)(hc:o.ExactDict)(hdat:o.data=.dict es ep):
  Meets (Builtin.«enumerate.__new__» ⟨[.type "enumerate",.ref d],[]⟩) (λ_ R s=>s.heap.get? d=some o/\ R (.ok (.ret (.ref (s.heap.push (IZ d es.size ep)).objs.size))) {s with heap:=(s.heap.push (IZ d es.size ep)).push (KP s.heap.objs.size)}):=
 .of_wp λprog w A R s h=>by
  obtain⟨h0,g0,d0,t0,o0⟩:=s;obtain⟨hl,h⟩:=h;have self:=sub_enumerate
  wp_walk
  refine aAg λacts=>aa ?_;split
  ·rename_i who _ _ _ _ _;cases who==kW "enumerate"
   ·wp_walk using ui hd hl hc hdat
    exact⟨_,rfl,h⟩
   ·wp_walk using ui hd hl hc hdat
    exact⟨_,rfl,h⟩
  ·wp_walk using ui hd hl hc hdat
   exact⟨_,rfl,h⟩
theorem KA{Q:aE->aO->Prop}(hd:(d==gD)=false)(hl:s.heap.get? d=some o)(hc:o.ExactDict)(hdat:o.data=.dict es ep)
  (h:∀h',Jm h' (s.heap.objs.size+1) s.heap.objs.size 0 .none->h'.IsKeyIter s.heap.objs.size d 0 es.size ep->h'.objs.size=s.heap.objs.size+2->(∀b o,s.heap.get? b=some o->h'.get? b=some o)->Q (.ref (s.heap.objs.size+1)) {s with heap:=h'}):
  bF (model prog w) A (call (.type "enumerate") [.ref d]) Q E s:=by
 refine callType_new F.called_enumerate (by decide) (F.typeCall_enumerate_1 _) (F.newCall_enumerate_1 _) (λobj=>F.args_object_init_2 obj _) F.entry_enumerate_new (Ig d o es ep hd hc hdat) ⟨hl,?_⟩;have hz:(s.heap.push (IZ d es.size ep)).objs.size=s.heap.objs.size+1:=cb ..;show _/\_;rw[hz];have he:Jm ((s.heap.push (IZ d es.size ep)).push (KP s.heap.objs.size)) (s.heap.objs.size+1) s.heap.objs.size 0 .none:=by have y:=bJ (s.heap.push (IZ d es.size ep)) (o:=KP s.heap.objs.size) rfl;rw[hz]at y;exact y
 exact⟨⟨_,he,rfl⟩,h _ he ⟨_,aY _ (bJ _ rfl),rfl,rfl⟩ (by rw[cb,hz]) λb o x=>aY _ (aY _ x)⟩
end
def YE(d:aF)(o:Obj)(kvs:List (Key×V)):It:=
 ⟨λi H=>H d=some (.k9 o (.dK kvs))/\i<kvs.length,λi H x H'=>∃T k v,kvs[i]?=some (k,v)/\x=.ref T/\H T=none/\H'=aCc H T (.tup [.int (i:Nat),kV k]),λi H=>H d=some (.k9 o (.dK kvs))/\kvs.length=i⟩
theorem LM{P:bK}{w:bu}{K:aU}{elts:List cQ}{kk:Nat}{tpos:Pos}{d:aF}{kvs:List (Key×V)}(e it:aF)(hod:o.data=.dict es ep):
  Turn P w K (.Tuple elts kk tpos) (YE d o kvs) [e,it] e (λi h=>(∃old,Jm h e it ((i:Nat):Int) old)/\h.IsKeyIter it d i kvs.length ep/\e≠it) where
 mem:=by simp
 obj:=λi h st b hb=>by
  obtain⟨⟨old,he⟩,⟨oi,ho,hc,hd⟩,_⟩:=st;have e':b=e\/b=it:=by simpa using hb
  rcases e' with z|z
  ·rw[z];exact⟨_,he,λv q=>nomatch q⟩
  ·rw[z];exact⟨oi,ho,λv q=>by rw[hd]at q;cases q⟩
 keep:=λi h h' st k=>let ⟨⟨old,he⟩,hi,hne⟩:=st;⟨⟨old,k e (by simp) _ he⟩,hi.at λo q=>k it (by simp) o q,hne⟩
 item:=by
  intro X hP hw hK hc i pins s σ H E I hf st hg;subst hP hw hK;obtain⟨⟨old,he⟩,hit,hne⟩:=st;obtain⟨hd,hi⟩:=hg;obtain⟨hs,hgd,hx,es',ep',vs,hdt,hsz,kv,hm⟩:=I.NV hd;obtain⟨rfl,rfl⟩:=yF hod hdt;obtain⟨⟨k,v⟩,hkv⟩:∃p,kvs[i]?=some p:=⟨kvs[i],aX hi⟩;have hdi:d≠it:=by intro z;obtain⟨oi,ho,hci,hdi⟩:=id hit;rw[<-z,hgd]at ho;cases ho;rw[hdi]at hdt;cases hdt
  have hde:e≠d:=by intro z;have he:s.heap.get? e=_:=he;rw[z,hgd]at he;cases he;cases hdt
  have hel:e<s.heap.objs.size:=bC he;have hil:it<s.heap.objs.size:=by obtain⟨_,q,_⟩:=hit;exact bC q
  refine Og (CU (A:=X.A.in1) (I.ok.hd hc) hdt hsz hdi) he ⟨hit,hgd⟩ hi hne (by simp[hne,hde]) λx h' tk hP' ho hit' hT hsz' hk=>?_;obtain⟨en,hen,rfl⟩:=hP';have hkey:aCg (kV k) en.key:=by
   obtain⟨u,hu,_⟩:=QZ kv hkv;obtain⟨o2,es2,g1,_,g3,_,g5,_⟩:=id hm;rw[hgd]at g1;cases g1;obtain⟨rfl,_⟩:=yF hdt g3;have hen':es2.toList[i]?=some en:=by simpa using hen
   exact JE (show yU k en.key=true from(g5.get? hen' hu).1)
  refine⟨_,rfl,LR (s:={s with heap:=h',toks:=tk+1}) ho λh'' he' sb=>?_⟩;have hT2:h''.get? s.heap.objs.size=some {cls:=.type "tuple",data:=.seq #[.int i tk,en.key]}:=(sb.2 _ (si hel)).trans hT;have new:gB X.prog X.w (aCc H s.heap.objs.size (.tup [.int (i:Nat),kV k])) h'' s.heap.objs.size (.tup [.int (i:Nat),kV k]):=
   ⟨by show 2<=aj;decide,[.int i tk,en.key],.cons ⟨_,rfl⟩ (.cons hkey .nil),⟨_,hT2,rfl,_,rfl⟩⟩
  have I1:aCd X pins σ (aCc H s.heap.objs.size (.tup [.int (i:Nat),kV k])) {s with heap:=h'',toks:=tk+1}:=
   I.zo (ch:=[e,it]) (λb ob hb q=>(sb.2 b (λz=>hb (by simp[z]))).trans (hk b ob (λz=>hb (by simp[z])) (λz=>hb (by simp[z])) q)) hf (a9 _) new
  refine⟨.ref s.heap.objs.size,_,I1,rfl,⟨_,k,v,hkv,rfl,I.fC.fresh (a9 _),rfl⟩,⟨⟨en.key,?_⟩,hit'.1.at λo q=>(sb.2 it (j7 hne)).trans q,hne⟩,λb hb=>?_⟩
  ·have e1:((i+1:Nat):Int)=(i:Int)+1:=by omega
   rw[e1];exact he'
  ·have hb':b<s.heap.objs.size:=by
    have e':b=e\/b=it:=by simpa using hb
    rcases e' with z|z
    ·rw[z];exact hel
    ·rw[z];exact hil
   rw[aJ (cO hb')];exact(hf b hb).1
 done:=by
  intro X hP hw hK hc i pins s σ H E I hf st hg;subst hP hw hK;obtain⟨⟨old,he⟩,hit,hne⟩:=st;obtain⟨hd,hi⟩:=hg;obtain⟨hs,hgd,hx,es',ep',vs,hdt,hsz,kv,hm⟩:=I.NV hd;obtain⟨rfl,rfl⟩:=yF hod hdt;obtain⟨f0,f1,f2,f3,f4,f5⟩:=hf it (by simp);have hdi:d≠it:=by intro z;obtain⟨oi,ho,hci,hdi⟩:=id hit;rw[<-z,hgd]at ho;cases ho;rw[hdi]at hdt;cases hdt
  subst hi;exact Sw (CU (A:=X.A.in1) (I.ok.hd hc) hdt hsz hdi) he ⟨hit,hgd⟩ λh' eb=>⟨rfl,I.turned (t':=s.toks) (λb o hb q=>eb b o hb q) f0 f1 f3 f4 f5⟩
 self:=λA i s Q E st h=>let ⟨⟨_,he⟩,_⟩:=st;sR he h
inductive aC6(R:(It->Hp->Prop))(vs:List V)(H1:Hp):Prop
 |mk:∀d o kvs,vs=[.ref d]->H1 d=some (.k9 o (.dK kvs))->R (YE d o kvs) H1->aC6 R vs H1
def W2(td:TA):TI:=λσ H R=>td σ H (aC6 R)
theorem RV{p pos tpos:Pos}{elts:List cQ}{kk:Nat}(hg:Gl X "enumerate")(hm:X.mg "enumerate"=none)(ha:PA X [e] ta)(hs:b4 [e] X.env=[(false,eval e X.env)]:=by rfl):
  PI X (.Tuple elts kk tpos) (.Call (.Name "enumerate" p) [e] [] pos) (W2 ta):=by
 intro pins s σ H R I h;refine Call_ (z6 I hg hm aA3 (il (fT (ha pos pins s σ H _ I h) λus s1 ⟨vs,H1,I1,r1,q1⟩=>?_) hs rfl));obtain⟨d,o,kvs,ex,hd,q⟩:=q1;subst ex;cases r1 with
 |cons r rr=>
  cases rr;cases r;obtain⟨hs,hgd,hx,es,ep,vs,hdt,hsz,kv,hm⟩:=I1.NV hd;refine KA hs hgd hx hdt λh' he hit hsz' hk=>sR he ?_;have I2:aCd X pins σ H1 {s1 with heap:=h'}:=I1.kept (t':=s1.toks) hk;rw[hsz]at hit;refine⟨s1.heap.objs.size+1,[s1.heap.objs.size+1,s1.heap.objs.size],_,_,H1,rfl,I2,LM (s1.heap.objs.size+1) s1.heap.objs.size hdt,⟨⟨.none,he⟩,hit,T9 _⟩,λb hb=>?_,q⟩;have e':b=s1.heap.objs.size+1\/b=s1.heap.objs.size:=by simpa using hb
  have hle:s1.heap.objs.size<=b:=by
   rcases e' with z|z
   ·rw[z];exact jv _ _
   ·rw[z];exact a9 _
  exact I1.NU hle (I1.fC.fresh hle)
end L2
open L2
namespace Rv
def top(i:Nat):Stmt:=Vv.main.body.getD i (.Pass ⟨0,0,0,0⟩)
def bH(l:List Nat):Str:=⟨l.toArray⟩
theorem bM(l:List Nat):(bH l).length=l.length:=by simp[bH,Ov]
theorem jZ(l:List Nat):(bH l).cps.toList=l:=by simp[bH]
theorem ki(h:bH a=bH b):a=b:=by
 have:=congrArg (λs:Str=>s.cps.toList) h
 simpa[bH]using this
theorem d9(a b:List Nat):bH a++bH b=bH (a++b):=by show aAu _ _=_;simp[aAu,bH]
theorem sl(h:n<=100000):n<=aj:=by rw[ic];omega
theorem pG(h:n<=100000):n<aj:=by rw[ic];omega
theorem kh:1<=aj:=by decide
theorem yh:2<=aj:=by decide
theorem aBq:3<=aj:=by decide
theorem iw(h:a≠b):a∉[b]:=by rw[aQ];exact h
theorem eE{α:Type}{l:List α}{i:Nat}{c:α}(h:l[i]?=some c):TV l (i:Int)=some c:=Ts h
structure Cn where
 P:bK
 w:bu
 K:aU
 mg:Str->Option aE
 base:c9
 R:aF
 CT:aF
 CP:aF
 CR:aF
 CS:aF
 CB:aF
 CL:aF
 CC:aF
 CD:aF
 JO:aF
 KW:aF
 WY:aF
abbrev Cn.ok(c:Cn)(k:Nat)(f:aF)(fd:gN)(ps:List Str)(sp:Sp):Prop:=sZ c.P c.w c.K c.mg c.base (xQ c.P c.w) k f fd ps sp
inductive i7(c:Cn)(x:Str)(k:Nat)(ps:List Str)(sp:Sp):Prop
 |mk:∀f fd,c.mg x=some (.ref f)->g8 c.K (.ref f)=true->aCl c.K fd ps []->c.ok k f fd ps sp->i7 c x k ps sp
inductive ux(c:Cn)(C:aF)(m:Str)(k:Nat)(ps:List Str)(sp:Sp):Prop
 |mk:∀f fd,Meth c.K C m f->aCl c.K fd ps []->c.ok k f fd ps sp->ux c C m k ps sp
inductive Bb(c:Cn)(x:Str)(C:aF)(k:Nat)(ps:List Str)(sp:Sp):Prop
 |mk:∀f fd,c.mg x=some (.ref C)->Mk c.K C f->aCl c.K fd ps []->c.ok k f fd ps sp->Bb c x C k ps sp
def GC(c:Cn)(x:Str)(v:V):Prop:=∃u,c.mg x=some u/\aCg v u
def i8(c:Cn)(x:Str)(i:Nat)(ps:List Str):Prop:=∃f fd,Gz c.K x x (top i) f fd/\c.mg x=some (.ref f)/\aCl c.K fd ps []
def Jq(c:Cn)(C:aF)(m q:Str)(i j:Nat)(ps:List Str):Prop:=∃f fd,Gz c.K m q (aCi (top i) j) f fd/\Meth c.K C m f/\aCl c.K fd ps []
def TM(c:Cn)(x:Str)(C:aF)(q:Str)(i:Nat)(ps:List Str):Prop:=∃f fd,Gz c.K "__init__" q (aCi (top i) 0) f fd/\c.mg x=some (.ref C)/\Mk c.K C f/\aCl c.K fd ps []
abbrev Cn.cx(c:Cn)(N:List Str)(q:Str)(st:Stmt)(f:aF)(cdv:aE)(A:cG)(outer:List Env)(s:aO)(H:Hp)(E:XK):Cx:=vE (xQ c.P c.w) c.P c.w c.K c.mg c.base N q (dS st) f cdv A outer s H E
abbrev Bd(c:Cn)(N:List Str)(q:Str)(st:Stmt)(k:Nat)(sp:Sp):Prop:=∀{f:aF}{cdv:aE}{A:cG}{outer:List Env}{s:aO}(H:Hp)(vs:List V)(Q:VK)(E:XK),N.Nodup->jS k (A.deeper (wZ q (dS st) s.heap.objs.size f cdv))->sp vs H Q E->
 ∃t,HG (c.cx N q st f cdv A outer s H E) (jM st) t/\t {nx:=λ_ H'=>Q .fB H',rt:=Q} (start N vs) H
section
variable{c:Cn}{x m q:Str}{C:aF}{i j k:Nat}{N ps:List Str}{sp:Sp}
theorem aDx{p A B:Prop}[Decidable p](h:p)(a:A):if decide p=true then A else B:=by rw[iP (dE h)];exact a
theorem aDw{p A B:Prop}[Decidable p](h:¬p)(b:B):if decide p=true then A else B:=by rw[iN (by rw[dF h];exact bD)];exact b
theorem i8.gG(D:i8 c x i ps)(b:Bd c N x (top i) k sp)(len:∀vs H Q E,sp vs H Q E->vs.length=ps.length:=by intro vs _ _ _ h;cases h;rename vs=_=>e;subst e;rfl)(S:kD N ps (dS (top i)):=by exact⟨rfl,rfl,rfl,by trivial,rfl,by trivial,by trivial⟩):i7 c x (k+1) ps sp:=by obtain⟨f,fd,F,a,bd⟩:=D;exact⟨f,fd,a,F.kp,bd,F.Yu S len λcdv A outer s H vs Q E hr h=>b H vs Q E S.nd hr h⟩
theorem Jq.gG(D:Jq c C m q i j ps)(b:Bd c N q (aCi (top i) j) k sp)(len:∀vs H Q E,sp vs H Q E->vs.length=ps.length:=by intro vs _ _ _ h;cases h;rename vs=_=>e;subst e;rfl)(S:kD N ps (dS (aCi (top i) j)):=by exact⟨rfl,rfl,rfl,by trivial,rfl,by trivial,by trivial⟩):ux c C m (k+1) ps sp:=by obtain⟨f,fd,F,a,bd⟩:=D;exact⟨f,fd,a,bd,F.Yu S len λcdv A outer s H vs Q E hr h=>b H vs Q E S.nd hr h⟩
theorem TM.gG(D:TM c x C q i ps)(b:Bd c N q (aCi (top i) 0) k sp)(len:∀vs H Q E,sp vs H Q E->vs.length=ps.length:=by intro vs _ _ _ h;cases h;rename vs=_=>e;subst e;rfl)(S:kD N ps (dS (aCi (top i) 0)):=by exact⟨rfl,rfl,rfl,by trivial,rfl,by trivial,by trivial⟩):Bb c x C (k+2) ps sp:=by obtain⟨f,fd,F,a,mk,bd⟩:=D;exact⟨f,fd,a,mk,bd,(F.Yu S len λcdv A outer s H vs Q E hr h=>b H vs Q E S.nd hr h).mono (Dp _)⟩
end
def OJ(sp:Sp)(E:XK)(t:TA):TE:=λσ H Q=>t σ H λvs H1=>sp vs H1 Q E
inductive aDe(C:aF)(m:Str)(sp:Sp)(E:XK)(t:TA)(σ:L2.St)(Q:VK)(x:V)(H1:Hp):Prop
 |mk:∀a dx fs,x=.ref a->H1 a=some (.ins C dx fs)->fs.lookup m=none->(t σ H1 λvs H2=>sp (x::vs) H2 Q E)->aDe C m sp E t σ Q x H1
def M9(C:aF)(m:Str)(sp:Sp)(E:XK)(ta:TE)(t:TA):TE:=λσ H Q=>ta σ H (aDe C m sp E t σ Q)
def Vf(C:aF)(sp:Sp)(E:XK)(t:TA):TE:=λσ H Q=>t σ H λvs H1=>∀x dx,H1 x=none->H1 dx=none->dx≠x->
 sp (.ref x::vs) (aCc (aCc H1 dx (.own x)) x (.ins C dx [])) (λv H2=>v=.fB/\Q (.ref x) H2) E
section
variable{X:Cx}{c:Cn}{k j:Nat}{C:aF}{ps:List Str}{sp:Sp}{E:XK}{x m:Str}{p pos apos:Pos}{e o:cQ}{es:List cQ}{ta:TE}{t:TA}{v:V}
structure In(c:Cn)(X:Cx):Prop where
 P:X.prog=c.P
 w:X.w=c.w
 K:X.K=c.K
 mg:X.mg=c.mg
 base:X.base=c.base
theorem b9(h:GC c x v)(hi:In c X:=by exact⟨rfl,rfl,rfl,rfl,rfl⟩)(hg:Gl X x:=by rfl)(hd:(x==("__debug__":Str))=false:=by decide):PE X (.Name x pos) (tC v):=by obtain⟨u,a,r⟩:=h;exact U2 hg (by rw[hi.mg];exact a) r hd
theorem In.fn(hi:In c X)(F:c.ok k f fd ps sp):sZ X.prog X.w X.K X.mg X.base (xQ X.prog X.w) k f fd ps sp:=by rw[hi.P,hi.w,hi.K,hi.mg,hi.base];exact F
theorem az(h:i7 c x k ps sp)(hr:jS j X.A)(hx:aCm (xQ X.prog X.w) X E)(ha:PA X (e::es) t)(hk:k<=j:=by decide)(hi:In c X:=by exact⟨rfl,rfl,rfl,rfl,rfl⟩)(hg:Gl X x:=by rfl)(hdb:(x==("__debug__":Str))=false:=by decide)
  (he:b4 (e::es) X.env=(false,eval e X.env)::b4 es X.env:=by rfl) (hpl:(iT pos (b4 es X.env)).any (·.1)=false:=by rfl):PE X (.Call (.Name x p) (e::es) [] pos) (OJ sp E t):=by
 obtain⟨f,fd,a,kp,b,F⟩:=h;intro pins s σ H Q I h;refine iI (ke I hg (by rw[hi.mg];exact a) ?_ hdb);refine iq (h₀:=X.base) I.ok.mod.V3 (by rw[hi.K];exact kp) (fT (ha pos pins s σ H _ I h) λus s1 ⟨vs,H1,I1,r,q⟩=>⟨I1.vz,?_⟩) he hpl;exact DS (dvs:=[]) (ds:=[]) ((hi.fn F).mono hk) hr (by rw[hi.K];exact b) .nil hx I1 r (by rw[bg];exact q)
theorem cg{pl:Sem Bool}(h:ux c C m k ps sp)(cl:Fe c.K C)(ho:PE X o ta)(hr:jS j X.A)(hx:aCm (xQ X.prog X.w) X E)(ha:PA X (e::es) t)(hk:k<=j:=by decide)(hi:In c X:=by exact⟨rfl,rfl,rfl,rfl,rfl⟩)
  (hst:b4 (e::es) X.env=(false,eval e X.env)::b4 es X.env:=by rfl) (hpl:(iT pos (b4 es X.env)).any (·.1)=false:=by rfl)
  (ht:eval (.Call (.Attribute o m apos) (e::es) [] pos) X.env=(do
   let ov <-eval o X.env
   Ag apos.atName
   let (f,first) <-A2 [ov] (A1 ov m pl)
   callWith pos f first (iT pos (b4 (e::es) X.env)) (oO pos (jQ [] X.env))):=by rfl):
  PE X (.Call (.Attribute o m apos) (e::es) [] pos) (M9 C m sp E ta t):=by
 obtain⟨f,fd,M,b,F⟩:=h;rw[<-hi.K]at cl M b;intro pins s σ H Q I h;refine sA (pl:=pl) (fT (ho pins s σ H _ I h) λu s1 ⟨x,H1,I1,rx,a,dx,fs,ex,ea,l,q⟩=>?_) ht;subst ex;obtain rfl:u=b5 a:=rx;refine Cc I1 ea cl M l ?_;refine iq (first:=[.ref a]) (h₀:=X.base) I.ok.mod.V3 M.kp (fT (ha pos pins s1 σ H1 _ I1 q) λus s2 ⟨vs,H2,I2,r,q2⟩=>⟨I2.vz,?_⟩) hst hpl;exact DS (us:=.ref a::us) (vs:=.ref a::vs) (dvs:=[]) (ds:=[]) ((hi.fn F).mono hk) hr b .nil hx I2 (.cons rfl r) (by rw[bg];exact q2)
theorem dI{pl:Sem Bool}(h:ux c C m k ps sp)(cl:Fe c.K C)(ho:PE X o ta)(hr:jS j X.A)(hx:aCm (xQ X.prog X.w) X E)(hk:k<=j:=by decide)(hi:In c X:=by exact⟨rfl,rfl,rfl,rfl,rfl⟩)
  (ht:eval (.Call (.Attribute o m apos) [] [] pos) X.env=(do
   let ov <-eval o X.env
   Ag apos.atName
   let (f,first) <-A2 [ov] (A1 ov m pl)
   callWith pos f first (iT pos (b4 [] X.env)) (oO pos (jQ [] X.env))):=by rfl):
  PE X (.Call (.Attribute o m apos) [] [] pos) (M9 C m sp E ta oA):=by
 obtain⟨f,fd,M,b,F⟩:=h;rw[<-hi.K]at cl M b;intro pins s σ H Q I h;refine sA (pl:=pl) (fT (ho pins s σ H _ I h) λu s1 ⟨x,H1,I1,rx,a,dx,fs,ex,ea,l,q⟩=>?_) ht;subst ex;obtain rfl:u=b5 a:=rx;refine Cc I1 ea cl M l ?_;exact uz (first:=[.ref a]) I1.vz M.kp (DS (us:=[.ref a]) (vs:=[.ref a]) (dvs:=[]) (ds:=[]) ((hi.fn F).mono hk) hr b .nil hx I1 (.cons rfl .nil) q)
theorem gy(h:Bb c x C k ps sp)(hr:jS j X.A)(hx:aCm (xQ X.prog X.w) X E)(ha:PA X (e::es) t)(hk:k+1<=j:=by decide)(hi:In c X:=by exact⟨rfl,rfl,rfl,rfl,rfl⟩)(hg:Gl X x:=by rfl)(hdb:(x==("__debug__":Str))=false:=by decide)
  (he:b4 (e::es) X.env=(false,eval e X.env)::b4 es X.env:=by rfl) (hpl:(iT pos (b4 es X.env)).any (·.1)=false:=by rfl):PE X (.Call (.Name x p) (e::es) [] pos) (Vf C sp E t):=by
 obtain⟨f,fd,a,M,b,F⟩:=h;rw[<-hi.K]at M b;intro pins s σ H Q I h;refine iI (ke I hg (by rw[hi.mg];exact a) ?_ hdb);refine iq (h₀:=X.base) I.ok.mod.V3 M.kp (fT (ha pos pins s σ H _ I h) λus s1 ⟨vs,H1,I1,r,q⟩=>⟨I1.vz,?_⟩) he hpl;exact JH (dvs:=[]) (ds:=[]) M (hi.fn F) (hr.mono hk) b .nil hx I1 r (by rw[bg];exact q)
theorem DG(h:Bb c x C k ps sp)(hr:jS j X.A)(hx:aCm (xQ X.prog X.w) X E)(hk:k+1<=j:=by decide)(hi:In c X:=by exact⟨rfl,rfl,rfl,rfl,rfl⟩)(hg:Gl X x:=by rfl)(hdb:(x==("__debug__":Str))=false:=by decide):
  PE X (.Call (.Name x p) [] [] pos) (Vf C sp E oA):=by
 obtain⟨f,fd,a,M,b,F⟩:=h;rw[<-hi.K]at M b;intro pins s σ H Q I h;refine iI (ke I hg (by rw[hi.mg];exact a) ?_ hdb);exact uz I.vz M.kp (JH (us:=[]) (vs:=[]) (dvs:=[]) (ds:=[]) M (hi.fn F) (hr.mono hk) b .nil hx I .nil h)
end
def nf(k p:Int):List (Str×V):=[("number",.int k),("place",.int p)]
theorem FI:(nf k p).lookup ("number":Str)=some (.int k):=by unfold nf;rw[cT,show(("number":Str)=="number")=true from by trivial]
theorem RD:(nf k p).lookup ("place":Str)=some (.int p):=by unfold nf;rw[cT,show(("place":Str)=="number")=false from by trivial,cT,show(("place":Str)=="place")=true from by trivial]
theorem Wd:jP "place" (.int p) [("number",.int k)]=nf k p:=by unfold jP jP;rw[iN (show ¬("number":Str)="place" by trivial)];rfl
structure Xl(c:Cn)(C:aF):Prop where
 cl:Xr c.K C
 n1:dN c.K C "number"
 n2:dN c.K C "place"
 sub:lQ c.K C (.ref c.R)=some true
def Kp(M:List aF)(H H':Hp):Prop:=∀b o,H b=some o->b∉M->H' b=some o
theorem Kp.refl(M:List aF)(H:Hp):Kp M H H:=λ_ _ h _=>h
theorem Kp.trans(a:Kp M H H1)(b:Kp M H1 H2):Kp M H H2:=λc o h n=>b c o (a c o h n) n
theorem Kp.of(h:bA H H'):Kp M H H':=λb o e _=>h b o e
theorem Kp.same(h:Kp [] H H'):bA H H':=λb o e=>h b o e (by simp)
theorem Kp.mono(h:Kp M H H')(hm:∀b∈M,b∈M'):Kp M' H H':=λb o e n=>h b o e λz=>n (hm b z)
theorem Kp.new(h:H a=none):Kp M H (aCc H a o):=λb u e _=>by rw[aJ (aK e h)];exact e
theorem Kp.put(h:a∈M):Kp M H (aCc H a o):=λb u e n=>by rw[aJ (λz=>n (by rw[z];exact h))];exact e
def Rz(c:Cn)(E:XK)(M:List aF)(H:Hp)(k p:Int):Prop:=∀C dx H',Xl c C->H' dx=some (.xd (nf k p))->Kp M H H'->E (.ref C) (some dx) H'
theorem Rz.step{E:XK}(h:Rz c E M H k p)(kp:Kp M H H1):Rz c E M H1 k p:=λC dx H' r e q=>h C dx H' r e (kp.trans q)
theorem Rz.less{E:XK}(h:Rz c E M' H k p)(hm:∀b∈M,b∈M'):Rz c E M H k p:=λC dx H' r e q=>h C dx H' r e (q.mono hm)
inductive aDv(c:Cn)(M:List aF)(H:Hp)(k p:Int)(v:aE)(d:Option aF)(H':Hp):Prop
 |mk:∀C dx,v=.ref C->d=some dx->Xl c C->H' dx=some (.xd (nf k p))->Kp M H H'->aDv c M H k p v d H'
inductive DZ(c:Cn)(args:List V->Int->Int->Prop)(vs:List V)(H:Hp)(Q:VK)(E_:XK):Prop
 |mk:∀a C tb k p r,vs=.ref a::r->args r k p->H a=some (XO a C none tb)->Xr c.K C->dN c.K C "number"->dN c.K C "place"->(∀d H',H d=none->d≠a->H' a=some (XO a C (some d) tb)->H' d=some (.xd (nf k p))->Kp [a] H H'->Q .fB H')->DZ c args vs H Q E_
def kz(c:Cn):Prop:=∃fR fdR,Gz c.K "__init__" "Refusal.__init__" (aCi (top 1) 0) fR fdR/\c.mg "Refusal"=some (.ref c.R)/\aCl c.K fdR ["self","number","place"] []/\
 Lf c.K (.ref c.R) "__getattribute__"=some (some (.builtin "type.__getattribute__"))/\O7 c.K c.R (.type "type")=true/\O5 c.K (.ref c.R) (.type "type") "__init__"=some (.val (.ref fR))/\
 Bl c.K (.ref c.R) (.type "tuple")=some false/\(lP c.K c.R).isSome=true/\lQ c.K c.R (.type "BaseException")=some true
def vL(c:Cn)(x q:Str)(i:Nat)(ps:List Str):Prop:=∃C f fd,Gz c.K "__init__" q (aCi (top i) 0) f fd/\WE c.K C f/\c.mg x=some (.ref C)/\Xl c C/\aCl c.K fd ps []
def jm(c:Cn)(x:Str)(args:List V->Int->Int->Prop):Prop:=∃C f fd ps,WE c.K C f/\c.mg x=some (.ref C)/\Xl c C/\aCl c.K fd ps []/\c.ok 2 f fd ps (DZ c args)
section
variable{c:Cn}
abbrev yi:Stmt:=aCi (top 1) 0
theorem ER:kD ["self","number","place"] ["self","number","place"] (dS yi):=⟨rfl,rfl,rfl,by trivial,rfl,by trivial,by trivial⟩
theorem BL(F:Gz c.K "__init__" "Refusal.__init__" yi f fd):c.ok 1 f fd ["self","number","place"] (DZ c λr k p=>r=[.int k,.int p]):=by
 refine F.ok0 ER (λ_ _ _ _ h=>by obtain⟨a,C,tb,k,p,r,rfl,rfl,_⟩:=h;rfl) (λcdv A outer s H vs Q E hr h=>?_);obtain⟨a,C,tb,k,p,r,rfl,rfl,ha,cl,n1,n2,q⟩:=h;refine⟨_,aD (Wr (pv 0) (pv 1) rfl) (aL (Wu (pv 0) (pv 2) rfl)),?_⟩;refine⟨_,rfl,_,rfl,a,C,tb,rfl,ha,cl,n1,λd hd nd=>?_⟩;have na:(aCc (aCc H d (.xd [("number",.int k)])) a (XO a C (some d) tb)) d=some (.xd [("number",.int k)]):=by rw[aJ nd,aC]
 refine⟨_,rfl,_,rfl,a,C,d,tb,_,rfl,aC,na,by show 1<1000;decide,cl,n2,?_⟩;refine q d _ hd nd (by rw[aJ nd.symm,aC]) (by rw[aC,Wd]) λb o e nb=>?_;rw[aJ (aK e hd),aJ (λz=>nb (by simp[z])),aJ (aK e hd)];exact e
def RI(c:Cn)(X:Cx):Prop:=∀{p apos pos:Pos}{e:cQ}{es:List cQ}{t:TA}{pl:Sem Bool},Gl X "Refusal"->PA X (e::es) t->b4 (e::es) X.env=(false,eval e X.env)::b4 es X.env->(iT pos (b4 es X.env)).any (·.1)=false->(eval (.Call (.Attribute (.Name "Refusal" p) "__init__" apos) (e::es) [] pos) X.env=(do let ov <-eval (.Name "Refusal" p) X.env;Ag apos.atName;let (f,first) <-A2 [ov] (A1 ov "__init__" pl);callWith pos f first (iT pos (b4 (e::es) X.env)) (oO pos (jQ [] X.env))))->
 PE X (.Call (.Attribute (.Name "Refusal" p) "__init__" apos) (e::es) [] pos) (S7 (DZ c λr k p=>r=[.int k,.int p]) [] E0 t)
abbrev cxE(c:Cn)(N:List Str)(q:Str)(i:Nat)(f:aF)(cdv:aE)(A:cG)(outer:List Env)(s:aO)(H:Hp)(E:XK):Cx:=(vE (xQ c.P c.w) c.P c.w c.K c.mg c.base N q (dS (aCi (top i) 0)) f cdv A outer s H E).Yt
def Vo(c:Cn)(N:List Str)(q:Str)(i:Nat)(t:TA):Prop:=∀f cdv A outer s H E,RI c (cxE c N q i f cdv A outer s H E)->HG (cxE c N q i f cdv A outer s H E) (jM (aCi (top i) 0)) (Ah (S7 (DZ c λr k p=>r=[.int k,.int p]) [] E0 t))
theorem QB{t:TA}(B:kz c)(D:vL c x q i N)(S:kD N N (dS (aCi (top i) 0)))(hl:∀r n p,args r n p->r.length+1=N.length)
  (ht:∀a r n p H Q,args r n p->Q [.ref a,.int n,.int p] H->t (start N (.ref a::r)) H Q) (der:Vo c N q i t):jm c x args:=by
 obtain⟨C,f,fd,F,mk,at_,rf,bd⟩:=D;obtain⟨fR,fdR,FR,atR,bdR,ga,rd,fc,_⟩:=B;refine⟨C,f,fd,N,mk,at_,rf,bd,F.ok0 (N:=N) S (λvs H Q E h=>?_) (λcdv A outer s H vs Q E hr h=>?_)⟩
 ·obtain⟨a,C,tb,n,p,r,rfl,h,_⟩:=h;exact hl _ _ _ h
 ·obtain⟨a,C,tb,n,p,r,rfl,h,ha,cl,n1,n2,z⟩:=h;refine⟨_,der f cdv A outer s H E λg pa h1 h2 h3=>Yx g atR ga rd fc FR.kp (BL FR) hr bdR .nil DD pa (by decide) h1 h2 h3,?_⟩;exact ht a r n p H _ h ⟨a,C,tb,n,p,_,rfl,rfl,ha,cl,n1,n2,z⟩
theorem V1(B:kz c)(D:vL c x q i ["self","place"])(der:Vo c ["self","place"] q i (gT (g9 0) (gT (tC (.int n)) (gT (g9 1) oA))))(S:kD ["self","place"] ["self","place"] (dS (aCi (top i) 0)):=by exact⟨rfl,rfl,rfl,by trivial,rfl,by trivial,by trivial⟩):jm c x (λr m p=>r=[.int p]/\m=n):=
 QB B D S (λr m p h=>by rw[h.1];rfl) (λa r m p H Q h q=>by rw[h.1];rw[h.2]at q;exact⟨_,rfl,_,rfl,q⟩) der
theorem Xt(B:kz c)(D:vL c x q i ["self"])(der:Vo c ["self"] q i (gT (g9 0) (gT (tC (.int n)) (gT (tC (.int 0)) oA))))(S:kD ["self"] ["self"] (dS (aCi (top i) 0)):=by exact⟨rfl,rfl,rfl,by trivial,rfl,by trivial,by trivial⟩):jm c x (λr m p=>r=[]/\m=n/\p=0):=
 QB B D S (λr m p h=>by rw[h.1];rfl) (λa r m p H Q h q=>by rw[h.1];rw[h.2.1,h.2.2]at q;exact⟨_,rfl,q⟩) der
end
def aB5(c:Cn)(E:XK)(args:List V->Int->Int->Prop)(t:TA):TS:=λ_ σ H=>t σ H λvs H1=>vs.length<=10/\∃k p,args vs k p/\Rz c E [] H1 k p
section
variable{X:Cx}{c:Cn}{j:Nat}{E:XK}{x:Str}{np cpos pos:Pos}{e:cQ}{es:List cQ}{t:TA}{args:List V->Int->Int->Prop}
theorem Vb(rf:Xl c C)(ha:args r k p)(h:Rz c E [] H k p):
  ∀a,H a=none->DZ c args (.ref a::(r++[])) (aCc H a (XO a C none .none)) (λv H2=>v=.fB/\∃d,H2 a=some (XO a C (some d) .none)/\E (.ref C) (some d) (IG H2 a)) E0:=λa n=>by
 refine⟨a,C,.none,k,p,r++[],rfl,by rw[bg];exact ha,aC,rf.cl,rf.n1,rf.n2,λd H' hd nd e1 e2 kp=>⟨rfl,d,e1,h C d _ rf (by rw[yE nd];exact e2) λb o q _=>?_⟩⟩;have ba:b≠a:=aK q n;rw[yE ba];exact kp b o (by rw[aJ ba];exact q) (by simp[ba])
theorem pD(h:jm c x args)(hr:jS j X.A)(ha:PA X (e::es) t)(B:Body X:=by exact qY)(hR:Raises X E:=by exact M3)(hk:3<=j:=by decide)(hi:In c X:=by exact⟨rfl,rfl,rfl,rfl,rfl⟩)(hg:Gl X x:=by rfl)(hdb:(x==("__debug__":Str))=false:=by decide)
  (he:b4 (e::es) X.env=(false,eval e X.env)::b4 es X.env:=by rfl) (hpl:(iT cpos (b4 es X.env)).any (·.1)=false:=by rfl):
  PS X (.Raise (some (.Call (.Name x np) (e::es) [] cpos)) none pos) (aB5 c E args t):=by
 obtain⟨C,f,fd,ps,M,at_,rf,bd,F⟩:=h;rw[<-hi.K]at M bd;intro pins s σ H D I h;refine FU hr.hd (iI (ke I hg (by rw[hi.mg];exact at_) ?_ hdb));refine iq (h₀:=X.base) I.ok.mod.V3 M.kp (fT (ha cpos pins s σ H _ I h) λus s1 ⟨vs,H1,I1,r,z,k,p,q1,q2⟩=>⟨I1.vz,?_⟩) he hpl;exact JC (dvs:=[]) (ds:=[]) M (hi.fn F) (hr.mono hk) bd .nil DD B hR I1 r (sl (by omega)) (Vb rf q1 q2)
theorem zd(h:jm c x args)(hr:jS j X.A)(B:Body X:=by exact qY)(hR:Raises X E:=by exact M3)(hk:3<=j:=by decide)(hi:In c X:=by exact⟨rfl,rfl,rfl,rfl,rfl⟩)(hg:Gl X x:=by rfl)(hdb:(x==("__debug__":Str))=false:=by decide):
  PS X (.Raise (some (.Call (.Name x np) [] [] cpos)) none pos) (aB5 c E args oA):=by
 obtain⟨C,f,fd,ps,M,at_,rf,bd,F⟩:=h;rw[<-hi.K]at M bd;intro pins s σ H D I h;refine FU hr.hd (iI (ke I hg (by rw[hi.mg];exact at_) ?_ hdb));obtain⟨_,k,p,q1,q2⟩:=h;exact uz I.vz M.kp (JC (us:=[]) (vs:=[]) (dvs:=[]) (ds:=[]) M (hi.fn F) (hr.mono hk) bd .nil DD B hR I .nil (by show 0<=aj;exact bR _) (Vb rf q1 q2))
end
def x9(k:Int):Option Str:=if k=0 then some "call_rules" else if k=1 then some "call_fault" else if k=2 then some "call_show" else if k=3 then some "call_form" else if k=4 then some "call_same" else if k=5 then some "call_members" else if k=6 then some "call_matches" else if k=7 then some "call_begin"
 else if k=8 then some "call_edit" else if k=9 then some "call_approve" else if k=10 then some "call_veto" else if k=11 then some "call_withdraw" else if k=12 then some "call_status" else if k=13 then some "call_verdict" else if k=14 then some "call_missing" else if k=15 then some "call_told" else none
structure aCe(c:Cn):Prop where
 base:kz c
 gR:c.mg "len"=none
 Hf:c.mg "all"=none
 Oz:c.mg "any"=none
 Br:c.mg "list"=none
 VT:c.mg "max"=none
 PB:c.mg "int"=none
 VU:c.mg "str"=none
 PD:c.mg "ord"=none
 og:c.mg "enumerate"=none
 Lm:c.mg "range"=none
 VV:c.mg "zip"=none
 vi:vL c "TextTooLong" "TextTooLong.__init__" 2 ["self"]
 vf:vL c "CannotBeCut" "CannotBeCut.__init__" 3 ["self","place"]
 rX:vL c "TooManyLevels" "TooManyLevels.__init__" 4 ["self","place"]
 nU:vL c "CannotStandThere" "CannotStandThere.__init__" 5 ["self","place"]
 nV:vL c "ConditionTooDeep" "ConditionTooDeep.__init__" 6 ["self"]
 nW:vL c "NobodyHasTheName" "NobodyHasTheName.__init__" 7 ["self","place"]
 vh:vL c "NameIsTaken" "NameIsTaken.__init__" 8 ["self","place"]
 rV:vL c "TooFewInGroup" "TooFewInGroup.__init__" 9 ["self","place"]
 yH:vL c "NoRoomLeft" "NoRoomLeft.__init__" 10 ["self","place"]
 rT:vL c "SecondDefault" "SecondDefault.__init__" 11 ["self","place"]
 IJ:vL c "NoPath" "NoPath.__init__" 12 ["self"]
 CV:vL c "NoChange" "NoChange.__init__" 13 ["self"]
 vg:vL c "IsTheAuthor" "IsTheAuthor.__init__" 14 ["self"]
 AY:vL c "NoPattern" "NoPattern.__init__" 15 ["self"]
 rZ:GC c "SMALL_LETTERS" (.str "abcdefghijklmnopqrstuvwxyz")
 C8:GC c "DIGITS" (.str "0123456789")
 yQ:GC c "WORD_SIGNS" (.str "abcdefghijklmnopqrstuvwxyz0123456789_")
 yK:GC c "FILE_SIGNS" (.str "abcdefghijklmnopqrstuvwxyz0123456789_.-")
 rY:GC c "PATTERN_SIGNS" (.str "abcdefghijklmnopqrstuvwxyz0123456789_.-/*")
 vj:GC c "KNOWN_SIGNS" (.str "\n '(),;=abcdefghijklmnopqrstuvwxyz0123456789_.-/*")
 yO:GC c "OTHER_SIGN" (.str "?")
 En:i8 c "text_of" 24 ["codes"]
 CG:i8 c "codes_of" 25 ["text"]
 rN:i8 c "counted_codes" 26 ["text"]
 KZ:GC c "WORD" (.str "word")
 yN:GC c "NUMBER" (.str "number")
 zS:GC c "PATTERN" (.str "pattern")
 QJ:GC c "SIGN" (.str "sign")
 V2:GC c "END" (.str "end")
 uC:GC c "LONGEST_WORD" (.int 12)
 qE:GC c "LONGEST_NUMBER" (.int 2)
 vq:GC c "PASSED_OVER" (.str " \n")
 vt:GC c "SIGNS_ALONE" (.str "(),;=")
 GN:GC c "QUOTE" (.str "'")
 wb:GC c "END_TEXT" (.str "")
 iQ:Fe c.K c.CT
 MR:TM c "Token" c.CT "Token.__init__" 39 ["self","kind","text","place"]
 j9:dN c.K c.CT "kind"
 gr:dN c.K c.CT "text"
 lR:dN c.K c.CT "place"
 VZ:i8 c "cut" 40 ["text"]
 CM:i8 c "token_at" 41 ["text","place"]
 AW:i8 c "run_token" 42 ["kind","text","place","end","longest"]
 rQ:i8 c "pattern_token" 43 ["text","place"]
 Em:i8 c "run_end" 44 ["text","place","signs"]
 KU:GC c "NAME" (.str "name")
 ug:GC c "SOME_OF" (.str "some of")
 uA:GC c "AUTHOR" (.str "author")
 AZ:GC c "AND" (.str "and")
 UE:GC c "OR" (.str "or")
 ow:GC c "JOINS" (.ref c.JO)
 pI:∀H,qU c.K H c.JO [.str "and",.str "or"]
 vm:GC c "MOST_LEVELS" (.int 40)
 eW:Fe c.K c.CP
 RB:TM c "Part" c.CP "Part.__init__" 53 ["self","kind","amount","name"]
 dP:dN c.K c.CP "kind"
 jx:dN c.K c.CP "amount"
 fk:dN c.K c.CP "name"
 pq:i8 c "read_condition" 54 ["reader"]
 tm:i8 c "read_operand" 55 ["reader","parts","waiting"]
 IE:i8 c "settle" 56 ["parts","waiting","joins"]
 CI:i8 c "read_one" 57 ["reader"]
 CH:i8 c "depth_of" 58 ["parts"]
 qA:i8 c "show_condition" 59 ["parts"]
 CK:i8 c "show_one" 60 ["part"]
 AX:i8 c "show_join" 61 ["kind","first","second"]
 v8:i8 c "in_brackets" 62 ["text","needed"]
 mU:GC c "LONGEST_FILE_NAME" (.int 12)
 nY:GC c "LONGEST_PATH" (.int 40)
 qj:GC c "MOST_PARTS" (.int 4)
 w9:GC c "ANY_NAME" (.str "*")
 jq:GC c "ALL_THAT_ARE_LEFT" (.str "**")
 t6:i8 c "is_file_name" 69 ["text"]
 Ej:i8 c "is_path" 70 ["text"]
 xx:i8 c "is_pattern" 71 ["text"]
 oo:i8 c "pattern_matches" 72 ["pattern","path"]
 C9:GC c "KEYWORDS" (.ref c.KW)
 D5:∀H,qU c.K H c.KW [.str "person",.str "group",.str "on",.str "need",.str "veto",.str "sticky",.str "default",.str "of",.str "author",.str "and",.str "or"]
 bL:Fe c.K c.CR
 Ik:TM c "Reader" c.CR "Reader.__init__" 75 ["self","tokens"]
 mK:dN c.K c.CR "tokens"
 oa:dN c.K c.CR "at"
 uI:Jq c c.CR "token" "Reader.token" 75 1 ["self"]
 r9:Jq c c.CR "stands" "Reader.stands" 75 2 ["self","text"]
 wC:Jq c c.CR "take" "Reader.take" 75 3 ["self","text"]
 n8:Jq c c.CR "take_name" "Reader.take_name" 75 4 ["self"]
 lG:Jq c c.CR "take_pattern" "Reader.take_pattern" 75 5 ["self"]
 lj:Jq c c.CR "take_amount" "Reader.take_amount" 75 6 ["self"]
 qG:Jq c c.CR "require" "Reader.require" 75 7 ["self","can_stand"]
 wB:Jq c c.CR "step" "Reader.step" 75 8 ["self"]
 yP:GC c "PERSON" (.str "person")
 BW:GC c "GROUP" (.str "group")
 KY:GC c "NEED" (.str "need")
 GO:GC c "VETO" (.str "veto")
 Ca:GC c "STICKY" (.str "sticky")
 qD:GC c "DEFAULT" (.str "default")
 uB:GC c "LONGEST_TEXT" (.int 1000)
 oy:GC c "MOST_STATEMENTS" (.int 24)
 yL:GC c "MOST_NAMES" (.int 8)
 Et:GC c "DEEPEST" (.int 40)
 aZ:Fe c.K c.CS
 A7:TM c "Statement" c.CS "Statement.__init__" 87 ["self","kind"]
 ah:dN c.K c.CS "kind"
 de:dN c.K c.CS "name"
 eJ:dN c.K c.CS "names"
 c8:dN c.K c.CS "pattern"
 cE:dN c.K c.CS "condition"
 AV:i8 c "read_well" 88 ["codes"]
 oq:i8 c "read_statements" 89 ["reader"]
 px:i8 c "read_statement" 90 ["reader"]
 v9:i8 c "read_person" 91 ["reader"]
 yA:i8 c "read_group" 92 ["reader"]
 yB:i8 c "read_names" 93 ["reader"]
 El:i8 c "read_on" 94 ["reader"]
 vb:i8 c "read_sticky" 95 ["reader"]
 tj:i8 c "read_default" 96 ["reader"]
 ou:i8 c "show_statements" 97 ["statements"]
 qB:i8 c "show_statement" 98 ["statement"]
 vo:GC c "MOST_PEOPLE" (.int 8)
 vk:GC c "MOST_GROUPS" (.int 8)
 eV:Fe c.K c.CB
 Q9:TM c "Book" c.CB "Book.__init__" 102 ["self"]
 dH:dN c.K c.CB "statements"
 f9:dN c.K c.CB "people"
 iC:dN c.K c.CB "groups"
 qF:Jq c c.CB "people_of" "Book.people_of" 102 1 ["self","name"]
 yD:i8 c "write_book" 103 ["codes"]
 Lq:i8 c "enter" 104 ["book","statement","number"]
 t5:i8 c "enter_people" 105 ["book","statement","number"]
 vY:i8 c "enter_group" 106 ["book","statement","number"]
 lE:i8 c "require_one_default" 107 ["book","statement","number"]
 om:i8 c "check_condition" 108 ["book","condition","number"]
 pz:i8 c "require_enough" 109 ["book","part","number"]
 tp:i8 c "require_free" 110 ["book","name","number"]
 rR:i8 c "require_known" 111 ["book","name","number"]
 AO:i8 c "crowds_of" 113 ["people"]
 rP:i8 c "larger_by_one" 114 ["crowds","people"]
 yC:i8 c "row_of_all" 115 ["crowds"]
 CJ:i8 c "row_with" 116 ["person","crowds"]
 vZ:i8 c "first_crowd" 117 ["crowds","row"]
 gw:Fe c.K c.CL
 MQ:TM c "Scale" c.CL "Scale.__init__" 118 ["self","book","author","crowds"]
 qV:dN c.K c.CL "book"
 nG:dN c.K c.CL "author"
 jy:dN c.K c.CL "whole"
 kZ:dN c.K c.CL "rows"
 lr:Jq c c.CL "count_always" "Scale.count_always" 118 1 ["self","person"]
 wD:Jq c c.CL "weigh" "Scale.weigh" 118 2 ["self","condition"]
 oz:Jq c c.CL "weigh_one" "Scale.weigh_one" 118 3 ["self","part"]
 lH:Jq c c.CL "weigh_so_many" "Scale.weigh_so_many" 118 4 ["self","amount","people"]
 zR:GC c "BY_NEED" (.int 1)
 Es:GC c "BY_VETO" (.int 2)
 A0:GC c "BY_STICKY" (.int 3)
 qi:GC c "BY_DEFAULT" (.int 4)
 uD:GC c "NEED_NOT_MET" (.int 1)
 IT:GC c "VETOED" (.int 2)
 uE:GC c "NOTHING_TOLD" (.int 3)
 Eo:i8 c "told_of" 128 ["statements","path"]
 t8:i8 c "may_speak_of" 129 ["statement","path"]
 t9:i8 c "numbers_told" 130 ["told","asked"]
 xy:i8 c "needs_told" 131 ["told"]
 AR:i8 c "kept_back" 132 ["book","change"]
 t7:i8 c "kept_back_at" 133 ["book","change","path"]
 ve:i8 c "weigh_needs" 134 ["book","change","path","crowds"]
 AQ:i8 c "is_vetoed" 135 ["book","change","name"]
 qC:i8 c "who_is_missing" 136 ["book","change"]
 yM:GC c "MOST_PATHS" (.int 8)
 cX:Fe c.K c.CC
 Ij:TM c "Change" c.CC "Change.__init__" 139 ["self","author"]
 gi:dN c.K c.CC "author"
 eh:dN c.K c.CC "version"
 eS:dN c.K c.CC "paths"
 dv:dN c.K c.CC "approvals"
 gj:dN c.K c.CC "vetoes"
 iX:Fe c.K c.CD
 RA:TM c "Desk" c.CD "Desk.__init__" 140 ["self"]
 gQ:dN c.K c.CD "book"
 eT:dN c.K c.CD "change"
 xw:i8 c "call_rules" 141 ["desk","rows"]
 xu:i8 c "call_fault" 142 ["desk","rows"]
 AL:i8 c "call_show" 143 ["desk","rows"]
 AJ:i8 c "call_form" 144 ["desk","rows"]
 AK:i8 c "call_same" 145 ["desk","rows"]
 tX:i8 c "call_members" 146 ["desk","rows"]
 tW:i8 c "call_matches" 147 ["desk","rows"]
 xt:i8 c "call_begin" 148 ["desk","rows"]
 AI:i8 c "call_edit" 149 ["desk","rows"]
 tV:i8 c "call_approve" 150 ["desk","rows"]
 AN:i8 c "call_veto" 151 ["desk","rows"]
 rM:i8 c "call_withdraw" 152 ["desk","rows"]
 vX:i8 c "call_status" 153 ["desk","rows"]
 tZ:i8 c "call_verdict" 154 ["desk","rows"]
 tY:i8 c "call_missing" 155 ["desk","rows"]
 AM:i8 c "call_told" 156 ["desk","rows"]
 Ek:i8 c "path_of" 157 ["codes"]
 AU:i8 c "person_of" 158 ["desk","codes"]
 pk:i8 c "present_change" 159 ["desk"]
 vc:i8 c "reviewer_of" 160 ["desk","codes"]
 rO:i8 c "counted_names" 161 ["names"]
 nR:i8 c "counted_versions" 162 ["versions"]
 Ei:i8 c "answers" 165 ["calls"]
 vW:i8 c "answer_call" 166 ["desk","number","rows"]
 Mc:∃a kvs,c.mg "CALLS"=some (.ref a)/\KTab c.K a kvs/\∀k x,x9 k=some x->∃f,kvs.lookup k=some (.ref f)/\c.mg x=some (.ref f)
 Sb:∃a kvs,c.mg "ROWS"=some (.ref a)/\KTab c.K a kvs/\∀k n m,dR k=some (n,m)->∃u,kvs.lookup k=some u/\aCg (.int (m:Nat)) u
 LF:∃u1 u2 u3 u4,c.mg "WAYS"=some (.ref c.WY)/\KD c.P c.w c.K c.WY [(ai "need",u1),(ai "veto",u2),(ai "sticky",u3),(ai "default",u4)]/\aCg (.int 1) u1/\aCg (.int 2) u2/\aCg (.int 3) u3/\aCg (.int 4) u4
section
variable{c:Cn}
theorem aCe.EY(G:aCe c):jm c "TextTooLong" (λr n p=>r=[]/\n=1/\p=0):=Xt G.base G.vi λ_ _ _ _ _ _ _ R=>aL (ax (R rfl (aA (pv 0) (aA bB (aA bB aH))) rfl rfl rfl))
theorem aCe.pV(G:aCe c):jm c "CannotBeCut" (λr n p=>r=[.int p]/\n=2):=V1 G.base G.vf λ_ _ _ _ _ _ _ R=>aL (ax (R rfl (aA (pv 0) (aA bB (aA (pv 1) aH))) rfl rfl rfl))
theorem aCe.BP(G:aCe c):jm c "TooManyLevels" (λr n p=>r=[.int p]/\n=3):=V1 G.base G.rX λ_ _ _ _ _ _ _ R=>aL (ax (R rfl (aA (pv 0) (aA bB (aA (pv 1) aH))) rfl rfl rfl))
theorem aCe.xF(G:aCe c):jm c "CannotStandThere" (λr n p=>r=[.int p]/\n=4):=V1 G.base G.nU λ_ _ _ _ _ _ _ R=>aL (ax (R rfl (aA (pv 0) (aA bB (aA (pv 1) aH))) rfl rfl rfl))
theorem aCe.xG(G:aCe c):jm c "ConditionTooDeep" (λr n p=>r=[]/\n=5/\p=0):=Xt G.base G.nV λ_ _ _ _ _ _ _ R=>aL (ax (R rfl (aA (pv 0) (aA bB (aA bB aH))) rfl rfl rfl))
theorem aCe.kM(G:aCe c):jm c "NobodyHasTheName" (λr n p=>r=[.int p]/\n=6):=V1 G.base G.nW λ_ _ _ _ _ _ _ R=>aL (ax (R rfl (aA (pv 0) (aA bB (aA (pv 1) aH))) rfl rfl rfl))
theorem aCe.EX(G:aCe c):jm c "NameIsTaken" (λr n p=>r=[.int p]/\n=7):=V1 G.base G.vh λ_ _ _ _ _ _ _ R=>aL (ax (R rfl (aA (pv 0) (aA bB (aA (pv 1) aH))) rfl rfl rfl))
theorem aCe.BO(G:aCe c):jm c "TooFewInGroup" (λr n p=>r=[.int p]/\n=8):=V1 G.base G.rV λ_ _ _ _ _ _ _ R=>aL (ax (R rfl (aA (pv 0) (aA bB (aA (pv 1) aH))) rfl rfl rfl))
theorem aCe.rC(G:aCe c):jm c "NoRoomLeft" (λr n p=>r=[.int p]/\n=9):=V1 G.base G.yH λ_ _ _ _ _ _ _ R=>aL (ax (R rfl (aA (pv 0) (aA bB (aA (pv 1) aH))) rfl rfl rfl))
theorem aCe.BN(G:aCe c):jm c "SecondDefault" (λr n p=>r=[.int p]/\n=10):=V1 G.base G.rT λ_ _ _ _ _ _ _ R=>aL (ax (R rfl (aA (pv 0) (aA bB (aA (pv 1) aH))) rfl rfl rfl))
theorem aCe.Sx(G:aCe c):jm c "NoPath" (λr n p=>r=[]/\n=11/\p=0):=Xt G.base G.IJ λ_ _ _ _ _ _ _ R=>aL (ax (R rfl (aA (pv 0) (aA bB (aA bB aH))) rfl rfl rfl))
theorem aCe.LU(G:aCe c):jm c "NoChange" (λr n p=>r=[]/\n=12/\p=0):=Xt G.base G.CV λ_ _ _ _ _ _ _ R=>aL (ax (R rfl (aA (pv 0) (aA bB (aA bB aH))) rfl rfl rfl))
theorem aCe.EW(G:aCe c):jm c "IsTheAuthor" (λr n p=>r=[]/\n=13/\p=0):=Xt G.base G.vg λ_ _ _ _ _ _ _ R=>aL (ax (R rfl (aA (pv 0) (aA bB (aA bB aH))) rfl rfl rfl))
theorem aCe.J9(G:aCe c):jm c "NoPattern" (λr n p=>r=[]/\n=14/\p=0):=Xt G.base G.AY λ_ _ _ _ _ _ _ R=>aL (ax (R rfl (aA (pv 0) (aA bB (aA bB aH))) rfl rfl rfl))
end
end Rv
namespace Rv
open Vamrqe (At small digit worth)
open Mt (iu)
theorem dW(f:Str)(v:V):jP f v []=[(f,v)]:=rfl
theorem bz(h:¬g=f):jP f v ((g,u)::r)=(g,u)::jP f v r:=by rw[jP.eq_2,iN h]
theorem cJ{f g:Str}{u:V}{r:List (Str×V)}(h:¬g=f):eB f ((g,u)::r)=eB f r:=by rw[cT,show(f==g)=false from beq_eq_false_iff_ne.mpr λz=>h z.symm]
theorem eD{f:Str}{u:V}{r:List (Str×V)}:eB f ((f,u)::r)=some u:=by rw[cT,show(f==f)=true from beq_iff_eq.mpr rfl]
theorem pE:jP f v ((f,u)::r)=(f,v)::r:=by rw[jP.eq_2,iP rfl]
def Xw(kd tx:Str)(p:Int):List (Str×V):=[("kind",.str kd),("text",.str tx),("place",.int p)]
theorem yl{kd tx:Str}{p:Int}:(Xw kd tx p).lookup ("kind":Str)=some (.str kd):=eD
theorem qM{kd tx:Str}{p:Int}:(Xw kd tx p).lookup ("text":Str)=some (.str tx):=(cJ (by trivial)).trans eD
theorem F3{kd tx:Str}{p:Int}:(Xw kd tx p).lookup ("place":Str)=some (.int p):=(cJ (by trivial)).trans ((cJ (by trivial)).trans eD)
inductive TT:Xq->Str->aM->Prop
 |word {w:aM} {c:Nat} {r:aM}:w=c::r->small c=true->w.all cZ=true->w.length<=12->TT (Vamrqe.Tok.word w) "word" w
 |num {d:aM}:d≠[]->d.all digit=true->d.length<=2->TT (AA (worth d)) "number" d
 |pat {p:aM}:TT (Vamrqe.Tok.pat p) "pattern" (39::(p++[39]))
 |sign {c:Nat}:c∈([40,41,44,59,61]:List Nat)->TT (Vamrqe.Tok.sign c) "sign" [c]
 |fin:TT Vamrqe.Tok.fin "end" []
inductive su(c:Cn)(H:Hp)(a:aF)(t:At):Prop
 |mk:∀kd tx dx,TT t.tok kd tx->tx.length<=2000->H a=some (.ins c.CT dx (Xw kd (bH tx) t.place))->su c H a t
theorem qw(h:p<=n):HT.lO n d (some (p:Int))=p:=by simp only[HT.lO];rw[iN (by omega)];omega
theorem IC(u:List Nat)(hp:p<=u.length)(he:e<=u.length):KN (bH u) (some (p:Int)) (some (e:Int))=bH ((u.drop p).take (e - p)):=by unfold KN;rw[bM,jZ,qw hp,qw he];rfl
def uT(g:Str)(t:List Nat):Nat:=(t.takeWhile λc=>decide (c∈g.cps.toList)).length
abbrev PU:Str:="abcdefghijklmnopqrstuvwxyz"
abbrev Ln:Str:="0123456789"
abbrev VX:Str:="abcdefghijklmnopqrstuvwxyz0123456789_"
abbrev VW:Str:="abcdefghijklmnopqrstuvwxyz0123456789_.-"
abbrev Hl:Str:="abcdefghijklmnopqrstuvwxyz0123456789_.-/*"
abbrev PR:Str:="(),;="
abbrev Lo:Str:=" \n"
theorem aCx{p q:Nat->Bool}(h:∀c<123,p c=q c)(hp:∀c,123<=c->p c=false)(hq:∀c,123<=c->q c=false)(c:Nat):p c=q c:=(Aq c 123).elim (h c) λz=>(hp c z).trans (hq c z).symm
theorem aCz{l:List Nat}(h:l.all (· < 123)=true)(c:Nat)(z:123<=c):decide (c∈l)=false:=dF λm=>Nat.not_lt.mpr z (of_decide_eq_true (dZ.mp h c m))
theorem aDm(z:123<=c)(h:n<123):decide (c=n)=false:=dF λe=>by omega
theorem aC4(c:Nat)(z:123<=c):small c=false:=by unfold small;rw[dF (show ¬c<=122 by omega),je]
theorem aC1(c:Nat)(z:123<=c):digit c=false:=by unfold digit;rw[dF (show ¬c<=57 by omega),je]
theorem aC8(c:Nat)(z:123<=c):cZ c=false:=by unfold cZ;rw[aC4 c z,aC1 c z,aDm z (by decide)];rfl
theorem aDb(c:Nat)(z:123<=c):fz c=false:=by unfold fz;rw[aC8 c z,aDm z (by decide),aDm z (by decide)];rfl
theorem aDu(c:Nat)(z:123<=c):cM c=false:=by unfold cM;rw[aDb c z,aDm z (by decide),aDm z (by decide)];rfl
theorem QV(c:Nat):decide (c∈PU.cps.toList)=small c:=aCx (by trivial) (aCz (by trivial)) aC4 c
theorem Ex(c:Nat):decide (c∈Ln.cps.toList)=digit c:=aCx (by trivial) (aCz (by trivial)) aC1 c
theorem UI(c:Nat):decide (c∈VX.cps.toList)=cZ c:=aCx (by trivial) (aCz (by trivial)) aC8 c
theorem UH(c:Nat):decide (c∈VW.cps.toList)=fz c:=aCx (by trivial) (aCz (by trivial)) aDb c
theorem K2(c:Nat):decide (c∈Hl.cps.toList)=cM c:=aCx (by trivial) (aCz (by trivial)) aDu c
theorem QS(c:Nat):decide (c∈PR.cps.toList)=([40,41,44,59,61]:List Nat).contains c:=by rw[show PR.cps.toList=[40,41,44,59,61]from by trivial,b7];simp
theorem NY(c:Nat):decide (c∈Lo.cps.toList)=decide (c=32\/c=10):=by rw[show Lo.cps.toList=[32,10]from by trivial,b7];simp
theorem zi(h:∀c,decide (c∈g.cps.toList)=p c)(t:List Nat):uT g t=(Mt.run p t).length:=by unfold uT Mt.run;rw[show(λc=>decide (c∈g.cps.toList))=p from funext h]
def UA(t:aM):Option (Str×aM):=match fM t with
 |some (.word w,_)=>some ("word",w)
 |some (.num _,n)=>some ("number",t.take n)
 |some (.pat p,_)=>some ("pattern",39::(p++[39]))
 |some (.sign c,_)=>some ("sign",[c])
 |_=>none
theorem uX(p:Nat->Bool):∀t:aM,t.take (Mt.run p t).length=Mt.run p t
 |[]=>rfl
 |c::r=>by
  unfold Mt.run;rw[dq];split
  ·simp only[aG,nE];rw[show List.take (E2 p r).length r=Mt.run p r from uX p r]
  ·rfl
theorem Gd(p:Nat->Bool):∀t:aM,(Mt.run p t).all p=true
 |[]=>rfl
 |c::r=>by
  unfold Mt.run;rw[dq];split
  ·rename_i h;rw[g6,h,show(E2 p r).all p=true from Gd p r];rfl
  ·rfl
theorem IQ{kd:Str}(h:UA t=some (kd,tx)):∃x,fM t=some x/\TT x.1 kd tx/\tx.length=x.2:=by
 cases t with
 |nil=>cases h
 |cons c r=>
  unfold UA at h;rw[iu]at h;rw[iu];by_cases q1:small c=true
  ·rw[iP q1]at h ⊢;by_cases q:(Mt.run cZ (c::r)).length<=Vs
   ·rw[iP q]at h ⊢;injection h with h;injection h with h1 h2;subst h1 h2;refine⟨_,rfl,?_,rfl⟩;exact .word (c:=c) (r:=Mt.run cZ r) (by unfold Mt.run;rw[dq,Mt.qx c q1];rfl) q1 (Gd _ _) q
   ·rw[iN q]at h;cases h
  ·rw[iN q1]at h ⊢;by_cases q2:digit c=true
   ·rw[iP q2]at h ⊢;by_cases q:(Mt.run digit (c::r)).length<=2
    ·rw[iP q]at h ⊢;injection h with h;injection h with h1 h2;subst h1 h2;refine⟨_,rfl,?_,?_⟩
     ·rw[uX];exact .num (by unfold Mt.run;rw[dq,q2];simp) (Gd _ _) q
     ·rw[uX]
    ·rw[iN q]at h;cases h
   ·rw[iN q2]at h ⊢;by_cases q3:c=39
    ·rw[iP q3]at h ⊢;by_cases q:(HW (Mt.run cM r).length r).head?=some 39
     ·rw[iP q]at h ⊢;injection h with h;injection h with h1 h2;subst h1 h2;exact⟨_,rfl,.pat,by simp⟩
     ·rw[iN q]at h;cases h
    ·rw[iN q3]at h ⊢;by_cases q:([40,41,44,59,61]:List Nat).contains c=true
     ·rw[iP q]at h ⊢;injection h with h;injection h with h1 h2;subst h1 h2;exact⟨_,rfl,.sign (by simpa using q),rfl⟩
     ·rw[iN q]at h;cases h
theorem QH(h:UA t=none):fM t=none:=by
 cases t with
 |nil=>rfl
 |cons c r=>
  unfold UA at h;rw[iu]at h ⊢;by_cases q1:small c=true
  ·rw[iP q1]at h ⊢;by_cases q:(Mt.run cZ (c::r)).length<=Vs
   ·rw[iP q]at h;cases h
   ·rw[iN q]
  ·rw[iN q1]at h ⊢;by_cases q2:digit c=true
   ·rw[iP q2]at h ⊢;by_cases q:(Mt.run digit (c::r)).length<=2
    ·rw[iP q]at h;cases h
    ·rw[iN q]
   ·rw[iN q2]at h ⊢;by_cases q3:c=39
    ·rw[iP q3]at h ⊢;by_cases q:(HW (Mt.run cM r).length r).head?=some 39
     ·rw[iP q]at h;cases h
     ·rw[iN q]
    ·rw[iN q3]at h ⊢;by_cases q:([40,41,44,59,61]:List Nat).contains c=true
     ·rw[iP q]at h;cases h
     ·rw[iN q]
theorem ae{P:bK}{w:bu}{K:aU}{mg:Str->Option aE}{base:c9}{N:List Str}{qual:Str}{scope:jJ}{f:aF}{cd:aE}{A:cG}{outer:List Env}{s:aO}{H:Hp}{E:XK}:
  aCm (xQ P w) (vE (xQ P w) P w K mg base N qual scope f cd A outer s H E) E:=Yw λ_ _ _ h=>h
inductive Al{α β:Type}(R:α->β->Prop):List α->List β->Prop
 |nil:Al R [] []
 |cons {a:α} {b:β} {r:List α} {s:List β}:R a b->Al R r s->Al R (a::r) (b::s)
namespace Al
variable{α β:Type}{R S:α->β->Prop}
theorem len(h:Al R a b):a.length=b.length:=by
 induction h with
 |nil=>rfl
 |cons _ _ ih=>simp[ih]
theorem mono(h:Al R a b)(k:∀x y,R x y->S x y):Al S a b:=by
 induction h with
 |nil=>exact .nil
 |cons p _ ih=>exact .cons (k _ _ p) ih
theorem app(h:Al R a b)(k:Al R c d):Al R (a++c) (b++d):=by
 induction h with
 |nil=>exact k
 |cons p _ ih=>exact .cons p ih
theorem one(h:R a b):Al R [a] [b]:=.cons h .nil
theorem at_(h:Al R a b):∀{i:Nat}{y:β},b[i]?=some y->∃x,a[i]?=some x/\R x y:=by
 induction h with
 |nil=>intro i y e;cases e
 |cons p _ ih=>
  intro i y e;cases i with
  |zero=>cases e;exact⟨_,rfl,p⟩
  |succ n=>exact ih (i:=n) e
theorem at'(h:Al R a b):∀{i:Nat}{x:α},a[i]?=some x->∃y,b[i]?=some y/\R x y:=by
 induction h with
 |nil=>intro i y e;cases e
 |cons p _ ih=>
  intro i y e;cases i with
  |zero=>cases e;exact⟨_,rfl,p⟩
  |succ n=>exact ih (i:=n) e
end Al
theorem bA.kp(h:bA H H'):Kp M H H':=Kp.of h
theorem aCb(h:H a=none):bA H (aCc H a o):=λb u e=>by rw[aJ (aK e h)];exact e
inductive JL(C:aF)(g:List V->List (Str×V)->Prop)(vs:List V)(H:Hp)(Q:VK)(E_:XK):Prop
 |mk:∀a dx r fs,vs=.ref a::r->g r fs->H a=some (.ins C dx [])->(∀H',H' a=some (.ins C dx fs)->Kp [a] H H'->Q .fB H')->JL C g vs H Q E_
theorem made{C:aF}{g:List V->List (Str×V)->Prop}{r:List V}{fs:List (Str×V)}{H:Hp}{Q:VK}{E:XK}(hg:g r fs)(k:∀a dx H',H a=none->H' a=some (.ins C dx fs)->bA H H'->Q (.ref a) H'):
  ∀x dx,H x=none->H dx=none->dx≠x->JL C g (.ref x::r) (aCc (aCc H dx (.own x)) x (.ins C dx [])) (λv H2=>v=.fB/\Q (.ref x) H2) E:=λx dx nx nd _=>
 ⟨x,dx,r,fs,rfl,hg,aC,λH' e kp=>⟨rfl,k x dx H' nx e λb o q=>kp b o (by rw[aJ (aK q nx),aJ (aK q nd)];exact q) (by simp[aK q nx])⟩⟩
theorem FE{E:XK}(nx:H x=none)(nd:H dx=none)(hg:g r fs)(k:∀H',H' x=some (.ins C dx fs)->bA H H'->W .fB H'):
  JL C g (.ref x::r) (aCc (aCc H dx (.own x)) x (.ins C dx [])) W E:=
 ⟨x,dx,r,fs,rfl,hg,aC,λH' e kp=>k H' e λb o q=>kp b o (by rw[aJ (aK q nx),aJ (aK q nd)];exact q) (by simp[aK q nx])⟩
section
variable{c:Cn}
def aA7(r:List V)(fs:List (Str×V)):Prop:=∃kd tx p,r=[.str kd,.str tx,.int p]/\fs=Xw kd tx p
theorem ud(G:aCe c):Bb c "Token" c.CT 2 ["self","kind","text","place"] (JL c.CT aA7):=by refine G.MR.gG (N:=["self","kind","text","place"]) (k:=0) (len:=λvs H Q E h=>by obtain⟨a,dx,r,fs,rfl,⟨kd,tx,p,rfl,rfl⟩,_⟩:=h;rfl) (λH vs Q E nd hr h=>?_);obtain⟨a,dx,r,fs,rfl,⟨kd,tx,p,rfl,rfl⟩,ha,k⟩:=h;refine⟨_,aD (d8 (pv 0) (pv 1) rfl) (aD (d8 (pv 0) (pv 2) rfl) (aL (d8 (pv 0) (pv 3) rfl))),?_⟩;refine⟨_,rfl,_,rfl,a,c.CT,dx,_,rfl,ha,G.iQ,G.j9,by show 0<1000;decide,?_⟩;refine⟨_,rfl,_,rfl,a,c.CT,dx,_,rfl,aC,G.iQ,G.gr,by show 1<1000;decide,?_⟩;rw[dW,bz (show ¬("kind":Str)="text" by trivial),dW];refine⟨_,rfl,_,rfl,a,c.CT,dx,_,rfl,aC,G.iQ,G.lR,by show 2<1000;decide,?_⟩;rw[bz (show ¬("kind":Str)="place" by trivial),bz (show ¬("text":Str)="place" by trivial),dW];exact k _ aC (((Kp.put (by simp)).trans (Kp.put (by simp))).trans (Kp.put (by simp)))
inductive SR(vs:List V)(H:Hp)(Q:VK)(E_:XK):Prop
 |mk:∀(t:List Nat)(p:Nat)(g:Str),vs=[.str (bH t),.int p,.str g]->p<=t.length->t.length<=100000->Q (.int ((p+uT g (t.drop p):Nat):Int)) H->SR vs H Q E_
inductive aD5(H:Hp)(t:List Nat)(p:Nat)(g:Str)(m:Nat)(σ:L2.St)(H':Hp):Prop
 |mk:∀(e:Nat),m=t.length - e->e<=t.length->σ=[some (.str (bH t)),some (.int p),some (.str g),some (.int e)]->H'=H->p+uT g (t.drop p)=e+uT g (t.drop e)->aD5 H t p g m σ H'
theorem tJ(G:aCe c):i7 c "run_end" 1 ["text","place","signs"] SR:=by
 refine G.Em.gG (N:=["text","place","signs","end"]) (k:=0) (λH vs Q E nd hr h=>?_);obtain⟨t,p,g,rfl,hp,ht,k⟩:=h;refine⟨_,aD (bb (i:=3) nd (pv 1)) (aD (jY jC (uS (bU Cz (pv 3) (cF gO (by rfl) G.gR bP (aA (pv 0) aH)) (bt _)) (pF (bU lM (fE GU (pv 0) (pv 3) (λ_ _=>rfl)) (pv 2) rfl))).pt (aL (DI (i:=3) nd rfl (zx rfl) bB Cd))) (aL (bE (pv 3)))),?_⟩;refine⟨_,rfl,?_⟩;refine⟨aD5 H t p g,⟨_,p,rfl,hp,rfl,rfl,rfl⟩,?_⟩;rintro m σ H' ⟨e,rfl,he,rfl,rfl,eq⟩;refine⟨_,rfl,_,rfl,bH t,rfl,by rw[bM];exact sl ht,_,_,rfl,rfl,_,rfl,?_⟩;rw[bM];have stop:uT g (t.drop e)=0->Gr (g9 3) {nx:=λ_ H'=>Q .fB H',rt:=Q} [some (.str (bH t)),some (.int p),some (.str g),some (.int e)] H':=λz=>by refine⟨_,rfl,?_⟩;rw[eq,z]at k;exact k
 by_cases lt:e<t.length
 ·refine aDx (show(e:Int)<(t.length:Int)by omega) ?_;have hc:t[e]?=some t[e]:=aX lt;have hd:t.drop e=t[e]::t.drop (e+1):=b3 lt;refine⟨_,rfl,_,rfl,bH t,_,t[e],rfl,rfl,by rw[bM];exact sl ht,eE (by rw[jZ];exact hc),_,rfl,t[e],g,rfl,rfl,_,rfl,?_⟩;by_cases q:t[e]∈g.cps.toList
  ·refine aDx q ⟨λσ' H2=>σ'=[some (.str (bH t)),some (.int p),some (.str g),some (.int ((e+1:Nat):Int))]/\H2=H',λσ' H2 ⟨h1,h2⟩=>⟨_,by omega,e+1,rfl,lt,h1,h2,?_⟩,?_⟩
   ·rw[eq,hd];unfold uT;rw[dq,dE q];simp;omega
   ·exact⟨_,rfl,_,_,rfl,rfl,rfl,rfl⟩
  ·refine aDw q (stop ?_);rw[hd];unfold uT;rw[dq,dF q];rfl
 ·refine aDw (show ¬(e:Int)<(t.length:Int)by omega) (bW (stop ?_));rw[jE (by omega)];rfl
def Ol(c:Cn)(H:Hp)(Q:VK)(E:XK)(p:Nat)(r:Option (Str×aM)):Prop:=match r with
 |some (kd,tx)=>∀a dx H',H' a=some (.ins c.CT dx (Xw kd (bH tx) p))->bA H H'->Q (.ref a) H'
 |none=>Rz c E [] H 2 p
inductive Ky(c:Cn)(vs:List V)(H:Hp)(Q:VK)(E:XK):Prop
 |mk:∀(kd:Str)(u:List Nat)(p e l:Nat),vs=[.str kd,.str (bH u),.int p,.int e,.int l]->p<=e->e<=u.length->u.length<=2000->Ol c H Q E p (if e - p<=l then some (kd,(u.drop p).take (e - p))else none)->Ky c vs H Q E
theorem vV(G:aCe c):i7 c "run_token" 4 ["kind","text","place","end","longest"] (Ky c):=by
 refine G.AW.gG (N:=["kind","text","place","end","longest"]) (k:=3) (λH vs Q E nd hr h=>?_);obtain⟨kd,u,p,e,l,rfl,hpe,heu,hu,k⟩:=h;refine⟨_,aD (cf (bU Ab (eM GY (pv 3) (pv 2)) (pv 4) (bt _)) (aL (pD G.pV hr (aA (pv 2) aH))) b8) (aL (bE (gy (ud G) hr ae (aA (pv 0) (aA (ly Gg (pv 1) (jc (pv 2)) (jc (pv 3))) (aA (pv 2) aH)))))),?_⟩;refine⟨_,rfl,_,rfl,_,_,rfl,rfl,_,rfl,_,_,rfl,rfl,_,rfl,?_⟩;by_cases q:e - p<=l
 ·rw[iP q]at k;refine aDw (show ¬(l:Int)<(e:Int) - (p:Int)by omega) ⟨_,rfl,_,rfl,_,rfl,_,rfl,_,rfl,_,rfl,bH u,rfl,by rw[bM];exact sl (by omega),_,rfl,?_⟩;rw[IC u (by omega) heu];exact made ⟨_,_,_,rfl,rfl⟩ λa dx H' _=>k a dx H'
 ·rw[iN q]at k;exact aDx (show(l:Int)<(e:Int) - (p:Int)by omega) ⟨_,rfl,by simp,2,p,⟨rfl,rfl⟩,k⟩
end
end Rv
namespace Rv
open Vamrqe (small digit)
open Mt (iu qu)
section
variable{c:Cn}
theorem JS:(V.str ⟨#[a]⟩=V.str ⟨#[b]⟩)↔a=b:=by
 constructor
 ·intro h;injection h with h
  have:=congrArg (λs:Str=>s.cps.toList) h
  simpa using this
 ·intro h;rw[h]
def aBi(t:aM):Option (Str×aM):=match t with
 |[]=>none
 |_::r=>if(r.drop (Mt.run cM r).length).head?=some 39 then some ("pattern",39::(Mt.run cM r++[39]))else none
inductive SK(c:Cn)(vs:List V)(H:Hp)(Q:VK)(E:XK):Prop
 |mk:∀(u:List Nat)(p:Nat),vs=[.str (bH u),.int p]->u[p]?=some 39->u.length<=2000->Ol c H Q E p (aBi (u.drop p))->SK c vs H Q E
theorem xn(G:aCe c):i7 c "pattern_token" 4 ["text","place"] (SK c):=by
 refine G.rQ.gG (N:=["text","place","end"]) (k:=3) (λH vs Q E nd hr h=>?_);obtain⟨u,p,rfl,hp,hu,k⟩:=h;refine⟨_,aD (bb (i:=2) nd (az (tJ G) hr ae (aA (pv 0) (aA (eM wm (pv 1) bB) (aA (b9 G.rY) aH))))) (aD (cf (FT (bU eX (pv 2) (cF gO (by rfl) G.gR bP (aA (pv 0) aH)) (bt _)) (zg (bU MU (fE GU (pv 0) (pv 2) (λ_ _=>rfl)) (b9 G.GN) (bt _)))).pt (aL (pD G.pV hr (aA (pv 1) aH))) b8) (aL (bE (gy (ud G) hr ae (aA (b9 G.zS) (aA (ly Gg (pv 0) (jc (pv 1)) (jc (eM wm (pv 2) bB))) (aA (pv 1) aH))))))),?_⟩;have hlt:p<u.length:=(a8.mp hp).1;have hd:u.drop p=39::u.drop (p+1):=by
  have:=b3 hlt
  rw[this,(a8.mp hp).2]
 refine⟨_,rfl,_,rfl,_,_,rfl,rfl,u,p+1,_,rfl,hlt,by omega,?_⟩;rw[zi K2];rw[hd]at k;have hle:=qu cM (u.drop (p+1));rw[ay]at hle;unfold aBi at k;dsimp only at k;rw[lA]at k;generalize hn:p+1+(Mt.run cM (u.drop (p+1))).length=e at *;refine⟨_,rfl,_,rfl,bH u,rfl,by rw[bM];exact sl (by omega),rfl,_,rfl,?_⟩;rw[bM];have bad:¬u[e]?=some 39->aB5 c E (λr n p=>r=[.int p]/\n=2) (gT (g9 1) oA) {nx:=λ_ H'=>Q .fB H',rt:=Q} [some (.str (bH u)),some (.int p),some (.int e)] H:=λz=>by rw[iN (by rw[Dj];exact z)]at k;exact⟨_,rfl,by simp,2,p,⟨rfl,rfl⟩,k⟩
 by_cases q:e=u.length
 ·refine aDx (show V.int (e:Int)=V.int (u.length:Int)by rw[q]) (bq (bad ?_));rw[q];simp
 ·rw[dF (show ¬V.int (e:Int)=V.int (u.length:Int)by intro z;injection z with z;omega)];have he:e<u.length:=by omega
  have hc:u[e]?=some u[e]:=aX he;refine bW ⟨_,rfl,_,rfl,bH u,_,u[e],rfl,rfl,by rw[bM];exact sl (by omega),eE (by rw[jZ];exact hc),rfl,_,rfl,?_⟩;by_cases q9:u[e]=39
  ·rw[dE (show V.str ⟨#[u[e]]⟩=V.str "'" by rw[q9];rfl)];refine bW ⟨_,rfl,_,rfl,_,rfl,_,rfl,_,_,rfl,rfl,_,rfl,bH u,rfl,by rw[bM];exact sl (by omega),_,rfl,?_⟩;rw[show(e:Int)+1=((e+1:Nat):Int)from rfl,IC u (by omega) (by omega)];rw[iP (by rw[Dj,hc,q9])]at k;have ht:(u.drop p).take (e+1 - p)=39::(Mt.run cM (u.drop (p+1))++[39]):=by
    rw[hd,show e+1 - p=(e - p)+1 from by omega,nE];congr 1;have e2:e - p=(Mt.run cM (u.drop (p+1))).length+1:=by omega
    rw[e2,VO,uX,List.getElem?_drop,show p+1+(Mt.run cM (HW (p+1) u)).length=e from hn,hc,q9];rfl
   rw[ht];exact made ⟨_,_,_,rfl,rfl⟩ λa dx H' _=>k a dx H'
  ·rw[dF (show ¬V.str ⟨#[u[e]]⟩=V.str "'" by intro z;exact q9 (JS.mp (z.trans (by rfl))))];exact bq (bad (by rw[hc];intro z;injection z with z;exact q9 z))
inductive Ur(c:Cn)(vs:List V)(H:Hp)(Q:VK)(E:XK):Prop
 |mk:∀(u:List Nat)(p:Nat),vs=[.str (bH u),.int p]->p<u.length->u.length<=2000->Ol c H Q E p (UA (u.drop p))->Ur c vs H Q E
theorem GF(G:aCe c):i7 c "token_at" 5 ["text","place"] (Ur c):=by
 refine G.CM.gG (N:=["text","place","sign"]) (k:=4) (λH vs Q E nd hr h=>?_);obtain⟨u,p,rfl,hp,hu,k⟩:=h;refine⟨_,aD (bb (i:=2) nd (fE GU (pv 0) (pv 1) (λ_ _=>rfl))) (aD (cf (bU lM (pv 2) (b9 G.rZ) rfl) (aL (bE (az (vV G) hr ae (aA (b9 G.KZ) (aA (pv 0) (aA (pv 1) (aA (az (tJ G) hr ae (aA (pv 0) (aA (pv 1) (aA (b9 G.yQ) aH)))) (aA (b9 G.uC) aH)))))))) b8) (aD (cf (bU lM (pv 2) (b9 G.C8) rfl) (aL (bE (az (vV G) hr ae (aA (b9 G.yN) (aA (pv 0) (aA (pv 1) (aA (az (tJ G) hr ae (aA (pv 0) (aA (pv 1) (aA (b9 G.C8) aH)))) (aA (b9 G.qE) aH)))))))) b8) (aD (cf (bU eX (pv 2) (b9 G.GN) (bt _)) (aL (bE (az (xn G) hr ae (aA (pv 0) (aA (pv 1) aH))))) b8) (aD (cf (bU lM (pv 2) (b9 G.vt) rfl) (aL (bE (gy (ud G) hr ae (aA (b9 G.QJ) (aA (pv 2) (aA (pv 1) aH)))))) b8) (aL (pD G.pV hr (aA (pv 1) aH))))))),?_⟩;have hc:u[p]?=some u[p]:=aX hp;have hd:u.drop p=u[p]::u.drop (p+1):=b3 hp;refine⟨_,rfl,_,rfl,bH u,_,u[p],rfl,rfl,by rw[bM];exact sl (by omega),eE (by rw[jZ];exact hc),?_⟩;refine⟨_,rfl,u[p],_,rfl,rfl,_,rfl,?_⟩;have k0:=k;unfold UA at k;rw[hd,iu]at k;rw[QV];by_cases q1:small u[p]=true
 ·rw[q1];rw[iP q1,<-hd]at k;have hle:=qu cZ (u.drop p);rw[ay]at hle;refine bq ⟨_,rfl,_,rfl,_,rfl,_,rfl,u,p,_,rfl,by omega,by omega,?_⟩;rw[zi UI];refine⟨_,u,p,p+(Mt.run cZ (u.drop p)).length,12,rfl,by omega,by omega,hu,?_⟩;rw[rm];by_cases q:(Mt.run cZ (u.drop p)).length<=12
  ·rw[iP (show(Mt.run cZ (u.drop p)).length<=Vs from q)]at k;rw[iP q,uX];exact k
  ·rw[iN (show ¬(Mt.run cZ (u.drop p)).length<=Vs from q)]at k;rw[iN q];exact k
 ·rw[bT.mpr q1];rw[iN q1]at k;refine bW ⟨_,rfl,u[p],_,rfl,rfl,_,rfl,?_⟩;rw[Ex];by_cases q2:digit u[p]=true
  ·rw[q2];rw[iP q2,<-hd]at k;have hle:=qu digit (u.drop p);rw[ay]at hle;refine bq ⟨_,rfl,_,rfl,_,rfl,_,rfl,u,p,_,rfl,by omega,by omega,?_⟩;rw[zi Ex];refine⟨_,u,p,p+(Mt.run digit (u.drop p)).length,2,rfl,by omega,by omega,hu,?_⟩;rw[rm];by_cases q:(Mt.run digit (u.drop p)).length<=2
   ·rw[iP q]at k;rw[iP q];exact k
   ·rw[iN q]at k;rw[iN q];exact k
  ·rw[bT.mpr q2];rw[iN q2]at k;refine bW ⟨_,rfl,rfl,_,rfl,?_⟩;by_cases q3:u[p]=39
   ·rw[dE (show V.str ⟨#[u[p]]⟩=V.str "'" by rw[q3];rfl)];rw[iP q3]at k;refine bq ⟨_,rfl,_,rfl,u,p,rfl,by rw[hc,q3],hu,?_⟩;rw[hd];unfold aBi;dsimp only;by_cases q:(HW (Mt.run cM (u.drop (p+1))).length (u.drop (p+1))).head?=some 39
    ·rw[iP q]at k ⊢;exact k
    ·rw[iN q]at k ⊢;exact k
   ·rw[dF (show ¬V.str ⟨#[u[p]]⟩=V.str "'" by intro z;exact q3 (JS.mp (z.trans (by rfl))))];rw[iN q3]at k;refine bW ⟨_,rfl,u[p],_,rfl,rfl,_,rfl,?_⟩;rw[QS];by_cases q:([40,41,44,59,61]:List Nat).contains u[p]=true
    ·rw[q];rw[iP q]at k;exact bq ⟨_,rfl,_,rfl,made ⟨_,_,_,rfl,rfl⟩ λa dx H' _=>k a dx H'⟩
    ·rw[bT.mpr q];rw[iN q]at k;exact bW ⟨_,rfl,by simp,2,p,⟨rfl,rfl⟩,k⟩
end
end Rv
namespace Rv
open Vamrqe (At)
def Res{A:Type}(c:Cn)(E:XK)(M:List aF)(H:Hp)(r:kF A)(k:A->Prop):Prop:=match r with
 |.ok x=>k x
 |.error e=>Rz c E M H (-e.number) e.place
theorem su.same(h:su c H a t)(s:bA H H'):su c H' a t:=by obtain⟨kd,tx,dx,h1,h2,h3⟩:=h;exact⟨kd,tx,dx,h1,h2,s _ _ h3⟩
section
variable{c:Cn}
inductive Toks(c:Cn)(H:Hp)(l:aF)(ts:List At):Prop
 |mk:∀as,H l=some (.lst (as.map V.ref))->Al (su c H) as ts->Toks c H l ts
inductive ZI(c:Cn)(vs:List V)(H:Hp)(Q:VK)(E:XK):Prop
 |mk:∀(u:List Nat),vs=[.str (bH u)]->u.length<=2000->(Res c E [] H (Mt.tk 0 u) λts=>∀l H',Toks c H' l ts->bA H H'->ts.length<=u.length+1->Q (.ref l) H')->ZI c vs H Q E
theorem VD(p:Nat){u:List Nat}(hp:p<u.length):Mt.tk p (u.drop p)=if u[p]=32\/u[p]=10 then Mt.tk (p+1) (u.drop (p+1))else match UA (u.drop p)with
  |none=>.error ⟨-2,p⟩
  |some x=>match fM (u.drop p)with
   |none=>.error ⟨-2,p⟩
   |some y=>match Mt.tk (p+x.2.length) (u.drop (p+x.2.length))with
    |.ok l=>.ok (⟨p,y.1⟩::l)
    |.error e=>.error e:=by
 have hd:u.drop p=u[p]::u.drop (p+1):=b3 hp;by_cases q:u[p]=32\/u[p]=10
 ·rw[iP q,hd,Mt.JU q]
 ·rw[iN q];rw[hd,Mt.Sh q,<-hd];cases e:UA (u.drop p)with
  |none=>rw[QH e]
  |some x=>obtain⟨y,h1,h2,h3⟩:=IQ (kd:=x.1) (tx:=x.2) e;rw[h1];dsimp only;rw[lA,<-h3];cases Mt.tk (p+x.2.length) (u.drop (p+x.2.length)) <;> rfl
inductive aDz(c:Cn)(H:Hp)(Q:VK)(E:XK)(u:List Nat)(l:aF)(m:Nat)(σ:L2.St)(H':Hp):Prop
 |mk:∀(p:Nat)(v:Option V)(as:List aF)(ts:List At),m=u.length - p->p<=u.length->σ=[some (.str (bH u)),some (.ref l),some (.int p),v]->H' l=some (.lst (as.map V.ref))->Al (su c H') as ts->bA H H'->(ts.length<=p/\ Res c E [] H (Mt.tk p (u.drop p)) (λr=>∀l H',Toks c H' l (ts++r)->bA H H'->(ts++r).length<=u.length+1->Q (.ref l) H'))->aDz c H Q E u l m σ H'
theorem Tt(G:aCe c):i7 c "cut" 6 ["text"] (ZI c):=by
 refine G.VZ.gG (N:=["text","tokens","place","token"]) (k:=5) (λH vs Q E nd hr h=>?_);obtain⟨u,rfl,hu,k⟩:=h;refine⟨_,aD (bb (i:=1) nd (cp aH)) (aD (bb (i:=2) nd bB) (aD (jY jC (bU Cz (pv 2) (cF gO (by rfl) G.gR bP (aA (pv 0) aH)) (bt _)) (aL (cf (bU lM (fE GU (pv 0) (pv 2) (λ_ _=>rfl)) (b9 G.vq) rfl) (aL (DI (i:=2) nd rfl (zx rfl) bB Cd)) (aD (bb (i:=3) nd (az (GF G) hr ae (aA (pv 0) (aA (pv 2) aH)))) (aD (ax (fZ aR ak ao dU (pv 1) (aA (pv 3) aH))) (aL (DI (i:=2) nd rfl (zx rfl) (cF gO (by rfl) G.gR bP (aA (ag (pv 3) rfl) aH)) Cd))))))) (aD (ax (fZ aR ak ao dU (pv 1) (aA (gy (ud G) hr ae (aA (b9 G.V2) (aA (b9 G.wb) (aA (cF gO (by rfl) G.gR bP (aA (pv 0) aH)) aH)))) aH))) (aL (bE (pv 1)))))),?_⟩;refine⟨bR _,λl hl=>?_⟩;have len:∀{X:Cx},(bH u).length<=aj:=by intro _;rw[bM];exact sl (by omega)
 refine⟨aDz c H Q E u l,⟨_,0,_,[],[],rfl,bR _,rfl,aC,.nil,aCb hl,a9 _,k⟩,?_⟩;rintro m σ H' ⟨p,v,as,ts,rfl,hp,rfl,hL,al,sm,ln,k⟩;refine⟨_,rfl,_,rfl,bH u,rfl,by rw[bM];exact sl (by omega),_,_,rfl,rfl,_,rfl,?_⟩;rw[bM];by_cases lt:p<u.length
 ·rw[dE (show(p:Int)<(u.length:Int)by omega)];have hc:u[p]?=some u[p]:=aX lt;rw[VD p lt]at k;refine bq ⟨λσ' H2=>∃m',m' < u.length - p/\aDz c H Q E u l m' σ' H2,λσ' H2 z=>z,?_⟩;refine⟨_,rfl,_,rfl,bH u,_,u[p],rfl,rfl,by rw[bM];exact sl (by omega),eE (by rw[jZ];exact hc),u[p],_,rfl,rfl,_,rfl,?_⟩;rw[NY];by_cases q:u[p]=32\/u[p]=10
  ·rw[dE q];rw[iP q]at k;exact bq ⟨_,rfl,_,_,rfl,rfl,_,by omega,p+1,v,as,ts,rfl,lt,rfl,hL,al,sm,by omega,k⟩
  ·rw[dF q];rw[iN q]at k;refine bW ⟨_,rfl,_,rfl,u,p,rfl,lt,hu,?_⟩;cases e:UA (u.drop p)with
   |none=>rw[e]at k;exact Rz.step k (bA.kp sm)
   |some x=>
    obtain⟨y,h1,h2,h3⟩:=IQ (kd:=x.1) (tx:=x.2) e;rw[e]at k;dsimp only at k;rw[h1]at k;dsimp only at k;have hl1:=Mt.uf h1;rw[ay]at hl1;intro a dx H2 ha s2;have hL2:=s2 _ _ hL;refine⟨_,rfl,.inl ⟨rfl,_,bf.of hL2⟩,_,rfl,l,_,_,rfl,rfl,hL2,?_,?_⟩
    ·rw[aB,al.len];exact pG (by omega)
    have na:a≠l:=cR ha hL2 nofun;have sm3:bA H (aCc H2 l (.lst (as.map V.ref++[.ref a]))):=λb o z=>by rw[aJ (aK z hl)];exact s2 _ _ (sm _ _ z)
    refine⟨_,rfl,_,rfl,a,c.CT,dx,_,_,rfl,by rw[aJ na];exact ha,G.iQ,G.gr,qM,bH x.2,rfl,by rw[bM];exact sl (by omega),_,_,rfl,rfl,?_⟩;rw[bM];refine⟨_,?_,p+x.2.length,_,as++[a],ts++[⟨p,y.1⟩],rfl,by omega,rfl,?_,?_,sm3,?_,?_⟩
    ·omega
    ·rw[aC,aw];rfl
    ·refine Al.app (al.mono λb t z=>?_) (Al.one ⟨x.1,x.2,dx,h2,by omega,by rw[aJ na];exact ha⟩);obtain⟨kd,tx,dx',z1,z2,z3⟩:=z;have z4:=s2 _ _ z3;exact⟨kd,tx,dx',z1,z2,by rw[aJ (cR z4 hL2 nofun)];exact z4⟩
    ·simp only[aN,c4];omega
    ·cases e2:Mt.tk (p+x.2.length) (u.drop (p+x.2.length))with
     |error z=>rw[e2]at k;exact k
     |ok r=>rw[e2]at k;dsimp only[Res]at k ⊢;rw[bV];exact k
 ·rw[dF (show ¬(p:Int)<(u.length:Int)by omega)];have e:p=u.length:=by omega
  subst e;rw[fD,Mt.Sg]at k;refine bW ⟨_,rfl,.inl ⟨rfl,_,bf.of hL⟩,_,rfl,bH u,rfl,by rw[bM];exact sl (by omega),?_⟩;rw[bM];intro x dx nx nd nn;refine FE nx nd ⟨_,_,_,rfl,rfl⟩ λH2 ha s2=>⟨rfl,?_⟩;have hL2:=s2 _ _ hL;refine⟨l,_,_,rfl,rfl,hL2,by rw[aB,al.len];exact pG (by omega),_,rfl,?_⟩;have nl:x≠l:=cR ha hL2 nofun;refine k l _ ⟨as++[x],by rw[aC,aw];rfl,?_⟩ (λb o z=>?_) (by rw[aN];simp;omega)
  ·refine Al.app (al.mono λb t z=>?_) (Al.one ⟨"end",[],dx,.fin,by simp,by rw[aJ nl];exact ha⟩);obtain⟨kd,tx,dx',z1,z2,z3⟩:=z;have z4:=s2 _ _ z3;exact⟨kd,tx,dx',z1,z2,by rw[aJ (cR z4 hL2 nofun)];exact z4⟩
  ·rw[aJ (aK z hl)];exact s2 _ _ (sm _ _ z)
end
theorem qh{J:It}{n:Nat}{g:TG}{tb:TS}{D:Ends}{σ:L2.St}{H:Hp}(Pv:Nat->L2.St->Hp->Prop)(h0:Pv 0 σ H)(hgo:∀i σ H,i<n->Pv i σ H->J.go i H)(hst:∀σ H,Pv n σ H->J.stop n H)
  (hs:∀i σ H x H',i<n->Pv i σ H->J.OW i H x H'->g x σ H' λσ2 H2=>tb {D with nx:=Pv (i+1),ct:=Pv (i+1),bk:=D.nx} σ2 H2) (hd:∀σ H,Pv n σ H->D.nx σ H):
  ∃W:Nat->Nat->L2.St->Hp->Prop,(∃m,W 0 m σ H)/\∀i m σ H,W i m σ H->
   (J.stop i H/\D.nx σ H)\/(J.go i H/\∃N:L2.St->Hp->Prop,(∀σ' H',N σ' H'->∃m',m' < m/\W (i+1) m' σ' H')/\∀x H',J.OW i H x H'->g x σ H' λσ2 H2=>tb {D with nx:=N,ct:=N,bk:=D.nx} σ2 H2):=by
 refine⟨λi m σ H=>m=n - i/\i<=n/\Pv i σ H,⟨n,by simp,bR _,h0⟩,?_⟩;rintro i m σ H ⟨rfl,hi,p⟩;by_cases hlt:i<n
 ·exact .inr ⟨hgo i σ H hlt p,Pv (i+1),λσ' H' p'=>⟨n - (i+1),by omega,rfl,hlt,p'⟩,λx H' y=>hs i σ H x H' hlt p y⟩
 ·have e:i=n:=by omega
  subst e;exact .inl ⟨hst σ H p,hd σ H p⟩
theorem Q0{J:It}{n:Nat}{g:TG}{tt:L2.TT}{te:TE}{vs:List Nat}{σ:L2.St}{H1:Hp}{D:aF}{Qd:Hp->Prop}(Pv:Nat->Hp->Prop)(h0:Pv 0 (aCc H1 D (.lst [])))(hgo:∀i H,i<n->Pv i H->J.go i H)(hst:∀H,Pv n H->J.stop n H)
  (hs:∀i H x H',i<n->Pv i H->J.OW i H x H'->g x (wipe σ vs) H' λσ2 H2=>wipe σ2 vs=wipe σ vs/\tt σ2 H2 λb H3=> if b=true then te σ2 H3 λy H4=>∃acc,H4 D=some (.lst acc)/\acc.length<aj/\Pv (i+1) (aCc H4 D (.lst (acc++[y])))else Pv (i+1) H3) (hd:∀H,Pv n H->Qd H):
  ∃W:Nat->Nat->Hp->Prop,(∃m,W 0 m (aCc H1 D (.lst [])))/\∀i m H,W i m H->
   (J.stop i H/\Qd H)\/(J.go i H/\∃Nx:Hp->Prop,(∀H',Nx H'->∃m',m' < m/\W (i+1) m' H')/\∀x H',J.OW i H x H'->g x (wipe σ vs) H' λσ2 H2=>wipe σ2 vs=wipe σ vs/\tt σ2 H2 λb H3=> if b=true then te σ2 H3 λy H4=>∃acc,H4 D=some (.lst acc)/\acc.length<aj/\Nx (aCc H4 D (.lst (acc++[y])))else Nx H3):=by
 refine⟨λi m H=>m=n - i/\i<=n/\Pv i H,⟨n,by simp,bR _,h0⟩,?_⟩;rintro i m H ⟨rfl,hi,p⟩;by_cases hlt:i<n
 ·exact .inr ⟨hgo i H hlt p,Pv (i+1),λH' p'=>⟨n - (i+1),by omega,rfl,hlt,p'⟩,λx H' y=>hs i H x H' hlt p y⟩
 ·have e:i=n:=by omega
  subst e;exact .inl ⟨hst H p,hd H p⟩
theorem cy{α:Type}{l:List α}{i:Nat}{z:α}(h:l[i]?=some z):l.take (i+1)=l.take i++[z]:=by rw[VO,h];rfl
theorem jb{α:Type}{J:It}{zs:List α}{f:α->Option V}{g:TG}{tt:L2.TT}{te:TE}{vs:List Nat}{σ:L2.St}{H1:Hp}{D:aF}{Qd:Hp->Prop}(hD:H1 D=none)(hn:zs.length<=100000)(hgo:∀i H,i<zs.length->bA H1 H->J.go i H)(hst:∀H,bA H1 H->J.stop zs.length H)
  (hs:∀i z H x H' (Zy:VK) (Zn:Hp->Prop),zs[i]?=some z->bA H1 H->J.OW i H x H'->(∀y H4,f z=some y->bA H H4->Zy y H4)->(∀H4,f z=none->bA H H4->Zn H4)->g x (wipe σ vs) H' λσ2 H2=>wipe σ2 vs=wipe σ vs/\tt σ2 H2 λb H3=>if b=true then te σ2 H3 Zy else Zn H3)
  (hd:∀H,H D=some (.lst (zs.filterMap f))->bA H1 H->Qd H):
  ∃W:Nat->Nat->Hp->Prop,(∃m,W 0 m (aCc H1 D (.lst [])))/\∀i m H,W i m H->
   (J.stop i H/\Qd H)\/(J.go i H/\∃Nx:Hp->Prop,(∀H',Nx H'->∃m',m' < m/\W (i+1) m' H')/\∀x H',J.OW i H x H'->g x (wipe σ vs) H' λσ2 H2=>wipe σ2 vs=wipe σ vs/\tt σ2 H2 λb H3=> if b=true then te σ2 H3 λy H4=>∃acc,H4 D=some (.lst acc)/\acc.length<aj/\Nx (aCc H4 D (.lst (acc++[y])))else Nx H3):=by
 refine Q0 (n:=zs.length) (λi H=>H D=some (.lst ((zs.take i).filterMap f))/\bA H1 H) ⟨aC,aCb hD⟩ (λi H hi p=>hgo i H hi p.2) (λH p=>hst H p.2) (λi H x H' hi p y=>?_) (λH p=>hd H (by rw[p.1,cD]) p.2);have hz:zs[i]?=some zs[i]:=aX hi;refine hs i zs[i] H x H' _ _ hz p.2 y (λy H4 e s=>?_) λH4 e s=>?_
 ·refine⟨_,s _ _ p.1,pG (bw (bw (HD _ _) (by rw[cB];omega)) hn),?_,λb o z=>?_⟩
  ·rw[aC,cy hz,u9];simp[e]
  ·rw[aJ (aK z hD)];exact s _ _ (p.2 _ _ z)
 ·refine⟨?_,λb o z=>s _ _ (p.2 _ _ z)⟩;rw[s _ _ p.1,cy hz,u9];simp[e]
theorem Ft:fU "all"=some (.builtin "all"):=by trivial
theorem PM:fU "any"=some (.builtin "any"):=by trivial
theorem BV:fU "list"=some (.type "list"):=by trivial
theorem WK:fU "max"=some (.builtin "max"):=by trivial
theorem PN:fU "int"=some (.type "int"):=by trivial
theorem WL:fU "str"=some (.type "str"):=by trivial
theorem PQ:fU "ord"=some (.builtin "ord"):=by trivial
open Vamrqe (goodName)
section
variable{c:Cn}
inductive SE(vs:List V)(H:Hp)(Q:VK)(E_:XK):Prop
 |mk:∀(u:List Nat),vs=[.str (bH u)]->u.length<=2000->(∀H',bA H H'->Q (.bl (goodName u)) H')->SE vs H Q E_
theorem p5(G:aCe c):i7 c "is_file_name" 1 ["text"] SE:=by
 refine G.t6.gG (N:=["text","sign"]) (k:=0) (λH vs Q E nd hr h=>?_);obtain⟨u,rfl,hu,k⟩:=h;refine⟨_,aL (bE (wu (RP RJ RJ bB (cF gO (by rfl) G.gR bP (aA (pv 0) aH)) (b9 G.mU)) (qk (cF (xb rfl) (by rfl) G.Hf Ft (aA (ni (own:=[("sign",1)]) rfl nd (Km (pv 0)) (fo (by kernel_rfl)) (λ_ _ _ _ _=>d7 (i:=1) nd) (λ_ _ _ _ _=>kg) (λ_ _ _ _ _=>iR lM (pv 1) (b9 G.yK) rfl)) aH))))),?_⟩;have hl:(bH u).length<=aj:=by rw[bM];exact sl (by omega)
 have hg:goodName u=((decide (1<=u.length)&&decide (u.length<=12))&&u.all fz):=rfl;refine⟨_,rfl,bH u,rfl,hl,_,_,rfl,rfl,_,rfl,?_⟩;rw[bM];by_cases q1:1<=u.length
 ·refine aDx (show(1:Int)<=(u.length:Int)by omega) ⟨_,_,rfl,rfl,_,rfl,?_⟩;by_cases q2:u.length<=12
  ·rw[dE (show(u.length:Int)<=(12:Int)by omega)];rw[dE q1,dE q2,gZ,gZ]at hg;refine bq ⟨_,rfl,_,rfl,λD hD=>?_⟩;refine jb (zs:=u) (f:=λn=>some (.bl (fz n))) hD (by omega) (λi H' hi _=>by show i<(bH u).cps.size;rw[show(bH u).cps.size=u.length from by simp[bH]];exact hi) (λH' _=>by show(bH u).cps.size<=u.length;simp[bH]) ?_ ?_
   ·rintro i z H2 x H3 Zy Zn hz s2 ⟨rfl,z',h1,rfl⟩ k1 k2;have e:z'=z:=by
     have:(bH u).cps[i]?=u[i]?:=by simp[bH]
     rw[this,hz]at h1;injection h1 with h1;exact h1.symm
    subst e;refine⟨rfl,_,rfl,z',_,rfl,rfl,?_⟩;rw[UH];exact k1 _ _ rfl λ_ _ h=>h
   ·intro H2 e s2;refine⟨D,u.map fz,rfl,bf.of (by rw[e,bN];simp),?_⟩;rw[gW,show(id∘fz)=fz from rfl,<-hg];exact k _ s2
  ·rw[dF (show ¬(u.length:Int)<=(12:Int)by omega)];rw[dF q2,je,dg]at hg;rw[hg]at k;exact bW (k _ λ_ _ h=>h)
 ·rw[dF (show ¬(1:Int)<=(u.length:Int)by omega)];rw[dF q1,dg,dg]at hg;rw[hg]at k;exact bW ⟨_,rfl,bW (k _ λ_ _ h=>h)⟩
end
end Rv
namespace Rv
open Vamrqe (goodName namesOf cutAt)
theorem Gi:∀(u acc:List Nat),TL.Af [47] 0 acc u=cutAt acc.reverse u
 |[],acc=>by simp[TL.Af,cutAt]
 |n::r,acc=>by
  by_cases q:n=47
  ·subst q;rw[TL.M6 (by simp[TL.pre]),cutAt,iP rfl,List.reverse_reverse];congr 1;exact Gi r []
  ·rw[TL.JP (TL.Iz [] r q),cutAt,iN q,Gi r (acc++[n])];simp
theorem j0(u:List Nat):kj (bH u) "/"=(namesOf u).map bH:=by apply TL.Cp;rw[TL.OH (bH u) "/" (by decide) (TL.UL (by trivial))];show TL.Af [47] 0 [] (TL.tl (bH u))=_;rw[Gi,bN];show cutAt [] (TL.tl (bH u))=_;rw[show TL.tl (bH u)=u from jZ u,show(TL.tl∘bH)=id from funext λx=>jZ x,L9];rfl
theorem N5(u:List Nat):(namesOf u).length<=u.length+2:=by
 have:=Bi (bH u) "/"
 rw[j0,aB,bM]at this;exact this
theorem Cs(u:List Nat):namesOf u≠[]:=by
 have:=Zc (bH u) "/"
 rw[j0,aB]at this;intro z;rw[z]at this;simp at this
theorem A9{u n:List Nat}(h:n∈namesOf u):n.length<=u.length:=by
 have:bH n∈kj (bH u) "/":=by rw[j0];exact iJ.mpr ⟨n,h,rfl⟩
 have:=Zb this
 rw[bM,bM]at this;exact this
section
variable{c:Cn}
inductive SF(vs:List V)(H:Hp)(Q:VK)(E_:XK):Prop
 |mk:∀(u:List Nat),vs=[.str (bH u)]->u.length<=2000->(∀H',bA H H'->Q (.bl (d6 u)) H')->SF vs H Q E_
theorem Hr(G:aCe c):i7 c "is_path" 2 ["text"] SF:=by
 refine G.Ej.gG (N:=["text","names","name"]) (k:=1) (λH vs Q E nd hr h=>?_);obtain⟨u,rfl,hu,k⟩:=h;refine⟨_,aD (bb (i:=1) nd (yb (pv 0) cq)) (aD (cf (FT (bU Ab (cF gO (by rfl) G.gR bP (aA (pv 0) aH)) (b9 G.nY) (bt _)) (zg (bU Ab (cF dC (by rfl) G.gR bP (aA (pv 1) aH)) (b9 G.qj) (bt _)))).pt (aL (bE FL)) b8) (aL (bE (cF (xb rfl) (by rfl) G.Hf Ft (aA (ni (own:=[("name",2)]) rfl nd (dQ (pv 1)) (fo (by kernel_rfl)) (λ_ _ _ _ _=>d7 (i:=2) nd) (λ_ _ _ _ _=>kg) (λ_ _ _ _ _=>az (p5 G) hr DD (aA (pv 2) aH))) aH))))),?_⟩;have hl:(bH u).length<=aj:=by rw[bM];exact sl (by omega)
 refine⟨_,rfl,⟨_,rfl⟩,_,_,rfl,rfl,by decide,by rw[bM];exact sl (by omega),λp hp=>?_⟩;rw[j0,bN];have hL:(aCc H p (.lst ((namesOf u).map (V.str∘bH)))) p=some (.lst ((namesOf u).map (V.str∘bH))):=aC;have sm:bA H (aCc H p (.lst ((namesOf u).map (V.str∘bH)))):=aCb hp;generalize aCc H p (.lst ((namesOf u).map (V.str∘bH)))=H1 at hL sm;refine⟨_,rfl,bH u,rfl,hl,_,_,rfl,rfl,_,rfl,?_⟩;rw[bM];have hg:d6 u=((decide (u.length<=40)&&decide ((namesOf u).length<=4))&&(namesOf u).all goodName):=rfl;by_cases q1:u.length<=40
 ·refine aDw (show ¬(40:Int)<(u.length:Int)by omega) ⟨_,rfl,p,_,rfl,.inl (bf.of hL),_,_,rfl,rfl,_,rfl,?_⟩;rw[aB];by_cases q2:(namesOf u).length<=4
  ·rw[dF (show ¬(4:Int)<((namesOf u).length:Int)by omega)];rw[dE q1,dE q2,gZ,gZ]at hg;refine bW ⟨_,rfl,p,rfl,⟨_,bf.of hL⟩,λD hD=>?_⟩;refine jb (zs:=namesOf u) (f:=λn=>some (.bl (goodName n))) hD (by omega) (λi H' hi s1=>⟨_,_,bf.of (s1 _ _ hL),by rw[aP,aX hi];rfl⟩) (λH' s1=>⟨_,bf.of (s1 _ _ hL),by rw[aB];exact a9 _⟩) ?_ ?_
   ·rintro i z H2 x H3 Zy Zn hz s2 ⟨rfl,hx⟩ k1 k2;have hx:=hx _ (bf.of (s2 _ _ hL));rw[aP,hz]at hx;injection hx with hx;subst hx;refine⟨rfl,_,rfl,z,rfl,?_,λH4 s4=>k1 _ _ rfl s4⟩
    have:=A9 (bp hz)
    omega
   ·intro H2 e s2;refine⟨D,(namesOf u).map goodName,rfl,bf.of (by rw[e,bN];simp),?_⟩;rw[gW,show(id∘goodName)=goodName from rfl,<-hg];exact k _ λb o z=>s2 _ _ (sm _ _ z)
  ·rw[dE (show(4:Int)<((namesOf u).length:Int)by omega)];rw[dF q2,je,dg]at hg;rw[hg]at k;exact bq (k _ sm)
 ·rw[dE (show(40:Int)<(u.length:Int)by omega)];rw[dF q1,dg,dg]at hg;rw[hg]at k;exact bq (bq (k _ sm))
end
abbrev rg:aM:=[42,42]
def body(l:List aM):List aM:=if l.getLast?=some rg then l.dropLast else l
def mN(n:aM):Bool:=decide (n=[42])||goodName n
theorem DC(n:aM)(r:List aM):jX (n::r)=if n=rg then(if r.isEmpty=true then some [.rest]else none)else if n=[42]then(jX r).map (λl=>.any::l)else if goodName n=true then(jX r).map (λl=>.name n::l)else none:=by rw[jX]
theorem N2(h:r≠[]):(n::r).getLast?=r.getLast?:=by
 cases r with
 |nil=>exact absurd rfl h
 |cons m r=>rw[HX]
theorem ND(h:r≠[]):body (n::r)=n::body r:=by
 unfold body;rw[N2 h];by_cases q:r.getLast?=some rg
 ·rw[iP q,iP q,List.dropLast_cons_of_ne_nil h]
 ·rw[iN q,iN q]
theorem y8:∀l:List aM,(jX l).isSome=(body l).all mN
 |[]=>rfl
 |n::r=>by
  have ih:=y8 r;rw[DC];by_cases h:r=[]
  ·subst h;by_cases q:n=rg
   ·subst q;rfl
   ·have hb:body [n]=[n]:=by unfold body;rw[iN (by simpa using q)]
    rw[iN q,hb];by_cases q1:n=[42]
    ·subst q1;rfl
    ·rw[iN q1];simp only[g6,Xj,mN,dF q1,mI,Gy];by_cases q2:goodName n=true
     ·rw[iP q2,q2];rfl
     ·rw[iN q2,bT.mpr q2];rfl
  ·rw[ND h,g6,<-ih];by_cases q:n=rg
   ·subst q;rw[iP rfl,iN (by simpa using h)];rfl
   ·rw[iN q];by_cases q1:n=[42]
    ·subst q1;simp[mN]
    ·rw[iN q1];by_cases q2:goodName n=true
     ·rw[iP q2];simp[mN,q2]
     ·rw[iN q2];simp[mN,q1,bT.mpr q2]
def fits(a b:aM):Bool:=decide (a=[42])||decide (a=b)
theorem aCu:∀(l ms:List aM)(p:km),jX l=some p->Q2 p ms=((if l.getLast?=some rg then decide ((body l).length<ms.length)else decide ((body l).length=ms.length))&&((body l).zip ms).all λx=>fits x.1 x.2)
 |[],ms,p,h=>by cases h;cases ms <;> simp[Q2,body]
 |n::r,ms,p,h=>by
  by_cases q:n=rg
  ·subst q;rw[DC,iP rfl]at h;by_cases hr:r.isEmpty=true
   ·rw[iP hr]at h;have hr':r=[]:=by simpa using hr
    subst hr';cases h;cases ms <;> simp[Q2,body]
   ·rw[iN hr]at h;cases h
  ·have core:∀(x:Vamrqe.Part)(q':km),jX r=some q'->p=x::q'->(∀m l,Q2 (x::q') (m::l)=(fits n m&&Q2 q' l))->Q2 (x::q') []=false->
     Q2 p ms=((if(n::r).getLast?=some rg then decide ((body (n::r)).length<ms.length)else decide ((body (n::r)).length=ms.length))&&((body (n::r)).zip ms).all λx=>fits x.1 x.2):=by
    intro x q' h1 e h2 h3;subst e;have hb:body (n::r)=n::body r/\((n::r).getLast?=some rg↔r.getLast?=some rg):=by
     by_cases hr:r=[]
     ·subst hr;refine⟨?_,?_⟩
      ·unfold body;rw[iN (by simpa using q),iN (by simp)]
      ·simp[q]
     ·rw[ND hr,N2 hr];exact⟨rfl,Iff.rfl⟩
    rw[hb.1];cases ms with
    |nil=>rw[h3];split <;> simp
    |cons m l=>
     rw[h2,aCu r l q' h1];simp only[hb.2,aG,List.zip_cons_cons,g6,Nat.add_lt_add_iff_right,Nat.add_right_cancel_iff];by_cases z:r.getLast?=some rg
     ·rw[iP z];cases fits n m <;> simp
     ·rw[iN z];cases fits n m <;> simp
   rw[DC,iN q]at h;by_cases q1:n=[42]
   ·rw[iP q1]at h;cases e:jX r with
    |none=>rw[e]at h;cases h
    |some q'=>rw[e]at h;cases h;exact core _ q' e rfl (λm l=>by simp[Q2,fits,q1]) (by simp[Q2])
   ·rw[iN q1]at h;by_cases q2:goodName n=true
    ·rw[iP q2]at h;cases e:jX r with
     |none=>rw[e]at h;cases h
     |some q'=>rw[e]at h;cases h;exact core _ q' e rfl (λm l=>by simp[Q2,fits,q1]) (by simp[Q2])
    ·rw[iN q2]at h;cases h
end Rv
namespace Rv
open Vamrqe (namesOf)
theorem Eh(xs:List V):CF xs none (some (-1))=xs.dropLast:=by
 unfold CF;rw[HT.JI]
 have:HT.lO xs.length xs.length (some (-1))=xs.length - 1:=by simp only[HT.lO];rw[iP (by omega)];omega
 rw[this,vM,Nat.sub_zero,List.dropLast_eq_take]
theorem x8{α:Type}{l:List α}{x:α}(h:l.getLast?=some x):TV l (-1)=some x:=by
 have hl:0<l.length:=by
  cases l with
  |nil=>cases h
  |cons _ _=>simp
 rw[ju]at h;unfold TV
 have:TY l.length (-1)=some (l.length - 1):=by unfold TY;simp;omega
 rw[this];exact h
theorem z0{α:Type}{l:List α}(h:l≠[]):∃x,l.getLast?=some x:=⟨l.getLast h,List.getLast?_eq_some_getLast h⟩
theorem mC:(V.str (bH a)=V.str (bH b))↔a=b:=⟨λh=>by injection h with h;exact ki h,λh=>by rw[h]⟩
theorem UM{l:List aM}:(l.map (V.str∘bH)).dropLast=l.dropLast.map (V.str∘bH):=by rw[List.map_dropLast]
theorem Ie(l:List aM):(if l.getLast?=some rg then(l.map (V.str∘bH)).dropLast else l.map (V.str∘bH))=(body l).map (V.str∘bH):=by
 unfold body;by_cases q:l.getLast?=some rg
 ·rw[iP q,iP q,UM]
 ·rw[iN q,iN q]
theorem PH(l:List aM):(body l).length<=l.length:=by
 unfold body;split
 ·rw[L8];omega
 ·exact a9 _
theorem PL(h:n∈body l):n∈l:=by
 unfold body at h;split at h
 ·exact List.dropLast_subset _ h
 ·exact h
theorem DE(u:aM):(cW u).isSome=(decide (u.length<=40)&&decide ((namesOf u).length<=4)&&(body (namesOf u)).all mN):=by
 unfold cW;by_cases q:u.length<=40/\(namesOf u).length<=4
 ·rw[iP (show u.length<=Oa/\(namesOf u).length<=VS from q),y8,dE q.1,dE q.2];rfl
 ·rw[iN (show ¬(u.length<=Oa/\(namesOf u).length<=VS)from q)];by_cases q1:u.length<=40
  ·rw[dF (show ¬(namesOf u).length<=4 from λz=>q ⟨q1,z⟩)];simp
  ·rw[dF q1];simp
section
variable{c:Cn}
inductive Uj(vs:List V)(H:Hp)(Q:VK)(E_:XK):Prop
 |mk:∀(u:List Nat),vs=[.str (bH u)]->u.length<=2000->(∀H',bA H H'->Q (.bl (cW u).isSome) H')->Uj vs H Q E_
theorem tF(G:aCe c):i7 c "is_pattern" 2 ["text"] Uj:=by
 refine G.xx.gG (N:=["text","parts","part"]) (k:=1) (λH vs Q E nd hr h=>?_);obtain⟨u,rfl,hu,k⟩:=h;refine⟨_,aD (bb (i:=1) nd (yb (pv 0) cq)) (aD (cf (FT (bU Ab (cF gO (by rfl) G.gR bP (aA (pv 0) aH)) (b9 G.nY) (bt _)) (zg (bU Ab (cF dC (by rfl) G.gR bP (aA (pv 1) aH)) (b9 G.qj) (bt _)))).pt (aL (bE FL)) b8) (aD (cf (bU eX (fE du (pv 1) (wG pT bB) (λ_ _=>rfl)) (b9 G.jq) (bt _)) (aL (bb (i:=1) nd (ly B7 (pv 1) G7 (jc (wG pT bB))))) b8) (aL (bE (cF (xb rfl) (by rfl) G.Hf Ft (aA (ni (own:=[("part",2)]) rfl nd (dQ (pv 1)) (fo (by kernel_rfl)) (λ_ _ _ _ _=>d7 (i:=2) nd) (λ_ _ _ _ _=>kg) (λ_ _ _ _ _=>V8 (iR eX (pv 2) (b9 G.w9) (bt _)) (qk (az (p5 G) hr DD (aA (pv 2) aH))))) aH)))))),?_⟩;have hl:(bH u).length<=aj:=by rw[bM];exact sl (by omega)
 refine⟨_,rfl,⟨_,rfl⟩,_,_,rfl,rfl,by decide,by rw[bM];exact sl (by omega),λp hp=>?_⟩;rw[j0,bN];have hL:(aCc H p (.lst ((namesOf u).map (V.str∘bH)))) p=some (.lst ((namesOf u).map (V.str∘bH))):=aC;have sm:bA H (aCc H p (.lst ((namesOf u).map (V.str∘bH)))):=aCb hp;generalize aCc H p (.lst ((namesOf u).map (V.str∘bH)))=H1 at hL sm;refine⟨_,rfl,bH u,rfl,hl,_,_,rfl,rfl,_,rfl,?_⟩;rw[bM];have hg:=DE u;by_cases q1:u.length<=40
 ·refine aDw (show ¬(40:Int)<(u.length:Int)by omega) ⟨_,rfl,p,_,rfl,.inl (bf.of hL),_,_,rfl,rfl,_,rfl,?_⟩;rw[aB];by_cases q2:(namesOf u).length<=4
  ·rw[dF (show ¬(4:Int)<((namesOf u).length:Int)by omega)];rw[dE q1,dE q2,gZ,gZ]at hg;obtain⟨la,hla⟩:=z0 (Cs u);have go:∀(p2:aF)(H2:Hp),H2 p2=some (.lst ((body (namesOf u)).map (V.str∘bH)))->bA H H2->Gr (aAd (λxs H_1 Q=>∃a bs,xs=[V.ref a]/\bf c.K H_1 a (vN V.bl bs)/\Q (V.bl (bs.all id)) H_1) (gT (X3 (QN c.K (g9 1)) (tw 2) Uy (X4 (Mb Xu (g9 2) (tC (V.str "*"))) (OJ SE E0 (gT (g9 2) oA))) ([(("part":Str),2)].map (λx=>x.2))) oA)) {nx:=λ_ H'=>Q .fB H',rt:=Q} [some (.str (bH u)),some (.ref p2),none] H2:=by
    intro p2 H2 hL2 sm2;refine⟨_,rfl,p2,rfl,⟨_,bf.of hL2⟩,λD hD=>?_⟩;refine jb (zs:=body (namesOf u)) (f:=λn=>some (.bl (mN n))) hD (by have:=PH (namesOf u);omega) (λi H' hi s1=>⟨_,_,bf.of (s1 _ _ hL2),by rw[aP,aX hi];rfl⟩) (λH' s1=>⟨_,bf.of (s1 _ _ hL2),by rw[aB];exact a9 _⟩) ?_ ?_
    ·rintro i z H3 x H4 Zy Zn hz s2 ⟨rfl,hx⟩ k1 k2;have hx:=hx _ (bf.of (s2 _ _ hL2));rw[aP,hz]at hx;have e:x=V.str (bH z):=(aV hx).symm;subst e;refine⟨rfl,_,rfl,rfl,_,rfl,?_⟩;by_cases q:z=[42]
     ·exact aDx (show V.str (bH z)=V.str "*" by rw[q];rfl) (k1 _ _ (by unfold mN;rw[dE q];rfl) λ_ _ h=>h)
     ·refine aDw (show ¬V.str (bH z)=V.str "*" from λe=>q (mC.mp (e.trans (show V.str "*"=V.str (bH [42])from rfl)))) ⟨_,rfl,z,rfl,?_,λH5 s5=>k1 _ _ (by unfold mN;rw[dF q];rfl) s5⟩
      have:=A9 (PL (bp hz))
      omega
    ·intro H3 e s2;refine⟨D,(body (namesOf u)).map mN,rfl,bf.of (by rw[e,bN];simp),?_⟩;rw[gW,show(id∘mN)=mN from rfl,<-hg];exact k _ λb o z=>s2 _ _ (sm2 _ _ z)
   refine bW ⟨_,rfl,_,rfl,p,_,_,V.str (bH la),rfl,rfl,bf.of hL,x8 (by rw[zw,hla];rfl),rfl,_,rfl,?_⟩;have hb:=Ie (namesOf u);by_cases q3:la=rg
   ·rw[dE (show V.str (bH la)=V.str "**" by rw[q3];rfl)];rw[iP (by rw[hla,q3])]at hb;refine bq ⟨_,rfl,_,rfl,_,rfl,p,_,rfl,bf.of hL,λp2 hp2=>?_⟩;rw[Eh,hb];exact go p2 _ aC λb o z=>by rw[aJ (aK (sm _ _ z) hp2)];exact sm _ _ z
   ·rw[dF (show ¬V.str (bH la)=V.str "**" from λe=>q3 (mC.mp (e.trans (show V.str "**"=V.str (bH rg)from rfl))))];rw[iN (by rw[hla];simpa using q3)]at hb;rw[hb]at hL;exact bW (go p _ hL sm)
  ·rw[dE (show(4:Int)<((namesOf u).length:Int)by omega)];rw[dF q2,je,dg]at hg;rw[hg]at k;exact bq (k _ sm)
 ·rw[dE (show(40:Int)<(u.length:Int)by omega)];rw[dF q1,dg,dg]at hg;rw[hg]at k;exact bq (bq (k _ sm))
end
end Rv
namespace Rv
open Vamrqe (namesOf)
section
variable{X:Cx}{K:aU}
theorem RH(hK:X.K=K):yt X (gC .In) (aAa K false):=by subst hK;exact kS
theorem G2{k:Nat}{n:Nat}{pos:Pos}(hK:X.K=K)(hc:X.calm=true)(h:YL X es t)
  (hn:(nI es X.env).length=n:=by rfl) (hst:(nI es X.env).findIdx? (·.1)=none:=by rfl):PG X (.Tuple es k pos) (WZ K n t):=by
 subst hK;exact zb hc h hn hst
theorem ya(hK:X.K=K)(he:PE X e ta)(hb:gk e f X.env (eval e X.env)=eval e X.env):PE X (.Attribute e f pos) (S8 K ta f):=by subst hK;exact ag he hb
theorem IX(hK:X.K=K):Xi X (ZA K):=by subst hK;exact du
theorem UJ(hK:X.K=K):Xi X (R5 K):=by subst hK;exact wd
end
section
variable{c:Cn}
inductive Ul(vs:List V)(H:Hp)(Q:VK)(E_:XK):Prop
 |mk:∀(u v:List Nat)(p:km),vs=[.str (bH u),.str (bH v)]->u.length<=2000->v.length<=2000->cW u=some p->(∀H',bA H H'->Q (.bl (eA p v)) H')->Ul vs H Q E_
theorem mT(G:aCe c):i7 c "pattern_matches" 1 ["pattern","path"] Ul:=by
 refine G.oo.gG (N:=["pattern","path","parts","names","part","name"]) (k:=0) (λH vs Q E nd hr h=>?_);obtain⟨u,v,pt,rfl,hu,hv,hpt,k⟩:=h;refine⟨_,aD (bb (i:=2) nd (yb (pv 0) cq)) (aD (bb (i:=3) nd (yb (pv 1) cq)) (aD (cf (bU eX (fE du (pv 2) (wG pT bB) (λ_ _=>rfl)) (b9 G.jq) (bt _)) (aD (bb (i:=2) nd (ly B7 (pv 2) G7 (jc (wG pT bB)))) (aL (cf (bU RJ (cF dC (by rfl) G.gR bP (aA (pv 3) aH)) (cF dC (by rfl) G.gR bP (aA (pv 2) aH)) (bt _)) (aL (bE FL)) b8))) (aL (cf (bU MU (cF dC (by rfl) G.gR bP (aA (pv 3) aH)) (cF dC (by rfl) G.gR bP (aA (pv 2) aH)) (bt _)) (aL (bE FL)) b8))) (aL (bE (cF (xb rfl) (by rfl) G.Hf Ft (aA (ni (own:=[("part",4),("name",5)]) rfl nd (Wm (by rfl) G.VV (aA (pv 2) (aA (pv 3) aH))) (fo (by kernel_rfl)) (λ_ _ _ _ _=>G2 (K:=c.K) (n:=2) rfl rfl (gH (d7 (i:=4) nd) (gH (d7 (i:=5) nd) pB))) (λ_ _ _ _ _=>kg) (λ_ _ _ _ _=>iR (RH (K:=c.K) rfl) (pv 4) (pQ (aA (b9 G.w9) (aA (pv 5) aH))) rfl)) aH)))))),?_⟩;refine⟨_,rfl,⟨_,rfl⟩,_,_,rfl,rfl,by decide,by rw[bM];exact sl (by omega),λp hp=>?_⟩;rw[j0,bN];refine⟨_,rfl,⟨_,rfl⟩,_,_,rfl,rfl,by decide,by rw[bM];exact sl (by omega),λn hn=>?_⟩;rw[j0,bN];have hL:(aCc (aCc H p (.lst ((namesOf u).map (V.str∘bH)))) n (.lst ((namesOf v).map (V.str∘bH)))) p=some (.lst ((namesOf u).map (V.str∘bH))):=by rw[aJ (aK (aC (H:=H) (a:=p)) hn),aC]
 have hM:(aCc (aCc H p (.lst ((namesOf u).map (V.str∘bH)))) n (.lst ((namesOf v).map (V.str∘bH)))) n=some (.lst ((namesOf v).map (V.str∘bH))):=aC;have sm:bA H (aCc (aCc H p (.lst ((namesOf u).map (V.str∘bH)))) n (.lst ((namesOf v).map (V.str∘bH)))):=λb o z=>aCb hn b o (aCb hp b o z);generalize aCc (aCc H p (.lst ((namesOf u).map (V.str∘bH)))) n (.lst ((namesOf v).map (V.str∘bH)))=H1 at hL hM sm;obtain⟨la,hla⟩:=z0 (Cs u);have hparts:jX (namesOf u)=some pt:=by
  unfold cW at hpt;split at hpt
  ·exact hpt
  ·cases hpt
 have hm:eA pt v=_:=aCu (namesOf u) (namesOf v) pt hparts;have go:∀(p2:aF)(H2:Hp),H2 p2=some (.lst ((body (namesOf u)).map (V.str∘bH)))->H2 n=some (.lst ((namesOf v).map (V.str∘bH)))->bA H H2->eA pt v=((body (namesOf u)).zip (namesOf v)).all (λx=>fits x.1 x.2)->
   Gr (aAd (λxs H_1 Q=>∃a bs,xs=[V.ref a]/\bf c.K H_1 a (vN V.bl bs)/\Q (V.bl (bs.all id)) H_1) (gT (X3 (Yp c.K (gT (g9 2) (gT (g9 3) oA))) (WZ c.K 2 (QI (tw 4) (QI (tw 5) Yl))) Uy (Mb (aAa c.K false) (g9 4) (ZR (gT (tC (V.str "*")) (gT (g9 5) oA)))) ([(("part":Str),4),(("name":Str),5)].map (λx=>x.2))) oA)) {nx:=λ_ H'=>Q .fB H',rt:=Q} [some (.str (bH u)),some (.str (bH v)),some (.ref p2),some (.ref n),none,none] H2:=by
  intro p2 H2 hL2 hM2 sm2 e;refine⟨_,rfl,_,rfl,p2,n,_,_,rfl,bf.of hL2,bf.of hM2,λD hD=>?_⟩;have lz:((body (namesOf u)).zip (namesOf v)).length=min (body (namesOf u)).length (namesOf v).length:=List.length_zip;have lv:=N5 v;have at_:∀{i:Nat}{z:aM×aM},((body (namesOf u)).zip (namesOf v))[i]?=some z->(body (namesOf u))[i]?=some z.1/\(namesOf v)[i]?=some z.2:=λ{i z} h=>List.getElem?_zip_eq_some.mp h;refine jb (zs:=(body (namesOf u)).zip (namesOf v)) (f:=λx=>some (.bl (fits x.1 x.2))) hD (by rw[lz];omega) (λi H' hi s1=>?_) (λH' s1=>⟨_,_,bf.of (s1 _ _ hL2),bf.of (s1 _ _ hM2),by rw[aB,aB,lz];omega⟩) ?_ ?_
  ·obtain⟨h1,h2⟩:=at_ (aX hi);exact⟨_,_,_,_,bf.of (s1 _ _ hL2),bf.of (s1 _ _ hM2),by rw[aP,h1];rfl,by rw[aP,h2];rfl⟩
  ·rintro i z H3 x H4 Zy Zn hz s2 ⟨T,x1,x2,rfl,hT,rfl,y1,y2⟩ k1 k2;obtain⟨h1,h2⟩:=at_ hz;have y1:=y1 _ (bf.of (s2 _ _ hL2));have y2:=y2 _ (bf.of (s2 _ _ hM2));rw[aP,h1]at y1;rw[aP,h2]at y2;have e1:x1=V.str (bH z.1):=(aV y1).symm;have e2:x2=V.str (bH z.2):=(aV y2).symm;subst e1 e2;refine⟨T,_,rfl,qU.of aC,rfl,_,_,rfl,_,_,rfl,rfl,rfl,_,rfl,_,rfl,yh,λt ht=>⟨t,_,rfl,.inr (qU.of aC),rfl,rfl,?_⟩⟩;refine k1 _ _ ?_ λb o q=>by rw[aJ (aK (aCb hT _ _ q) ht)];exact aCb hT _ _ q
   congr 2
   show fits z.1 z.2=vw (V.str (bH z.1)) [V.str "*",V.str (bH z.2)];unfold vw fits;simp only[g7,Je,xP];show _=((("*":Str)==bH z.1)||(bH z.2==bH z.1));congr 1
   ·rw[b7];simp only[decide_eq_true_eq,beq_iff_eq];exact⟨λq=>by rw[q];rfl,λq=>ki (q.symm.trans (show("*":Str)=bH [42]from rfl))⟩
   ·rw[b7];simp only[decide_eq_true_eq,beq_iff_eq];exact⟨λq=>by rw[q],λq=>(ki q).symm⟩
  ·intro H3 e3 s2;refine⟨D,((body (namesOf u)).zip (namesOf v)).map λx=>fits x.1 x.2,rfl,bf.of (by rw[e3,bN];simp),?_⟩;rw[gW];rw[e]at k;exact k _ λb o z=>s2 _ _ (sm2 _ _ z)
 refine⟨_,rfl,_,rfl,p,_,_,V.str (bH la),rfl,rfl,bf.of hL,x8 (by rw[zw,hla];rfl),rfl,_,rfl,?_⟩;have hb:=Ie (namesOf u);by_cases q3:la=rg
 ·rw[dE (show V.str (bH la)=V.str "**" by rw[q3];rfl)];rw[iP (by rw[hla,q3])]at hb hm;refine bq ⟨_,rfl,_,rfl,_,rfl,p,_,rfl,bf.of hL,λp2 hp2=>?_⟩;rw[Eh,hb];have hM2:(aCc H1 p2 (.lst ((body (namesOf u)).map (V.str∘bH)))) n=some (.lst ((namesOf v).map (V.str∘bH))):=aCb hp2 _ _ hM;have sm2:bA H (aCc H1 p2 (.lst ((body (namesOf u)).map (V.str∘bH)))):=λb o z=>aCb hp2 _ _ (sm _ _ z);refine⟨_,rfl,n,_,rfl,.inl (bf.of hM2),_,rfl,p2,_,rfl,.inl (bf.of aC),_,_,rfl,rfl,_,rfl,?_⟩;rw[aB,aB];by_cases q4:(body (namesOf u)).length<(namesOf v).length
  ·rw[dF (show ¬((namesOf v).length:Int)<=((body (namesOf u)).length:Int)by omega)];rw[dE q4,gZ]at hm;exact bW (go p2 _ aC hM2 sm2 hm)
  ·rw[dE (show((namesOf v).length:Int)<=((body (namesOf u)).length:Int)by omega)];rw[dF q4,dg]at hm;rw[hm]at k;exact bq (k _ sm2)
 ·rw[dF (show ¬V.str (bH la)=V.str "**" from λe=>q3 (mC.mp (e.trans (show V.str "**"=V.str (bH rg)from rfl))))];rw[iN (by rw[hla];simpa using q3)]at hb hm;rw[hb]at hL;refine bW ⟨_,rfl,n,_,rfl,.inl (bf.of hM),_,rfl,p,_,rfl,.inl (bf.of hL),rfl,_,rfl,?_⟩;rw[aB,aB];by_cases q4:(body (namesOf u)).length=(namesOf v).length
  ·rw[dE (show V.int ((namesOf v).length:Int)=V.int ((body (namesOf u)).length:Int)by rw[q4])];rw[dE q4,gZ]at hm;exact bW (go p _ hL hM sm hm)
  ·rw[dF (show ¬V.int ((namesOf v).length:Int)=V.int ((body (namesOf u)).length:Int)from λz=>q4 (by injection z with z;omega))];rw[dF q4,dg]at hm;rw[hm]at k;exact bq (k _ sm)
end
end Rv
namespace Rv
open Vamrqe (At small digit atEnd next)
theorem QW{H:Hp}{a b C d C' d':aF}{fs fs':List (Str×V)}(h1:H a=some (.ins C d fs))(h2:H b=some (.ins C' d' fs'))(hl:fs.length≠fs'.length):a≠b:=λz=>by subst z;rw[h1]at h2;injection h2 with h2;injection h2 with h3 h4 h5;exact hl (by rw[h5])
def T3(l:aF)(i:Nat):List (Str×V):=[("tokens",.ref l),("at",.int i)]
theorem Ko:(T3 l i).lookup ("tokens":Str)=some (.ref l):=eD
theorem R6:(T3 l i).lookup ("at":Str)=some (.int i):=(cJ (by trivial)).trans eD
theorem cH(h1:¬("tokens":Str)=m:=by trivial)(h2:¬("at":Str)=m:=by trivial):(T3 l i).lookup m=none:=(cJ h1).trans ((cJ h2).trans rfl)
theorem U7{l:aF}{i j:Nat}:jP "at" (.int j) (T3 l i)=T3 l j:=by unfold T3;rw[bz (by trivial),pE]
inductive fj(c:Cn)(H:Hp)(r l:aF)(ts:List At):Prop
 |mk:∀i dx as all,H r=some (.ins c.CR dx (T3 l i))->H l=some (.lst (as.map V.ref))->Al (su c H) as all->i<=all.length->all.drop i=ts->fj c H r l ts
def Fin:List At->Prop
 |[]=>False
 |[a]=>a.tok=.fin
 |a::b::r=>a.tok≠.fin/\Fin (b::r)
theorem Fin.drop(h:Fin ts)(n:next ts≠.fin):Fin (ts.drop 1):=by
 match ts,h with
 |[a],h=>exact absurd h n
 |a::b::r,h=>exact h.2
theorem Fin.ne(h:Fin ts):ts≠[]:=by intro z;subst z;exact h
theorem fj.same(h:fj c H r l ts)(s:bA H H'):fj c H' r l ts:=by obtain⟨i,dx,as,all,h1,h2,h3,h4,h5⟩:=h;exact⟨i,dx,as,all,s _ _ h1,s _ _ h2,h3.mono λ_ _ z=>z.same s,h4,h5⟩
inductive Tx where
 |w (b:aM)
 |s (n:Nat)
 |e
def Tx.bytes:Tx->aM
 |.w b=>b
 |.s n=>[n]
 |.e=>[]
def Tx.is:Tx->List At->Bool
 |.w b,ts=>bS b ts
 |.s n,ts=>dG n ts
 |.e,ts=>atEnd ts
def Tx.ok:Tx->Bool
 |.w []=>false
 |.w (n::_)=>small n
 |.s n=>([40,41,44,59,61]:List Nat).contains n
 |.e=>true
def Tx.need(X:Tx)(ts:List At):kF (List At):=if X.is ts=true then .ok (ts.drop 1)else ku ts
theorem DX(h:small n=true)(k:n∈([40,41,44,59,61]:List Nat)):False:=by simp only[small,bG,decide_eq_true_eq]at h;simp at k;omega
theorem Mf{X:Tx}(ok:X.ok=true){t:At}{ts:List At}{kd:Str}{tx:aM}(h:TT t.tok kd tx):decide (V.str (bH tx)=V.str (bH X.bytes))=X.is (t::ts):=by
 have e:decide (V.str (bH tx)=V.str (bH X.bytes))=decide (tx=X.bytes):=by rw[b7];simp only[decide_eq_true_eq];exact mC
 rw[e];obtain⟨p,tok⟩:=t;dsimp only at h;cases X with
 |w b=>
  cases b with
  |nil=>cases ok
  |cons n b=>
   have ok:small n=true:=ok;show decide (tx=n::b)=bS (n::b) (⟨p,tok⟩::ts);cases h with
   |word h1 h2 h3 h4=>show _=decide (n::b=tx);rw[b7];simp only[decide_eq_true_eq];exact eq_comm
   |num h1 h2 h3=>
    show _=false;rw[dF];intro z;subst z;simp only[g6,bG]at h2
    have:=h2.1
    simp only[small,digit,bG,decide_eq_true_eq]at ok this;omega
   |pat=>show _=false;rw[dF];intro z;injection z with z1 z2;subst z1;exact absurd ok (by decide)
   |sign h1=>show _=false;rw[dF];intro z;injection z with z1 z2;subst z1;exact DX ok h1
   |fin=>rfl
 |s n=>
  have ok:n∈([40,41,44,59,61]:List Nat):=by simpa[Tx.ok]using ok
  show decide (tx=[n])=dG n (⟨p,tok⟩::ts);cases h with
  |word h1 h2 h3 h4=>show _=false;rw[dF];intro z;rw[h1]at z;injection z with z1 z2;subst z1;exact DX h2 ok
  |num h1 h2 h3=>show _=false;rw[dF];intro z;subst z;simp[digit]at h2;simp at ok;omega
  |pat=>show _=false;rw[dF];intro z;injection z with z1 z2;simp at z2
  |sign h1=>rename_i m;show _=decide (n=m);rw[b7];simp only[decide_eq_true_eq,qQ,and_true];exact eq_comm
  |fin=>rfl
 |e=>
  show decide (tx=[])=atEnd (⟨p,tok⟩::ts);cases h with
  |word h1 h2 h3 h4=>rw[h1];rfl
  |num h1 h2 h3=>show _=false;rw[dF];exact h1
  |pat=>rfl
  |sign h1=>rfl
  |fin=>rfl
section
variable{c:Cn}
def UD(r:List V)(fs:List (Str×V)):Prop:=∃l,r=[.ref l]/\fs=T3 l 0
theorem KJ(G:aCe c):Bb c "Reader" c.CR 2 ["self","tokens"] (JL c.CR UD):=by refine G.Ik.gG (N:=["self","tokens"]) (k:=0) (len:=λvs H Q E h=>by obtain⟨a,dx,r,fs,rfl,⟨l,rfl,rfl⟩,_⟩:=h;rfl) (λH vs Q E nd hr h=>?_);obtain⟨a,dx,r,fs,rfl,⟨l,rfl,rfl⟩,ha,k⟩:=h;refine⟨_,aD (d8 (pv 0) (pv 1) rfl) (aL (d8 (pv 0) bB rfl)),?_⟩;refine⟨_,rfl,_,rfl,a,c.CR,dx,_,rfl,ha,G.bL,G.mK,by show 0<1000;decide,?_⟩;refine⟨_,rfl,a,c.CR,dx,_,rfl,aC,G.bL,G.oa,by show 1<1000;decide,?_⟩;rw[dW,bz (show ¬("tokens":Str)="at" by trivial),dW];exact k _ aC ((Kp.put (by simp)).trans (Kp.put (by simp)))
inductive Us(c:Cn)(vs:List V)(H:Hp)(Q:VK)(E_:XK):Prop
 |mk:∀r l t ts,vs=[.ref r]->fj c H r l (t::ts)->(∀a,su c H a t->Q (.ref a) H)->Us c vs H Q E_
theorem kO(G:aCe c):ux c c.CR "token" 1 ["self"] (Us c):=by
 refine G.uI.gG (N:=["self"]) (k:=0) (λH vs Q E nd hr h=>?_);obtain⟨r,l,t,ts,rfl,⟨i,dx,as,all,h1,h2,h3,h4,h5⟩,k⟩:=h;refine⟨_,aL (bE (fE du (ag (pv 0) rfl) (ag (pv 0) rfl) (λ_ _=>rfl))),?_⟩;have ht:all[i]?=some t:=by rw[<-Dj,h5];rfl
 obtain⟨a,e1,e2⟩:=h3.at_ ht;exact⟨_,rfl,r,c.CR,dx,_,_,rfl,h1,G.bL,G.mK,Ko,_,rfl,r,c.CR,dx,_,_,rfl,h1,G.bL,G.oa,R6,l,_,_,.ref a,rfl,rfl,bf.of h2,eE (by rw[aP,e1];rfl),k a e2⟩
inductive SU(c:Cn)(vs:List V)(H:Hp)(Q:VK)(E_:XK):Prop
 |mk:∀r l t ts X,vs=[.ref r,.str (bH (Tx.bytes X))]->X.ok=true->fj c H r l (t::ts)->Q (.bl (X.is (t::ts))) H->SU c vs H Q E_
theorem fV(G:aCe c):ux c c.CR "stands" 2 ["self","text"] (SU c):=by refine G.r9.gG (N:=["self","text"]) (k:=1) (λH vs Q E nd hr h=>?_);obtain⟨r,l,t,ts,X,rfl,ok,hR,k⟩:=h;have hR':=hR;obtain⟨i,dx,as,all,h1,h2,h3,h4,h5⟩:=hR;refine⟨_,aL (bE (iR eX (ag (dI (kO G) G.bL (pv 0) hr ae) rfl) (pv 1) (bt _))),?_⟩;refine⟨_,rfl,r,dx,_,rfl,h1,cH,r,l,t,ts,rfl,hR',λa ha=>?_⟩;obtain⟨kd,tx,dx',e1,e2,e3⟩:=ha;refine⟨a,c.CT,dx',_,_,rfl,e3,G.iQ,G.gr,qM,_,rfl,rfl,?_⟩;rw[Mf ok e1];exact k
inductive XI(c:Cn)(vs:List V)(H:Hp)(Q:VK)(E_:XK):Prop
 |mk:∀r l t ts,vs=[.ref r]->fj c H r l (t::ts)->(∀kd tx H',TT t.tok kd tx->tx.length<=2000->fj c H' r l ts->Kp [r] H H'->Q (.str (bH tx)) H')->XI c vs H Q E_
theorem jT(G:aCe c):ux c c.CR "step" 2 ["self"] (XI c):=by
 refine G.wB.gG (N:=["self","text"]) (k:=1) (λH vs Q E nd hr h=>?_);obtain⟨r,l,t,ts,rfl,hR,k⟩:=h;have hR':=hR;obtain⟨i,dx,as,all,h1,h2,h3,h4,h5⟩:=hR;refine⟨_,aD (bb (i:=1) nd (ag (dI (kO G) G.bL (pv 0) hr ae) rfl)) (aD (FQ (pv 0) bB QR) (aL (bE (pv 1)))),?_⟩;refine⟨_,rfl,r,dx,_,rfl,h1,cH,r,l,t,ts,rfl,hR',λa ha=>?_⟩;obtain⟨kd,tx,dx',e1,e2,e3⟩:=ha;refine⟨a,c.CT,dx',_,_,rfl,e3,G.iQ,G.gr,qM,?_⟩;refine⟨_,rfl,r,c.CR,dx,_,_,rfl,h1,G.bL,G.oa,R6,?_⟩;refine⟨_,_,rfl,rfl,dx,_,h1,by show 2<1000;decide,_,rfl,?_⟩;rw[show((i:Int)+1)=((i+1:Nat):Int)from rfl,U7];have ht:i<all.length:=by
  rcases Aq i all.length with z|z
  ·exact z
  ·rw[jE z]at h5;cases h5
 have nl:l≠r:=cR h2 h1 nofun;refine k kd tx _ e1 e2 ⟨i+1,dx,as,all,aC,by rw[aJ nl];exact h2,h3.mono λb y z=>?_,ht,?_⟩ (Kp.put (by simp))
 ·obtain⟨kd',tx',d',z1,z2,z3⟩:=z;refine⟨kd',tx',d',z1,z2,?_⟩;rw[aJ (QW z3 h1 (by show ¬3=2;decide))];exact z3
 ·rw[<-lA,h5];rfl
end
end Rv
namespace Rv
open Vamrqe (At reserved)
section
variable{c:Cn}
theorem fj.ins(h:fj c H r l ts):∃i dx,H r=some (.ins c.CR dx (T3 l i)):=by obtain⟨i,dx,as,all,h1,_⟩:=h;exact⟨i,dx,h1⟩
inductive Nz(c:Cn)(vs:List V)(H:Hp)(Q:VK)(E:XK):Prop
 |mk:∀r l t ts b,vs=[.ref r,.bl b]->fj c H r l (t::ts)->(if b=true then Q .fB H else Rz c E [] H 4 t.place)->Nz c vs H Q E
theorem l9(G:aCe c):ux c c.CR "require" 4 ["self","can_stand"] (Nz c):=by
 refine G.qG.gG (N:=["self","can_stand"]) (k:=3) (λH vs Q E nd hr h=>?_);obtain⟨r,l,t,ts,b,rfl,hR,k⟩:=h;refine⟨_,aL (cf (uR (ck (pv 1) (λ_=>rfl))) (aL (pD G.xF hr (aA (ag (dI (kO G) G.bL (pv 0) hr ae) rfl) aH))) b8),?_⟩;refine⟨_,rfl,b,rfl,?_⟩;cases b with
 |true=>exact bW k
 |false=>obtain⟨i,dx,h1⟩:=hR.ins;refine bq ⟨_,rfl,r,dx,_,rfl,h1,cH,r,l,t,ts,rfl,hR,λa ha=>?_⟩;obtain⟨kd,tx,dx',e1,e2,e3⟩:=ha;exact⟨a,c.CT,dx',_,_,rfl,e3,G.iQ,G.lR,F3,by simp,4,t.place,⟨rfl,rfl⟩,k⟩
theorem Rj{E:XK}{M:List aF}{H:Hp}{X:Tx}{t:At}{ts:List At}{k:List At->Prop}(h:Res c E M H (X.need (t::ts)) k):if X.is (t::ts)=true then k ts else Rz c E M H 4 t.place:=by
 unfold Tx.need at h;by_cases q:X.is (t::ts)=true
 ·rw[iP q]at h ⊢;exact h
 ·rw[iN q]at h ⊢;exact h
inductive SV(c:Cn)(vs:List V)(H:Hp)(Q:VK)(E:XK):Prop
 |mk:∀r l t ts X,vs=[.ref r,.str (bH (Tx.bytes X))]->X.ok=true->fj c H r l (t::ts)->(Res c E [] H (X.need (t::ts)) λts'=>∀v H',fj c H' r l ts'->Kp [r] H H'->Q v H')->SV c vs H Q E
theorem jz(G:aCe c):ux c c.CR "take" 5 ["self","text"] (SV c):=by
 refine G.wC.gG (N:=["self","text"]) (k:=4) (λH vs Q E nd hr h=>?_);obtain⟨r,l,t,ts,X,rfl,ok,hR,k⟩:=h;refine⟨_,aD (ax (cg (l9 G) G.bL (pv 0) hr ae (aA (cg (fV G) G.bL (pv 0) hr ae (aA (pv 1) aH)) aH))) (aL (bE (dI (jT G) G.bL (pv 0) hr ae))),?_⟩;obtain⟨i,dx,h1⟩:=hR.ins;refine⟨_,rfl,r,dx,_,rfl,h1,cH,_,rfl,r,dx,_,rfl,h1,cH,_,rfl,r,l,t,ts,X,rfl,ok,hR,?_⟩;refine⟨r,l,t,ts,_,rfl,hR,?_⟩;have k:=Rj k;by_cases q:X.is (t::ts)=true
 ·rw[iP q]at k ⊢;exact⟨_,rfl,r,dx,_,rfl,h1,cH,r,l,t,ts,rfl,hR,λkd tx H' _ _ h2 h3=>k _ H' h2 h3⟩
 ·rw[iN q]at k ⊢;exact k
theorem Yq(w:aM):vw (V.str (bH w)) [.str "person",.str "group",.str "on",.str "need",.str "veto",.str "sticky",.str "default",.str "of",.str "author",.str "and",.str "or"]=reserved.contains w:=by show(reserved.map λx=>V.str (bH x)).any (λy=>Jh y (V.str (bH w)))=_;rw[jD,HC];congr 1;funext x;show(bH x==bH w)=(w==x);rw[b7,beq_iff_eq,beq_iff_eq];exact⟨λz=>(ki z).symm,λz=>by rw[z]⟩
inductive LA(c:Cn)(vs:List V)(H:Hp)(Q:VK)(E:XK):Prop
 |mk:∀r l t ts,vs=[.ref r]->fj c H r l (t::ts)->(Res c E [] H (cn (t::ts)) λx=>∀H',fj c H' r l x.2->Kp [r] H H'->Q (.str (bH x.1)) H')->LA c vs H Q E
theorem iE(G:aCe c):ux c c.CR "take_name" 5 ["self"] (LA c):=by
 refine G.n8.gG (N:=["self","token"]) (k:=4) (λH vs Q E nd hr h=>?_);obtain⟨r,l,t,ts,rfl,hR,k⟩:=h;refine⟨_,aD (bb (i:=1) nd (dI (kO G) G.bL (pv 0) hr ae)) (aD (ax (cg (l9 G) G.bL (pv 0) hr ae (aA (wu (iR eX (ag (pv 1) rfl) (b9 G.KZ) (bt _)) (qk (iR mh (ag (pv 1) rfl) (b9 G.C9) rfl))) aH))) (aL (bE (dI (jT G) G.bL (pv 0) hr ae)))),?_⟩;obtain⟨i,dx,h1⟩:=hR.ins;refine⟨_,rfl,r,dx,_,rfl,h1,cH,r,l,t,ts,rfl,hR,λa ha=>?_⟩;obtain⟨kd,tx,dx',e1,e2,e3⟩:=ha;refine⟨_,rfl,r,dx,_,rfl,h1,cH,_,rfl,a,c.CT,dx',_,_,rfl,e3,G.iQ,G.j9,yl,rfl,_,rfl,?_⟩;obtain⟨p,tok⟩:=t;dsimp only at e1 e3;have bad:∀{z:VK},cn (⟨p,tok⟩::ts)=ku (⟨p,tok⟩::ts)->Nz c [.ref r,.bl false] H z E:=λe=>by rw[e]at k;exact⟨r,l,_,ts,false,rfl,hR,k⟩
 cases e1 with
 |word w1 w2 w3 w4=>
  refine aDx rfl ⟨_,rfl,a,c.CT,dx',_,_,rfl,e3,G.iQ,G.gr,qM,c.KW,_,rfl,.inr (G.D5 H),rfl,rfl,?_⟩;rw[Yq];have hn:jW tx=!reserved.contains tx:=by rw[w1]at w3 w4 ⊢;simp only[g6,bG]at w3;unfold jW;simp only;rw[w2,w3.2,dE (show(_::_:aM).length<=Vs from w4)];rfl
  have hk:cn (⟨p,.word tx⟩::ts)=if jW tx=true then .ok (tx,ts)else ku (⟨p,.word tx⟩::ts):=rfl;rw[hk,hn]at k;cases q:reserved.contains tx with
  |true=>rw[q]at k;exact⟨r,l,_,ts,false,rfl,hR,k⟩
  |false=>
   rw[q]at k;refine⟨r,l,_,ts,true,rfl,hR,bq ⟨_,rfl,r,dx,_,rfl,h1,cH,r,l,_,ts,rfl,hR,λkd tx' H' t1 t2 h2 h3=>?_⟩⟩;cases t1 with
   |word _ _ _ _=>exact k H' h2 h3
 |num w1 w2 w3=>exact aDw (by intro z;injection z with z;exact absurd z (by trivial)) (bad rfl)
 |pat=>exact aDw (by intro z;injection z with z;exact absurd z (by trivial)) (bad rfl)
 |sign w1=>exact aDw (by intro z;injection z with z;exact absurd z (by trivial)) (bad rfl)
 |fin=>exact aDw (by intro z;injection z with z;exact absurd z (by trivial)) (bad rfl)
end
end Rv
namespace Rv
open Vamrqe (At digit worth next)
theorem IB(p:aM):KN (bH (39::(p++[39]))) (some 1) (some (-1))=bH p:=by
 unfold KN;rw[bM,jZ];have h1:HT.lO (39::(p++[39])).length 0 (some 1)=1:=by rw[show(1:Int)=((1:Nat):Int)from rfl,HT.qw];simp
 have h2:HT.lO (39::(p++[39])).length (39::(p++[39])).length (some (-1))=p.length+1:=by simp only[HT.lO];rw[iP (by omega)];simp;omega
 rw[h1,h2];simp[bH]
theorem Yf(d:aM)(h:d.all digit=true)(h0:d≠[])(h2:d.length<=2):intText? (bH d)=some ((worth d:Nat):Int)/\worth d<=99:=by
 have key1:∀a:_root_.Fin 10,intText? (bH [48+a.1])=some ((worth [48+a.1]:Nat):Int)/\worth [48+a.1]<=99:=by trivial
 have key2:∀a b:_root_.Fin 10,intText? (bH [48+a.1,48+b.1])=some ((worth [48+a.1,48+b.1]:Nat):Int)/\worth [48+a.1,48+b.1]<=99:=by trivial
 match d,h,h0,h2 with
 |[a],h,_,_=>
  simp[digit]at h
  have:=key1 ⟨a - 48,by omega⟩
  rw[show 48+(a - 48)=a from by omega]at this;exact this
 |[a,b],h,_,_=>
  simp[digit]at h
  have:=key2 ⟨a - 48,by omega⟩ ⟨b - 48,by omega⟩
  rw[show 48+(a - 48)=a from by omega,show 48+(b - 48)=b from by omega]at this;exact this
def kG(ts:List At):kF (Nat×List At):=match next ts with
 |.num k=>if 1<=k/\k<=BQ then .ok (k,ts.drop 1)else ku ts
 |_=>ku ts
section
variable{c:Cn}
inductive OE(c:Cn)(vs:List V)(H:Hp)(Q:VK)(E:XK):Prop
 |mk:∀r l t ts,vs=[.ref r]->fj c H r l (t::ts)->(Res c E [] H (d5 (t::ts)) λx=>∀u H',cW u=some x.1->fj c H' r l x.2->Kp [r] H H'->Q (.str (bH u)) H')->OE c vs H Q E
theorem pb(G:aCe c):ux c c.CR "take_pattern" 5 ["self"] (OE c):=by
 refine G.lG.gG (N:=["self","token"]) (k:=4) (λH vs Q E nd hr h=>?_);obtain⟨r,l,t,ts,rfl,hR,k⟩:=h;refine⟨_,aD (bb (i:=1) nd (dI (kO G) G.bL (pv 0) hr ae)) (aD (ax (cg (l9 G) G.bL (pv 0) hr ae (aA (wu (iR eX (ag (pv 1) rfl) (b9 G.zS) (bt _)) (qk (az (tF G) hr ae (aA (ly Gg (ag (pv 1) rfl) (jc bB) (jc (wG pT bB))) aH)))) aH))) (aL (bE (ly Gg (dI (jT G) G.bL (pv 0) hr ae) (jc bB) (jc (wG pT bB)))))),?_⟩;obtain⟨i,dx,h1⟩:=hR.ins;refine⟨_,rfl,r,dx,_,rfl,h1,cH,r,l,t,ts,rfl,hR,λa ha=>?_⟩;obtain⟨kd,tx,dx',e1,e2,e3⟩:=ha;refine⟨_,rfl,r,dx,_,rfl,h1,cH,_,rfl,a,c.CT,dx',_,_,rfl,e3,G.iQ,G.j9,yl,rfl,_,rfl,?_⟩;obtain⟨p,tok⟩:=t;dsimp only at e1 e3;have bad:∀{z:VK},d5 (⟨p,tok⟩::ts)=ku (⟨p,tok⟩::ts)->Nz c [.ref r,.bl false] H z E:=λe=>by rw[e]at k;exact⟨r,l,_,ts,false,rfl,hR,k⟩
 cases e1 with
 |word w1 w2 w3 w4=>exact aDw (by intro z;injection z with z;exact absurd z (by trivial)) (bad rfl)
 |num w1 w2 w3=>exact aDw (by intro z;injection z with z;exact absurd z (by trivial)) (bad rfl)
 |pat=>
  rename_i u;rw[dE rfl];have hlen:(39::(u++[39])).length=u.length+2:=by simp
  have hu:u.length<=2000:=by omega
  refine bq ⟨_,rfl,a,c.CT,dx',_,_,rfl,e3,G.iQ,G.gr,qM,1,rfl,_,rfl,-1,rfl,_,rfl,by rw[bM];exact sl (by omega),?_⟩;rw[IB];refine⟨u,rfl,hu,λH1 s1=>?_⟩;have hR1:=hR.same s1;have h1':=s1 _ _ h1;cases q:cW u with
  |none=>
   have:d5 (⟨p,.pat u⟩::ts)=ku (⟨p,.pat u⟩::ts):=by show(match cW u with|some p=>_|none=>_)=_;rw[q]
   rw[this]at k;exact⟨r,l,_,ts,false,rfl,hR1,Rz.step k (bA.kp s1)⟩
  |some pt=>
   have:d5 (⟨p,.pat u⟩::ts)=.ok (pt,ts):=by show(match cW u with|some p=>_|none=>_)=_;rw[q];rfl
   rw[this]at k;refine⟨r,l,_,ts,true,rfl,hR1,bq ⟨_,rfl,r,dx,_,rfl,h1',cH,r,l,_,ts,rfl,hR1,λkd tx' H' t1 t2 h2 h3=>?_⟩⟩;cases t1 with
   |pat=>refine⟨1,rfl,_,rfl,-1,rfl,_,rfl,by rw[bM];exact sl (by omega),?_⟩;rw[IB];exact k u H' q h2 ((bA.kp s1).trans h3)
 |sign w1=>exact aDw (by intro z;injection z with z;exact absurd z (by trivial)) (bad rfl)
 |fin=>exact aDw (by intro z;injection z with z;exact absurd z (by trivial)) (bad rfl)
inductive OD(c:Cn)(vs:List V)(H:Hp)(Q:VK)(E:XK):Prop
 |mk:∀r l t ts,vs=[.ref r]->fj c H r l (t::ts)->(Res c E [] H (kG (t::ts)) λx=>∀H',fj c H' r l x.2->Kp [r] H H'->Q (.int (x.1:Nat)) H')->OD c vs H Q E
theorem BH(G:aCe c):ux c c.CR "take_amount" 5 ["self"] (OD c):=by
 refine G.lj.gG (N:=["self","token"]) (k:=4) (λH vs Q E nd hr h=>?_);obtain⟨r,l,t,ts,rfl,hR,k⟩:=h;refine⟨_,aD (bb (i:=1) nd (dI (kO G) G.bL (pv 0) hr ae)) (aD (ax (cg (l9 G) G.bL (pv 0) hr ae (aA (wu (iR eX (ag (pv 1) rfl) (b9 G.yN) (bt _)) (qk (iR Ab (lN xf (by rfl) G.PB PN (aA (ag (pv 1) rfl) aH)) bB (bt _)))) aH))) (aL (bE (lN xf (by rfl) G.PB PN (aA (dI (jT G) G.bL (pv 0) hr ae) aH))))),?_⟩;obtain⟨i,dx,h1⟩:=hR.ins;refine⟨_,rfl,r,dx,_,rfl,h1,cH,r,l,t,ts,rfl,hR,λa ha=>?_⟩;obtain⟨kd,tx,dx',e1,e2,e3⟩:=ha;refine⟨_,rfl,r,dx,_,rfl,h1,cH,_,rfl,a,c.CT,dx',_,_,rfl,e3,G.iQ,G.j9,yl,rfl,_,rfl,?_⟩;obtain⟨p,tok⟩:=t;dsimp only at e1 e3;have bad:∀{z:VK},kG (⟨p,tok⟩::ts)=ku (⟨p,tok⟩::ts)->Nz c [.ref r,.bl false] H z E:=λe=>by rw[e]at k;exact⟨r,l,_,ts,false,rfl,hR,k⟩
 cases e1 with
 |word w1 w2 w3 w4=>exact aDw (by intro z;injection z with z;exact absurd z (by trivial)) (bad rfl)
 |num w1 w2 w3=>
  rw[dE rfl];obtain⟨d1,d2⟩:=Yf tx w2 w1 w3;refine bq ⟨_,rfl,a,c.CT,dx',_,_,rfl,e3,G.iQ,G.gr,qM,_,_,rfl,d1,by rw[bM];omega,_,_,rfl,rfl,?_⟩;have hk:kG (⟨p,.num (worth tx)⟩::ts)=if 1<=worth tx/\worth tx<=BQ then .ok (worth tx,ts)else ku (⟨p,.num (worth tx)⟩::ts):=rfl;rw[hk]at k;by_cases q:0<worth tx
  ·rw[iP ⟨q,d2⟩]at k;refine⟨r,l,_,ts,_,rfl,hR,?_⟩;refine aDx (show(0:Int)<((worth tx:Nat):Int)by omega) ⟨_,rfl,r,dx,_,rfl,h1,cH,r,l,_,ts,rfl,hR,λkd tx' H' t1 t2 h2 h3=>?_⟩
   have:∃d,d=worth tx/\TT (AA d) kd tx':=⟨_,rfl,t1⟩
   obtain⟨d,hd,t1⟩:=this;generalize hx:AA d=y at t1;cases t1 with
   |num w1' w2' w3'=>injection hx with hx;obtain⟨d1',d2'⟩:=Yf tx' w2' w1' w3';refine⟨_,_,rfl,d1',by rw[bM];omega,?_⟩;rw[<-hx,hd];exact k H' h2 h3
   |word _ _ _ _=>cases hx
   |pat=>cases hx
   |sign _=>cases hx
   |fin=>cases hx
  ·rw[iN (by omega)]at k;refine⟨r,l,_,ts,_,rfl,hR,?_⟩;rw[dF (show ¬(0:Int)<((worth tx:Nat):Int)by omega)];exact k
 |pat=>exact aDw (by intro z;injection z with z;exact absurd z (by trivial)) (bad rfl)
 |sign w1=>exact aDw (by intro z;injection z with z;exact absurd z (by trivial)) (bad rfl)
 |fin=>exact aDw (by intro z;injection z with z;exact absurd z (by trivial)) (bad rfl)
end
end Rv
namespace Rv
open Vamrqe (At next wOf)
open Mt (PT)
section
variable{c:Cn}{E:XK}{M M':List aF}{H H1 H':Hp}{A B:Type}
theorem Res.to(h:Res c E M H r k)(kp:Kp M H H1)(sub:∀b∈M',b∈M)(hk:∀x,r=.ok x->k x->k' x):Res c E M' H1 r k':=by
 cases r with
 |ok x=>exact hk x rfl h
 |error e=>exact(Rz.step h kp).less sub
theorem Res.then(h:Res c E M H (bc r f) k):Res c E M H r λx=>Res c E M H (f x) k:=by
 cases r with
 |ok x=>exact h
 |error e=>exact h
def mX(M:List aF)(H:Hp):Prop:=∀b∈M,∀C d fs,H b=some (.ins C d fs)->fs.length≠3
theorem mX.ins(n:mX M H)(h:H a=some (.ins C d fs))(hl:fs.length=3):a∉M:=λz=>n a z C d fs h hl
theorem fg:mX [] H:=λb hb=>by simp at hb
theorem mX.cons(h:∀C d fs,H a=some (.ins C d fs)->fs.length≠3)(n:mX M H):mX (a::M) H:=λb hb C d fs e=>by
 rcases af.mp hb with z|z
 ·subst z;exact h C d fs e
 ·exact n b z C d fs e
theorem jO(e:H a=some (.lst xs)):∀C d fs,H a=some (.ins C d fs)->fs.length≠3:=λC d fs z=>by rw[e]at z;cases z
theorem uj(e:H a=some (.ins C d fs))(hl:fs.length≠3):∀C d fs,H a=some (.ins C d fs)->fs.length≠3:=λC d fs z=>by rw[e]at z;injection z with z;injection z with z1 z2 z3;rw[<-z3];exact hl
theorem su.kp(h:su c H a t)(k:Kp M H H')(n:mX M H):su c H' a t:=by obtain⟨kd,tx,dx,h1,h2,h3⟩:=h;exact⟨kd,tx,dx,h1,h2,k _ _ h3 (n.ins h3 rfl)⟩
theorem fj.kp(h:fj c H r l ts)(k:Kp M H H')(hr:r∉M)(hl:l∉M)(n:mX M H):fj c H' r l ts:=by obtain⟨i,dx,as,all,h1,h2,h3,h4,h5⟩:=h;exact⟨i,dx,as,all,k _ _ h1 hr,k _ _ h2 hl,h3.mono λ_ _ z=>z.kp k n,h4,h5⟩
theorem fj.Zz(h:fj c H r l ts):∀C d fs,H r=some (.ins C d fs)->fs.length≠3:=by obtain⟨i,dx,h1⟩:=h.ins;exact uj h1 (by show ¬2=3;decide)
def ze:PT->Str
 |.by_ _=>"name"
 |.some_ _ _=>"some of"
 |.author _=>"author"
 |.and=>"and"
 |.or=>"or"
def V9:PT->Nat
 |.some_ k _=>k
 |_=>0
def U6:PT->aM
 |.by_ n=>n
 |.some_ _ n=>n
 |.author n=>n
 |_=>[]
def Yy(k:Str)(a:Int)(n:Str):List (Str×V):=[("kind",.str k),("amount",.int a),("name",.str n)]
theorem gJ:(Yy k a n).lookup ("kind":Str)=some (.str k):=eD
theorem wx:(Yy k a n).lookup ("amount":Str)=some (.int a):=(cJ (by trivial)).trans eD
theorem kf:(Yy k a n).lookup ("name":Str)=some (.str n):=(cJ (by trivial)).trans ((cJ (by trivial)).trans eD)
def xU(c:Cn)(H:Hp)(a:aF)(p:PT):Prop:=∃dx,H a=some (.ins c.CP dx (Yy (ze p) (V9 p) (bH (U6 p))))/\(U6 p).length<=12/\V9 p<=99
theorem xU.kp(h:xU c H a p)(k:Kp M H H')(n:mX M H):xU c H' a p:=by obtain⟨dx,h1,h2⟩:=h;exact⟨dx,k _ _ h1 (n.ins h1 rfl),h2⟩
theorem xU.same(h:xU c H a p)(s:bA H H'):xU c H' a p:=by obtain⟨dx,h1,h2⟩:=h;exact⟨dx,s _ _ h1,h2⟩
def Ym(r:List V)(fs:List (Str×V)):Prop:=∃k a n,r=[.str k,.int a,.str n]/\fs=Yy k a n
theorem xg(G:aCe c):Bb c "Part" c.CP 2 ["self","kind","amount","name"] (JL c.CP Ym):=by refine G.RB.gG (N:=["self","kind","amount","name"]) (k:=0) (len:=λvs H Q E h=>by obtain⟨a,dx,r,fs,rfl,⟨kd,tx,p,rfl,rfl⟩,_⟩:=h;rfl) (λH vs Q E nd hr h=>?_);obtain⟨a,dx,r,fs,rfl,⟨kd,tx,p,rfl,rfl⟩,ha,k⟩:=h;refine⟨_,aD (d8 (pv 0) (pv 1) rfl) (aD (d8 (pv 0) (pv 2) rfl) (aL (d8 (pv 0) (pv 3) rfl))),?_⟩;refine⟨_,rfl,_,rfl,a,c.CP,dx,_,rfl,ha,G.eW,G.dP,by show 0<1000;decide,?_⟩;refine⟨_,rfl,_,rfl,a,c.CP,dx,_,rfl,aC,G.eW,G.jx,by show 1<1000;decide,?_⟩;rw[dW,bz (show ¬("kind":Str)="amount" by trivial),dW];refine⟨_,rfl,_,rfl,a,c.CP,dx,_,rfl,aC,G.eW,G.fk,by show 2<1000;decide,?_⟩;rw[bz (show ¬("kind":Str)="name" by trivial),bz (show ¬("amount":Str)="name" by trivial),dW];exact k _ aC (((Kp.put (by simp)).trans (Kp.put (by simp))).trans (Kp.put (by simp)))
end
theorem nh(h:cn ts=.ok x)(f:Fin ts):Fin x.2/\x.1.length<=12/\jW x.1=true:=by
 obtain⟨h1,h2⟩:=Mt.iZ h;rw[h1];cases ts with
 |nil=>exact absurd rfl h2
 |cons a r=>
  unfold cn at h;cases q:a.tok with
  |word w=>
   have e:next (a::r)=.word w:=q;rw[e]at h;dsimp only at h;by_cases q2:jW w=true
   ·rw[iP q2]at h;injection h with h;subst h;refine⟨f.drop (by rw[e];intro z;cases z),?_,q2⟩;unfold jW at q2;split at q2
    ·simp
    ·simp only[bG,decide_eq_true_eq]at q2;exact q2.1.2
   ·rw[iN q2]at h;cases h
  |num n=>have e:next (a::r)=.num n:=q;rw[e]at h;cases h
  |pat n=>have e:next (a::r)=.pat n:=q;rw[e]at h;cases h
  |sign n=>have e:next (a::r)=.sign n:=q;rw[e]at h;cases h
  |fin=>have e:next (a::r)=.fin:=q;rw[e]at h;cases h
theorem lL{X:Tx}{ts:List At}(hX:X≠.e)(h:X.is ts=true):next ts≠.fin:=λz=>by
 cases X with
 |w b=>have h:bS b ts=true:=h;unfold bS at h;rw[z]at h;cases h
 |s b=>have h:dG b ts=true:=h;unfold dG at h;rw[z]at h;cases h
 |e=>exact hX rfl
theorem uL{X:Tx}{ts ts':List At}(hX:X≠.e)(h:X.need ts=.ok ts')(f:Fin ts):ts'=ts.drop 1/\Fin ts':=by
 unfold Tx.need at h;by_cases q:X.is ts=true
 ·rw[iP q]at h;injection h with h;subst h;exact⟨rfl,f.drop (lL hX q)⟩
 ·rw[iN q]at h;cases h
theorem Jv(h:kG ts=.ok x)(f:Fin ts):Fin x.2/\x.1<=99:=by
 unfold kG at h;split at h
 ·rename_i k e;split at h
  ·rename_i q;injection h with h;subst h;exact⟨f.drop (by rw[e];intro z;cases z),q.2⟩
  ·cases h
 ·cases h
theorem Fin.cons(h:Fin ts):∃t r,ts=t::r:=by
 cases ts with
 |nil=>exact absurd rfl h.ne
 |cons t r=>exact⟨t,r,rfl⟩
theorem Nb(h:t.tok=.num k):iH (t::ts)=bc (kG (t::ts)) λa=>bc ((Tx.w wOf).need a.2) λr=>bc (cn r) λx=>.ok (.some_ a.1 x.1,x.2):=by
 have e:next (t::ts)=.num k:=h;unfold iH kG;rw[e];dsimp only;by_cases q:1<=k/\k<=BQ
 ·rw[iP q,iP q];rfl
 ·rw[iN q,iN q];rfl
theorem G6(h:bS mR (t::ts)=true):iH (t::ts)=bc (cn ts) λx=>.ok (.author x.1,x.2):=by
 unfold bS at h;split at h
 ·rename_i v e
  have:mR=v:=by simpa using h
  unfold iH;rw[e];dsimp only;rw[iP this.symm];rfl
 ·cases h
theorem RY(h1:∀k,t.tok≠.num k)(h2:bS mR (t::ts)=false):iH (t::ts)=bc (cn (t::ts)) λx=>.ok (.by_ x.1,x.2):=by
 unfold iH;cases q:t.tok with
 |word w=>have e:next (t::ts)=.word w:=q;unfold bS at h2;rw[e]at h2 ⊢;dsimp only at h2 ⊢;rw[iN (by intro z;rw[z]at h2;simp at h2)]
 |num n=>exact absurd q (h1 n)
 |pat n=>have e:next (t::ts)=.pat n:=q;unfold cn;rw[e];rfl
 |sign n=>have e:next (t::ts)=.sign n:=q;unfold cn;rw[e];rfl
 |fin=>have e:next (t::ts)=.fin:=q;unfold cn;rw[e];rfl
end Rv
namespace Rv
open Vamrqe (wOf)
open Mt (post)
section
variable{c:Cn}
inductive Ny(c:Cn)(vs:List V)(H:Hp)(Q:VK)(E:XK):Prop
 |mk:∀r l ts,vs=[.ref r]->Fin ts->fj c H r l ts->(Res c E [r] H (iH ts) λx=>∀a p H',post x.1=[p]->xU c H' a p->fj c H' r l x.2->Kp [r] H H'->Fin x.2->Q (.ref a) H')->Ny c vs H Q E
theorem Fz(G:aCe c):i7 c "read_one" 6 ["reader"] (Ny c):=by
 refine G.CI.gG (N:=["reader","amount"]) (k:=5) (λH vs Q E nd hr h=>?_);obtain⟨r,l,ts,rfl,fn,hR,k⟩:=h;obtain⟨t,ts,rfl⟩:=fn.cons;refine⟨_,aD (cf (bU eX (ag (dI (kO G) G.bL (pv 0) hr ae) rfl) (b9 G.yN) (bt _)) (aD (bb (i:=1) nd (dI (BH G) G.bL (pv 0) hr ae)) (aD (ax (cg (jz G) G.bL (pv 0) hr ae (aA cq aH))) (aL (bE (gy (xg G) hr ae (aA (b9 G.ug) (aA (pv 1) (aA (dI (iE G) G.bL (pv 0) hr ae) aH)))))))) b8) (aD (cf (ck (cg (fV G) G.bL (pv 0) hr ae (aA (b9 G.uA) aH)) (λ_=>rfl)) (aD (ax (dI (jT G) G.bL (pv 0) hr ae)) (aL (bE (gy (xg G) hr ae (aA (b9 G.uA) (aA bB (aA (dI (iE G) G.bL (pv 0) hr ae) aH))))))) b8) (aL (bE (gy (xg G) hr ae (aA (b9 G.KU) (aA bB (aA (dI (iE G) G.bL (pv 0) hr ae) aH))))))),?_⟩;obtain⟨i,dx,h1⟩:=hR.ins;have nm:∀{m:Str}{i:Nat},¬("tokens":Str)=m->¬("at":Str)=m->(T3 l i).lookup m=none:=λa b=>cH a b;refine⟨_,rfl,r,dx,_,rfl,h1,cH,r,l,t,ts,rfl,hR,λa ha=>?_⟩;obtain⟨kd,tx,dx',e1,e2,e3⟩:=ha;refine⟨a,c.CT,dx',_,_,rfl,e3,G.iQ,G.j9,yl,rfl,_,rfl,?_⟩;by_cases q:kd=("number":Str)
 ·rw[dE (by rw[q])]
  have:∃n,t.tok=.num n:=by
   obtain⟨p,tok⟩:=t;dsimp only at e1;subst q;generalize hk:("number":Str)=kd at e1;cases e1 with
   |num _ _ _=>exact⟨_,rfl⟩
   |word _ _ _ _=>exact absurd hk (by trivial)
   |pat=>exact absurd hk (by trivial)
   |sign _=>exact absurd hk (by trivial)
   |fin=>exact absurd hk (by trivial)
  obtain⟨n,hn⟩:=this;rw[Nb hn]at k;refine bq ⟨_,rfl,r,dx,_,rfl,h1,cH,r,l,t,ts,rfl,hR,?_⟩;refine k.then.to (Kp.refl _ _) (by simp) λx ex k2 H1 r1 kp1=>?_;obtain⟨f1,b1⟩:=Jv ex fn;obtain⟨t1,s1,et⟩:=f1.cons;obtain⟨i1,d1,g1⟩:=r1.ins;refine⟨_,rfl,r,d1,_,rfl,g1,cH,r,l,t1,s1,.w wOf,rfl,rfl,et▸r1,?_⟩;rw[<-et];refine k2.then.to kp1 (by simp) λts2 e2 k3 v H2 r2 kp2=>?_;obtain⟨_,f2⟩:=uL (by intro z;cases z) e2 f1;obtain⟨t2,s2,et2⟩:=f2.cons;obtain⟨i2,d2,g2⟩:=r2.ins;refine⟨_,rfl,_,rfl,r,d2,_,rfl,g2,cH,r,l,t2,s2,rfl,et2▸r2,?_⟩;rw[<-et2];refine k3.then.to (kp1.trans kp2) (by simp) λx3 e3 k4 H3 r3 kp3=>?_;obtain⟨f3,l3,_⟩:=nh e3 f2;intro y dy ny ndy ne;refine FE ny ndy ⟨_,_,_,rfl,rfl⟩ λH4 h4 s4=>⟨rfl,?_⟩;exact k4 y (.some_ x.1 x3.1) H4 rfl ⟨dy,h4,l3,b1⟩ (r3.same s4) (((kp1.trans kp2).trans kp3).trans (bA.kp s4)) f3
 ·rw[dF (by intro z;injection z with z;exact q z)];have no:∀k,t.tok≠.num k:=λn hn=>by
   obtain⟨p,tok⟩:=t;dsimp only at e1 hn;cases e1 with
   |num _ _ _=>exact q rfl
   |word _ _ _ _=>cases hn
   |pat=>cases hn
   |sign _=>cases hn
   |fin=>cases hn
  refine bW ⟨_,rfl,r,dx,_,rfl,h1,cH,r,l,t,ts,.w mR,rfl,rfl,hR,_,rfl,?_⟩;by_cases qa:(Tx.w mR).is (t::ts)=true
  ·rw[qa];rw[G6 qa]at k;have f1:Fin ts:=fn.drop (lL (X:=.w mR) nofun qa);refine bq ⟨_,rfl,r,dx,_,rfl,h1,cH,r,l,t,ts,rfl,hR,λkd' tx' H1 _ _ r1 kp1=>?_⟩;obtain⟨t1,s1,et⟩:=f1.cons;obtain⟨i1,d1,g1⟩:=r1.ins;refine⟨_,rfl,r,d1,_,rfl,g1,cH,r,l,t1,s1,rfl,et▸r1,?_⟩;rw[<-et];refine k.then.to kp1 (by simp) λx3 e3 k4 H3 r3 kp3=>?_;obtain⟨f3,l3,_⟩:=nh e3 f1;intro y dy ny ndy ne;refine FE ny ndy ⟨_,_,_,rfl,rfl⟩ λH4 h4 s4=>⟨rfl,?_⟩;exact k4 y (.author x3.1) H4 rfl ⟨dy,h4,l3,bR _⟩ (r3.same s4) ((kp1.trans kp3).trans (bA.kp s4)) f3
  ·rw[bT.mpr qa];rw[RY no (bT.mpr qa)]at k;refine bW ⟨_,rfl,r,dx,_,rfl,h1,cH,r,l,t,ts,rfl,hR,?_⟩;refine k.then.to (Kp.refl _ _) (by simp) λx3 e3 k4 H3 r3 kp3=>?_;obtain⟨f3,l3,_⟩:=nh e3 fn;intro y dy ny ndy ne;refine FE ny ndy ⟨_,_,_,rfl,rfl⟩ λH4 h4 s4=>⟨rfl,?_⟩;exact k4 y (.by_ x3.1) H4 rfl ⟨dy,h4,l3,bR _⟩ (r3.same s4) (kp3.trans (bA.kp s4)) f3
end
end Rv
namespace Rv
open Mt (PT Wt)
def aB9:Wt->Str
 |.lp=>"("
 |.and=>"and"
 |.or=>"or"
abbrev sS(w:Wt):V:=.str (aB9 w)
def He(H:Hp)(w:aF)(ws:List Wt):Prop:=H w=some (.lst (ws.reverse.map sS))
inductive fX(c:Cn)(H:Hp)(p:aF)(ps:List PT):Prop
 |mk:∀as,H p=some (.lst (as.map V.ref))->Al (xU c H) as ps->fX c H p ps
def Cg(both:Bool):List V:=if both=true then[.str "and",.str "or"]else[.str "and"]
def IY(both:Bool)(w:Wt):Bool:=match w with
 |.lp=>false
 |.and=>true
 |.or=>both
theorem QT(both:Bool)(w:Wt):vw (sS w) (Cg both)=IY both w:=by cases both <;> cases w <;> decide+kernel
theorem Nq(h:IY both w=true)(hp:ze p=aB9 w/\(p=.and\/p=.or)):Mt.settle both ps (w::ws)=Mt.settle both (ps++[p]) ws:=by
 cases w with
 |lp=>cases h
 |and=>
  rcases hp with⟨e,rfl|rfl⟩
  ·rfl
  ·exact absurd e (by trivial)
 |or=>
  have h:both=true:=h;subst h;rcases hp with⟨e,rfl|rfl⟩
  ·exact absurd e (by trivial)
  ·rfl
theorem Nr(h:IY both w=false):Mt.settle both ps (w::ws)=(ps,w::ws):=by
 cases w with
 |lp=>simp[Mt.settle]
 |and=>cases h
 |or=>have h:both=false:=h;subst h;rfl
theorem nk(both:Bool):∀(ps:List PT)(ws:List Wt),(Mt.settle both ps ws).1.length+(Mt.settle both ps ws).2.length=ps.length+ws.length
 |ps,[]=>by simp[Mt.settle]
 |ps,.lp::ws=>by simp[Mt.settle]
 |ps,.and::ws=>by
  have:=nk both (ps++[.and]) ws
  rw[show Mt.settle both ps (.and::ws)=Mt.settle both (ps++[.and]) ws from by rw[Mt.settle],this];simp only[aN,aG,bh];omega
 |ps,.or::ws=>by
  have:=nk both (ps++[.or]) ws
  cases both with
  |true=>rw[show Mt.settle true ps (.or::ws)=Mt.settle true (ps++[.or]) ws from rfl,this];simp only[aN,aG,bh];omega
  |false=>rw[show Mt.settle false ps (.or::ws)=(ps,.or::ws)from rfl]
section
variable{c:Cn}
theorem fX.kp(h:fX c H p ps)(k:Kp M H H')(hp:p∉M)(n:mX M H):fX c H' p ps:=by obtain⟨as,h1,h2⟩:=h;exact⟨as,k _ _ h1 hp,h2.mono λ_ _ z=>z.kp k n⟩
inductive JM(c:Cn)(vs:List V)(H:Hp)(Q:VK)(E_:XK):Prop
 |mk:∀p w j both ps ws,vs=[.ref p,.ref w,.ref j]->p≠w->((∀H',Kp [p,w] H H'->qU c.K H' j (Cg both)))->fX c H p ps->He H w ws->ps.length+ws.length<=5000->(∀H',fX c H' p (Mt.settle both ps ws).1->He H' w (Mt.settle both ps ws).2->Kp [p,w] H H'->Q .fB H')->JM c vs H Q E_
inductive aD0(c:Cn)(H:Hp)(p:aF)(w:aF)(j:aF)(both:Bool)(ps:List Mt.PT)(ws:List Wt)(m:Nat)(σ:L2.St)(H':Hp):Prop
 |mk:∀ps' ws',m=ws'.length->σ=[some (.ref p),some (.ref w),some (.ref j)]->Mt.settle both ps' ws'=Mt.settle both ps ws->fX c H' p ps'->He H' w ws'->Kp [p,w] H H'->ps'.length+ws'.length<=5000->aD0 c H p w j both ps ws m σ H'
theorem wW(G:aCe c):i7 c "settle" 4 ["parts","waiting","joins"] (JM c):=by
 refine G.IE.gG (N:=["parts","waiting","joins"]) (k:=3) (λH vs Q E nd hr h=>?_);obtain⟨p,w,j,both,ps,ws,rfl,npw,hj,hP,hW,hn,k⟩:=h;refine⟨_,aL (jY jC (uS (ck (pv 1) (λ_=>rfl)) (pF (bU kS (fE du (pv 1) (wG pT bB) (λ_ _=>rfl)) (pv 2) rfl))).pt (aL (ax (fZ aR ak ao dU (pv 0) (aA (gy (xg G) hr ae (aA (uO aR eO eP uK (pv 1)) (aA bB (aA cq aH)))) aH))))),?_⟩;refine⟨aD0 c H p w j both ps ws,⟨_,ps,ws,rfl,rfl,rfl,hP,hW,Kp.refl _ _,hn⟩,?_⟩;rintro m σ H' ⟨ps',ws',rfl,rfl,e,hP',hW',kp,hn'⟩;refine⟨_,rfl,_,.inl ⟨_,bf.of hW',rfl⟩,?_⟩;cases ws' with
 |nil=>
  rw[show(!(([]:List Wt).reverse.map sS).isEmpty)=false from rfl];have e0:Mt.settle both ps' []=(ps',[]):=by simp[Mt.settle]
  rw[e0]at e;refine bW (bW ?_);rw[<-e]at k;exact k H' hP' hW' kp
 |cons x r=>
  have hne:(!((x::r).reverse.map sS).isEmpty)=true:=by simp
  rw[hne];have hlast:((x::r).reverse.map sS).getLast?=some (sS x):=by simp
  refine bq ⟨_,rfl,_,rfl,w,_,_,_,rfl,rfl,bf.of hW',x8 hlast,_,rfl,j,_,rfl,.inr (hj H' kp),rfl,by cases both <;> rfl,_,rfl,?_⟩;dsimp only[if_false];rw[show(if false=true then !vw (sS x) (Cg both)else vw (sS x) (Cg both))=IY both x from by rw[QT];rfl];cases q:IY both x with
  |false=>rw[Nr q]at e;rw[<-e]at k;exact bW (k H' hP' hW' kp)
  |true=>
   obtain⟨as,hA,al⟩:=hP';refine bq ⟨λσ' H2=>∃m',m' < (x::r).length/\aD0 c H p w j both ps ws m' σ' H2,λ_ _ z=>z,?_⟩;refine⟨_,rfl,.inl ⟨rfl,_,bf.of hA⟩,_,rfl,.inl ⟨rfl,_,bf.of hW'⟩,w,_,sS x,rfl,rfl,hW',by rw[<-ju];exact hlast,?_⟩;have K1:((x::r).reverse.map sS).dropLast=r.reverse.map sS:=by simp
   rw[K1];intro y dy ny ndy ne;refine FE ny ndy ⟨_,_,_,rfl,rfl⟩ λH4 h4 s4=>⟨rfl,?_⟩;have hA2:(aCc H' w (.lst (r.reverse.map sS))) p=some (.lst (as.map V.ref)):=by rw[aJ npw];exact hA
   have hA4:=s4 _ _ hA2;have hW4:H4 w=some (.lst (r.reverse.map sS)):=s4 _ _ aC;have kpw:Kp [w] H' H4:=(Kp.put (by simp)).trans (bA.kp s4);refine⟨p,_,_,rfl,rfl,hA4,by rw[aB,al.len];exact pG (by omega),?_⟩;have nyp:y≠p:=cR h4 hA4 nofun;have hpt:∃pt,ze pt=aB9 x/\(pt=.and\/pt=.or)/\V9 pt=0/\U6 pt=[]:=by
    cases x with
    |lp=>cases q
    |and=>exact⟨.and,rfl,.inl rfl,rfl,rfl⟩
    |or=>exact⟨.or,rfl,.inr rfl,rfl,rfl⟩
   obtain⟨pt,p1,p2,p3,p4⟩:=hpt;have n3:mX [w] H':=mX.cons (jO hW') fg;have n3':mX [p] H4:=mX.cons (jO hA4) fg;refine⟨_,by simp,ps'++[pt],r,rfl,rfl,?_,⟨as++[y],by rw[aC,aw];rfl,?_⟩,?_,?_,?_⟩
   ·rw[<-e,Nq q ⟨p1,p2⟩]
   ·refine Al.app (al.mono λb u z=>(z.kp kpw n3).kp (Kp.put (by simp)) n3') (Al.one ⟨dy,?_,?_⟩)
    ·rw[aJ nyp,h4,p1,p3,p4];rfl
    ·rw[p3,p4];simp
   ·show aCc H4 p _ w=_;rw[aJ (λz=>npw z.symm)];exact hW4
   ·exact(kp.trans (kpw.mono (by simp))).trans (Kp.put (by simp))
   ·simp only[aN,aG,bh]at hn' ⊢;omega
end
end Rv
namespace Rv
open Vamrqe (At)
open Mt (post PT Wt fm resume jr pre Lv EL)
theorem NM(ws:List Wt):(ws.reverse.map sS).countP (λz=>Jh z (.str "("))=ws.count .lp:=by rw[List.countP_map,List.countP_reverse,List.count];congr 1;funext x;cases x <;> decide+kernel
theorem QU(ws:List Wt):vw (.str "(") (ws.reverse.map sS)=decide (.lp∈ws):=by
 unfold vw;rw[b7,jD,List.any_reverse,mD,decide_eq_true_eq]
 constructor
 ·rintro⟨x,h1,h2⟩;cases x with
  |lp=>exact h1
  |and=>exact absurd h2 (by trivial)
  |or=>exact absurd h2 (by trivial)
 ·intro h;exact⟨.lp,h,by trivial⟩
theorem C7(ws:List Wt):(ws.reverse.map sS).all lF=true:=by rw[gW,dZ];intro x _;rfl
section
variable{c:Cn}
structure Bc(c:Cn)(N:Nat)(H:Hp)(r l p w:aF)(ps:List PT)(ws:List Wt)(ts:List At):Prop where
 rd:fj c H r l ts
 fn:Fin ts
 pt:fX c H p ps
 wt:He H w ws
 pw:p≠w
 lp:l≠p
 lw:l≠w
 sz:ps.length+ws.length+ts.length<=N
 nn:N<=3000
inductive F0(c:Cn)(vs:List V)(H:Hp)(Q:VK)(E:XK):Prop
 |mk:∀N r l p w L ts,vs=[.ref r,.ref p,.ref w]->Bc c N H r l p w (pre L) (jr L) ts->L≠[]->L.length<=41->((∀e,fm L ts=.error e->Rz c E [r,p,w] H (-e.number) e.place))->(∀L' x ts' H',L'≠[]->L'.length<=41->fm L ts=resume L' x ts'->¬(dG 41 ts'=true/\.lp∈jr L')->Bc c N H' r l p w (pre L'++post x) (jr L') ts'->Kp [r,p,w] H H'->ts'.length<ts.length->Q .fB H')->F0 c vs H Q E
inductive aD1(c:Cn)(H:Hp)(N:Nat)(r:aF)(l:aF)(p:aF)(w:aF)(L:List Lv)(ts:List At)(m:Nat)(σ:L2.St)(H':Hp):Prop
 |mk:∀L1 ts1,m=ts1.length->σ=[some (.ref r),some (.ref p),some (.ref w)]->L1≠[]->L1.length<=41->fm L1 ts1=fm L ts->Bc c N H' r l p w (pre L1) (jr L1) ts1->Kp [r,p,w] H H'->ts1.length<=ts.length->aD1 c H N r l p w L ts m σ H'
inductive aD2(c:Cn)(H:Hp)(N:Nat)(r:aF)(l:aF)(p:aF)(w:aF)(L:List Lv)(ts:List At)(m:Nat)(σ:L2.St)(H':Hp):Prop
 |mk:∀L2 x2 ts2,m=ts2.length->σ=[some (.ref r),some (.ref p),some (.ref w)]->L2≠[]->L2.length<=41->resume L2 x2 ts2=fm L ts->Bc c N H' r l p w (pre L2++post x2) (jr L2) ts2->Kp [r,p,w] H H'->ts2.length<ts.length->aD2 c H N r l p w L ts m σ H'
theorem p6(G:aCe c):i7 c "read_operand" 7 ["reader","parts","waiting"] (F0 c):=by
 refine G.tm.gG (N:=["reader","parts","waiting"]) (k:=6) (λH vs Q E nd hr h=>?_);obtain⟨N,r,l,p,w,L,ts,rfl,C,hL,hlen,kE,k⟩:=h;refine⟨_,aD (jY jC (ck (cg (fV G) G.bL (pv 0) hr ae (aA cq aH)) (λ_=>rfl)) (aD (cf (bU eX (fZ aR E6 PySem.F.type_list_count N4 (pv 2) (aA cq aH)) (b9 G.vm) (bt _)) (aL (pD G.BP hr (aA (ag (dI (kO G) G.bL (pv 0) hr ae) rfl) aH))) b8) (aL (ax (fZ aR ak ao dU (pv 2) (aA (dI (jT G) G.bL (pv 0) hr ae) aH)))))) (aD (ax (fZ aR ak ao dU (pv 1) (aA (az (Fz G) hr ae (aA (pv 0) aH)) aH))) (aL (jY jC (uS (ck (cg (fV G) G.bL (pv 0) hr ae (aA cq aH)) (λ_=>rfl)) (pF (bU kS cq (pv 2) rfl))).pt (aD (ax (dI (jT G) G.bL (pv 0) hr ae)) (aD (ax (az (wW G) hr ae (aA (pv 1) (aA (pv 2) (aA (b9 G.ow) aH))))) (aL (ax (uO aR eO eP uK (pv 2))))))))),?_⟩;refine⟨aD1 c H N r l p w L ts,⟨_,L,ts,rfl,rfl,hL,hlen,rfl,C,Kp.refl _ _,a9 _⟩,?_⟩;rintro m σ H1 ⟨L1,ts1,rfl,rfl,hL1,hl1,eb,C1,kp1,le1⟩;obtain⟨t1,s1,rfl⟩:=C1.fn.cons;obtain⟨i1,d1,g1⟩:=C1.rd.ins;have wl:=C1.wt;have rw_:r≠w:=cR g1 wl nofun;obtain⟨as1,gp,alp⟩:=C1.pt;have rp:r≠p:=cR g1 gp nofun;refine⟨_,rfl,r,d1,_,rfl,g1,cH,r,l,t1,s1,.s 40,rfl,rfl,C1.rd,_,rfl,?_⟩;by_cases q:(Tx.s 40).is (t1::s1)=true
 ·rw[q];have ho:=Mt.Jy hL1 (show dG 40 (t1::s1)=true from q);refine bq ⟨λσ' H2=>∃m',m' < (t1::s1).length/\aD1 c H N r l p w L ts m' σ' H2,λ_ _ z=>z,?_⟩;refine⟨_,rfl,.inl ⟨rfl,_,bf.of wl⟩,w,_,_,rfl,rfl,bf.of wl,rfl,C7 _,rfl,_,rfl,?_⟩;rw[NM];have hcl:=Mt.Hz L1 hL1;by_cases q40:(jr L1).count .lp=40
  ·rw[dE (show V.int (((jr L1).count .lp:Nat):Int)=V.int 40 by rw[q40];rfl)];have hd:EL L1=0:=by unfold EL;rw[show Ti=40 from rfl];omega
   rw[iP hd,eb]at ho
   have:=kE _ ho
   refine bq ⟨_,rfl,r,d1,_,rfl,g1,cH,r,l,t1,s1,rfl,C1.rd,λa ha=>?_⟩;obtain⟨kd,tx,dx',e1,e2,e3⟩:=ha;exact⟨a,c.CT,dx',_,_,rfl,e3,G.iQ,G.lR,F3,by simp,3,t1.place,⟨rfl,rfl⟩,(this.step kp1).less (by simp)⟩
  ·rw[dF (show ¬V.int (((jr L1).count .lp:Nat):Int)=V.int 40 by intro z;injection z with z;omega)];have hd:¬EL L1=0:=by unfold EL;rw[show Ti=40 from rfl];omega
   rw[iN hd]at ho;refine bW ⟨_,rfl,.inl ⟨rfl,_,bf.of wl⟩,_,rfl,r,d1,_,rfl,g1,cH,r,l,t1,s1,rfl,C1.rd,λkd tx H2 tt _ r2 kp2=>?_⟩;have wl2:H2 w=some (.lst ((jr L1).reverse.map sS)):=kp2 _ _ wl (by simpa using λz=>rw_ z.symm);have gp2:H2 p=some (.lst (as1.map V.ref)):=kp2 _ _ gp (by simpa using λz=>rp z.symm);have htx:V.str (bH tx)=sS .lp:=by have e:=Mf (X:=.s 40) rfl (ts:=s1) tt;rw[q]at e;exact of_decide_eq_true e
   have sz:=C1.sz;have nn:=C1.nn;refine⟨w,_,_,rfl,rfl,wl2,?_,?_⟩
   ·rw[aB,fQ];exact pG (by omega)
   rw[htx];have n3r:mX [r] H1:=mX.cons C1.rd.Zz fg;have n3w:mX [w] H2:=mX.cons (jO wl2) fg;have kpw:Kp [w] H2 (aCc H2 w (.lst ((jr L1).reverse.map sS++[sS .lp]))):=Kp.put (by simp);refine⟨_,by simp,(none,none)::L1,s1,rfl,rfl,by simp,by simp only[aG];omega,by rw[<-eb,ho];rfl,⟨?_,?_,?_,?_,C1.pw,C1.lp,C1.lw,?_,C1.nn⟩,?_,by simp only[aG]at le1;omega⟩
   ·exact r2.kp kpw (by simpa using rw_) (by simpa using C1.lw) n3w
   ·exact C1.fn.drop (lL (X:=.s 40) nofun q)
   ·have:pre ((none,none)::L1)=pre L1:=by simp[pre,Mt.Nc]
    rw[this];exact(C1.pt.kp kp2 (by simpa using λz=>rp z.symm) n3r).kp kpw (by simpa using C1.pw) n3w
   ·show aCc H2 w _ w=_;rw[aC,Mt.Aj L1 hL1];simp
   ·have:pre ((none,none)::L1)=pre L1:=by simp[pre,Mt.Nc]
    rw[this,Mt.Aj L1 hL1];simp only[aG]at sz ⊢;omega
   ·exact(kp1.trans (kp2.mono (by simp))).trans (kpw.mono (by simp))
 ·rw[bT.mpr q];have hb:=Mt.Hh (L:=L1) (show ¬dG 40 (t1::s1)=true from q);refine bW ⟨_,rfl,.inl ⟨rfl,_,bf.of gp⟩,_,rfl,r,l,t1::s1,rfl,C1.fn,C1.rd,?_⟩;rw[hb]at eb;cases e1:iH (t1::s1)with
  |error e=>rw[e1]at eb;exact((kE e eb.symm).step kp1).less (by simp)
  |ok x1=>
   rw[e1]at eb;have eb:resume L1 x1.1 x1.2=fm L ts:=eb;intro a pt H2 hpt ha r2 kp2 f2;have sh:=Mt.FP e1;have n3r:mX [r] H1:=mX.cons C1.rd.Zz fg;have gp2:H2 p=some (.lst (as1.map V.ref)):=kp2 _ _ gp (by simpa using λz=>rp z.symm);have wl2:He H2 w (jr L1):=kp2 _ _ wl (by simpa using λz=>rw_ z.symm);have n3p:mX [p] H2:=mX.cons (jO gp2) fg;have sz:=C1.sz;have nn:=C1.nn;have alen:=alp.len;refine⟨p,_,_,rfl,rfl,gp2,by rw[aB];exact pG (by omega),?_⟩;have kpp:Kp [p] H2 (aCc H2 p (.lst (as1.map V.ref++[.ref a]))):=Kp.put (by simp);have C3:Bc c N (aCc H2 p (.lst (as1.map V.ref++[.ref a]))) r l p w (pre L1++post x1.1) (jr L1) x1.2:=by
    refine⟨r2.kp kpp (by simpa using rp) (by simpa using C1.lp) n3p,f2,⟨as1++[a],by rw[aC,aw];rfl,?_⟩,kpp _ _ wl2 (by simpa using λz=>C1.pw z.symm),C1.pw,C1.lp,C1.lw,?_,C1.nn⟩
    ·rw[hpt];exact Al.app (alp.mono λb u z=>(z.kp kp2 n3r).kp kpp n3p) (Al.one (ha.kp kpp n3p))
    ·rw[hpt];simp only[aN,aG,bh]at sz sh ⊢;omega
   have kp3:=(kp1.trans (kp2.mono (by simp:∀b∈[r],b∈[r,p,w]))).trans (kpp.mono (by simp:∀b∈[p],b∈[r,p,w]));generalize aCc H2 p (.lst (as1.map V.ref++[.ref a]))=H3 at C3 kp3;clear hb wl2 gp2 n3p kpp;refine⟨aD2 c H N r l p w L ts,⟨_,L1,x1.1,x1.2,rfl,rfl,hL1,hl1,eb,C3,kp3,by omega⟩,?_⟩;rintro m σ H4 ⟨L2,x2,ts2,rfl,rfl,hL2,hl2,eb2,C4,kp4,lt4⟩;obtain⟨t4,s4,rfl⟩:=C4.fn.cons;obtain⟨i4,d4,g4⟩:=C4.rd.ins;have wl4:=C4.wt;have done:¬(dG 41 (t4::s4)=true/\.lp∈jr L2)->Q .fB H4:=λz=>k L2 x2 (t4::s4) H4 hL2 hl2 eb2.symm z C4 kp4 lt4;refine⟨_,rfl,r,d4,_,rfl,g4,cH,r,l,t4,s4,.s 41,rfl,rfl,C4.rd,_,rfl,?_⟩;by_cases q1:(Tx.s 41).is (t4::s4)=true
   ·rw[q1];refine bq ⟨_,rfl,w,_,rfl,.inl (bf.of wl4),rfl,C7 _,_,rfl,?_⟩;rw[show(if false=true then !vw (V.str "(") ((jr L2).reverse.map sS)else vw (V.str "(") ((jr L2).reverse.map sS))=decide (.lp∈jr L2)from by rw[QU];rfl];by_cases q2:Wt.lp∈jr L2
    ·rw[dE q2];cases L2 with
     |nil=>exact absurd rfl hL2
     |cons l0 L3=>
      have hL3:=(Mt.K7 l0 L3).mp q2;obtain⟨m0,L4,rfl⟩:∃m0 L4,L3=m0::L4:=by
       cases L3 with
       |nil=>exact absurd rfl hL3
       |cons a b=>exact⟨a,b,rfl⟩
      rw[Mt.G9 (show dG 41 (t4::s4)=true from q1)]at eb2;refine bq ⟨λσ' H2=>∃m',m' < (t4::s4).length/\aD2 c H N r l p w L ts m' σ' H2,λ_ _ z=>z,?_⟩;refine⟨_,rfl,r,d4,_,rfl,g4,cH,r,l,t4,s4,rfl,C4.rd,λkd tx H5 tt _ r5 kp5=>?_⟩;have n3r4:mX [r] H4:=mX.cons C4.rd.Zz fg;have rw4:r≠w:=cR g4 wl4 nofun;have pt5:=C4.pt.kp kp5 (by simpa using λz=>rp z.symm) n3r4;have wt5:He H5 w _:=kp5 _ _ wl4 (by simpa using λz=>rw4 z.symm);have sz4:=C4.sz;have nn4:=C4.nn;refine⟨_,rfl,_,rfl,p,w,c.JO,true,_,_,rfl,C4.pw,λH' _=>G.pI H',pt5,wt5,by omega,λH6 pt6 wt6 kp6=>?_⟩;rw[Mt.nj]at pt6 wt6;have wt6:H6 w=some (.lst ((Wt.lp::jr (m0::L4)).reverse.map sS)):=wt6;refine⟨_,rfl,.inl ⟨rfl,_,bf.of wt6⟩,w,_,sS .lp,rfl,rfl,wt6,by rw[<-ju];simp,?_⟩;rw[show((Wt.lp::jr (m0::L4)).reverse.map sS).dropLast=(jr (m0::L4)).reverse.map sS from by simp];obtain⟨as5,gp5,alp5⟩:=pt5;obtain⟨as6,gp6,alp6⟩:=pt6;have n35:mX [p,w] H5:=mX.cons (jO gp5) (mX.cons (jO wt5) fg);have n36:mX [w] H6:=mX.cons (jO wt6) fg;have kpw:Kp [w] H6 (aCc H6 w (.lst ((jr (m0::L4)).reverse.map sS))):=Kp.put (by simp);refine⟨_,by simp,m0::L4,Mt.lK l0 x2,s4,rfl,rfl,by simp,by simp only[aG]at hl2 ⊢;omega,eb2,⟨?_,?_,?_,aC,C4.pw,C4.lp,C4.lw,?_,C4.nn⟩,?_,by simp only[aG]at lt4;omega⟩
      ·exact(r5.kp kp6 (by simp[rp,rw4]) (by simp[C4.lp,C4.lw]) n35).kp kpw (by simpa using rw4) (by simpa using C4.lw) n36
      ·exact C4.fn.drop (lL (X:=.s 41) nofun q1)
      ·exact(fX.kp ⟨as6,gp6,alp6⟩ kpw (by simpa using C4.pw) n36)
      ·have hs:(Mt.settle true (pre (l0::m0::L4)++post x2) (jr (l0::m0::L4))).1.length+(Mt.settle true (pre (l0::m0::L4)++post x2) (jr (l0::m0::L4))).2.length=(pre (l0::m0::L4)++post x2).length+(jr (l0::m0::L4)).length:=nk _ _ _;rw[Mt.nj]at hs;have hs:(pre (m0::L4)++post (Mt.lK l0 x2)).length+(Wt.lp::jr (m0::L4)).length=(pre (l0::m0::L4)++post x2).length+(jr (l0::m0::L4)).length:=hs;simp only[aG]at hs sz4 ⊢;omega
      ·exact((kp4.trans (kp5.mono (by simp))).trans (kp6.mono (by simp))).trans (kpw.mono (by simp))
    ·exact aDw q2 (done λz=>q2 z.2)
   ·rw[bT.mpr q1];exact bW (bW (done λz=>q1 z.1))
end
end Rv
namespace Rv
open Vamrqe (At next condition wOr)
open Mt (post Wt fm resume jr pre Lv)
theorem Kp.wU(s:bA H H1)(k:Kp N H1 H2)(h:∀b∈N,b∈M\/H b=none):Kp M H H2:=λb o e n=>k b o (s b o e) λz=>by
 rcases h b z with q|q
 ·exact n q
 ·rw[q]at e;cases e
theorem Rz.wU{E:XK}(h:Rz c E M H k p)(s:bA H H1)(hb:∀b∈N,b∈M\/H b=none):Rz c E N H1 k p:=λC dx H' r e q=>h C dx H' r e (Kp.wU s q hb)
section
variable{c:Cn}
inductive XD(c:Cn)(vs:List V)(H:Hp)(Q:VK)(E:XK):Prop
 |mk:∀r l ts,vs=[.ref r]->Fin ts->ts.length<=2500->fj c H r l ts->(Res c E [r] H (condition ts) λx=>∀a H',H a=none->fX c H' a (post x.1)->(post x.1).length+x.2.length<=ts.length->fj c H' r l x.2->Kp [r] H H'->Fin x.2->Q (.ref a) H')->XD c vs H Q E
inductive aD3(c:Cn)(r:aF)(l:aF)(ts:List At)(p:aF)(w:aF)(H0:Hp)(m:Nat)(σ:L2.St)(H':Hp):Prop
 |mk:∀L2 x2 ts2 v,m=ts2.length->σ=[some (.ref r),some (.ref p),some (.ref w),v]->L2≠[]->L2.length<=41->fm [(none,none)] ts=resume L2 x2 ts2->¬(dG 41 ts2=true/\.lp∈jr L2)->Bc c ts.length H' r l p w (pre L2++post x2) (jr L2) ts2->Kp [r,p,w] H0 H'->aD3 c r l ts p w H0 m σ H'
theorem nM(G:aCe c):i7 c "read_condition" 8 ["reader"] (XD c):=by
 refine G.pq.gG (N:=["reader","parts","waiting","join"]) (k:=7) (λH vs Q E nd hr h=>?_);obtain⟨r,l,ts,rfl,fn,hlen,hR,k⟩:=h;refine⟨_,aD (bb (i:=1) nd (cp aH)) (aD (bb (i:=2) nd (cp aH)) (aD (ax (az (p6 G) hr ae (aA (pv 0) (aA (pv 1) (aA (pv 2) aH))))) (aD (jY jC (FT (ck (cg (fV G) G.bL (pv 0) hr ae (aA (b9 G.AZ) aH)) (λ_=>rfl)) (zg (ck (cg (fV G) G.bL (pv 0) hr ae (aA (b9 G.UE) aH)) (λ_=>rfl)))).pt (aD (bb (i:=3) nd (dI (jT G) G.bL (pv 0) hr ae)) (aD (ax (az (wW G) hr ae (aA (pv 1) (aA (pv 2) (aA (lx (bU eX (pv 3) (b9 G.AZ) (bt _)) (pQ (aA (b9 G.AZ) aH)) (b9 G.ow)) aH))))) (aD (ax (fZ aR ak ao dU (pv 2) (aA (pv 3) aH))) (aL (ax (az (p6 G) hr ae (aA (pv 0) (aA (pv 1) (aA (pv 2) aH)))))))))) (aD (ax (cg (l9 G) G.bL (pv 0) hr ae (aA (iR mh cq (pv 2) rfl) aH))) (aD (ax (az (wW G) hr ae (aA (pv 1) (aA (pv 2) (aA (b9 G.ow) aH))))) (aL (bE (pv 1)))))))),?_⟩;refine⟨bR _,λp hp=>⟨bR _,λw hw=>?_⟩⟩;have npw:p≠w:=aK (aC (H:=H) (a:=p)) hw;have hw0:H w=none:=by rw[aJ (λz=>npw z.symm)]at hw;exact hw
 have sm:bA H (aCc (aCc H p (.lst [])) w (.lst [])):=λb o z=>aCb hw _ _ (aCb hp _ _ z);have hP:(aCc (aCc H p (.lst [])) w (.lst [])) p=some (.lst []):=by rw[aJ npw,aC]
 have hW:(aCc (aCc H p (.lst [])) w (.lst [])) w=some (.lst []):=aC;generalize aCc (aCc H p (.lst [])) w (.lst [])=H0 at sm hP hW;have lne:l≠p/\l≠w:=by obtain⟨i,dx,as,all,h1,h2,_⟩:=hR;exact⟨aK h2 hp,aK h2 hw0⟩
 have C0:Bc c ts.length H0 r l p w (pre [((none,none):Lv)]) (jr [((none,none):Lv)]) ts:=⟨hR.same sm,fn,⟨[],hP,.nil⟩,hW,npw,lne.1,lne.2,by show 0+0+ts.length<=ts.length;omega,by omega⟩;have hb:∀b∈[r,p,w],b∈[r]\/H b=none:=by
  intro b hb;simp only[af,cC,or_false]at hb ⊢;rcases hb with z|z|z
  ·exact .inl z
  ·rw[z];exact .inr hp
  ·rw[z];exact .inr hw0
 rw[Mt.Hi]at k;have kE:∀e,fm [(none,none)] ts=.error e->Rz c E [r,p,w] H0 (-e.number) e.place:=λe he=>by rw[he]at k;exact Rz.wU k sm hb
 refine⟨_,rfl,_,rfl,_,rfl,ts.length,r,l,p,w,[(none,none)],ts,rfl,C0,by simp,by simp,kE,?_⟩;intro L1 x1 ts1 H1 hL1 hl1 eb1 n1 C1 kp1 lt1;refine⟨aD3 c r l ts p w H0,⟨_,L1,x1,ts1,none,rfl,rfl,hL1,hl1,eb1,n1,C1,kp1⟩,?_⟩;rintro m σ H2 ⟨L2,x2,ts2,v,rfl,rfl,hL2,hl2,eb2,n2,C2,kp2⟩;obtain⟨t2,s2,rfl⟩:=C2.fn.cons;obtain⟨i2,d2,g2⟩:=C2.rd.ins;have wl2:=C2.wt;obtain⟨as2,gp2,alp2⟩:=C2.pt;have rp:r≠p:=cR g2 gp2 nofun;have rw2:r≠w:=cR g2 wl2 nofun;have n3r:mX [r] H2:=mX.cons C2.rd.Zz fg;have sz2:=C2.sz;have nn2:=C2.nn;obtain⟨l0,L3,rfl⟩:∃l0 L3,L2=l0::L3:=by
  cases L2 with
  |nil=>exact absurd rfl hL2
  |cons a b=>exact⟨a,b,rfl⟩
 have turn:∀(both:Bool)(jn:Wt)(L4:List Lv)(H3:Hp)(tx:aM),(Mt.settle both (pre (l0::L3)++post x2) (jr (l0::L3))).1=pre L4->jr L4=jn::(Mt.settle both (pre (l0::L3)++post x2) (jr (l0::L3))).2->L4.length=(l0::L3).length->fm [(none,none)] ts=fm L4 s2->
   next (t2::s2)≠.fin->V.str (bH tx)=sS jn->fj c H3 r l s2->Kp [r] H2 H3->
   ∀j H4,(∀H',Kp [p,w] H4 H'->qU c.K H' j (Cg both))->bA H3 H4->OJ (JM c) E (λ_ H Q=>Q [.ref p,.ref w,.ref j] H) [some (.ref r),some (.ref p),some (.ref w),some (.str (bH tx))] H4 (λ_ H5=>Sa (Ah (aAc c.K "list" B5 (g9 2) (gT (g9 3) oA))) (Ah (OJ (F0 c) E (gT (g9 0) (gT (g9 1) (gT (g9 2) oA))))) {nx:=λσ' H'=>∃m',m' < (t2::s2).length/\aD3 c r l ts p w H0 m' σ' H',rt:=Q} [some (.ref r),some (.ref p),some (.ref w),some (.str (bH tx))] H5):=by
  intro both jn L4 H3 tx e1 e2 e3 e4 nf htx r3 kp3 j H4 hj s4;have pt4:fX c H4 p (pre (l0::L3)++post x2):=(C2.pt.kp kp3 (by simpa using λz=>rp z.symm) n3r).kp (M:=[]) (bA.kp s4) (by simp) fg;have wt4:He H4 w (jr (l0::L3)):=s4 _ _ (kp3 _ _ wl2 (by simpa using λz=>rw2 z.symm));refine⟨p,w,j,both,_,_,rfl,C2.pw,hj,pt4,wt4,by omega,λH5 pt5 wt5 kp5=>?_⟩;rw[e1]at pt5;obtain⟨as4,gp4,_⟩:=pt4;obtain⟨as5,gp5,al5⟩:=pt5;have sl5:=nk both (pre (l0::L3)++post x2) (jr (l0::L3));rw[e1]at sl5;have n34:mX [p,w] H4:=mX.cons (jO gp4) (mX.cons (jO wt4) fg);have wt5':H5 w=some (.lst ((Mt.settle both (pre (l0::L3)++post x2) (jr (l0::L3))).2.reverse.map sS)):=wt5;refine⟨_,rfl,.inl ⟨rfl,_,bf.of wt5'⟩,_,rfl,w,_,_,rfl,rfl,wt5',?_,?_⟩
  ·rw[aB,fQ];exact pG (by omega)
  have n35:mX [w] H5:=mX.cons (jO wt5') fg;have kpw:Kp [w] H5 (aCc H5 w (.lst ((Mt.settle both (pre (l0::L3)++post x2) (jr (l0::L3))).2.reverse.map sS++[V.str (bH tx)]))):=Kp.put (by simp);have kp6:Kp [r,p,w] H0 (aCc H5 w (.lst ((Mt.settle both (pre (l0::L3)++post x2) (jr (l0::L3))).2.reverse.map sS++[V.str (bH tx)]))):=((((kp2.trans (kp3.mono (by simp))).trans (bA.kp s4)).trans (kp5.mono (by simp))).trans (kpw.mono (by simp)));have C6:Bc c ts.length (aCc H5 w (.lst ((Mt.settle both (pre (l0::L3)++post x2) (jr (l0::L3))).2.reverse.map sS++[V.str (bH tx)]))) r l p w (pre L4) (jr L4) s2:=by
   refine⟨?_,C2.fn.drop nf,?_,?_,C2.pw,C2.lp,C2.lw,?_,C2.nn⟩
   ·exact((r3.same s4).kp kp5 (by simp[rp,rw2]) (by simp[C2.lp,C2.lw]) n34).kp kpw (by simpa using rw2) (by simpa using C2.lw) n35
   ·exact fX.kp ⟨as5,gp5,al5⟩ kpw (by simpa using C2.pw) n35
   ·show aCc H5 w _ w=_;rw[aC,e2,htx];simp
   ·rw[e2];simp only[aG]at sz2 ⊢;omega
  refine⟨_,rfl,_,rfl,_,rfl,ts.length,r,l,p,w,L4,s2,rfl,C6,?_,by rw[e3];exact hl2,λe he=>(kE e (e4.trans he)).step kp6,?_⟩
  ·intro z;rw[z]at e3;cases e3
  ·intro L7 x7 ts7 H7 a1 a2 a3 a4 a5 a6 a7;exact⟨_,by simp only[aG];omega,L7,x7,ts7,_,rfl,rfl,a1,a2,e4.trans a3,a4,a5,kp6.trans a6⟩
 refine⟨_,rfl,r,d2,_,rfl,g2,cH,r,l,t2,s2,.w oV,rfl,rfl,C2.rd,_,rfl,?_⟩;by_cases qa:(Tx.w oV).is (t2::s2)=true
 ·rw[qa];refine bq (bq ⟨_,λ_ _ z=>z,?_⟩);refine⟨_,rfl,r,d2,_,rfl,g2,cH,r,l,t2,s2,rfl,C2.rd,λkd tx H3 tt _ r3 kp3=>?_⟩;have htx:V.str (bH tx)=sS .and:=by have e:=Mf (X:=.w oV) rfl (ts:=s2) tt;rw[qa]at e;exact of_decide_eq_true e
  refine⟨_,rfl,_,rfl,_,rfl,rfl,_,rfl,?_⟩;refine aDx (show V.str (bH tx)=V.str "and" from htx) ⟨kh,λj hj=>?_⟩;have e:=Mt.Kv l0 L3 x2;refine turn false .and ((l0.1,some (Mt.r8 l0.2 x2))::L3) H3 tx (by rw[e]) (by rw[e,Mt.Gw]) rfl (by rw[eb2,Mt.Kr (show bS oV (t2::s2)=true from qa)];rfl) (lL (X:=.w oV) nofun qa) htx r3 kp3 j _ (λH' kp=>qU.of (kp _ _ aC ?_)) (aCb hj);simp only[af,cC,or_false,not_or];exact⟨(aK (kp3 _ _ gp2 (by simpa using λz=>rp z.symm)) hj).symm,(aK (kp3 _ _ wl2 (by simpa using λz=>rw2 z.symm)) hj).symm⟩
 ·rw[bT.mpr qa];refine bW ⟨_,rfl,r,d2,_,rfl,g2,cH,r,l,t2,s2,.w wOr,rfl,rfl,C2.rd,_,rfl,?_⟩;by_cases qo:(Tx.w wOr).is (t2::s2)=true
  ·rw[qo];refine bq ⟨_,λ_ _ z=>z,?_⟩;refine⟨_,rfl,r,d2,_,rfl,g2,cH,r,l,t2,s2,rfl,C2.rd,λkd tx H3 tt _ r3 kp3=>?_⟩;have htx:V.str (bH tx)=sS .or:=by have e:=Mf (X:=.w wOr) rfl (ts:=s2) tt;rw[qo]at e;exact of_decide_eq_true e
   refine⟨_,rfl,_,rfl,_,rfl,rfl,_,rfl,?_⟩;refine aDw (show ¬V.str (bH tx)=V.str "and" by rw[htx];decide+kernel) ?_;have e:=Mt.nj l0 L3 x2;exact turn true .or ((some (Mt.lK l0 x2),none)::L3) H3 tx (by rw[e];simp[pre,Mt.Nc]) (by rw[e,Mt.J8]) rfl (by rw[eb2,Mt.Nf (show bS wOr (t2::s2)=true from qo)];rfl) (lL (X:=.w wOr) nofun qo) htx r3 kp3 c.JO _ (λH' _=>G.pI H') (λ_ _ z=>z)
  ·rw[bT.mpr qo];refine bW ⟨_,rfl,r,d2,_,rfl,g2,cH,_,rfl,w,_,rfl,.inl (bf.of wl2),rfl,C7 _,?_⟩;refine⟨r,l,t2,s2,_,rfl,C2.rd,?_⟩;rw[show(if true=true then !vw (V.str "(") ((jr (l0::L3)).reverse.map sS)else vw (V.str "(") ((jr (l0::L3)).reverse.map sS))=!decide (.lp∈jr (l0::L3))from by rw[QU];rfl];by_cases ql:Wt.lp∈jr (l0::L3)
   ·rw[dE ql];have hL3:=(Mt.K7 l0 L3).mp ql;obtain⟨m0,L4,rfl⟩:∃m0 L4,L3=m0::L4:=by
     cases L3 with
     |nil=>exact absurd rfl hL3
     |cons a b=>exact⟨a,b,rfl⟩
    have:=Mt.Ga (l:=l0) (m:=m0) (L:=L4) (c:=x2) (show ¬bS oV (t2::s2)=true from qa) (show ¬bS wOr (t2::s2)=true from qo) (λz=>n2 ⟨z,ql⟩)
    rw[<-eb2]at this;exact bW (((kE _ this).step kp2).less (by simp))
   ·rw[dF ql];have hL3:L3=[]:=Classical.not_not.mp λz=>ql ((Mt.K7 l0 L3).mpr z);subst hL3;have hd:=Mt.JF (l:=l0) (c:=x2) (show ¬bS oV (t2::s2)=true from qa) (show ¬bS wOr (t2::s2)=true from qo);rw[<-eb2]at hd;rw[hd]at k;refine bq ⟨_,rfl,_,rfl,p,w,c.JO,true,_,_,rfl,C2.pw,λH' _=>G.pI H',C2.pt,C2.wt,by omega,λH3 pt3 wt3 kp3=>?_⟩;rw[Mt.nj]at pt3;have n32:mX [p,w] H2:=mX.cons (jO gp2) (mX.cons (jO wl2) fg);refine⟨_,rfl,k p H3 hp pt3 ?_ (C2.rd.kp kp3 (by simp[rp,rw2]) (by simp[C2.lp,C2.lw]) n32) (Kp.wU sm (kp2.trans (kp3.mono (by simp))) hb) C2.fn⟩;have hs:=nk true (pre [l0]++post x2) (jr [l0]);rw[Mt.nj]at hs;have hs:(pre []++post (Mt.lK l0 x2)).length+(Mt.under []).length=(pre [l0]++post x2).length+(jr [l0]).length:=hs;have hs:(post (Mt.lK l0 x2)).length+0=(pre [l0]++post x2).length+(jr [l0]).length:=hs;show(post (Mt.lK l0 x2)).length+(t2::s2).length<=ts.length;omega
end
end Rv
namespace Rv
open Mt (post PT zh)
def jV:PT->Bool
 |.and=>true
 |.or=>true
 |_=>false
def Wf:List PT->Nat->Bool
 |[],n=>decide (n=1)
 |p::r,n=>if jV p=true then decide (2<=n)&&Wf r (n - 1)else Wf r (n+1)
theorem yp:∀(x:dD)(r:List PT)(n:Nat),Wf (post x++r) n=Wf r (n+1)
 |.by_ m,r,n=>rfl
 |.some_ k m,r,n=>rfl
 |.author m,r,n=>rfl
 |.and a b,r,n=>by have h1:=yp a (post b++(.and::r)) n;have h2:=yp b (.and::r) (n+1);simp only[post,bV,mE,jL];rw[h1,h2];simp[Wf,jV]
 |.or a b,r,n=>by have h1:=yp a (post b++(.or::r)) n;have h2:=yp b (.or::r) (n+1);simp only[post,bV,mE,jL];rw[h1,h2];simp[Wf,jV]
theorem Df(x:dD):Wf (post x) 0=true:=by
 have:=yp x [] 0
 rw[bg]at this;rw[this];rfl
theorem IW(p:PT):vw (.str (ze p)) [.str "and",.str "or"]=jV p:=by
 cases p with
 |by_ n=>show vw (.str "name") _=false;decide+kernel
 |some_ k n=>show vw (.str "some of") _=false;decide+kernel
 |author n=>show vw (.str "author") _=false;decide+kernel
 |and=>decide+kernel
 |or=>decide+kernel
theorem QP(p:PT):(if false=true then !vw (V.str (ze p)) [.str "and",.str "or"]else vw (V.str (ze p)) [.str "and",.str "or"])=jV p:=by rw[IW];rfl
theorem Nk{st:List Nat}(h:jV p=false):zh (p::r) st=zh r (1::st):=by
 cases p with
 |and=>cases h
 |or=>cases h
 |by_ n=>rfl
 |some_ k n=>rfl
 |author n=>rfl
theorem Nj{st:List Nat}(h:jV p=true):zh (p::r) (b::a::st)=zh r ((Js a b+1)::st):=by
 cases p with
 |and=>rfl
 |or=>rfl
 |by_ n=>cases h
 |some_ k n=>cases h
 |author n=>cases h
section
variable{c:Cn}
def wL{α:Type}(f:α->V)(H:Hp)(d:aF)(st:List α):Prop:=H d=some (.lst (st.reverse.map f))
theorem wL.top{α:Type}{f:α->V}{H:Hp}{d:aF}{a:α}{st:List α}(h:wL f H d (a::st)):((a::st).reverse.map f)[((a::st).reverse.map f).length - 1]?=some (f a)/\((a::st).reverse.map f).dropLast=st.reverse.map f:=by
 constructor
 ·rw[<-ju];simp
 ·simp
inductive Ug(c:Cn)(vs:List V)(H:Hp)(Q:VK)(E_:XK):Prop
 |mk:∀p x,vs=[.ref p]->fX c H p (post x)->(post x).length<=3000->(∀H',bA H H'->Q (.int (x.depth:Nat)) H')->Ug c vs H Q E_
inductive aD6(H:Hp)(p:aF)(x:dD)(d:aF)(i:Nat)(σ:L2.St)(H':Hp):Prop
 |mk:∀(v2 v3 v4:Option V)(st:List Nat),σ=[some (.ref p),some (.ref d),v2,v3,v4]->bA H H'->wL (λn:Nat=>V.int n) H' d st->zh ((post x).drop i) st=[x.depth]->Wf ((post x).drop i) st.length=true->st.length<=i->aD6 H p x d i σ H'
theorem Fy(G:aCe c):i7 c "depth_of" 1 ["parts"] (Ug c):=by
 refine G.CH.gG (N:=["parts","depths","part","second","first"]) (k:=0) (λH vs Q E nd hr h=>?_);obtain⟨p,x,rfl,⟨as,hA,al⟩,hn,k⟩:=h;refine⟨_,aD (bb (i:=1) nd (cp aH)) (aD (fW jC rfl (dQ (pv 0)) (d7 (i:=2) nd) (aL (cf (bU kS (ag (pv 2) rfl) (b9 G.ow) rfl) (aD (bb (i:=3) nd (uO aR eO eP uK (pv 1))) (aD (bb (i:=4) nd (uO aR eO eP uK (pv 1))) (aL (ax (fZ aR ak ao dU (pv 1) (aA (eM wm (cF (NG rfl) (by rfl) G.VT WK (aA (pv 4) (aA (pv 3) aH))) bB) aH)))))) (aL (ax (fZ aR ak ao dU (pv 1) (aA bB aH))))))) (aL (bE (fE du (pv 1) bB (λ_ _=>rfl))))),?_⟩;refine⟨bR _,λd hd=>?_⟩;have hA0:(aCc H d (.lst [])) p=some (.lst (as.map V.ref)):=aCb hd _ _ hA;refine⟨_,rfl,p,rfl,⟨_,bf.of hA0⟩,fH (xs:=as.map V.ref) (aD6 H p x d) ⟨none,none,none,[],rfl,aCb hd,aC,?_,Df x,a9 _⟩ ?_ ?_ ?_⟩
 ·have:=Mt.qI x [] []
  rw[bg]at this;exact this
 ·rintro i σ H' hi ⟨_,_,_,_,_,sm,_⟩;exact bf.of (sm _ _ hA)
 ·rintro i y σ H' hy ⟨v2,v3,v4,st,rfl,sm,hS,hr1,hw,hl⟩;rw[aP]at hy;cases ha:as[i]? with
  |none=>rw[ha]at hy;cases hy
  |some a=>
   rw[ha]at hy;have e:y=V.ref a:=(aV hy).symm;subst e;obtain⟨pt,hpt,dx,o1,o2⟩:=al.at' ha;have hi:i<(post x).length:=(a8.mp hpt).1;have hdr:(post x).drop i=pt::(post x).drop (i+1):=by rw[b3 hi,(a8.mp hpt).2]
   rw[hdr]at hr1 hw;have hS':H' d=some (.lst (st.reverse.map λn:Nat=>V.int n)):=hS;refine⟨_,rfl,a,c.CP,dx,_,_,rfl,sm _ _ o1,G.eW,G.dP,gJ,c.JO,_,rfl,.inr (G.pI H'),rfl,rfl,_,rfl,?_⟩;rw[QP];cases q:jV pt with
   |true=>
    unfold Wf at hw;rw[iP q,bG,decide_eq_true_eq]at hw;obtain⟨b,a1,st',rfl⟩:∃b a1 st',st=b::a1::st':=by
     match st,hw.1 with
     |b::a1::st',_=>exact⟨b,a1,st',rfl⟩
    rw[Nj q]at hr1;have t1:=wL.top hS;refine bq ⟨_,rfl,.inl ⟨rfl,_,bf.of hS'⟩,d,_,_,rfl,rfl,hS',t1.1,?_⟩;rw[t1.2];have hS2:wL (λn:Nat=>V.int n) (aCc H' d (.lst ((a1::st').reverse.map λn:Nat=>V.int n))) d (a1::st'):=aC;have t2:=wL.top hS2;refine⟨_,rfl,.inl ⟨rfl,_,bf.of aC⟩,d,_,_,rfl,rfl,aC,t2.1,?_⟩;rw[t2.2];refine⟨_,rfl,.inl ⟨rfl,_,bf.of aC⟩,_,rfl,_,rfl,_,_,rfl,_,_,rfl,rfl,d,_,_,rfl,rfl,aC,?_,_,_,_,_,rfl,?_,?_,hr1,hw.2,?_⟩
    ·rw[aB,fQ];simp only[aG]at hl;exact pG (by omega)
    ·intro b' o z;rw[aJ (aK z hd),aJ (aK z hd),aJ (aK z hd)];exact sm _ _ z
    ·show aCc _ d _ d=_;rw[aC];congr 2;simp only[Oq,aw,bO,sM];congr 3;show(if(b:Int) > (a1:Int)then(b:Int)else(a1:Int))+1=((Js a1 b+1:Nat):Int)
     have:Js a1 b=if a1<=b then b else a1:=rfl
     rw[this];split <;> split <;> omega
    ·simp only[aG]at hl ⊢;omega
   |false=>
    unfold Wf at hw;rw[iN (by rw[q];simp)]at hw;rw[Nk q]at hr1;refine bW ⟨_,rfl,.inl ⟨rfl,_,bf.of hS'⟩,d,_,_,rfl,rfl,hS',?_,_,_,_,_,rfl,?_,?_,hr1,hw,?_⟩
    ·rw[aB,fQ];exact pG (by omega)
    ·intro b' o z;rw[aJ (aK z hd)];exact sm _ _ z
    ·show aCc _ d _ d=_;rw[aC];simp
    ·simp only[aG];omega
 ·rintro σ H' ⟨v2,v3,v4,st,rfl,sm,hS,hr1,hw,hl⟩;rw[aB,al.len,fD]at hr1;have hr1:st=[x.depth]:=hr1;subst hr1;have hS':H' d=some (.lst [V.int (x.depth:Nat)]):=hS;exact⟨_,rfl,d,_,_,V.int (x.depth:Nat),rfl,rfl,bf.of hS',eE (i:=0) rfl,k _ sm⟩
end
end Rv
namespace Rv
open Vamrqe (decimal blanks wOf wOr)
open Mt (PT mB aCk mV Kd)
theorem V0(h:k<=99):oM (toString ((k:Nat):Int))=bH (decimal k)/\(decimal k).length<=2:=by
 have key:∀k:_root_.Fin 100,oM (toString ((k.1:Nat):Int))=bH (decimal k.1)/\(decimal k.1).length<=2:=by trivial
 exact key ⟨k,by omega⟩
section
variable{c:Cn}
inductive OB(c:Cn)(vs:List V)(H:Hp)(Q:VK)(E_:XK):Prop
 |mk:∀a p,vs=[.ref a]->xU c H a p->jV p=false->Q (.str (bH (mB p))) H->OB c vs H Q E_
theorem GD(G:aCe c):i7 c "show_one" 1 ["part"] (OB c):=by
 refine G.CK.gG (N:=["part"]) (k:=0) (λH vs Q E nd hr h=>?_);obtain⟨a,p,rfl,⟨dx,o1,o2,o3⟩,hj,k⟩:=h;refine⟨_,aD (cf (bU eX (ag (pv 0) rfl) (b9 G.ug) (bt _)) (aL (bE (eM eG (eM eG (lN Fv (by rfl) G.VU WL (aA (ag (pv 0) rfl) aH)) cq) (ag (pv 0) rfl)))) b8) (aD (cf (bU eX (ag (pv 0) rfl) (b9 G.uA) (bt _)) (aL (bE (eM eG cq (ag (pv 0) rfl)))) b8) (aL (bE (ag (pv 0) rfl)))),?_⟩;refine⟨_,rfl,a,c.CP,dx,_,_,rfl,o1,G.eW,G.dP,gJ,rfl,_,rfl,?_⟩;cases p with
 |and=>cases hj
 |or=>cases hj
 |some_ n m=>
  rw[dE (show V.str (ze (PT.some_ n m))=V.str "some of" from rfl)];obtain⟨d1,d2⟩:=V0 (show n<=99 from o3);have o2:m.length<=12:=o2;refine bq ⟨_,rfl,a,c.CP,dx,_,_,rfl,o1,G.eW,G.jx,wx,_,rfl,?_,?_⟩
  ·show((n:Nat):Int).natAbs.log2<1920
   have:Nat.log2 n<=n:=Nat.log2_le_self n
   have o3:n<=99:=o3;simp only[Int.natAbs_natCast];omega
  have e0:V.str (oM (toString ((V9 (PT.some_ n m):Nat):Int)))=V.str (bH (decimal n)):=congrArg V.str d1;refine⟨_,_,e0,rfl,by rw[bM];exact sl (by show(decimal n).length+4<=100000;omega),?_⟩;rw[show((" of ":Str))=bH [32,111,102,32]from rfl,d9];refine⟨_,rfl,a,c.CP,dx,_,_,rfl,o1,G.eW,G.fk,kf,_,_,rfl,rfl,?_,?_⟩
  ·rw[bM,bM,aN];exact sl (by show(decimal n).length+4+m.length<=100000;omega)
  ·rw[d9];have e:mB (.some_ n m)=decimal n++[32,111,102,32]++m:=by simp[mB,blanks,wOf]
   rw[e]at k;exact k
 |author m=>
  rw[dF (show ¬V.str (ze (PT.author m))=V.str "some of" from by show ¬V.str "author"=V.str "some of";decide+kernel)];have o2:m.length<=12:=o2;refine bW ⟨_,rfl,a,c.CP,dx,_,_,rfl,o1,G.eW,G.dP,gJ,rfl,_,rfl,?_⟩;refine aDx (show V.str (ze (PT.author m))=V.str "author" from rfl) ⟨_,rfl,a,c.CP,dx,_,_,rfl,o1,G.eW,G.fk,kf,_,_,rfl,rfl,?_,?_⟩
  ·rw[bM];exact sl (by show 7+m.length<=100000;omega)
  ·rw[show(("author ":Str))=bH [97,117,116,104,111,114,32]from rfl,d9];have e:mB (.author m)=[97,117,116,104,111,114,32]++m:=by simp[mB,blanks,mR]
   rw[e]at k;exact k
 |by_ m=>refine aDw (show ¬V.str (ze (PT.by_ m))=V.str "some of" from by show ¬V.str "name"=V.str "some of";decide+kernel) ⟨_,rfl,a,c.CP,dx,_,_,rfl,o1,G.eW,G.dP,gJ,rfl,_,rfl,?_⟩;exact aDw (show ¬V.str (ze (PT.by_ m))=V.str "author" from by show ¬V.str "name"=V.str "author";decide+kernel) ⟨_,rfl,a,c.CP,dx,_,_,rfl,o1,G.eW,G.fk,kf,k⟩
inductive DY(vs:List V)(H:Hp)(Q:VK)(E_:XK):Prop
 |mk:∀t b,vs=[.str (bH t),.bl b]->t.length<=99000->Q (.str (bH (aCk b t))) H->DY vs H Q E_
theorem rK(G:aCe c):i7 c "in_brackets" 1 ["text","needed"] DY:=by
 refine G.v8.gG (N:=["text","needed"]) (k:=0) (λH vs Q E nd hr h=>?_);obtain⟨t,b,rfl,ht,k⟩:=h;refine⟨_,aL (bE (lx (ck (pv 1) (λ_=>rfl)) (FN (pC cq (pC (G0 (pv 0)) (pC cq RX)))) (pv 0))),?_⟩;refine⟨_,rfl,b,rfl,?_⟩;cases b with
 |false=>exact bW ⟨_,rfl,k⟩
 |true=>
  refine bq ⟨_,rfl,by trivial,_,rfl,_,rfl,by rw[bM];exact sl (by omega),_,rfl,?_,?_⟩
  ·rw[show(o9++("(":Str))=bH [40]from rfl,d9,bM];exact sl (by simp;omega)
  ·rw[show(o9++("(":Str))=bH [40]from rfl,d9];refine⟨_,rfl,?_,?_⟩
   ·rw[show((")":Str))=bH [41]from rfl,d9,bM];exact sl (by simp;omega)
   ·rw[show((")":Str))=bH [41]from rfl,d9];refine⟨by rw[bM];exact sl (by simp;omega),?_⟩;exact k
def KdS:Kd->Str->Prop
 |.and,s=>s="and"
 |.or,s=>s="or"
 |.leaf,s=>s≠"and"/\s≠"or"
theorem GV(h:KdS k s):decide (V.str s=V.str "and")=decide (k=.and):=by
 rw[b7,decide_eq_true_eq,decide_eq_true_eq];cases k with
 |and=>rw[show s="and" from h];simp
 |or=>rw[show s="or" from h];exact⟨λz=>by injection z with z;exact absurd z (by trivial),λz=>by cases z⟩
 |leaf=>exact⟨λz=>by injection z with z;exact absurd z h.1,λz=>by cases z⟩
theorem QY(h:KdS k s):decide (V.str s=V.str "or")=decide (k=.or):=by
 rw[b7,decide_eq_true_eq,decide_eq_true_eq];cases k with
 |and=>rw[show s="and" from h];exact⟨λz=>by injection z with z;exact absurd z (by trivial),λz=>by cases z⟩
 |or=>rw[show s="or" from h];simp
 |leaf=>exact⟨λz=>by injection z with z;exact absurd z h.2,λz=>by cases z⟩
inductive Aw(H:Hp)(a:aF)(x:Kd×aM):Prop
 |mk:∀s,KdS x.1 s->H a=some (.tup [.str s,.str (bH x.2)])->Aw H a x
theorem mf(b:Bool)(t:aM):(aCk b t).length<=t.length+2:=by
 unfold aCk;split
 ·simp
 ·omega
inductive XF(vs:List V)(H:Hp)(Q:VK)(E_:XK):Prop
 |mk:∀k s a b x y,vs=[.str s,.ref a,.ref b]->k≠.leaf->KdS k s->Aw H a x->Aw H b y->x.2.length+y.2.length<=98000->Q (.str (bH (mV k x y))) H->XF vs H Q E_
theorem zW(k:Kd)(x y:Kd×aM):(mV k x y).length<=x.2.length+y.2.length+9:=by
 unfold mV;have h1:=mf (decide (k=.and)&&decide (x.1=.or)) x.2;have h2:=mf (decide (y.1=.or)||(decide (k=.and)&&decide (y.1=.and))) y.2;have h3:(if k=Kd.and then oV else wOr).length<=3:=by split <;> simp[oV,wOr]
 simp only[aN,aG];omega
theorem EJ(G:aCe c):i7 c "show_join" 2 ["kind","first","second"] XF:=by
 refine G.AX.gG (N:=["kind","first","second","first_text","second_text"]) (k:=1) (λH vs Q E nd hr h=>?_);obtain⟨k,s',a,b,x,y,rfl,hk,hs,⟨s1,g1,h1⟩,⟨s2,g2,h2⟩,hl,kk⟩:=h;refine⟨_,aD (bb (i:=3) nd (az (rK G) hr ae (aA (fE wd (pv 1) bB (λ_ _=>rfl)) (aA (wu (iR eX (pv 0) (b9 G.AZ) (bt _)) (qk (iR eX (fE wd (pv 1) bB (λ_ _=>rfl)) (b9 G.UE) (bt _)))) aH)))) (aD (bb (i:=4) nd (az (rK G) hr ae (aA (fE wd (pv 2) bB (λ_ _=>rfl)) (aA (V8 (iR eX (fE wd (pv 2) bB (λ_ _=>rfl)) (b9 G.UE) (bt _)) (qk (wu (iR eX (pv 0) (b9 G.AZ) (bt _)) (qk (iR eX (fE wd (pv 2) bB (λ_ _=>rfl)) (b9 G.AZ) (bt _)))))) aH)))) (aL (bE (FN (pC (G0 (pv 3)) (pC cq (pC (G0 (pv 0)) (pC cq (pC (G0 (pv 4)) RX))))))))),?_⟩;have b1:=mf (decide (k=.and)&&decide (x.1=.or)) x.2;have b2:=mf (decide (y.1=.or)||(decide (k=.and)&&decide (y.1=.and))) y.2;have hw:V.str s'=V.str (bH (if k=Kd.and then oV else wOr))/\(if k=Kd.and then oV else wOr).length<=3:=by
  cases k with
  |leaf=>exact absurd rfl hk
  |and=>rw[show s'="and" from hs];exact⟨rfl,by decide⟩
  |or=>rw[show s'="or" from hs];exact⟨rfl,by decide⟩
 have hw1:s'=bH (if k=Kd.and then oV else wOr):=by injection hw.1
 have fin:Gr (Gq (uF (λσ H Q=>g9 3 σ H λx H1=>∃y,x=.str y/\y.length<=aj/\Q x H1) (uF (tC (.str " ")) (uF (λσ H Q=>g9 0 σ H λx H1=>∃y,x=.str y/\y.length<=aj/\Q x H1) (uF (tC (.str " ")) (uF (λσ H Q=>g9 4 σ H λx H1=>∃y,x=.str y/\y.length<=aj/\Q x H1) W5))))))
   {nx:=λ_ H'=>Q .fB H',rt:=Q} [some (.str s'),some (.ref a),some (.ref b),some (.str (bH (aCk (decide (k=.and)&&decide (x.1=.or)) x.2))),some (.str (bH (aCk (decide (y.1=.or)||(decide (k=.and)&&decide (y.1=.and))) y.2)))] H:=by
  unfold mV at kk;generalize aCk (decide (k=.and)&&decide (x.1=.or)) x.2=X at b1 kk;generalize aCk (decide (y.1=.or)||(decide (k=.and)&&decide (y.1=.and))) y.2=Y at b2 kk;rw[hw1];have hw2:=hw.2;generalize(if k=Kd.and then oV else wOr)=W at hw2 kk;have e0:o9++bH X=bH X:=by rw[show o9=bH []from rfl,d9];rfl
  refine⟨_,rfl,_,rfl,by rw[bM];exact sl (by omega),_,rfl,by rw[e0,bM];exact sl (by omega),?_⟩;rw[e0];refine⟨_,rfl,?_,?_⟩
  ·rw[show((" ":Str))=bH [32]from rfl,d9,bM];exact sl (by simp;omega)
  rw[show((" ":Str))=bH [32]from rfl,d9];refine⟨_,rfl,_,rfl,by rw[bM];exact sl (by omega),_,rfl,?_,?_⟩
  ·rw[d9,bM];exact sl (by simp;omega)
  rw[d9];refine⟨_,rfl,?_,?_⟩
  ·rw[d9,bM];exact sl (by simp;omega)
  rw[d9];refine⟨_,rfl,_,rfl,by rw[bM];exact sl (by omega),_,rfl,?_,?_,?_⟩
  ·rw[d9,bM];exact sl (by simp;omega)
  ·rw[d9,bM];exact sl (by simp;omega)
  ·rw[d9];simpa using kk
 have sec:S2 (OJ DY E (gT (Mb (R5 c.K) (g9 2) (tC (.int 1))) (gT (X4 (Mb Xu (Mb (R5 c.K) (g9 2) (tC (.int 0))) (tC (.str "or"))) (Ve (Mb Xu (g9 0) (tC (.str "and"))) (Mb Xu (Mb (R5 c.K) (g9 2) (tC (.int 0))) (tC (.str "and"))))) oA))) (tw 4)
   {nx:=Gr (Gq (uF (λσ H Q=>g9 3 σ H λx H1=>∃y,x=.str y/\y.length<=aj/\Q x H1) (uF (tC (.str " ")) (uF (λσ H Q=>g9 0 σ H λx H1=>∃y,x=.str y/\y.length<=aj/\Q x H1) (uF (tC (.str " ")) (uF (λσ H Q=>g9 4 σ H λx H1=>∃y,x=.str y/\y.length<=aj/\Q x H1) W5)))))) {nx:=λ_ H'=>Q .fB H',rt:=Q},rt:=Q} [some (.str s'),some (.ref a),some (.ref b),some (.str (bH (aCk (decide (k=.and)&&decide (x.1=.or)) x.2))),none] H:=by
  refine⟨_,rfl,b,_,_,_,rfl,rfl,qU.of h2,eE (i:=1) rfl,_,rfl,b,_,_,_,rfl,rfl,qU.of h2,eE (i:=0) rfl,rfl,_,rfl,?_⟩;rw[QY g2];cases q:decide (y.1=.or)with
  |true=>rw[q,Ja]at fin;exact bq ⟨y.2,true,rfl,by omega,fin⟩
  |false=>
   rw[q,mI]at fin;refine bW ⟨_,rfl,rfl,_,rfl,?_⟩;rw[GV hs];cases q1:decide (k=.and)with
   |false=>rw[q1]at fin;exact bW ⟨y.2,false,rfl,by omega,fin⟩
   |true=>rw[q1]at fin;refine bq ⟨_,rfl,b,_,_,_,rfl,rfl,qU.of h2,eE (i:=0) rfl,rfl,?_⟩;rw[GV g2];exact⟨y.2,_,rfl,by omega,fin⟩
 refine⟨_,rfl,a,_,_,_,rfl,rfl,qU.of h1,eE (i:=1) rfl,_,rfl,rfl,_,rfl,?_⟩;rw[GV hs];cases q1:decide (k=.and)with
 |false=>rw[q1]at sec;exact bW ⟨x.2,false,rfl,by omega,sec⟩
 |true=>rw[q1]at sec;refine bq ⟨_,rfl,a,_,_,_,rfl,rfl,qU.of h1,eE (i:=0) rfl,rfl,?_⟩;rw[QY g1];exact⟨x.2,_,rfl,by omega,sec⟩
end
end Rv
namespace Rv
open Vamrqe (blanks wOf)
open Mt (post PT yg mB mV Kd)
def MJ:PT->Kd
 |.and=>.and
 |.or=>.or
 |_=>.leaf
theorem K5(p:PT):KdS (MJ p) (ze p):=by
 cases p with
 |and=>rfl
 |or=>rfl
 |by_ n=>exact⟨by show ¬("name":Str)="and";decide+kernel,by show ¬("name":Str)="or";decide+kernel⟩
 |some_ k n=>exact⟨by show ¬("some of":Str)="and";decide+kernel,by show ¬("some of":Str)="or";decide+kernel⟩
 |author n=>exact⟨by show ¬("author":Str)="and";decide+kernel,by show ¬("author":Str)="or";decide+kernel⟩
theorem Nm{st:List (Kd×aM)}(h:jV p=false):yg (p::r) st=yg r ((MJ p,mB p)::st):=by
 cases p with
 |and=>cases h
 |or=>cases h
 |by_ n=>rfl
 |some_ k n=>rfl
 |author n=>rfl
theorem Nl{st:List (Kd×aM)}(h:jV p=true):yg (p::r) (b::a::st)=yg r ((MJ p,mV (MJ p) a b)::st)/\MJ p≠.leaf:=by
 cases p with
 |and=>exact⟨rfl,by intro z;cases z⟩
 |or=>exact⟨rfl,by intro z;cases z⟩
 |by_ n=>cases h
 |some_ k n=>cases h
 |author n=>cases h
theorem uo(h1:(U6 p).length<=12)(h2:V9 p<=99):(mB p).length<=30:=by
 cases p with
 |and=>simp[mB]
 |or=>simp[mB]
 |by_ n=>have:n.length<=12:=h1;show n.length<=30;omega
 |some_ k n=>have h:n.length<=12:=h1;have d:=(V0 (show k<=99 from h2)).2;simp[mB,blanks,wOf];omega
 |author n=>have h:n.length<=12:=h1;simp[mB,blanks,mR];omega
def Cm(st:List (Kd×aM)):Nat:=(st.map λx=>x.2.length).sum
section
variable{c:Cn}
theorem Aw.kp(h:Aw H a x)(k:Kp M H H')(n:a∉M):Aw H' a x:=by obtain⟨s,h1,h2⟩:=h;exact⟨s,h1,k _ _ h2 n⟩
inductive Kz(c:Cn)(vs:List V)(H:Hp)(Q:VK)(E_:XK):Prop
 |mk:∀p x,vs=[.ref p]->fX c H p (post x)->(post x).length<=3000->(∀H',bA H H'->(x.shownAt 1).length<=30*(post x).length->Q (.str (bH (x.shownAt 1))) H')->Kz c vs H Q E_
inductive aD7(H:Hp)(p:aF)(x:dD)(d:aF)(i:Nat)(σ:L2.St)(H':Hp):Prop
 |mk:∀(v2 v3 v4:Option V)(bs:List aF)(st:List (Kd×aM)),σ=[some (.ref p),some (.ref d),v2,v3,v4]->bA H H'->wL V.ref H' d bs->Al (Aw H') bs st->yg ((post x).drop i) st=[(Mt.kd x,x.shownAt 1)]->Wf ((post x).drop i) st.length=true->st.length<=i->Cm st<=30*i->aD7 H p x d i σ H'
theorem nP(G:aCe c):i7 c "show_condition" 3 ["parts"] (Kz c):=by
 refine G.qA.gG (N:=["parts","shown","part","second","first"]) (k:=2) (λH vs Q E nd hr h=>?_);obtain⟨p,x,rfl,⟨as,hA,al⟩,hn,k⟩:=h;refine⟨_,aD (bb (i:=1) nd (cp aH)) (aD (fW jC rfl (dQ (pv 0)) (d7 (i:=2) nd) (aL (cf (bU kS (ag (pv 2) rfl) (b9 G.ow) rfl) (aD (bb (i:=3) nd (uO aR eO eP uK (pv 1))) (aD (bb (i:=4) nd (uO aR eO eP uK (pv 1))) (aL (ax (fZ aR ak ao dU (pv 1) (aA (pQ (aA (ag (pv 2) rfl) (aA (az (EJ G) hr ae (aA (ag (pv 2) rfl) (aA (pv 4) (aA (pv 3) aH)))) aH))) aH)))))) (aL (ax (fZ aR ak ao dU (pv 1) (aA (pQ (aA (ag (pv 2) rfl) (aA (az (GD G) hr ae (aA (pv 2) aH)) aH))) aH))))))) (aL (bE (fE wd (fE du (pv 1) bB (λ_ _=>rfl)) bB (λ_ _=>rfl))))),?_⟩;refine⟨bR _,λd hd=>?_⟩;have hA0:(aCc H d (.lst [])) p=some (.lst (as.map V.ref)):=aCb hd _ _ hA;refine⟨_,rfl,p,rfl,⟨_,bf.of hA0⟩,fH (xs:=as.map V.ref) (aD7 H p x d) ⟨none,none,none,[],[],rfl,aCb hd,aC,.nil,?_,Df x,a9 _,bR _⟩ ?_ ?_ ?_⟩
 ·have:=Mt.qJ x [] []
  rw[bg]at this;exact this
 ·rintro i σ H' hi ⟨_,_,_,_,_,_,sm,_⟩;exact bf.of (sm _ _ hA)
 ·rintro i y σ H' hy ⟨v2,v3,v4,bs,st,rfl,sm,hS,hB,hr1,hw,hl,hz⟩;rw[aP]at hy;cases ha:as[i]? with
  |none=>rw[ha]at hy;cases hy
  |some a=>
   rw[ha]at hy;have e:y=V.ref a:=(aV hy).symm;subst e;obtain⟨pt,hpt,dx,o1,o2,o3⟩:=al.at' ha;have hi:i<(post x).length:=(a8.mp hpt).1;have hdr:(post x).drop i=pt::(post x).drop (i+1):=by rw[b3 hi,(a8.mp hpt).2]
   rw[hdr]at hr1 hw;have hS':H' d=some (.lst (bs.reverse.map V.ref)):=hS;have hbl:=hB.len;refine⟨_,rfl,a,c.CP,dx,_,_,rfl,sm _ _ o1,G.eW,G.dP,gJ,c.JO,_,rfl,.inr (G.pI H'),rfl,rfl,_,rfl,?_⟩;rw[QP];cases q:jV pt with
   |true=>
    unfold Wf at hw;rw[iP q,bG,decide_eq_true_eq]at hw;obtain⟨b,a1,st',rfl⟩:∃b a1 st',st=b::a1::st':=by
     match st,hw.1 with
     |b::a1::st',_=>exact⟨b,a1,st',rfl⟩
    obtain⟨hj1,hj2⟩:=Nl (r:=(post x).drop (i+1)) (a:=a1) (b:=b) (st:=st') q;rw[hj1]at hr1;obtain⟨b',a1',bs',rfl,g1,g2,g3⟩:∃b' a1' bs',bs=b'::a1'::bs'/\Aw H' b' b/\Aw H' a1' a1/\Al (Aw H') bs' st':=by
     cases hB with
     |cons p1 hB=>cases hB with
      |cons p2 hB=>exact⟨_,_,_,rfl,p1,p2,hB⟩
    have t1:=wL.top hS;refine bq ⟨_,rfl,.inl ⟨rfl,_,bf.of hS'⟩,d,_,_,rfl,rfl,hS',t1.1,?_⟩;rw[t1.2];have hS2:wL V.ref (aCc H' d (.lst ((a1'::bs').reverse.map V.ref))) d (a1'::bs'):=aC;have t2:=wL.top hS2;refine⟨_,rfl,.inl ⟨rfl,_,bf.of aC⟩,d,_,_,rfl,rfl,aC,t2.1,?_⟩;rw[t2.2];have kd1:Kp [d] H' (aCc (aCc H' d (.lst ((a1'::bs').reverse.map V.ref))) d (.lst (bs'.reverse.map V.ref))):=(Kp.put (by simp)).trans (Kp.put (by simp));have hd2:(aCc (aCc H' d (.lst ((a1'::bs').reverse.map V.ref))) d (.lst (bs'.reverse.map V.ref))) d=some (.lst (bs'.reverse.map V.ref)):=aC;generalize aCc (aCc H' d (.lst ((a1'::bs').reverse.map V.ref))) d (.lst (bs'.reverse.map V.ref))=H2 at kd1 hd2;have nd':∀{u:aF}{z:Kd×aM},Aw H' u z->u∉[d]:=λ{u z} h=>by obtain⟨s,_,h⟩:=h;simp only[aQ];exact cR h hS' nofun
    have sm2:bA H H2:=λb o z=>kd1 _ _ (sm _ _ z) (by simpa using aK z hd);have lz:a1.2.length+b.2.length+Cm st'=Cm (b::a1::st'):=by simp[Cm];omega
    refine⟨_,rfl,.inl ⟨rfl,_,bf.of hd2⟩,_,rfl,a,c.CP,dx,_,_,rfl,sm2 _ _ o1,G.eW,G.dP,gJ,_,rfl,a,c.CP,dx,_,_,rfl,sm2 _ _ o1,G.eW,G.dP,gJ,_,rfl,_,rfl,MJ pt,ze pt,a1',b',a1,b,rfl,hj2,K5 pt,g2.kp kd1 (nd' g2),g1.kp kd1 (nd' g1),by omega,?_⟩;refine⟨yh,λt ht=>?_⟩;have jl:=zW (MJ pt) a1 b;refine⟨d,_,_,rfl,rfl,aCb ht _ _ hd2,?_,_,_,_,t::bs',(MJ pt,mV (MJ pt) a1 b)::st',rfl,?_,?_,?_,hr1,hw.2,?_,?_⟩
    ·rw[aB,fQ,g3.len];simp only[aG]at hl;exact pG (by omega)
    ·intro b o z;rw[aJ (aK z hd)];exact aCb ht _ _ (sm2 _ _ z)
    ·show aCc _ d _ d=_;rw[aC];simp
    ·have ntd:t≠d:=(aK hd2 ht).symm;refine .cons ⟨ze pt,K5 pt,by rw[aJ ntd,aC]⟩ (g3.mono λu z h=>?_);exact((h.kp kd1 (nd' h)).kp (M:=[]) (bA.kp (aCb ht)) (by simp)).kp (Kp.put (by simp)) (nd' h)
    ·simp only[aG]at hl ⊢;omega
    ·have:Cm ((MJ pt,mV (MJ pt) a1 b)::st')=(mV (MJ pt) a1 b).length+Cm st':=by simp[Cm]
     rw[this];omega
   |false=>
    unfold Wf at hw;rw[iN (by rw[q];simp)]at hw;rw[Nm q]at hr1;have nd':∀{u:aF}{z:Kd×aM},Aw H' u z->u∉[d]:=λ{u z} h=>by obtain⟨s,_,h⟩:=h;simp only[aQ];exact cR h hS' nofun
    refine bW ⟨_,rfl,.inl ⟨rfl,_,bf.of hS'⟩,_,rfl,a,c.CP,dx,_,_,rfl,sm _ _ o1,G.eW,G.dP,gJ,_,rfl,a,pt,rfl,⟨dx,sm _ _ o1,o2,o3⟩,q,?_⟩;refine⟨yh,λt ht=>?_⟩;have jl:=uo o2 o3;refine⟨d,_,_,rfl,rfl,aCb ht _ _ hS',?_,_,_,_,t::bs,(MJ pt,mB pt)::st,rfl,?_,?_,?_,hr1,hw,?_,?_⟩
    ·rw[aB,fQ,hbl];exact pG (by omega)
    ·intro b o z;rw[aJ (aK z hd)];exact aCb ht _ _ (sm _ _ z)
    ·show aCc _ d _ d=_;rw[aC];simp
    ·have ntd:t≠d:=(aK hS' ht).symm;refine .cons ⟨ze pt,K5 pt,by rw[aJ ntd,aC]⟩ (hB.mono λu z h=>?_);exact(h.kp (M:=[]) (bA.kp (aCb ht)) (by simp)).kp (Kp.put (by simp)) (nd' h)
    ·simp only[aG];omega
    ·have:Cm ((MJ pt,mB pt)::st)=(mB pt).length+Cm st:=by simp[Cm]
     rw[this];omega
 ·rintro σ H' ⟨v2,v3,v4,bs,st,rfl,sm,hS,hB,hr1,hw,hl,hz⟩;rw[aB,al.len,fD]at hr1;rw[aB,al.len]at hz;have hr1:st=[(Mt.kd x,x.shownAt 1)]:=hr1;subst hr1;obtain⟨t,rfl,s1,g1,g2⟩:∃t,bs=[t]/\Aw H' t (Mt.kd x,x.shownAt 1):=by
   cases hB with
   |cons p1 hB=>cases hB;exact⟨_,rfl,p1⟩
  have hS':H' d=some (.lst [V.ref t]):=hS;exact⟨_,rfl,d,_,_,V.ref t,rfl,rfl,bf.of hS',eE (i:=0) rfl,t,_,_,_,rfl,rfl,qU.of g2,eE (i:=1) rfl,k _ sm (by simpa[Cm]using hz)⟩
end
end Rv
namespace Rv
open Vamrqe (At)
open Mt (post PT)
abbrev vS(n:aM):V:=.str (bH n)
def Mx(H:Hp)(a:aF)(l:List aM):Prop:=H a=some (.lst (l.map vS))
def pS(kd nm:Str)(na:aF)(pat:Str)(cd:aF):List (Str×V):=[("kind",.str kd),("name",.str nm),("names",.ref na),("pattern",.str pat),("condition",.ref cd)]
section
variable{kd nm pat:Str}{na cd:aF}
theorem cY:(pS kd nm na pat cd).lookup ("kind":Str)=some (.str kd):=eD
theorem qL:(pS kd nm na pat cd).lookup ("name":Str)=some (.str nm):=(cJ (by trivial)).trans eD
theorem uq:(pS kd nm na pat cd).lookup ("names":Str)=some (.ref na):=(cJ (by trivial)).trans ((cJ (by trivial)).trans eD)
theorem kT:(pS kd nm na pat cd).lookup ("pattern":Str)=some (.str pat):=(cJ (by trivial)).trans ((cJ (by trivial)).trans ((cJ (by trivial)).trans eD))
theorem gS:(pS kd nm na pat cd).lookup ("condition":Str)=some (.ref cd):=(cJ (by trivial)).trans ((cJ (by trivial)).trans ((cJ (by trivial)).trans ((cJ (by trivial)).trans eD)))
theorem yj(v:Str):jP "name" (.str v) (pS kd nm na pat cd)=pS kd v na pat cd:=by unfold pS;rw[bz (by trivial),pE]
theorem wI(v:aF):jP "names" (.ref v) (pS kd nm na pat cd)=pS kd nm v pat cd:=by unfold pS;rw[bz (by trivial),bz (by trivial),pE]
theorem mO(v:Str):jP "pattern" (.str v) (pS kd nm na pat cd)=pS kd nm na v cd:=by unfold pS;rw[bz (by trivial),bz (by trivial),bz (by trivial),pE]
theorem pH(v:aF):jP "condition" (.ref v) (pS kd nm na pat cd)=pS kd nm na pat v:=by unfold pS;rw[bz (by trivial),bz (by trivial),bz (by trivial),bz (by trivial),pE]
end
def aCn:bX->Str
 |.person _=>"person"
 |.group _ _=>"group"
 |.need _ _=>"need"
 |.veto _ _=>"veto"
 |.sticky _=>"sticky"
 |.default_ _=>"default"
structure YJ(l:List aM):Prop where
 ne:l≠[]
 le:l.length<=8
 sh:∀n∈l,n.length<=12
def Zt(c:Cn)(H:Hp)(nm:aM)(na:aF)(pat:aM)(cd:aF):bX->Prop
 |.person l=>Mx H na l/\YJ l/\fX c H cd []
 |.group n l=>nm=n/\n.length<=12/\Mx H na l/\YJ l/\fX c H cd []
 |.need p x=>cW pat=some p/\fX c H cd (post x)/\(post x).length<=1500
 |.veto p n=>cW pat=some p/\nm=n/\n.length<=12/\fX c H cd []
 |.sticky p=>cW pat=some p/\fX c H cd []
 |.default_ x=>fX c H cd (post x)/\(post x).length<=1500
inductive iB(c:Cn)(F:aF->Prop)(H:Hp)(a:aF)(s:bX):Prop
 |mk:∀dx nm na pat cd,H a=some (.ins c.CS dx (pS (aCn s) (bH nm) na (bH pat) cd))->F na->F cd->Zt c H nm na pat cd s->iB c F H a s
def Ap(M:List aF)(F:aF->Prop)(H:Hp):Prop:=∀b∈M,¬F b/\∀C d fs,H b=some (.ins C d fs)->fs.head?.map (·.1)≠some ("kind":Str)
section
variable{c:Cn}{M:List aF}{F F':aF->Prop}{H H':Hp}
theorem Ap.ins(n:Ap M F H)(h:H a=some (.ins C d fs))(hl:fs.head?.map (·.1)=some ("kind":Str)):a∉M:=λz=>(n a z).2 C d fs h hl
theorem Ap.not(n:Ap M F H)(h:F a):a∉M:=λz=>(n a z).1 h
theorem Bq:Ap [] F H:=λb hb=>by simp at hb
theorem Ap.cons(h1:¬F a)(h:∀C d fs,H a=some (.ins C d fs)->fs.head?.map (·.1)≠some ("kind":Str))(n:Ap M F H):Ap (a::M) F H:=λb hb=>by
 rcases af.mp hb with z|z
 ·subst z;exact⟨h1,h⟩
 ·exact n b z
theorem fX.same(h:fX c H p ps)(s:bA H H'):fX c H' p ps:=by obtain⟨as,h1,h2⟩:=h;exact⟨as,s _ _ h1,h2.mono λ_ _ z=>z.same s⟩
theorem xU.move(h:xU c H a p)(k:Kp M H H')(hi:∀a C d fs,H a=some (.ins C d fs)->fs.head?.map (·.1)=some ("kind":Str)->a∉M):xU c H' a p:=by obtain⟨dx,h1,h2⟩:=h;exact⟨dx,k _ _ h1 (hi _ _ _ _ h1 rfl),h2⟩
theorem fX.move(h:fX c H p ps)(k:Kp M H H')(hi:∀a C d fs,H a=some (.ins C d fs)->fs.head?.map (·.1)=some ("kind":Str)->a∉M)(hp:p∉M):fX c H' p ps:=by obtain⟨as,h1,h2⟩:=h;exact⟨as,k _ _ h1 hp,h2.mono λ_ _ z=>z.move k hi⟩
theorem Zt.move(h4:Zt c H nm na pat cd s)(k:Kp M H H')(hi:∀a C d fs,H a=some (.ins C d fs)->fs.head?.map (·.1)=some ("kind":Str)->a∉M)
  (hn:∀l,Mx H na l->l≠[]->na∉M) (hc:∀ps,fX c H cd ps->cd∉M):Zt c H' nm na pat cd s:=by
 cases s with
 |person l=>exact⟨k _ _ h4.1 (hn _ h4.1 h4.2.1.ne),h4.2.1,h4.2.2.move k hi (hc _ h4.2.2)⟩
 |group m l=>exact⟨h4.1,h4.2.1,k _ _ h4.2.2.1 (hn _ h4.2.2.1 h4.2.2.2.1.ne),h4.2.2.2.1,h4.2.2.2.2.move k hi (hc _ h4.2.2.2.2)⟩
 |need p x=>exact⟨h4.1,h4.2.1.move k hi (hc _ h4.2.1),h4.2.2⟩
 |veto p m=>exact⟨h4.1,h4.2.1,h4.2.2.1,h4.2.2.2.move k hi (hc _ h4.2.2.2)⟩
 |sticky p=>exact⟨h4.1,h4.2.move k hi (hc _ h4.2)⟩
 |default_ x=>exact⟨h4.1.move k hi (hc _ h4.1),h4.2⟩
theorem iB.ap(h:iB c F H a s)(k:Kp M H H')(n:Ap M F H):iB c F H' a s:=by obtain⟨dx,nm,na,pat,cd,h1,h2,h3,h4⟩:=h;exact⟨dx,nm,na,pat,cd,k _ _ h1 (n.ins h1 rfl),h2,h3,h4.move k (λa C d fs e f=>n.ins e f) (λ_ _ _=>n.not h2) λ_ _=>n.not h3⟩
theorem iB.app(h:iB c F H a s)(hx:H x=some (.lst ((b::bs).map V.ref)))(hb:iB c F' H b s')(k:Kp [x] H H'):iB c F H' a s:=by
 obtain⟨dx,nm,na,pat,cd,h1,h2,h3,h4⟩:=h;have hi:∀a C d fs,H a=some (.ins C d fs)->fs.head?.map (·.1)=some ("kind":Str)->a∉[x]:=λa C d fs e _ z=>by rw[aQ.mp z,hx]at e;cases e
 refine⟨dx,nm,na,pat,cd,k _ _ h1 (hi _ _ _ _ h1 rfl),h2,h3,h4.move k hi (λl e ne z=>?_) λps e z=>?_⟩
 ·have e:H na=some (.lst (l.map vS)):=e;rw[aQ.mp z,hx]at e;cases l with
  |nil=>exact ne rfl
  |cons n l=>simp at e
 ·obtain⟨as,e1,e2⟩:=e;rw[aQ.mp z,hx]at e1;cases as with
  |nil=>simp at e1
  |cons n l=>
   simp only[bO,mn,HO.lst.injEq,qQ,V.ref.injEq]at e1;obtain⟨dx',_,_,_,_,g1,_⟩:=hb;cases e2 with
   |cons p q=>obtain⟨dy,g2,_⟩:=p;rw[<-e1.1,g1]at g2;injection g2 with g2;injection g2 with g3 g4 g5;exact absurd (congrArg L6 g5) (by show ¬5=3;decide)
theorem iB.same(h:iB c F H a s)(k:bA H H'):iB c F H' a s:=h.ap (M:=[]) (bA.kp k) Bq
theorem iB.mono(h:iB c F H a s)(k:∀b,F b->F' b):iB c F' H a s:=by obtain⟨dx,nm,na,pat,cd,h1,h2,h3,h4⟩:=h;exact⟨dx,nm,na,pat,cd,h1,k _ h2,k _ h3,h4⟩
inductive ZK(C:aF)(vs:List V)(H:Hp)(Q:VK)(E_:XK):Prop
 |mk:∀a dx kd,vs=[.ref a,.str kd]->H a=some (.ins C dx [])->(∀na cd H',H na=none->H cd=none->H' a=some (.ins C dx (pS kd (bH []) na (bH []) cd))->H' na=some (.lst [])->H' cd=some (.lst [])->Kp [a] H H'->Q .fB H')->ZK C vs H Q E_
theorem jG(G:aCe c):Bb c "Statement" c.CS 2 ["self","kind"] (ZK c.CS):=by
 refine G.A7.gG (N:=["self","kind"]) (k:=0) (λH vs Q E nd hr h=>?_);obtain⟨a,dx,kd,rfl,ha,k⟩:=h;refine⟨_,aD (d8 (pv 0) (pv 1) rfl) (aD (d8 (pv 0) cq rfl) (aD (d8 (pv 0) (cp aH) rfl) (aD (d8 (pv 0) cq rfl) (aL (d8 (pv 0) (cp aH) rfl))))),?_⟩;refine⟨_,rfl,_,rfl,a,c.CS,dx,_,rfl,ha,G.aZ,G.ah,by show 0<1000;decide,?_⟩;refine⟨_,rfl,a,c.CS,dx,_,rfl,aC,G.aZ,G.de,by show 1<1000;decide,?_⟩;rw[dW,bz (show ¬("kind":Str)="name" by trivial),dW];refine⟨bR _,λna hna=>?_⟩;have ana:a≠na:=aK aC hna;refine⟨_,rfl,a,c.CS,dx,_,rfl,by rw[aJ ana,aC],G.aZ,G.eJ,by show 2<1000;decide,?_⟩;rw[bz (show ¬("kind":Str)="names" by trivial),bz (show ¬("name":Str)="names" by trivial),dW];refine⟨_,rfl,a,c.CS,dx,_,rfl,aC,G.aZ,G.c8,by show 3<1000;decide,?_⟩;rw[bz (show ¬("kind":Str)="pattern" by trivial),bz (show ¬("name":Str)="pattern" by trivial),bz (show ¬("names":Str)="pattern" by trivial),dW];refine⟨bR _,λcd hcd=>?_⟩;have acd:a≠cd:=aK aC hcd;refine⟨_,rfl,a,c.CS,dx,_,rfl,by rw[aJ acd,aC],G.aZ,G.cE,by show 4<1000;decide,?_⟩;rw[bz (show ¬("kind":Str)="condition" by trivial),bz (show ¬("name":Str)="condition" by trivial),bz (show ¬("names":Str)="condition" by trivial),bz (show ¬("pattern":Str)="condition" by trivial),dW];rw[aJ (λz=>ana z.symm),aJ (λz=>ana z.symm)]at hna;have hcd1:=hcd;rw[aJ (λz=>acd z.symm),aJ (λz=>acd z.symm)]at hcd1;have nc:na≠cd:=by intro z;subst z;rw[aC]at hcd1;cases hcd1
 rw[aJ (λz=>nc z.symm),aJ (λz=>acd z.symm),aJ (λz=>acd z.symm)]at hcd1;refine k na cd _ hna hcd1 aC ?_ ?_ λb o e nb=>?_
 ·rw[aJ (λz=>ana z.symm),aJ nc,aJ (λz=>ana z.symm),aJ (λz=>ana z.symm),aC]
 ·rw[aJ (λz=>acd z.symm),aC]
 ·have ba:b≠a:=by simpa using nb
  rw[aJ ba,aJ (aK e hcd1),aJ ba,aJ ba,aJ (aK e hna),aJ ba,aJ ba];exact e
theorem zl{kd:Str}{E:XK}(nx:H x=none)(nd:H dx=none)(k:∀na cd H',H na=none->H cd=none->H' x=some (.ins C dx (pS kd (bH []) na (bH []) cd))->H' na=some (.lst [])->H' cd=some (.lst [])->bA H H'->W .fB H'):
  ZK C [.ref x,.str kd] (aCc (aCc H dx (.own x)) x (.ins C dx [])) W E:=by
 have back:∀{b:aF},(aCc (aCc H dx (.own x)) x (.ins C dx [])) b=none->H b=none:=λ{b} z=>by
  by_cases q:b=x
  ·subst q;exact nx
  ·rw[aJ q]at z;by_cases q2:b=dx
   ·subst q2;exact nd
   ·rw[aJ q2]at z;exact z
 exact⟨x,dx,kd,rfl,aC,λna cd H' h1 h2 h3 h4 h5 kp=>k na cd H' (back h1) (back h2) h3 h4 h5 λb o q=>kp b o (by rw[aJ (aK q nx),aJ (aK q nd)];exact q) (by simp[aK q nx])⟩
end
def nr(m:Nat)(ts:List At):kF (List aM×List At):=i6 ts.length m ts
def A6(m:Nat)(acc:List aM)(ts:List At):kF (List aM×List At):=if dG 44 ts=true/\1<m then bc (nr (m - 1) (ts.drop 1)) λy=>.ok (acc++y.1,y.2)else .ok (acc,ts)
theorem Ct:∀(f g m:Nat)(ts:List At),ts.length<=f->ts.length<=g->i6 f m ts=i6 g m ts
 |0,0,_,_,_,_=>rfl
 |0,g+1,m,ts,h,_=>by
  have:ts=[]:=eQ (by omega)
  subst this;rfl
 |f+1,0,m,ts,_,h=>by
  have:ts=[]:=eQ (by omega)
  subst this;rfl
 |f+1,g+1,m,ts,h1,h2=>by
  show bc (cn ts) _=bc (cn ts) _;refine Mt.dJ λx hx=>?_;obtain⟨e,ne⟩:=Mt.iZ hx
  have:=Mt.jN ne
  rw[Ct f g (m - 1) (x.2.drop 1) (by rw[e,ay];omega) (by rw[e,ay];omega)]
theorem RG(h:ts.length<=f):i6 f m ts=nr m ts:=Ct _ _ m ts h (a9 _)
theorem V5(m:Nat)(ts:List At):nr m ts=bc (cn ts) λx=>A6 m [x.1] x.2:=by rw[<-RG (f:=ts.length+1) (by omega)];show bc (cn ts) _=_;refine Mt.dJ λx hx=>?_;obtain⟨e,ne⟩:=Mt.iZ hx;unfold A6;rw[RG (f:=ts.length) (by rw[e,ay,ay];omega)];rfl
theorem UO(h:dG 44 ts=true)(hm:1<m):A6 m acc ts=bc (cn (ts.drop 1)) λx=>A6 (m - 1) (acc++[x.1]) x.2:=by
 unfold A6;rw[iP ⟨h,hm⟩,V5,Mt.gz];refine Mt.dJ λx hx=>?_;unfold A6;by_cases q:dG 44 x.2=true/\1<m - 1
 ·rw[iP q,iP q,Mt.gz];refine Mt.dJ λy hy=>?_;show zu _=zu _;simp
 ·rw[iN q,iN q];rfl
theorem N3(h:¬(dG 44 ts=true/\1<m)):A6 m acc ts=.ok (acc,ts):=iN h
end Rv
namespace Rv
open Vamrqe (At)
theorem ja(k:Kp M H H')(hm:∀a∈M,H' a≠none)(h:H' b=none):H b=none:=by
 cases e:H b with
 |none=>rfl
 |some o=>
  by_cases q:b∈M
  ·exact absurd h (hm b q)
  ·rw[k _ _ e q]at h;cases h
theorem aCf(k:bA H H')(h:H' b=none):H b=none:=ja (M:=[]) (bA.kp k) (by simp) h
section
variable{c:Cn}
theorem fj.tracked(h:fj c H r l ts):∀a∈[r],H a≠none:=by obtain⟨i,dx,h1⟩:=h.ins;simp[h1]
theorem fj.ne5(h:fj c H r l ts)(e:H x=some (.ins C d fs))(hl:fs.length≠2):x∉[r]:=by obtain⟨i,dx,h1⟩:=h.ins;simp only[aQ];exact QW e h1 hl
theorem fj.aBd(h:fj c H r l ts)(e:H x=Option.some (.lst xs)):x∉[r]:=by obtain⟨i,dx,h1⟩:=h.ins;simp only[aQ];exact cR e h1 nofun
inductive Um(c:Cn)(vs:List V)(H:Hp)(Q:VK)(E:XK):Prop
 |mk:∀r l ts,vs=[.ref r]->Fin ts->fj c H r l ts->(Res c E [r] H (nr 8 ts) λx=>∀a H',H a=none->Mx H' a x.1->YJ x.1->fj c H' r l x.2->Kp [r] H H'->Fin x.2->x.1.length+x.2.length<=ts.length->Q (.ref a) H')->Um c vs H Q E
inductive aD8(c:Cn)(H:Hp)(Q:VK)(E:XK)(r:aF)(l:aF)(t:At)(s0:List At)(x:aM×List At)(a:aF)(m:Nat)(σ:L2.St)(H':Hp):Prop
 |mk:∀acc ts',m=ts'.length->σ=[some (.ref r),some (.ref a)]->Mx H' a acc->YJ acc->fj c H' r l ts'->l≠a->Fin ts'->Kp [r,a] H H'->acc.length+ts'.length<=(t::s0).length->(Res c E [r] H (A6 (9 - acc.length) acc ts') (λx=>∀a H',H a=none->Mx H' a x.1->YJ x.1->fj c H' r l x.2->Kp [r] H H'->Fin x.2->x.1.length+x.2.length<=(t::s0).length->Q (.ref a) H'))->aD8 c H Q E r l t s0 x a m σ H'
theorem tH(G:aCe c):i7 c "read_names" 6 ["reader"] (Um c):=by
 refine G.yB.gG (N:=["reader","names"]) (k:=5) (λH vs Q E nd hr h=>?_);obtain⟨r,l,ts,rfl,fn,hR,k⟩:=h;refine⟨_,aD (bb (i:=1) nd (cp (aA (dI (iE G) G.bL (pv 0) hr ae) aH))) (aD (jY jC (uS (bU Cz (cF dC (by rfl) G.gR bP (aA (pv 1) aH)) (b9 G.yL) (bt _)) (pF (ck (cg (fV G) G.bL (pv 0) hr ae (aA cq aH)) (λ_=>rfl)))).pt (aD (ax (dI (jT G) G.bL (pv 0) hr ae)) (aL (ax (fZ aR ak ao dU (pv 1) (aA (dI (iE G) G.bL (pv 0) hr ae) aH)))))) (aL (bE (pv 1)))),?_⟩;obtain⟨t,s0,rfl⟩:=fn.cons;obtain⟨i,dx,h1⟩:=hR.ins;refine⟨_,rfl,r,dx,_,rfl,h1,cH,r,l,t,s0,rfl,hR,?_⟩;rw[V5]at k;refine k.then.to (Kp.refl _ _) (by simp) λx ex k1 H1 r1 kp1=>?_;obtain⟨f1,l1,_⟩:=nh ex fn;obtain⟨es,nes⟩:=Mt.iZ ex;refine⟨kh,λa ha=>?_⟩;have ha0:H a=none:=ja kp1 r1.tracked ha;have r2:=r1.same (aCb (o:=.lst [vS x.1]) ha);refine⟨aD8 c H Q E r l t s0 x a,⟨_,[x.1],x.2,rfl,rfl,aC,⟨by simp,by simp,by simpa using l1⟩,r2,?_,f1,?_,?_,by rw[show 9 - [x.1].length=8 from rfl];exact k1⟩,?_⟩
 ·obtain⟨_,_,_,_,_,g,_⟩:=r1;exact aK g ha
 ·exact(kp1.mono (by simp)).trans (Kp.of (aCb ha))
 ·rw[es];simp;omega
 ·rintro m σ H2 ⟨acc,ts',rfl,rfl,nm2,ok2,r2,nla,f2,kp2,sz2,k2⟩;obtain⟨t2,s2,rfl⟩:=f2.cons;obtain⟨i2,d2,g2⟩:=r2.ins;have nra:r≠a:=cR g2 nm2 nofun;have nm2':H2 a=some (.lst (acc.map vS)):=nm2;have hb:∀b∈[r,a],b∈[r]\/H b=none:=by
   intro b hb;simp only[af,cC,or_false]at hb ⊢;rcases hb with z|z
   ·exact .inl z
   ·rw[z];exact .inr ha0
  have done:¬(dG 44 (t2::s2)=true/\1<9 - acc.length)->Q (.ref a) H2:=λz=>by rw[N3 z]at k2;exact k2 a H2 ha0 nm2 ok2 r2 (Kp.wU (λ_ _ h=>h) kp2 hb) f2 sz2
  refine⟨_,rfl,a,_,rfl,.inl (bf.of nm2'),_,_,rfl,rfl,_,rfl,?_⟩;rw[aB];by_cases q8:acc.length<8
  ·refine aDx (show(acc.length:Int)<8 by omega) ⟨_,rfl,r,d2,_,rfl,g2,cH,r,l,t2,s2,.s 44,rfl,rfl,r2,_,rfl,?_⟩;by_cases q:(Tx.s 44).is (t2::s2)=true
   ·rw[q];rw[UO (show dG 44 (t2::s2)=true from q) (by omega)]at k2;have f3:Fin s2:=f2.drop (lL (X:=.s 44) nofun q);refine bq ⟨_,λ_ _ z=>z,?_⟩;refine⟨_,rfl,r,d2,_,rfl,g2,cH,r,l,t2,s2,rfl,r2,λkd tx H3 _ _ r3 kp3=>?_⟩;obtain⟨t3,s3,et⟩:=f3.cons;obtain⟨i3,d3,g3⟩:=r3.ins;have nm3:H3 a=some (.lst (acc.map vS)):=kp3 _ _ nm2' (by simpa using λz=>nra z.symm);refine⟨_,rfl,.inl ⟨rfl,_,bf.of nm3⟩,_,rfl,r,d3,_,rfl,g3,cH,r,l,t3,s3,rfl,et▸r3,?_⟩;rw[<-et];have kp23:Kp [r,a] H H3:=kp2.trans (kp3.mono (by simp));refine k2.then.to (Kp.wU (λ_ _ h=>h) kp23 hb) (by simp) λx4 e4 k4 H4 r4 kp4=>?_;obtain⟨f4,l4,_⟩:=nh e4 f3;obtain⟨es4,nes4⟩:=Mt.iZ e4;have nm4:H4 a=some (.lst (acc.map vS)):=kp4 _ _ nm3 (by simpa using λz=>nra z.symm);have kpa:Kp [a] H4 (aCc H4 a (.lst (acc.map vS++[vS x4.1]))):=Kp.put (by simp);have dl:=Mt.jN nes4;refine⟨a,_,_,rfl,rfl,nm4,by rw[aB];exact pG (by omega),_,?_,acc++[x4.1],x4.2,rfl,rfl,?_,⟨by simp,by simp;omega,?_⟩,?_,nla,f4,?_,?_,?_⟩
    ·rw[es4];simp only[aG,ay];omega
    ·show aCc H4 a _ a=_;rw[aC,aw];rfl
    ·intro n hn;rcases bZ.mp hn with z|z
     ·exact ok2.sh n z
     ·rw[aQ.mp z];exact l4
    ·exact r4.kp kpa (by simpa using nra) (by simpa using nla) (mX.cons (jO nm4) fg)
    ·exact(kp23.trans (kp4.mono (by simp))).trans (kpa.mono (by simp))
    ·rw[es4];simp only[aN,aG,bh,ay]at sz2 ⊢;omega
    ·rw[show 9 - (acc++[x4.1]).length=9 - acc.length - 1 from by simp;omega];exact k4
   ·rw[bT.mpr q];exact bW ⟨_,rfl,done λz=>q z.1⟩
  ·exact aDw (show ¬(acc.length:Int)<8 by omega) (bW ⟨_,rfl,done λz=>by omega⟩)
end
end Rv
namespace Rv
open Vamrqe (At condition wOn)
open Mt (post)
def S1:bX->Nat
 |.person l=>l.length+1
 |.group _ l=>l.length+3
 |.need _ x=>(post x).length+3
 |.veto _ _=>4
 |.sticky _=>2
 |.default_ x=>(post x).length+2
theorem FV(h:bS fP ts=true):eI ts=bc (nr 8 (ts.drop 1)) λx=>.ok (.person x.1,x.2):=by unfold eI;rw[iP h,RG (by rw[ay];omega)];rfl
theorem JD(h0:¬bS fP ts=true)(h:bS i5 ts=true):eI ts=bc (cn (ts.drop 1)) λx=>bc ((Tx.s 61).need x.2) λr=>bc (nr 8 r) λy=>.ok (.group x.1 y.1,y.2):=by unfold eI;rw[iN h0,iP h];rfl
theorem Va(h0:¬bS fP ts=true)(h1:¬bS i5 ts=true)(h:bS wOn ts=true):eI ts=bc (d5 (ts.drop 1)) λp=>
  if bS vG p.2=true then bc (cn (p.2.drop 1)) λx=>.ok (.veto p.1 x.1,x.2)else bc ((Tx.w rA).need p.2) λr=>bc (condition r) λc=>.ok (.need p.1 c.1,c.2):=by
 unfold eI;rw[iN h0,iN h1,iP h];refine Mt.dJ λp hp=>?_;by_cases q:bS rA p.2=true
 ·rw[iP q,iN (Mt.J7 q (by decide))];unfold Tx.need;rw[iP (show(Tx.w rA).is p.2=true from q)];rfl
 ·rw[iN q];by_cases q2:bS vG p.2=true
  ·rw[iP q2];unfold kL;rw[iP q2];rfl
  ·rw[iN q2];unfold kL Tx.need;rw[iN q2,iN (show ¬(Tx.w rA).is p.2=true from q)];rfl
theorem FW(h0:¬bS fP ts=true)(h1:¬bS i5 ts=true)(h2:¬bS wOn ts=true)(h:bS iK ts=true):eI ts=bc (d5 (ts.drop 1)) λp=>.ok (.sticky p.1,p.2):=by unfold eI;rw[iN h0,iN h1,iN h2,iP h]
theorem DM(h0:¬bS fP ts=true)(h1:¬bS i5 ts=true)(h2:¬bS wOn ts=true)(h3:¬bS iK ts=true):
  eI ts=bc ((Tx.w oW).need ts) λr=>bc ((Tx.w rA).need r) λr=>bc (condition r) λc=>.ok (.default_ c.1,c.2):=by
 unfold eI;rw[iN h0,iN h1,iN h2,iN h3];rfl
theorem MV(h:d5 ts=.ok x)(f:Fin ts):Fin x.2/\x.2=ts.drop 1:=by
 unfold d5 at h;split at h
 ·rename_i t e;split at h
  ·injection h with h;subst h;exact⟨f.drop (by rw[e];intro z;cases z),rfl⟩
  ·cases h
 ·cases h
theorem yJ(h:Fin ts):(ts.drop 1).length+1=ts.length:=Mt.jN h.ne
section
variable{c:Cn}
inductive zk(c:Cn)(pre:List At->Prop)(vs:List V)(H:Hp)(Q:VK)(E:XK):Prop
 |mk:∀r l ts,vs=[.ref r]->Fin ts->ts.length<=1100->pre ts->fj c H r l ts->(Res c E [r] H (eI ts) λx=>∀a H',H a=none->iB c (λb=>H b=none) H' a x.1->fj c H' r l x.2->Kp [r] H H'->Fin x.2->S1 x.1+x.2.length<=ts.length->Q (.ref a) H')->zk c pre vs H Q E
theorem BF(G:aCe c):i7 c "read_person" 7 ["reader"] (zk c λts=>bS fP ts=true):=by
 refine G.v9.gG (N:=["reader","statement"]) (k:=6) (λH vs Q E nd hr h=>?_);obtain⟨r,l,ts,rfl,fn,hlen,hp,hR,k⟩:=h;obtain⟨t,s0,rfl⟩:=fn.cons;refine⟨_,aD (bb (i:=1) nd (gy (jG G) hr ae (aA (b9 G.yP) aH))) (aD (ax (cg (jz G) G.bL (pv 0) hr ae (aA cq aH))) (aD (d8 (pv 1) (az (tH G) hr ae (aA (pv 0) aH)) rfl) (aL (bE (pv 1))))),?_⟩;rw[FV hp]at k;have f1:Fin s0:=fn.drop (lL (X:=.w fP) nofun hp);intro y dy ny ndy ne;refine zl ny ndy λna cd H1 hna hcd h1 h2 h3 sm1=>⟨rfl,?_⟩;have r1:=hR.same sm1;obtain⟨i1,d1,g1⟩:=r1.ins;refine⟨_,rfl,r,d1,_,rfl,g1,cH,r,l,t,s0,.w fP,rfl,rfl,r1,?_⟩;have hneed:(Tx.w fP).need (t::s0)=.ok s0:=iP hp;rw[hneed];intro v H2 r2 kp2;refine⟨_,rfl,r,l,s0,rfl,f1,r2,?_⟩;have kp02:Kp [r] H H2:=(Kp.of sm1).trans kp2;refine k.then.to kp02 (λ_ h=>h) λx ex k2 a H3 ha nm3 ok3 r3 kp3 f3 sz3=>?_;have hy3:=kp3 _ _ (kp2 _ _ h1 (r1.ne5 h1 (by show ¬5=2;decide))) (r2.ne5 (kp2 _ _ h1 (r1.ne5 h1 (by show ¬5=2;decide))) (by show ¬5=2;decide));have hc2:=kp2 _ _ h3 (r1.aBd h3);have hc3:=kp3 _ _ hc2 (r2.aBd hc2);refine⟨_,rfl,y,c.CS,dy,_,rfl,hy3,G.aZ,G.eJ,by show 5<1000;decide,_,rfl,?_⟩;rw[wI];have nmy:a≠y:=cR nm3 hy3 nofun;have ncy:cd≠y:=cR hc3 hy3 nofun;have ap:Kp [y] H3 (aCc H3 y (.ins c.CS dy (pS "person" (bH []) a (bH []) cd))):=Kp.put (by simp);refine k2 y _ ny ⟨dy,[],a,[],cd,aC,ja kp02 r2.tracked ha,hcd,?_,ok3,[],?_,.nil⟩ (r3.kp ap (λz=>?_) (λz=>?_) (mX.cons (uj hy3 (by show ¬5=3;decide)) fg)) ?_ f3 ?_
 ·show aCc H3 y _ a=_;rw[aJ nmy];exact nm3
 ·rw[aJ ncy];exact hc3
 ·exact r3.ne5 hy3 (by show ¬5=2;decide) (by simpa using(aQ.mp z).symm)
 ·obtain⟨_,_,_,_,_,gl,_⟩:=r3;exact cR gl hy3 nofun (aQ.mp z)
 ·exact Kp.wU (λ_ _ h=>h) ((kp02.trans kp3).mono (M':=[r,y]) (by simp)|>.trans (ap.mono (by simp))) (by
   intro b hb;simp only[af,cC,or_false]at hb ⊢;rcases hb with z|z
   ·exact .inl z
   ·rw[z];exact .inr ny)
 ·have:=yJ fn
  show x.1.length+1+x.2.length<=(t::s0).length;simp only[aG];omega
end
end Rv
namespace Rv
open Vamrqe (At wOn)
open Mt (post)
section
variable{c:Cn}{H H3:Hp}{r l y dy:aF}{ts:List At}{fs fs':List (Str×V)}
theorem uV(hy:H3 y=some (.ins c.CS dy fs))(h5:fs.length=5)(r3:fj c H3 r l ts)(kp:Kp [r] H H3)(ny:H y=none):
  fj c (aCc H3 y (.ins c.CS dy fs')) r l ts/\Kp [r] H (aCc H3 y (.ins c.CS dy fs'))/\Kp [y] H3 (aCc H3 y (.ins c.CS dy fs')):=by
 have ap:Kp [y] H3 (aCc H3 y (.ins c.CS dy fs')):=Kp.put (by simp);refine⟨r3.kp ap (λz=>?_) (λz=>?_) (mX.cons (uj hy (by rw[h5];decide)) fg),?_,ap⟩
 ·exact r3.ne5 hy (by rw[h5];decide) (by simpa using(aQ.mp z).symm)
 ·obtain⟨_,_,_,_,_,gl,_⟩:=r3;exact cR gl hy nofun (aQ.mp z)
 ·exact Kp.wU (λ_ _ h=>h) (kp.mono (M':=[r,y]) (by simp)|>.trans (ap.mono (by simp))) (by
   intro b hb;simp only[af,cC,or_false]at hb ⊢;rcases hb with z|z
   ·exact .inl z
   ·rw[z];exact .inr ny)
theorem fj.zU(r1:fj c H r l ts)(k:Kp [r] H H2)(h:H y=some (.ins c.CS dy fs))(h5:fs.length=5):H2 y=some (.ins c.CS dy fs):=k _ _ h (r1.ne5 h (by rw[h5];decide))
theorem fj.lst(r1:fj c H r l ts)(k:Kp [r] H H2)(h:H y=some (.lst xs)):H2 y=some (.lst xs):=k _ _ h (r1.aBd h)
theorem Bz(G:aCe c):i7 c "read_group" 7 ["reader"] (zk c λts=>¬bS fP ts=true/\bS i5 ts=true):=by
 refine G.yA.gG (N:=["reader","statement"]) (k:=6) (λH vs Q E nd hr h=>?_);obtain⟨r,l,ts,rfl,fn,hlen,hp,hR,k⟩:=h;obtain⟨t,s0,rfl⟩:=fn.cons;refine⟨_,aD (bb (i:=1) nd (gy (jG G) hr ae (aA (b9 G.BW) aH))) (aD (ax (cg (jz G) G.bL (pv 0) hr ae (aA cq aH))) (aD (d8 (pv 1) (dI (iE G) G.bL (pv 0) hr ae) rfl) (aD (ax (cg (jz G) G.bL (pv 0) hr ae (aA cq aH))) (aD (d8 (pv 1) (az (tH G) hr ae (aA (pv 0) aH)) rfl) (aL (bE (pv 1))))))),?_⟩;rw[JD hp.1 hp.2]at k;have f1:Fin s0:=fn.drop (lL (X:=.w i5) nofun hp.2);intro y dy ny ndy ne;refine zl ny ndy λna cd H1 hna hcd h1 h2 h3 sm1=>⟨rfl,?_⟩;have r1:=hR.same sm1;obtain⟨i1,d1,g1⟩:=r1.ins;refine⟨_,rfl,r,d1,_,rfl,g1,cH,r,l,t,s0,.w i5,rfl,rfl,r1,?_⟩;have hneed:(Tx.w i5).need (t::s0)=.ok s0:=iP hp.2;rw[hneed];intro v H2 r2 kp2;have kp02:Kp [r] H H2:=(Kp.of sm1).trans kp2;have hy2:=r1.zU kp2 h1 rfl;have hc2:=r1.lst kp2 h3;obtain⟨t2,s2,rfl⟩:=f1.cons;obtain⟨i2,d2,g2⟩:=r2.ins;refine⟨_,rfl,r,d2,_,rfl,g2,cH,r,l,t2,s2,rfl,r2,?_⟩;refine k.then.to kp02 (by simp) λx ex k3 H3 r3 kp3=>?_;obtain⟨f3,l3,_⟩:=nh ex f1;obtain⟨es3,nes3⟩:=Mt.iZ ex;have hy3:=r2.zU kp3 hy2 rfl;have hc3:=r2.lst kp3 hc2;refine⟨_,rfl,y,c.CS,dy,_,rfl,hy3,G.aZ,G.de,by show 5<1000;decide,?_⟩;rw[yj];obtain⟨r4,kp04,kpy⟩:=uV (fs':=pS "group" (bH x.1) na (bH []) cd) hy3 rfl r3 (kp02.trans kp3) ny;have ncy:cd≠y:=cR hc3 hy3 nofun;have hc4:(aCc H3 y (.ins c.CS dy (pS "group" (bH x.1) na (bH []) cd))) cd=some (.lst []):=by rw[aJ ncy];exact hc3
 have hy4:(aCc H3 y (.ins c.CS dy (pS "group" (bH x.1) na (bH []) cd))) y=some (.ins c.CS dy (pS "group" (bH x.1) na (bH []) cd)):=aC;generalize aCc H3 y (.ins c.CS dy (pS "group" (bH x.1) na (bH []) cd))=H4 at r4 kp04 hc4 hy4;obtain⟨t4,s4,e4⟩:=f3.cons;obtain⟨i4,d4,g4⟩:=r4.ins;refine⟨_,rfl,r,d4,_,rfl,g4,cH,r,l,t4,s4,.s 61,rfl,rfl,e4▸r4,?_⟩;rw[<-e4];refine k3.then.to kp04 (by simp) λts5 e5 k5 v H5 r5 kp5=>?_;obtain⟨e5',f5⟩:=uL (by intro z;cases z) e5 f3;have hy5:=r4.zU kp5 hy4 rfl;have hc5:=r4.lst kp5 hc4;refine⟨_,rfl,r,l,ts5,rfl,f5,r5,?_⟩;have kp05:=kp04.trans kp5;refine k5.then.to kp05 (λ_ h=>h) λx6 e6 k6 a H6 ha nm6 ok6 r6 kp6 f6 sz6=>?_;have hy6:=r5.zU kp6 hy5 rfl;have hc6:=r5.lst kp6 hc5;refine⟨_,rfl,y,c.CS,dy,_,rfl,hy6,G.aZ,G.eJ,by show 5<1000;decide,_,rfl,?_⟩;rw[wI];obtain⟨r7,kp07,_⟩:=uV (fs':=pS "group" (bH x.1) a (bH []) cd) hy6 rfl r6 (kp05.trans kp6) ny;refine k6 y _ ny ⟨dy,x.1,a,[],cd,aC,ja kp05 r5.tracked ha,hcd,rfl,l3,?_,ok6,[],?_,.nil⟩ r7 kp07 f6 ?_
 ·show aCc H6 y _ a=_;rw[aJ (cR nm6 hy6 nofun)];exact nm6
 ·rw[aJ ncy];exact hc6
 ·have a2:x.2.length=s2.length:=by rw[es3];rfl
  have a3:=yJ f3;rw[<-e5']at a3;show x6.1.length+3+x6.2.length<=(t::t2::s2).length;simp only[aG];omega
theorem BG(G:aCe c):i7 c "read_sticky" 7 ["reader"] (zk c λts=>¬bS fP ts=true/\¬bS i5 ts=true/\¬bS wOn ts=true/\bS iK ts=true):=by
 refine G.vb.gG (N:=["reader","statement"]) (k:=6) (λH vs Q E nd hr h=>?_);obtain⟨r,l,ts,rfl,fn,hlen,hp,hR,k⟩:=h;obtain⟨t,s0,rfl⟩:=fn.cons;refine⟨_,aD (bb (i:=1) nd (gy (jG G) hr ae (aA (b9 G.Ca) aH))) (aD (ax (cg (jz G) G.bL (pv 0) hr ae (aA cq aH))) (aD (d8 (pv 1) (dI (pb G) G.bL (pv 0) hr ae) rfl) (aL (bE (pv 1))))),?_⟩;rw[FW hp.1 hp.2.1 hp.2.2.1 hp.2.2.2]at k;have f1:Fin s0:=fn.drop (lL (X:=.w iK) nofun hp.2.2.2);intro y dy ny ndy ne;refine zl ny ndy λna cd H1 hna hcd h1 h2 h3 sm1=>⟨rfl,?_⟩;have r1:=hR.same sm1;obtain⟨i1,d1,g1⟩:=r1.ins;refine⟨_,rfl,r,d1,_,rfl,g1,cH,r,l,t,s0,.w iK,rfl,rfl,r1,?_⟩;have hneed:(Tx.w iK).need (t::s0)=.ok s0:=iP hp.2.2.2;rw[hneed];intro v H2 r2 kp2;have kp02:Kp [r] H H2:=(Kp.of sm1).trans kp2;have hy2:=r1.zU kp2 h1 rfl;have hc2:=r1.lst kp2 h3;obtain⟨t2,s2,rfl⟩:=f1.cons;obtain⟨i2,d2,g2⟩:=r2.ins;refine⟨_,rfl,r,d2,_,rfl,g2,cH,r,l,t2,s2,rfl,r2,?_⟩;refine k.then.to kp02 (by simp) λx ex k3 u H3 hu r3 kp3=>?_;obtain⟨f3,es3⟩:=MV ex f1;have hy3:=r2.zU kp3 hy2 rfl;have hc3:=r2.lst kp3 hc2;refine⟨_,rfl,y,c.CS,dy,_,rfl,hy3,G.aZ,G.c8,by show 5<1000;decide,_,rfl,?_⟩;rw[mO];obtain⟨r4,kp04,kpy⟩:=uV (fs':=pS "sticky" (bH []) na (bH u) cd) hy3 rfl r3 (kp02.trans kp3) ny;refine k3 y _ ny ⟨dy,[],na,u,cd,aC,hna,hcd,hu,[],?_,.nil⟩ r4 kp04 f3 ?_
 ·rw[aJ (cR hc3 hy3 nofun)];exact hc3
 ·have a2:x.2.length=s2.length:=by rw[es3];rfl
  show 2+x.2.length<=(t::t2::s2).length;simp only[aG];omega
theorem zN(G:aCe c):i7 c "read_default" 9 ["reader"] (zk c λts=>¬bS fP ts=true/\¬bS i5 ts=true/\¬bS wOn ts=true/\¬bS iK ts=true):=by refine G.tj.gG (N:=["reader","statement"]) (k:=8) (λH vs Q E nd hr h=>?_);obtain⟨r,l,ts,rfl,fn,hlen,hp,hR,k⟩:=h;obtain⟨t,s0,rfl⟩:=fn.cons;refine⟨_,aD (bb (i:=1) nd (gy (jG G) hr ae (aA (b9 G.qD) aH))) (aD (ax (cg (jz G) G.bL (pv 0) hr ae (aA cq aH))) (aD (ax (cg (jz G) G.bL (pv 0) hr ae (aA cq aH))) (aD (d8 (pv 1) (az (nM G) hr ae (aA (pv 0) aH)) rfl) (aL (bE (pv 1)))))),?_⟩;rw[DM hp.1 hp.2.1 hp.2.2.1 hp.2.2.2]at k;intro y dy ny ndy ne;refine zl ny ndy λna cd H1 hna hcd h1 h2 h3 sm1=>⟨rfl,?_⟩;have r1:=hR.same sm1;obtain⟨i1,d1,g1⟩:=r1.ins;refine⟨_,rfl,r,d1,_,rfl,g1,cH,r,l,t,s0,.w oW,rfl,rfl,r1,?_⟩;refine k.then.to (Kp.of sm1) (by simp) λts2 e2 k2 v H2 r2 kp2=>?_;obtain⟨e2',f2⟩:=uL (by intro z;cases z) e2 fn;have kp02:Kp [r] H H2:=(Kp.of sm1).trans kp2;have hy2:=r1.zU kp2 h1 rfl;obtain⟨t2,s2,q2⟩:=f2.cons;obtain⟨i2,d2,g2⟩:=r2.ins;refine⟨_,rfl,r,d2,_,rfl,g2,cH,r,l,t2,s2,.w rA,rfl,rfl,q2▸r2,?_⟩;rw[<-q2];refine k2.then.to kp02 (by simp) λts3 e3 k3 v H3 r3 kp3=>?_;obtain⟨e3',f3⟩:=uL (by intro z;cases z) e3 f2;have kp03:=kp02.trans kp3;have hy3:=r2.zU kp3 hy2 rfl;have a1:=yJ fn;have a2:=yJ f2;rw[<-e2']at a1;rw[<-e3']at a2;refine⟨_,rfl,r,l,ts3,rfl,f3,by omega,r3,?_⟩;refine k3.then.to kp03 (λ_ h=>h) λx4 e4 k4 a H4 ha pt4 sz4 r4 kp4 f4=>?_;have hy4:=r3.zU kp4 hy3 rfl;obtain⟨as4,gp4,al4⟩:=pt4;refine⟨_,rfl,y,c.CS,dy,_,rfl,hy4,G.aZ,G.cE,by show 5<1000;decide,_,rfl,?_⟩;rw[pH];obtain⟨r5,kp05,kpy⟩:=uV (fs':=pS "default" (bH []) na (bH []) a) hy4 rfl r4 (kp03.trans kp4) ny;have n3:mX [y] H4:=mX.cons (uj hy4 (by show ¬5=3;decide)) fg;refine k4 y _ ny ⟨dy,[],na,[],a,aC,hna,ja kp03 r3.tracked ha,fX.kp ⟨as4,gp4,al4⟩ kpy (by simpa using cR gp4 hy4 nofun) n3,by omega⟩ r5 kp05 f4 ?_;show(post x4.1).length+2+x4.2.length<=(t::s0).length;omega
end
end Rv
namespace Rv
open Vamrqe (wOn)
open Mt (post)
section
variable{c:Cn}
theorem Hs(G:aCe c):i7 c "read_on" 9 ["reader"] (zk c λts=>¬bS fP ts=true/\¬bS i5 ts=true/\bS wOn ts=true):=by
 refine G.El.gG (N:=["reader","pattern","statement"]) (k:=8) (λH vs Q E nd hr h=>?_);obtain⟨r,l,ts,rfl,fn,hlen,hp,hR,k⟩:=h;obtain⟨t,s0,rfl⟩:=fn.cons;refine⟨_,aD (ax (cg (jz G) G.bL (pv 0) hr ae (aA cq aH))) (aD (bb (i:=1) nd (dI (pb G) G.bL (pv 0) hr ae)) (aD (cf (ck (cg (fV G) G.bL (pv 0) hr ae (aA cq aH)) (λ_=>rfl)) (aD (bb (i:=2) nd (gy (jG G) hr ae (aA (b9 G.GO) aH))) (aD (ax (dI (jT G) G.bL (pv 0) hr ae)) (aL (d8 (pv 2) (dI (iE G) G.bL (pv 0) hr ae) rfl)))) (aD (bb (i:=2) nd (gy (jG G) hr ae (aA (b9 G.KY) aH))) (aD (ax (cg (jz G) G.bL (pv 0) hr ae (aA cq aH))) (aL (d8 (pv 2) (az (nM G) hr ae (aA (pv 0) aH)) rfl))))) (aD (d8 (pv 2) (pv 1) rfl) (aL (bE (pv 2)))))),?_⟩;rw[Va hp.1 hp.2.1 hp.2.2]at k;have f1:Fin s0:=fn.drop (lL (X:=.w wOn) nofun hp.2.2);obtain⟨i0,d0,g0⟩:=hR.ins;refine⟨_,rfl,r,d0,_,rfl,g0,cH,r,l,t,s0,.w wOn,rfl,rfl,hR,?_⟩;have hneed:(Tx.w wOn).need (t::s0)=.ok s0:=iP hp.2.2;rw[hneed];intro v H1 r1 kp1;obtain⟨t1,s1,rfl⟩:=f1.cons;obtain⟨i1,d1,g1⟩:=r1.ins;refine⟨_,rfl,r,d1,_,rfl,g1,cH,r,l,t1,s1,rfl,r1,?_⟩;refine k.then.to kp1 (by simp) λx ex k2 u H2 hu r2 kp2=>?_;obtain⟨f2,es2⟩:=MV ex f1;have kp02:=kp1.trans kp2;obtain⟨t2,s2,q2⟩:=f2.cons;obtain⟨i2,d2,g2⟩:=r2.ins;have es2:x.2=s1:=es2;refine⟨_,rfl,r,d2,_,rfl,g2,cH,r,l,t2,s2,.w vG,rfl,rfl,q2▸r2,_,rfl,?_⟩;rw[<-q2];by_cases qv:bS vG x.2=true
 ·rw[show(Tx.w vG).is x.2=true from qv];rw[iP qv]at k2;have f3:Fin (x.2.drop 1):=f2.drop (lL (X:=.w vG) nofun qv);refine bq ?_;intro y dy ny ndy ne;have ny0:=ja kp02 r2.tracked ny;refine zl ny ndy λna cd H3 hna hcd h1 h2 h3 sm3=>⟨rfl,?_⟩;have r3:=r2.same sm3;have kp03:=kp02.trans (Kp.of sm3);obtain⟨i3,d3,g3⟩:=r3.ins;have e3:x.2.drop 1=s2:=by rw[q2];rfl
  refine⟨_,rfl,r,d3,_,rfl,g3,cH,r,l,t2,s2,rfl,q2▸r3,λkd tx H4 _ _ r4 kp4=>?_⟩;have hy4:=r3.zU kp4 h1 rfl;have hc4:=r3.lst kp4 h3;rw[e3]at k2 f3;obtain⟨t4,s4,q4⟩:=f3.cons;obtain⟨i4,d4,g4⟩:=r4.ins;refine⟨_,rfl,r,d4,_,rfl,g4,cH,r,l,t4,s4,rfl,q4▸r4,?_⟩;rw[<-q4];refine k2.then.to (kp03.trans kp4) (by simp) λx5 e5 k5 H5 r5 kp5=>?_;obtain⟨f5,l5,_⟩:=nh e5 f3;obtain⟨es5,nes5⟩:=Mt.iZ e5;have hy5:=r4.zU kp5 hy4 rfl;have hc5:=r4.lst kp5 hc4;have kp05:=(kp03.trans kp4).trans kp5;refine⟨_,rfl,y,c.CS,dy,_,rfl,hy5,G.aZ,G.de,by show 5<1000;decide,?_⟩;rw[yj];obtain⟨r6,kp06,kpy⟩:=uV (fs':=pS "veto" (bH x5.1) na (bH []) cd) hy5 rfl r5 kp05 ny0;have ncy:cd≠y:=cR hc5 hy5 nofun;have hc6:(aCc H5 y (.ins c.CS dy (pS "veto" (bH x5.1) na (bH []) cd))) cd=some (.lst []):=by rw[aJ ncy];exact hc5
  have hy6:(aCc H5 y (.ins c.CS dy (pS "veto" (bH x5.1) na (bH []) cd))) y=some (.ins c.CS dy (pS "veto" (bH x5.1) na (bH []) cd)):=aC;generalize aCc H5 y (.ins c.CS dy (pS "veto" (bH x5.1) na (bH []) cd))=H6 at r6 kp06 hc6 hy6;refine⟨_,rfl,_,rfl,y,c.CS,dy,_,rfl,hy6,G.aZ,G.c8,by show 5<1000;decide,_,rfl,?_⟩;rw[mO];obtain⟨r7,kp07,_⟩:=uV (fs':=pS "veto" (bH x5.1) na (bH u) cd) hy6 rfl r6 kp06 ny0;refine k5 y _ ny0 ⟨dy,x5.1,na,u,cd,aC,ja kp02 r2.tracked hna,ja kp02 r2.tracked hcd,hu,rfl,l5,[],?_,.nil⟩ r7 kp07 f5 ?_
  ·rw[aJ ncy];exact hc6
  ·have a1:x5.2.length+1=s2.length:=by rw[es5];exact Mt.jN nes5
   have a2:s1.length=s2.length+1:=by rw[<-es2,q2];rfl
   show 4+x5.2.length<=(t::t1::s1).length;simp only[aG];omega
 ·rw[show(Tx.w vG).is x.2=false from bT.mpr qv];rw[iN qv]at k2;refine bW ?_;intro y dy ny ndy ne;have ny0:=ja kp02 r2.tracked ny;refine zl ny ndy λna cd H3 hna hcd h1 h2 h3 sm3=>⟨rfl,?_⟩;have r3:=r2.same sm3;have kp03:=kp02.trans (Kp.of sm3);obtain⟨i3,d3,g3⟩:=r3.ins;refine⟨_,rfl,r,d3,_,rfl,g3,cH,r,l,t2,s2,.w rA,rfl,rfl,q2▸r3,?_⟩;rw[<-q2];refine k2.then.to kp03 (by simp) λts4 e4 k4 v H4 r4 kp4=>?_;obtain⟨e4',f4⟩:=uL (by intro z;cases z) e4 f2;have hy4:=r3.zU kp4 h1 rfl;have kp04:=kp03.trans kp4;have a1:=yJ f2;rw[<-e4',es2]at a1;refine⟨_,rfl,r,l,ts4,rfl,f4,by simp only[aG]at hlen;omega,r4,?_⟩;refine k4.then.to kp04 (λ_ h=>h) λx5 e5 k5 a H5 ha pt5 sz5 r5 kp5 f5=>?_;have hy5:=r4.zU kp5 hy4 rfl;obtain⟨as5,gp5,al5⟩:=pt5;refine⟨_,rfl,y,c.CS,dy,_,rfl,hy5,G.aZ,G.cE,by show 5<1000;decide,?_⟩;rw[pH];obtain⟨r6,kp06,kpy⟩:=uV (fs':=pS "need" (bH []) na (bH []) a) hy5 rfl r5 (kp04.trans kp5) ny0;have n3:mX [y] H5:=mX.cons (uj hy5 (by show ¬5=3;decide)) fg;have nay:a≠y:=cR gp5 hy5 nofun;have pt6:fX c (aCc H5 y (.ins c.CS dy (pS "need" (bH []) na (bH []) a))) a (post x5.1):=fX.kp ⟨as5,gp5,al5⟩ kpy (by simpa using nay) n3;have hy6:(aCc H5 y (.ins c.CS dy (pS "need" (bH []) na (bH []) a))) y=some (.ins c.CS dy (pS "need" (bH []) na (bH []) a)):=aC;generalize aCc H5 y (.ins c.CS dy (pS "need" (bH []) na (bH []) a))=H6 at r6 kp06 pt6 hy6;refine⟨_,rfl,_,rfl,y,c.CS,dy,_,rfl,hy6,G.aZ,G.c8,by show 5<1000;decide,_,rfl,?_⟩;rw[mO];obtain⟨r7,kp07,kpy7⟩:=uV (fs':=pS "need" (bH []) na (bH u) a) hy6 rfl r6 kp06 ny0;have n36:mX [y] H6:=mX.cons (uj hy6 (by show ¬5=3;decide)) fg;refine k5 y _ ny0 ⟨dy,[],na,u,a,aC,ja kp02 r2.tracked hna,ja kp04 r4.tracked ha,hu,pt6.kp kpy7 (by simpa using nay) n36,?_⟩ r7 kp07 f5 ?_
  ·simp only[aG]at hlen;omega
  ·show(post x5.1).length+3+x5.2.length<=(t::t1::s1).length;simp only[aG];omega
theorem nN(G:aCe c):i7 c "read_statement" 10 ["reader"] (zk c λ_=>True):=by
 refine G.px.gG (N:=["reader"]) (k:=9) (λH vs Q E nd hr h=>?_);obtain⟨r,l,ts,rfl,fn,hlen,_,hR,k⟩:=h;obtain⟨t,s0,rfl⟩:=fn.cons;refine⟨_,aD (cf (ck (cg (fV G) G.bL (pv 0) hr ae (aA cq aH)) (λ_=>rfl)) (aL (bE (az (BF G) hr ae (aA (pv 0) aH)))) b8) (aD (cf (ck (cg (fV G) G.bL (pv 0) hr ae (aA cq aH)) (λ_=>rfl)) (aL (bE (az (Bz G) hr ae (aA (pv 0) aH)))) b8) (aD (cf (ck (cg (fV G) G.bL (pv 0) hr ae (aA cq aH)) (λ_=>rfl)) (aL (bE (az (Hs G) hr ae (aA (pv 0) aH)))) b8) (aD (cf (ck (cg (fV G) G.bL (pv 0) hr ae (aA cq aH)) (λ_=>rfl)) (aL (bE (az (BG G) hr ae (aA (pv 0) aH)))) b8) (aL (bE (az (zN G) hr ae (aA (pv 0) aH))))))),?_⟩;obtain⟨i,d,g⟩:=hR.ins;refine⟨_,rfl,r,d,_,rfl,g,cH,r,l,t,s0,.w fP,rfl,rfl,hR,_,rfl,?_⟩;by_cases q1:bS fP (t::s0)=true
 ·rw[show(Tx.w fP).is (t::s0)=true from q1];exact bq ⟨_,rfl,r,l,t::s0,rfl,fn,hlen,q1,hR,k⟩
 rw[show(Tx.w fP).is (t::s0)=false from bT.mpr q1];refine bW ⟨_,rfl,r,d,_,rfl,g,cH,r,l,t,s0,.w i5,rfl,rfl,hR,_,rfl,?_⟩;by_cases q2:bS i5 (t::s0)=true
 ·rw[show(Tx.w i5).is (t::s0)=true from q2];exact bq ⟨_,rfl,r,l,t::s0,rfl,fn,hlen,⟨q1,q2⟩,hR,k⟩
 rw[show(Tx.w i5).is (t::s0)=false from bT.mpr q2];refine bW ⟨_,rfl,r,d,_,rfl,g,cH,r,l,t,s0,.w wOn,rfl,rfl,hR,_,rfl,?_⟩;by_cases q3:bS wOn (t::s0)=true
 ·rw[show(Tx.w wOn).is (t::s0)=true from q3];exact bq ⟨_,rfl,r,l,t::s0,rfl,fn,hlen,⟨q1,q2,q3⟩,hR,k⟩
 rw[show(Tx.w wOn).is (t::s0)=false from bT.mpr q3];refine bW ⟨_,rfl,r,d,_,rfl,g,cH,r,l,t,s0,.w iK,rfl,rfl,hR,_,rfl,?_⟩;by_cases q4:bS iK (t::s0)=true
 ·rw[show(Tx.w iK).is (t::s0)=true from q4];exact bq ⟨_,rfl,r,l,t::s0,rfl,fn,hlen,⟨q1,q2,q3,q4⟩,hR,k⟩
 rw[show(Tx.w iK).is (t::s0)=false from bT.mpr q4];exact bW ⟨_,rfl,r,l,t::s0,rfl,fn,hlen,⟨q1,q2,q3,q4⟩,hR,k⟩
end
end Rv
namespace Rv
open Vamrqe (At atEnd condition wOn)
theorem z9:∀(f m:Nat)(ts:List At)(x:List aM×List At),i6 f m ts=.ok x->x.2.length<ts.length
 |0,m,ts,x,h=>by cases h
 |f+1,m,ts,x,h=>by
  obtain⟨y,h1,h2⟩:=Mt.bj (show bc (cn ts) _=.ok x from h);obtain⟨e,ne⟩:=Mt.iZ h1;have dl:=Mt.jN ne;rw[<-e]at dl;split at h2
  ·obtain⟨z,h3,h4⟩:=Mt.bj h2;injection h4 with h4;subst h4
   have:=z9 f (m - 1) _ z h3
   rw[ay]at this;show z.2.length<_;omega
  ·injection h2 with h2;subst h2;show y.2.length<_;omega
theorem yY{X:Tx}{ts r:List At}(h:X.need ts=.ok r):r=ts.drop 1:=by
 unfold Tx.need at h;split at h
 ·injection h with h;exact h.symm
 ·cases h
theorem MW(h:d5 ts=.ok x):x.2=ts.drop 1/\ts≠[]:=by
 unfold d5 at h;split at h
 ·rename_i t e;split at h
  ·injection h with h;subst h;refine⟨rfl,λz=>?_⟩;subst z;cases e
  ·cases h
 ·cases h
theorem Hy(h:condition ts=.ok x):x.2.length<ts.length:=by rw[Mt.xr]at h;exact Mt.DP h
theorem D0{ts:List At}{x:bX×List At}(h:eI ts=.ok x):x.2.length<ts.length:=by
 by_cases q1:bS fP ts=true
 ·rw[FV q1]at h;obtain⟨y,h1,h2⟩:=Mt.bj h;injection h2 with h2;subst h2
  have:=z9 _ _ _ _ h1
  rw[ay]at this;show y.2.length<_;omega
 by_cases q2:bS i5 ts=true
 ·rw[JD q1 q2]at h;obtain⟨y,h1,h2⟩:=Mt.bj h;obtain⟨r,h3,h4⟩:=Mt.bj h2;obtain⟨z,h5,h6⟩:=Mt.bj h4;injection h6 with h6;subst h6;have a1:=(Mt.iZ h1).1;have a2:=yY h3
  have:=z9 _ _ _ _ h5
  rw[a2,a1]at this;simp only[ay]at this;show z.2.length<_;omega
 by_cases q3:bS wOn ts=true
 ·rw[Va q1 q2 q3]at h;obtain⟨p,h1,h2⟩:=Mt.bj h;obtain⟨a1,a2⟩:=MW h1;have dl:=Mt.jN a2;rw[<-a1]at dl;split at h2
  ·obtain⟨y,h3,h4⟩:=Mt.bj h2;injection h4 with h4;subst h4;have a3:=(Mt.iZ h3).1;show y.2.length<_;rw[a3];simp only[ay]at dl ⊢;omega
  ·obtain⟨r,h3,h4⟩:=Mt.bj h2;obtain⟨z,h5,h6⟩:=Mt.bj h4;injection h6 with h6;subst h6;have a3:=yY h3
   have:=Hy h5
   rw[a3]at this;simp only[ay]at dl this;show z.2.length<_;omega
 by_cases q4:bS iK ts=true
 ·rw[FW q1 q2 q3 q4]at h;obtain⟨p,h1,h2⟩:=Mt.bj h;injection h2 with h2;subst h2;obtain⟨a1,a2⟩:=MW h1;have dl:=Mt.jN a2;rw[<-a1]at dl;simp only[ay]at dl;show p.2.length<_;omega
 ·rw[DM q1 q2 q3 q4]at h;obtain⟨r,h1,h2⟩:=Mt.bj h;obtain⟨r2,h3,h4⟩:=Mt.bj h2;obtain⟨z,h5,h6⟩:=Mt.bj h4;injection h6 with h6;subst h6;have a1:=yY h1;have a2:=yY h3
  have:=Hy h5
  rw[a2,a1]at this;simp only[ay]at this;show z.2.length<_;omega
def sr(m:Nat)(ts:List At):kF b6:=nz ts.length m ts
def yW(m:Nat)(acc:b6)(ts:List At):kF b6:=if atEnd ts=true then .ok acc else if dG 59 ts=true/\1<m then bc (sr (m - 1) (ts.drop 1)) λl=>.ok (acc++l)else ku ts
theorem D2:∀(f g m:Nat)(ts:List At),ts.length<=f->ts.length<=g->nz f m ts=nz g m ts
 |0,0,_,_,_,_=>rfl
 |0,g+1,m,ts,h,_=>by
  have:ts=[]:=eQ (by omega)
  subst this;rfl
 |f+1,0,m,ts,_,h=>by
  have:ts=[]:=eQ (by omega)
  subst this;rfl
 |f+1,g+1,m,ts,h1,h2=>by show bc (eI ts) _=bc (eI ts) _;refine Mt.dJ λx hx=>?_;have e:=D0 hx;rw[D2 f g (m - 1) (x.2.drop 1) (by rw[ay];omega) (by rw[ay];omega)]
theorem Vd(h:ts.length<=f):nz f m ts=sr m ts:=D2 _ _ m ts h (a9 _)
theorem Vc(m:Nat)(ts:List At):sr m ts=bc (eI ts) λx=>yW m [x.1] x.2:=by rw[<-Vd (f:=ts.length+1) (by omega)];show bc (eI ts) _=_;refine Mt.dJ λx hx=>?_;have e:=D0 hx;unfold yW;rw[Vd (f:=ts.length) (by rw[ay];omega)];rfl
theorem P8(h:atEnd ts=true)(k:dG 59 ts=true):False:=by
 unfold atEnd at h;unfold dG at k;split at h
 ·rename_i e;rw[e]at k;cases k
 ·cases h
theorem Q4(h:dG 59 ts=true)(hm:1<m):yW m acc ts=bc (eI (ts.drop 1)) λx=>yW (m - 1) (acc++[x.1]) x.2:=by
 unfold yW;rw[iN (λz=>P8 z h),iP ⟨h,hm⟩,Vc,Mt.gz];refine Mt.dJ λx hx=>?_;unfold yW;by_cases q0:atEnd x.2=true
 ·rw[iP q0,iP q0];rfl
 ·rw[iN q0,iN q0];by_cases q:dG 59 x.2=true/\1<m - 1
  ·rw[iP q,iP q,Mt.gz];refine Mt.dJ λy hy=>?_;show zu _=zu _;simp
  ·rw[iN q,iN q];rfl
theorem Kc(h:¬(dG 59 ts=true/\1<m)):yW m acc ts=bc (Tx.e.need ts) λ_=>.ok acc:=by
 unfold yW Tx.need;by_cases q:atEnd ts=true
 ·rw[iP q,iP (show Tx.e.is ts=true from q)];rfl
 ·rw[iN q,iN h,iN (show ¬Tx.e.is ts=true from q)];rfl
section
variable{c:Cn}
inductive vQ(c:Cn)(F:aF->Prop)(H:Hp)(a:aF)(l:b6):Prop
 |mk:∀as,H a=some (.lst (as.map V.ref))->Al (iB c F H) as l->vQ c F H a l
def LD(l:b6):Nat:=(l.map S1).sum
inductive Uq(c:Cn)(vs:List V)(H:Hp)(Q:VK)(E:XK):Prop
 |mk:∀r l ts,vs=[.ref r]->Fin ts->ts.length<=1100->fj c H r l ts->(Res c E [r] H (sr 24 ts) λx=>∀a H',H a=none->vQ c (λb=>H b=none) H' a x->Kp [r] H H'->LD x<=ts.length->x.length<=24->Q (.ref a) H')->Uq c vs H Q E
inductive aD9(c:Cn)(H:Hp)(Q:VK)(E:XK)(r:aF)(l:aF)(ts:List At)(x:bX×List At)(a:aF)(m:Nat)(σ:L2.St)(H':Hp):Prop
 |mk:∀as acc ts',m=ts'.length->σ=[some (.ref r),some (.ref a)]->H' a=some (.lst (as.map V.ref))->Al (iB c (λb=>H b=none) H') as acc->fj c H' r l ts'->l≠a->Fin ts'->Kp [r,a] H H'->LD acc+ts'.length<=ts.length->1<=acc.length->acc.length<=24->(Res c E [r] H (yW (25 - acc.length) acc ts') (λx=>∀a H',H a=none->vQ c (λb=>H b=none) H' a x->Kp [r] H H'->LD x<=ts.length->x.length<=24->Q (.ref a) H'))->aD9 c H Q E r l ts x a m σ H'
theorem vD(G:aCe c):i7 c "read_statements" 11 ["reader"] (Uq c):=by
 refine G.oq.gG (N:=["reader","statements"]) (k:=10) (λH vs Q E nd hr h=>?_);obtain⟨r,l,ts,rfl,fn,hlen,hR,k⟩:=h;refine⟨_,aD (bb (i:=1) nd (cp (aA (az (nN G) hr ae (aA (pv 0) aH)) aH))) (aD (jY jC (uS (bU Cz (cF dC (by rfl) G.gR bP (aA (pv 1) aH)) (b9 G.oy) (bt _)) (pF (ck (cg (fV G) G.bL (pv 0) hr ae (aA cq aH)) (λ_=>rfl)))).pt (aD (ax (dI (jT G) G.bL (pv 0) hr ae)) (aL (ax (fZ aR ak ao dU (pv 1) (aA (az (nN G) hr ae (aA (pv 0) aH)) aH)))))) (aD (ax (cg (jz G) G.bL (pv 0) hr ae (aA (b9 G.wb) aH))) (aL (bE (pv 1))))),?_⟩;refine⟨_,rfl,r,l,ts,rfl,fn,hlen,trivial,hR,?_⟩;rw[Vc]at k;refine k.then.to (Kp.refl _ _) (λ_ h=>h) λx ex k1 y H1 hy0 st1 r1 kp1 f1 sz1=>?_;refine⟨kh,λa ha=>?_⟩;have ha0:H a=none:=ja kp1 r1.tracked ha;have sma:=aCb (o:=.lst [V.ref y]) ha;refine⟨aD9 c H Q E r l ts x a,⟨_,[y],[x.1],x.2,rfl,rfl,aC,Al.one ?_,r1.same sma,?_,f1,?_,?_,by simp,by simp,by rw[show 25 - [x.1].length=24 from rfl];exact k1⟩,?_⟩
 ·exact st1.same sma
 ·obtain⟨_,_,_,_,_,g,_⟩:=r1;exact aK g ha
 ·exact(kp1.mono (by simp)).trans (Kp.of sma)
 ·simpa[LD]using sz1
 rintro m σ H2 ⟨as,acc,ts',rfl,rfl,ha2,al2,r2,nla,f2,kp2,sz2,ge2,le2,k2⟩;obtain⟨t2,s2,rfl⟩:=f2.cons;obtain⟨i2,d2,g2⟩:=r2.ins;obtain⟨i0,d0,g0⟩:=hR.ins;have nra:r≠a:=cR g2 ha2 nofun;have hb:∀b∈[r,a],b∈[r]\/H b=none:=by
  intro b hb;simp only[af,cC,or_false]at hb ⊢;rcases hb with z|z
  ·exact .inl z
  ·rw[z];exact .inr ha0
 have apr:∀{H2:Hp}{ts:List At},fj c H2 r l ts->Ap [r] (λb=>H b=none) H2:=λ{H2 ts} h=>by obtain⟨i,d,g⟩:=h.ins;refine Ap.cons (λz=>by rw[g0]at z;cases z) (λC d fs e=>?_) Bq;rw[g]at e;injection e with e;injection e with e1 e2 e3;subst e3;show ¬some ("tokens":Str)=some "kind";decide+kernel
 have hal:=al2.len;have done:¬(dG 59 (t2::s2)=true/\1<25 - acc.length)->Sa (Ah (M9 c.CR "take" (SV c) E (g9 0) (gT (tC (.str "")) oA))) (Gr (g9 1)) {nx:=λ_ H'=>Q .fB H',rt:=Q} [some (.ref r),some (.ref a)] H2:=λz=>by rw[Kc z]at k2;refine⟨_,rfl,r,d2,_,rfl,g2,cH,r,l,t2,s2,.e,rfl,rfl,r2,?_⟩;refine k2.then.to (Kp.wU (λ_ _ h=>h) kp2 hb) (by simp) λts3 e3 k3 v H3 r3 kp3=>⟨_,rfl,?_⟩;exact k3 a H3 ha0 ⟨as,kp3 _ _ ha2 (by simpa using λz=>nra z.symm),al2.mono λ_ _ z=>z.ap kp3 (apr r2)⟩ (Kp.wU (λ_ _ h=>h) (kp2.trans (kp3.mono (by simp))) hb) (by omega) le2
 refine⟨_,rfl,a,_,rfl,.inl (bf.of ha2),_,_,rfl,rfl,_,rfl,?_⟩;rw[aB,hal];by_cases q8:acc.length<24
 ·refine aDx (show(acc.length:Int)<24 by omega) ⟨_,rfl,r,d2,_,rfl,g2,cH,r,l,t2,s2,.s 59,rfl,rfl,r2,_,rfl,?_⟩;by_cases q:(Tx.s 59).is (t2::s2)=true
  ·rw[q];rw[Q4 (show dG 59 (t2::s2)=true from q) (by omega)]at k2;have f3:Fin s2:=f2.drop (lL (X:=.s 59) nofun q);refine bq ⟨_,λ_ _ z=>z,?_⟩;refine⟨_,rfl,r,d2,_,rfl,g2,cH,r,l,t2,s2,rfl,r2,λkd tx H3 _ _ r3 kp3=>?_⟩;have ha3:H3 a=some (.lst (as.map V.ref)):=kp3 _ _ ha2 (by simpa using λz=>nra z.symm);have al3:=al2.mono λ_ _ z=>iB.ap z kp3 (apr r2);have kp23:Kp [r,a] H H3:=kp2.trans (kp3.mono (by simp));simp only[aG]at sz2;refine⟨_,rfl,.inl ⟨rfl,_,bf.of ha3⟩,_,rfl,r,l,s2,rfl,f3,by omega,trivial,r3,?_⟩;refine k2.then.to (Kp.wU (λ_ _ h=>h) kp23 hb) (λ_ h=>h) λx4 e4 k4 y4 H4 hy4 st4 r4 kp4 f4 sz4=>?_;have ha4:H4 a=some (.lst (as.map V.ref)):=kp4 _ _ ha3 (by simpa using λz=>nra z.symm);have al4:=al3.mono λ_ _ z=>iB.ap z kp4 (apr r3);have kp24:Kp [r,a] H H4:=kp23.trans (kp4.mono (by simp));have kpa:Kp [a] H4 (aCc H4 a (.lst (as.map V.ref++[.ref y4]))):=Kp.put (by simp);have tr3:∀b∈[r,a],H3 b≠none:=by obtain⟨_,_,g3⟩:=r3.ins;simp[g3,ha3]
   have st4':iB c (λb=>H b=none) H4 y4 x4.1:=st4.mono λb hb'=>ja kp23 tr3 hb';obtain⟨b0,bs0,s0,ss0,rfl,rfl,hb0⟩:∃b0 bs0 s0 ss0,as=b0::bs0/\acc=s0::ss0/\iB c (λb=>H b=none) H4 b0 s0:=by
    cases al4 with
    |nil=>simp at ge2
    |cons p q=>exact⟨_,_,_,_,rfl,rfl,p⟩
   have mv:∀{y:aF}{s:bX},iB c (λb=>H b=none) H4 y s->iB c (λb=>H b=none) (aCc H4 a (.lst ((b0::bs0).map V.ref++[.ref y4]))) y s:=λ{y s} z=>z.app ha4 hb0 kpa;refine⟨a,_,_,rfl,rfl,ha4,by rw[aB,hal];exact pG (by omega),_,?_,(b0::bs0)++[y4],(s0::ss0)++[x4.1],x4.2,rfl,rfl,?_,Al.app (al4.mono λ_ _ z=>mv z) (Al.one (mv st4')),?_,nla,f4,?_,?_,by simp,by simp only[aN,c4];omega,?_⟩
   ·simp only[aG]
    have:=D0 e4
    simp only[List.drop_one,List.tail_cons]at this;omega
   ·rw[aC,aw];rfl
   ·exact r4.kp kpa (by simpa using nra) (by simpa using nla) (mX.cons (jO ha4) fg)
   ·exact kp24.trans (kpa.mono (by simp))
   ·have:LD ((s0::ss0)++[x4.1])=LD (s0::ss0)+S1 x4.1:=by simp[LD];omega
    rw[this];omega
   ·rw[show 25 - ((s0::ss0)++[x4.1]).length=25 - (s0::ss0).length - 1 from by simp only[aN,c4];omega];exact k4
  ·rw[bT.mpr q];exact bW (done λz=>q z.1)
 ·exact aDw (show ¬(acc.length:Int)<24 by omega) (bW (done λz=>by omega))
end
theorem yS(y:List Nat)(l:List (List Nat)):Fo (bH y) (l.map bH)=bH (TL.vx y l):=by apply TL.QE;rw[TL.join_eq,TL.Md,bN,show(TL.tl∘bH)=id from funext λx=>jZ x,L9,show TL.tl (bH y)=y from jZ y];exact(jZ _).symm
theorem JT{α:Type}:∀l:List α,(l.map λ_=>1).sum=l.length
 |[]=>rfl
 |a::r=>by rw[bO,xS,JT r,aG];omega
theorem Ey:∀l:List Nat,TL.vx [] (l.map λn=>[n])=l
 |[]=>rfl
 |[a]=>rfl
 |a::b::r=>by show[a]++([]++TL.vx [] ((b::r).map λn=>[n]))=_;rw[Ey (b::r)];rfl
abbrev nZ:List Nat:=[10,32,39,40,41,44,59,61,97,98,99,100,101,102,103,104,105,106,107,108,109,110,111,112,113,114,115,116,117,118,119,120,121,122,48,49,50,51,52,53,54,55,56,57,95,46,45,47,42]
abbrev Bs:Str:="\n '(),;=abcdefghijklmnopqrstuvwxyz0123456789_.-/*"
theorem zY:Bs=bH nZ:=by trivial
def Uz(l:List Nat):List (Key×V):=l.foldl (λkvs (n:Nat)=>aCo kvs (ee (n:Int)) (vS [n])) []
theorem VC(l:List Nat)(k:Nat):∀kvs:List (Key×V),gU (l.foldl (λkvs (n:Nat)=>aCo kvs (ee (n:Int)) (vS [n])) kvs) (ee (k:Int))=if k∈l then some (vS [k])else gU kvs (ee (k:Int)):=by
 induction l with
 |nil=>intro kvs;simp
 |cons a r ih=>
  intro kvs;rw[Di,ih,Dc];by_cases q:k∈r
  ·rw[iP q,iP (aq _ q)]
  ·rw[iN q];by_cases q2:k=a
   ·subst q2;rw[iP rfl,iP cA]
   ·rw[iN (by intro z;injection z with z;omega),iN (by simp[q,q2])]
theorem DJ(kvs:List (Key×V))(k:Key)(v:V):(aCo kvs k v).length<=kvs.length+1:=by
 unfold aCo;split
 ·rw[aB];omega
 ·simp
theorem VB(l:List Nat):∀kvs:List (Key×V),(l.foldl (λkvs (n:Nat)=>aCo kvs (ee (n:Int)) (vS [n])) kvs).length<=kvs.length+l.length:=by
 induction l with
 |nil=>intro kvs;simp
 |cons a r ih=>intro kvs;rw[Di];have h1:=ih (aCo kvs (ee (a:Int)) (vS [a]));have h2:=DJ kvs (ee (a:Int)) (vS [a]);simp only[aG];omega
theorem aC3(k:Nat):decide (k∈nZ)=Mt.known k:=aCx (by trivial) (aCz (by trivial)) (λc z=>by
 unfold Mt.known;rw[aC8 c z,mI,List.contains_eq_mem];exact aCz (by trivial) c z) k
theorem FG(k:Nat):k∈nZ↔Mt.known k=true:=by rw[<-aC3,decide_eq_true_iff]
theorem VA(k:Nat):(gU (Uz nZ) (ee (k:Int))).getD (.str "?")=vS [Mt.tr k]:=by
 have:=VC nZ k []
 unfold Uz;rw[this];by_cases q:k∈nZ
 ·rw[iP q,Mt.oB ((FG k).mp q)];rfl
 ·rw[iN q,Mt.D8 (λz=>q ((FG k).mpr z))];rfl
abbrev iV(n:Nat):V:=.int (n:Int)
section
variable{c:Cn}
inductive SW(vs:List V)(H:Hp)(Q:VK)(E_:XK):Prop
 |mk:∀(a:aF)(u:List Nat),vs=[.ref a]->H a=some (.lst (u.map iV))->u.length<=2000->(∀H',bA H H'->Q (.str (bH (u.map Mt.tr))) H')->SW vs H Q E_
inductive aEa(H:Hp)(a:aF)(d:aF)(i:Nat)(σ:L2.St)(H':Hp):Prop
 |mk:∀(v:Option V),σ=[some (.ref a),some (.ref d),v,none]->bA H H'->H' d=some (.dK (Uz (nZ.take i)))->aEa H a d i σ H'
theorem lg(G:aCe c):i7 c "text_of" 1 ["codes"] SW:=by
 refine G.En.gG (N:=["codes","signs","sign","code"]) (k:=0) (λH vs Q E nd hr h=>?_);obtain⟨a,u,rfl,ha,hu,k⟩:=h;refine⟨_,aD (G8 (i:=1) nd rfl (HF rfl) qH) (aD (fW jC rfl (Km (b9 G.vj)) (d7 (i:=2) nd) (aL (qp (lh hr) (pv 1) (cF Ho (by rfl) G.PD PQ (aA (pv 2) aH)) (pv 2) rfl))) (aL (bE (BZ cq (ni (own:=[("code",3)]) rfl nd (dQ (pv 0)) (fo (by kernel_rfl)) (λ_ _ _ _ _=>d7 (i:=3) nd) (λ_ _ _ _ _=>kg) (λ_ _ _ _ _=>RR (lh hr) (pv 1) (pv 3) (b9 G.yO) ⟨rfl,rfl,rfl,rfl⟩)))))),?_⟩;intro d hd;refine⟨Bs,rfl,qh (n:=49) (aEa H a d) ⟨none,rfl,aCb hd,aC⟩ ?_ ?_ ?_ ?_⟩
 ·rintro i σ H' hi _;show i<Bs.cps.size;rw[zY];exact hi
 ·rintro σ H' _;show Bs.cps.size<=49;rw[zY];exact a9 _
 ·rintro i σ H' x H2 hi ⟨v,rfl,sm,hD⟩ ⟨rfl,ch,hch,rfl⟩;have hk:nZ[i]?=some ch:=by
   have:Bs.cps[i]?=nZ[i]?:=by rw[zY];simp[bH]
   rw[<-this];exact hch
  refine⟨_,rfl,_,rfl,_,rfl,_,rfl,rfl,d,_,rfl,Be.k (k:=ee (ch:Int)) hD ?_,_,rfl,?_,?_⟩
  ·have:=VB (nZ.take i) []
   rw[cB]at this;exact pG (bw this (by simp;omega))
  ·intro b o z;rw[aJ (aK z hd)];exact sm _ _ z
  ·rw[aC];congr 2;unfold Uz;rw[cy hk,List.foldl_append];rfl
 ·rintro σ H1 ⟨v,rfl,sm,hD⟩;rw[show nZ.take 49=nZ from rfl]at hD;refine⟨⟨_,rfl⟩,_,rfl,a,rfl,⟨_,bf.of (sm _ _ ha)⟩,λL hL=>?_⟩;refine jb (zs:=u) (f:=λn=>some (vS [Mt.tr n])) hL (by omega) (λi H' hi s1=>⟨_,_,bf.of (s1 _ _ (sm _ _ ha)),by rw[aP,aX hi];rfl⟩) (λH' s1=>⟨_,bf.of (s1 _ _ (sm _ _ ha)),by rw[aB];exact a9 _⟩) ?_ ?_
  ·rintro i z H2 x H3 Zy Zn hz s2 ⟨rfl,hx⟩ k1 k2;have hx:=hx _ (bf.of (s2 _ _ (sm _ _ ha)));rw[aP,hz]at hx;have e:x=iV z:=(aV hx).symm;subst e;refine⟨rfl,_,rfl,d,rfl,.inl ⟨_,.inl (s2 _ _ hD)⟩,_,rfl,_,rj.k (k:=ee (z:Int)) (s2 _ _ hD),?_⟩;rw[VA];exact k1 _ _ rfl λ_ _ h=>h
  ·intro H2 e s2;refine⟨_,L,u.map λn=>bH [Mt.tr n],rfl,rfl,.inl (bf.of (by rw[e,bN];simp)),?_,?_⟩
   ·rw[bN,aB]
    have:(u.map ((λx:Str=>x.length)∘λn=>bH [Mt.tr n])).sum=u.length:=by rw[show((λx:Str=>x.length)∘λn=>bH [Mt.tr n])=λ_=>1 from rfl];exact JT u
    rw[this];show u.length+u.length*0<=16777216;omega
   ·have:Fo ("":Str) (u.map λn=>bH [Mt.tr n])=bH (u.map Mt.tr):=by have h1:=yS [] ((u.map Mt.tr).map λn=>[n]);rw[Ey,bN,bN]at h1;exact h1
    rw[this];exact k _ λb o z=>s2 _ _ (sm _ _ z)
inductive Ue(vs:List V)(H:Hp)(Q:VK)(E_:XK):Prop
 |mk:∀(t:List Nat),vs=[.str (bH t)]->t.length<=100000->(∀a H',H a=none->H' a=some (.lst (t.map iV))->bA H H'->Q (.ref a) H')->Ue vs H Q E_
theorem Fx(G:aCe c):i7 c "codes_of" 1 ["text"] Ue:=by
 refine G.CG.gG (N:=["text","sign"]) (k:=0) (λH vs Q E nd hr h=>?_);obtain⟨t,rfl,ht,k⟩:=h;refine⟨_,aL (bE (ni (own:=[("sign",1)]) rfl nd (Km (pv 0)) (fo (by kernel_rfl)) (λ_ _ _ _ _=>d7 (i:=1) nd) (λ_ _ _ _ _=>kg) (λ_ _ _ _ _=>cF Ho (by rfl) G.PD PQ (aA (pv 1) aH)))),?_⟩;refine⟨_,rfl,_,rfl,λD hD=>?_⟩;refine jb (zs:=t) (f:=λn=>some (iV n)) hD ht (λi H' hi _=>by show i<(bH t).cps.size;rw[show(bH t).cps.size=t.length from by simp[bH]];exact hi) (λH' _=>by show(bH t).cps.size<=t.length;simp[bH]) ?_ ?_
 ·rintro i z H2 x H3 Zy Zn hz s2 ⟨rfl,z',h1,rfl⟩ k1 k2;have e:z'=z:=by
   have:(bH t).cps[i]?=t[i]?:=by simp[bH]
   rw[this,hz]at h1;injection h1 with h1;exact h1.symm
  subst e;exact⟨rfl,_,rfl,_,rfl,rfl,k1 _ _ rfl λ_ _ h=>h⟩
 ·intro H2 e s2;refine k D _ hD ?_ s2;rw[e];simp
inductive Nu(vs:List V)(H:Hp)(Q:VK)(E_:XK):Prop
 |mk:∀(t:List Nat),vs=[.str (bH t)]->t.length<=99000->(∀a H',H a=none->H' a=some (.lst ((t.length::t).map iV))->bA H H'->Q (.ref a) H')->Nu vs H Q E_
theorem gu(G:aCe c):i7 c "counted_codes" 2 ["text"] Nu:=by refine G.rN.gG (N:=["text"]) (k:=1) (λH vs Q E nd hr h=>?_);obtain⟨t,rfl,ht,k⟩:=h;refine⟨_,aL (bE (eM wo (cp (aA (cF gO (by rfl) G.gR bP (aA (pv 0) aH)) aH)) (az (Fx G) hr ae (aA (pv 0) aH)))),?_⟩;refine⟨_,rfl,bH t,rfl,by rw[bM];exact sl (by omega),kh,λp hp=>?_⟩;rw[bM];refine⟨_,rfl,t,rfl,by omega,λa H1 ha h1 s1=>?_⟩;refine⟨p,a,_,_,rfl,rfl,s1 _ _ aC,h1,by rw[aB];exact sl (by show 1+t.length<=100000;omega),λq hq=>?_⟩;exact k q _ (aCf (λb o z=>s1 _ _ (aCb hp _ _ z)) hq) (by rw[aC];rfl) λb o z=>aCb hq _ _ (s1 _ _ (aCb hp _ _ z))
end
end Rv
namespace Rv
open Vamrqe (At)
open Mt (post)
theorem IM(h:fM t=some x):x.1≠.fin:=by
 cases t with
 |nil=>cases h
 |cons a r=>
  rw[Mt.iu]at h
  repeat' split at h
  all_goals first
   |(injection h with h;subst h;intro z;cases z)
   |cases h
theorem LH:∀(n p:Nat)(t:aM)(ts:List At),t.length<=n->Mt.tk p t=.ok ts->Fin ts
 |n,p,[],ts,_,h=>by rw[Mt.Sg]at h;injection h with h;subst h;exact rfl
 |0,p,a::r,ts,hn,_=>by simp at hn
 |n+1,p,a::r,ts,hn,h=>by
  by_cases q:a=32\/a=10
  ·rw[Mt.JU q]at h;exact LH n (p+1) r ts (by simp at hn;omega) h
  ·rw[Mt.Sh q]at h;cases e:fM (a::r)with
   |none=>rw[e]at h;cases h
   |some x=>rw[e]at h;dsimp only at h;obtain⟨l,h1,h2⟩:=Mt.bj h;injection h2 with h2;subst h2;have hl:=Mt.uf e;have f:=LH n (p+x.2) ((a::r).drop x.2) l (by rw[ay];simp only[aG]at hn ⊢;omega) h1;obtain⟨t0,r0,rfl⟩:=f.cons;exact⟨IM e,f⟩
theorem RM(t:aM):HN t=bc (Mt.tk 0 t) λts=>sr 24 ts:=by unfold HN;rw[Mt.Vj (by omega)];rfl
section
variable{c:Cn}
theorem iB.cond(h:iB c F H a s):∃dx nm na pat cd ps,H a=some (.ins c.CS dx (pS (aCn s) nm na pat cd))/\fX c H cd ps/\((ps=[]/\s.depth=1)\/∃x,ps=post x/\s.depth=x.depth/\(post x).length<=1500):=by
 obtain⟨dx,nm,na,pat,cd,h1,h2,h3,h4⟩:=h;refine⟨dx,bH nm,na,bH pat,cd,?_⟩;cases s with
 |person l=>exact⟨_,h1,h4.2.2,.inl ⟨rfl,rfl⟩⟩
 |group m l=>exact⟨_,h1,h4.2.2.2.2,.inl ⟨rfl,rfl⟩⟩
 |need p x=>exact⟨_,h1,h4.2.1,.inr ⟨x,rfl,rfl,h4.2.2⟩⟩
 |veto p m=>exact⟨_,h1,h4.2.2.2,.inl ⟨rfl,rfl⟩⟩
 |sticky p=>exact⟨_,h1,h4.2,.inl ⟨rfl,rfl⟩⟩
 |default_ x=>exact⟨_,h1,h4.1,.inr ⟨x,rfl,rfl,h4.2⟩⟩
inductive Kw(c:Cn)(vs:List V)(H:Hp)(Q:VK)(E:XK):Prop
 |mk:∀(a:aF)(u:List Nat),vs=[.ref a]->H a=some (.lst (u.map iV))->u.length<=2000->(Res c E [] H (ez u) λx=>∀b H',H b=none->vQ c (λz=>H z=none) H' b x->bA H H'->LD x<=1001->x.length<=24->Q (.ref b) H')->Kw c vs H Q E
inductive aEb(a:aF)(x:b6)(b:aF)(H4:Hp)(i:Nat)(σ:L2.St)(H':Hp):Prop
 |mk:∀(v:Option V),σ=[some (.ref a),some (.ref b),v]->bA H4 H'->(x.take i).all (λs=>decide (s.depth<=40))=true->aEb a x b H4 i σ H'
theorem lS(G:aCe c):i7 c "read_well" 12 ["codes"] (Kw c):=by
 refine G.AV.gG (N:=["codes","statements","statement"]) (k:=11) (λH vs Q E nd hr h=>?_);obtain⟨a,u,rfl,ha,hu,k⟩:=h;refine⟨_,aD (cf (bU Ab (cF dC (by rfl) G.gR bP (aA (pv 0) aH)) (b9 G.uB) (bt _)) (aL (zd G.EY hr)) b8) (aD (bb (i:=1) nd (az (vD G) hr ae (aA (gy (KJ G) hr ae (aA (az (Tt G) hr ae (aA (az (lg G) hr ae (aA (pv 0) aH)) aH)) aH)) aH))) (aD (fW jC rfl (dQ (pv 1)) (d7 (i:=2) nd) (aL (cf (uS (ck (ag (pv 2) rfl) (λ_=>rfl)) (pF (bU Ab (az (Fy G) hr ae (aA (ag (pv 2) rfl) aH)) (b9 G.Et) (bt _)))).pt (aL (zd G.xG hr)) b8))) (aL (bE (pv 1))))),?_⟩;refine⟨_,rfl,a,_,rfl,.inl (bf.of ha),_,_,rfl,rfl,_,rfl,?_⟩;rw[aB];rw[<-Mt.U9]at k;unfold ez at k;rw[aB]at k;by_cases q:u.length<=1000
 ·rw[dF (show ¬(1000:Int)<(u.length:Int)by omega)];rw[iN (show ¬O9<u.length by show ¬1000<u.length;omega),RM,Mt.gz]at k;refine bW ⟨_,rfl,a,u,rfl,ha,hu,λH1 s1=>?_⟩;refine⟨u.map Mt.tr,rfl,by rw[aB];omega,?_⟩;refine k.then.to (Kp.of s1) (by simp) λts ets k2 l H2 tk2 s2 len2=>?_;rw[aB]at len2;have fn:=LH _ 0 _ ts (a9 _) ets;have s02:bA H H2:=λb o z=>s2 _ _ (s1 _ _ z);intro y dy ny ndy ne;refine FE ny ndy ⟨_,rfl,rfl⟩ λH3 h3 s3=>⟨rfl,?_⟩;obtain⟨as,g1,g2⟩:=tk2;have s03:bA H H3:=λb o z=>s3 _ _ (s02 _ _ z);refine⟨y,l,ts,rfl,fn,by omega,⟨0,dy,as,ts,h3,s3 _ _ g1,g2.mono λ_ _ z=>z.same s3,bR _,rfl⟩,?_⟩;have ny0:H y=none:=aCf s02 ny;have hb:∀b∈[y],b∈([]:List aF)\/H b=none:=by intro b hb;rw[aQ.mp hb];exact .inr ny0
  have k3:=k2.then;cases e4:sr 24 ts with
  |error e=>rw[e4]at k3;exact Rz.wU k3 s03 hb
  |ok x=>
   rw[e4]at k3;have k3:Res c E [] H (if(x.all λs=>decide (s.depth<=WC))=true then zu x else Except.error ⟨-5,0⟩) _:=k3;intro b H4 hb4 sts4 kp4 sz4 le4;have s04:bA H H4:=λz o e=>(Kp.wU (M:=[]) s03 kp4 hb) z o e (by simp);have sts4':vQ c (λz=>H z=none) H4 b x:=by obtain⟨bs,g3,g4⟩:=sts4;exact⟨bs,g3,g4.mono λ_ _ z=>z.mono λw hw=>aCf s03 hw⟩
   have hb0:=aCf s03 hb4;obtain⟨bs,g3,g4⟩:=sts4';refine⟨_,rfl,b,rfl,⟨_,bf.of g3⟩,fH (xs:=bs.map V.ref) (aEb a x b H4) ⟨none,rfl,λ_ _ h=>h,rfl⟩ ?_ ?_ ?_⟩
   ·rintro i σ H' hi ⟨_,_,sm,_⟩;exact bf.of (sm _ _ g3)
   ·rintro i y' σ H' hy ⟨v,rfl,sm,hall⟩;rw[aP]at hy;cases hbs:bs[i]? with
    |none=>rw[hbs]at hy;cases hy
    |some st=>
     rw[hbs]at hy;have e:y'=V.ref st:=(aV hy).symm;subst e;obtain⟨sp,hsp,hst⟩:=g4.at' hbs;obtain⟨dx,nm,na,pat,cd,ps,o1,o2,o3⟩:=iB.cond (hst.same sm);have step:decide (sp.depth<=40)=true->(x.take (i+1)).all (λs=>decide (s.depth<=40))=true:=λz=>by rw[cy hsp,Dg,hall];simpa using z
     obtain⟨as5,o4,o5⟩:=o2;refine⟨_,rfl,st,c.CS,dx,_,_,rfl,o1,G.aZ,G.cE,gS,_,.inl ⟨_,bf.of o4,rfl⟩,?_⟩;rcases o3 with⟨rfl,hd⟩|⟨xc,rfl,hd,hlen⟩
     ·have:as5=[]:=by cases o5;rfl
      subst this;exact bW (bW ⟨_,rfl,sm,step (by rw[hd];rfl)⟩)
     ·have hne:(!(as5.map V.ref).isEmpty)=true:=by
       cases as5 with
       |nil=>
        have:=o5.len
        exact absurd (eQ this.symm) (Mt.U4 xc)
       |cons _ _=>rfl
      rw[hne];refine bq ⟨_,rfl,st,c.CS,dx,_,_,rfl,o1,G.aZ,G.cE,gS,cd,xc,rfl,⟨as5,o4,o5⟩,by omega,λH5 s5=>?_⟩;refine⟨_,_,rfl,rfl,_,rfl,?_⟩;by_cases qd:xc.depth<=40
      ·exact aDw (show ¬(40:Int)<(xc.depth:Int)by omega) ⟨_,rfl,λb o z=>s5 _ _ (sm _ _ z),step (by rw[hd];simpa using qd)⟩
      ·rw[dE (show(40:Int)<(xc.depth:Int)by omega)]
       rw[iN (by
        intro z
        have:=dZ.mp z sp (bp hsp)
        rw[hd]at this;exact qd (of_decide_eq_true this))]at k3
       exact bq ⟨by simp,5,0,⟨rfl,rfl,rfl⟩,Rz.step k3 (bA.kp λb o z=>s5 _ _ (sm _ _ (s04 _ _ z)))⟩
   ·rintro σ H' ⟨v,rfl,sm,hall⟩;rw[aB,g4.len,cD]at hall;rw[iP (show(x.all λs=>decide (s.depth<=WC))=true from hall)]at k3;refine⟨_,rfl,k3 b H' hb0 ⟨bs,sm _ _ g3,g4.mono λ_ _ z=>z.same sm⟩ (λb o z=>sm _ _ (s04 _ _ z)) (by omega) le4⟩
 ·rw[dE (show(1000:Int)<(u.length:Int)by omega)];rw[iP (show O9<u.length by show 1000<u.length;omega)]at k;exact bq ⟨by simp,1,0,⟨rfl,rfl,rfl⟩,k⟩
end
end Rv
namespace Rv
open Vamrqe (commas blanks patternShown slashes namesOf wOn)
open Mt (post)
theorem tT:∀l:List aM,TL.vx [44,32] l=commas l
 |[]=>rfl
 |[x]=>rfl
 |x::y::r=>by show x++([44,32]++TL.vx [44,32] (y::r))=x++(44::32::commas (y::r));rw[tT (y::r)];rfl
theorem DW:∀l:b6,TL.vx [59,32] (l.map bQ)=cj l
 |[]=>rfl
 |[x]=>rfl
 |x::y::r=>by show x.shown++([59,32]++TL.vx [59,32] ((y::r).map bQ))=x.shown++(59::32::cj (y::r));rw[DW (y::r)];rfl
theorem uU:∀(u acc:List Nat),slashes (rH acc u)=acc.reverse++u
 |[],acc=>by simp[rH,slashes]
 |n::r,acc=>by
  rw[rH];by_cases q:n=47
  ·rw[iP q];have ih:=uU r [];have ne:rH [] r≠[]:=Cs r;cases e:rH [] r with
   |nil=>exact absurd e ne
   |cons a b=>rw[e]at ih;show acc.reverse++(47::slashes (a::b))=_;rw[ih,q];rfl
  ·rw[iN q,uU r (n::acc)];simp
theorem Ac:∀(l:List aM)(p:km),jX l=some p->p.map aAx=l
 |[],p,h=>by cases h;rfl
 |n::r,p,h=>by
  rw[DC]at h;by_cases q:n=rg
  ·rw[iP q]at h;by_cases hr:r.isEmpty=true
   ·rw[iP hr]at h
    have:r=[]:=by simpa using hr
    subst this;cases h;rw[q];rfl
   ·rw[iN hr]at h;cases h
  ·rw[iN q]at h;cases e:jX r with
   |none=>
    rw[e]at h
    repeat' split at h
    all_goals cases h
   |some p'=>
    rw[e]at h;have ih:=Ac r p' e;split at h
    ·rename_i q1;cases h;rw[bO,ih,q1];rfl
    ·split at h
     ·cases h;rw[bO,ih];rfl
     ·cases h
theorem iG(h:cW u=some p):patternShown p=39::(u++[39])/\u.length<=40:=by
 unfold cW at h;split at h
 ·rename_i q;refine⟨?_,q.1⟩;unfold patternShown;rw[Ac _ _ h]
  have:=uU u []
  rw[List.reverse_nil,jL]at this;rw[show slashes (namesOf u)=u from this]
 ·cases h
theorem nQ:∀{l:List aM},(∀n∈l,n.length<=12)->(commas l).length<=14*l.length
 |[],_=>by simp[commas]
 |[x],h=>by
  have:=h x (by simp)
  simp[commas]
  omega
 |x::y::r,h=>by have h1:=h x (by simp);have h2:=nQ (l:=y::r) λn hn=>h n (aq _ hn);show(x++(44::32::commas (y::r))).length<=_;simp only[aN,aG]at h2 ⊢;omega
section
variable{c:Cn}
inductive SS(c:Cn)(vs:List V)(H:Hp)(Q:VK)(E_:XK):Prop
 |mk:∀a s F,vs=[.ref a]->iB c F H a s->(∀H',bA H H'->s.shown.length<=30*S1 s+80->Q (.str (bH s.shown)) H')->SS c vs H Q E_
theorem FH{l:List aM}(h:∀n∈l,n.length<=12):(l.map λn=>(bH n).length).sum<=12*l.length:=by
 induction l with
 |nil=>simp
 |cons a r ih=>
  have:=h a (by simp)
  have:=ih λn hn=>h n (aq _ hn)
  rw[bO,xS,aG,bM];omega
theorem wX(G:aCe c):i7 c "show_statement" 4 ["statement"] (SS c):=by
 refine G.qB.gG (N:=["statement"]) (k:=3) (λH vs Q E nd hr h=>?_);obtain⟨a,st,F,rfl,hst,k⟩:=h;refine⟨_,aD (cf (bU eX (ag (pv 0) rfl) (b9 G.yP) (bt _)) (aL (bE (eM eG cq (BZ cq (ag (pv 0) rfl))))) b8) (aD (cf (bU eX (ag (pv 0) rfl) (b9 G.BW) (bt _)) (aL (bE (eM eG (eM eG (eM eG cq (ag (pv 0) rfl)) cq) (BZ cq (ag (pv 0) rfl))))) b8) (aD (cf (bU eX (ag (pv 0) rfl) (b9 G.GO) (bt _)) (aL (bE (eM eG (eM eG (eM eG cq (ag (pv 0) rfl)) cq) (ag (pv 0) rfl)))) b8) (aD (cf (bU eX (ag (pv 0) rfl) (b9 G.Ca) (bt _)) (aL (bE (eM eG (eM eG cq (ag (pv 0) rfl)) cq))) b8) (aD (cf (bU eX (ag (pv 0) rfl) (b9 G.KY) (bt _)) (aL (bE (eM eG (eM eG (eM eG cq (ag (pv 0) rfl)) cq) (az (nP G) hr ae (aA (ag (pv 0) rfl) aH))))) b8) (aL (bE (eM eG cq (az (nP G) hr ae (aA (ag (pv 0) rfl) aH))))))))),?_⟩;obtain⟨dx,nm,na,pat,cd,h1,h2,h3,h4⟩:=hst;have no:∀{x y:Str},¬x=y->decide (V.str x=V.str y)=false:=λh=>dF (by intro z;injection z with z;exact h z);refine⟨_,rfl,a,c.CS,dx,_,_,rfl,h1,G.aZ,G.ah,cY,rfl,_,rfl,?_⟩;cases st with
 |person l=>
  rw[dE (show V.str (aCn (.person l))=V.str "person" from rfl)];obtain⟨n1,n2,_⟩:=h4;have n1:H na=some (.lst (l.map vS)):=n1;have cl:=nQ n2.sh;have le:=n2.le;have e:bQ (.person l)=[112,101,114,115,111,110,32]++commas l:=by simp[bQ,blanks,fP]
  refine bq ⟨⟨_,rfl⟩,_,rfl,a,c.CS,dx,_,_,rfl,h1,G.aZ,G.eJ,uq,_,na,l.map bH,rfl,rfl,.inl (bf.of (by rw[n1,bN];rfl)),?_,?_⟩
  ·rw[bN,aB]
   have:=FH n2.sh
   have h0:(l.map ((λx:Str=>x.length)∘bH)).sum<=12*l.length:=this;show _+l.length*2<=16777216;omega
  rw[show((", ":Str))=bH [44,32]from rfl,yS,tT];refine⟨_,_,rfl,rfl,?_,?_⟩
  ·rw[bM];exact sl (by show 7+_<=100000;omega)
  rw[show(("person ":Str))=bH [112,101,114,115,111,110,32]from rfl,d9,<-e];refine k H (λ_ _ h=>h) ?_;rw[e];show(_++commas l).length<=30*(l.length+1)+80;simp only[aN,aG,bh];omega
 |group m l=>
  rw[no (show ¬aCn (.group m l)="person" from by show ¬("group":Str)="person";decide+kernel)];refine bW ⟨_,rfl,a,c.CS,dx,_,_,rfl,h1,G.aZ,G.ah,cY,rfl,_,rfl,?_⟩;rw[dE (show V.str (aCn (.group m l))=V.str "group" from rfl)];obtain⟨rfl,ml,n1,n2,_⟩:=h4;have n1:H na=some (.lst (l.map vS)):=n1;have cl:=nQ n2.sh;have le:=n2.le;have e:bQ (.group nm l)=([103,114,111,117,112,32]++nm++[32,61,32])++commas l:=by simp[bQ,blanks,i5]
  refine bq ⟨_,rfl,a,c.CS,dx,_,_,rfl,h1,G.aZ,G.de,qL,_,_,rfl,rfl,?_,?_⟩
  ·rw[bM];exact sl (by show 6+_<=100000;omega)
  rw[show(("group ":Str))=bH [103,114,111,117,112,32]from rfl,d9];refine⟨_,_,rfl,rfl,?_,?_⟩
  ·rw[bM];exact sl (by show(_++nm).length+3<=100000;simp;omega)
  rw[show((" = ":Str))=bH [32,61,32]from rfl,d9];refine⟨⟨_,rfl⟩,_,rfl,a,c.CS,dx,_,_,rfl,h1,G.aZ,G.eJ,uq,_,na,l.map bH,rfl,rfl,.inl (bf.of (by rw[n1,bN];rfl)),?_,?_⟩
  ·rw[bN,aB];have h0:(l.map ((λx:Str=>x.length)∘bH)).sum<=12*l.length:=FH n2.sh;show _+l.length*2<=16777216;omega
  rw[show((", ":Str))=bH [44,32]from rfl,yS,tT];refine⟨_,_,rfl,rfl,?_,?_⟩
  ·rw[bM,bM];exact sl (by simp only[aN,aG,bh];omega)
  rw[d9,<-e];refine k H (λ_ _ h=>h) ?_;rw[e];show(_++commas l).length<=30*(l.length+3)+80;simp only[aN,aG,bh];omega
 |veto p m=>
  rw[no (show ¬aCn (.veto p m)="person" from by show ¬("veto":Str)="person";decide+kernel)];refine bW ⟨_,rfl,a,c.CS,dx,_,_,rfl,h1,G.aZ,G.ah,cY,rfl,_,rfl,?_⟩;rw[no (show ¬aCn (.veto p m)="group" from by show ¬("veto":Str)="group";decide+kernel)];refine bW ⟨_,rfl,a,c.CS,dx,_,_,rfl,h1,G.aZ,G.ah,cY,rfl,_,rfl,?_⟩;rw[dE (show V.str (aCn (.veto p m))=V.str "veto" from rfl)];obtain⟨hp,rfl,ml,_⟩:=h4;obtain⟨ps,pl⟩:=iG hp;have e:bQ (.veto p nm)=([111,110,32,39]++pat++[39,32,118,101,116,111,32])++nm:=by simp[bQ,blanks,wOn,vG,ps]
  refine bq ⟨_,rfl,a,c.CS,dx,_,_,rfl,h1,G.aZ,G.c8,kT,_,_,rfl,rfl,?_,?_⟩
  ·rw[bM];exact sl (by show 4+_<=100000;omega)
  rw[show(("on '":Str))=bH [111,110,32,39]from rfl,d9];refine⟨_,_,rfl,rfl,?_,?_⟩
  ·rw[bM];exact sl (by show(_++pat).length+7<=100000;simp;omega)
  rw[show(("' veto ":Str))=bH [39,32,118,101,116,111,32]from rfl,d9];refine⟨_,rfl,a,c.CS,dx,_,_,rfl,h1,G.aZ,G.de,qL,_,_,rfl,rfl,?_,?_⟩
  ·rw[bM,bM];exact sl (by simp only[aN,aG,bh];omega)
  rw[d9,<-e];refine k H (λ_ _ h=>h) ?_;rw[e];show(_++nm).length<=30*4+80;simp only[aN,aG,bh];omega
 |sticky p=>
  rw[no (show ¬aCn (.sticky p)="person" from by show ¬("sticky":Str)="person";decide+kernel)];refine bW ⟨_,rfl,a,c.CS,dx,_,_,rfl,h1,G.aZ,G.ah,cY,rfl,_,rfl,?_⟩;rw[no (show ¬aCn (.sticky p)="group" from by show ¬("sticky":Str)="group";decide+kernel)];refine bW ⟨_,rfl,a,c.CS,dx,_,_,rfl,h1,G.aZ,G.ah,cY,rfl,_,rfl,?_⟩;rw[no (show ¬aCn (.sticky p)="veto" from by show ¬("sticky":Str)="veto";decide+kernel)];refine bW ⟨_,rfl,a,c.CS,dx,_,_,rfl,h1,G.aZ,G.ah,cY,rfl,_,rfl,?_⟩;rw[dE (show V.str (aCn (.sticky p))=V.str "sticky" from rfl)];obtain⟨hp,_⟩:=h4;obtain⟨ps,pl⟩:=iG hp;have e:bQ (.sticky p)=([115,116,105,99,107,121,32,39]++pat)++[39]:=by simp[bQ,blanks,iK,ps]
  refine bq ⟨_,rfl,a,c.CS,dx,_,_,rfl,h1,G.aZ,G.c8,kT,_,_,rfl,rfl,?_,?_⟩
  ·rw[bM];exact sl (by show 8+_<=100000;omega)
  rw[show(("sticky '":Str))=bH [115,116,105,99,107,121,32,39]from rfl,d9];refine⟨_,_,rfl,rfl,?_,?_⟩
  ·rw[bM];exact sl (by show(_++pat).length+1<=100000;simp;omega)
  rw[show(("'":Str))=bH [39]from rfl,d9,<-e];refine k H (λ_ _ h=>h) ?_;rw[e];show(_++[39]).length<=30*2+80;simp only[aN,aG,bh];omega
 |need p x=>
  rw[no (show ¬aCn (.need p x)="person" from by show ¬("need":Str)="person";decide+kernel)];refine bW ⟨_,rfl,a,c.CS,dx,_,_,rfl,h1,G.aZ,G.ah,cY,rfl,_,rfl,?_⟩;rw[no (show ¬aCn (.need p x)="group" from by show ¬("need":Str)="group";decide+kernel)];refine bW ⟨_,rfl,a,c.CS,dx,_,_,rfl,h1,G.aZ,G.ah,cY,rfl,_,rfl,?_⟩;rw[no (show ¬aCn (.need p x)="veto" from by show ¬("need":Str)="veto";decide+kernel)];refine bW ⟨_,rfl,a,c.CS,dx,_,_,rfl,h1,G.aZ,G.ah,cY,rfl,_,rfl,?_⟩;rw[no (show ¬aCn (.need p x)="sticky" from by show ¬("need":Str)="sticky";decide+kernel)];refine bW ⟨_,rfl,a,c.CS,dx,_,_,rfl,h1,G.aZ,G.ah,cY,rfl,_,rfl,?_⟩;rw[dE (show V.str (aCn (.need p x))=V.str "need" from rfl)];obtain⟨hp,pt,pn⟩:=h4;obtain⟨ps,pl⟩:=iG hp;have e:bQ (.need p x)=([111,110,32,39]++pat++[39,32,110,101,101,100,32])++x.shownAt 1:=by simp[bQ,blanks,wOn,rA,ps]
  refine bq ⟨_,rfl,a,c.CS,dx,_,_,rfl,h1,G.aZ,G.c8,kT,_,_,rfl,rfl,?_,?_⟩
  ·rw[bM];exact sl (by show 4+_<=100000;omega)
  rw[show(("on '":Str))=bH [111,110,32,39]from rfl,d9];refine⟨_,_,rfl,rfl,?_,?_⟩
  ·rw[bM];exact sl (by show(_++pat).length+7<=100000;simp;omega)
  rw[show(("' need ":Str))=bH [39,32,110,101,101,100,32]from rfl,d9];refine⟨_,rfl,a,c.CS,dx,_,_,rfl,h1,G.aZ,G.cE,gS,cd,x,rfl,pt,by omega,λH2 s2 l2=>?_⟩;refine⟨_,_,rfl,rfl,?_,?_⟩
  ·rw[bM,bM];exact sl (by simp only[aN,aG,bh];omega)
  rw[d9,<-e];refine k H2 s2 ?_;rw[e];show(_++x.shownAt 1).length<=30*((post x).length+3)+80;simp only[aN,aG,bh];omega
 |default_ x=>
  rw[no (show ¬aCn (.default_ x)="person" from by show ¬("default":Str)="person";decide+kernel)];refine bW ⟨_,rfl,a,c.CS,dx,_,_,rfl,h1,G.aZ,G.ah,cY,rfl,_,rfl,?_⟩;rw[no (show ¬aCn (.default_ x)="group" from by show ¬("default":Str)="group";decide+kernel)];refine bW ⟨_,rfl,a,c.CS,dx,_,_,rfl,h1,G.aZ,G.ah,cY,rfl,_,rfl,?_⟩;rw[no (show ¬aCn (.default_ x)="veto" from by show ¬("default":Str)="veto";decide+kernel)];refine bW ⟨_,rfl,a,c.CS,dx,_,_,rfl,h1,G.aZ,G.ah,cY,rfl,_,rfl,?_⟩;rw[no (show ¬aCn (.default_ x)="sticky" from by show ¬("default":Str)="sticky";decide+kernel)];refine bW ⟨_,rfl,a,c.CS,dx,_,_,rfl,h1,G.aZ,G.ah,cY,rfl,_,rfl,?_⟩;rw[no (show ¬aCn (.default_ x)="need" from by show ¬("default":Str)="need";decide+kernel)];obtain⟨pt,pn⟩:=h4;have e:bQ (.default_ x)=[100,101,102,97,117,108,116,32,110,101,101,100,32]++x.shownAt 1:=by simp[bQ,blanks,oW,rA]
  refine bW ⟨_,rfl,a,c.CS,dx,_,_,rfl,h1,G.aZ,G.cE,gS,cd,x,rfl,pt,by omega,λH2 s2 l2=>?_⟩;refine⟨_,_,rfl,rfl,?_,?_⟩
  ·rw[bM];exact sl (by show 13+_<=100000;omega)
  rw[show(("default need ":Str))=bH [100,101,102,97,117,108,116,32,110,101,101,100,32]from rfl,d9,<-e];refine k H2 s2 ?_;rw[e];show(_++x.shownAt 1).length<=30*((post x).length+2)+80;simp only[aN,aG,bh];omega
theorem tU:∀x:dD,(∀p∈post x,(U6 p).length<=12/\V9 p<=99)->(x.shownAt 1).length<=30*(post x).length
 |.by_ n,h=>by
  have:=uo (p:=.by_ n) (h _ (by simp[post])).1 (h _ (by simp[post])).2
  exact this
 |.some_ k n,h=>by
  have:=uo (p:=.some_ k n) (h _ (by simp[post])).1 (h _ (by simp[post])).2
  exact this
 |.author n,h=>by
  have:=uo (p:=.author n) (h _ (by simp[post])).1 (h _ (by simp[post])).2
  exact this
 |.and a b,h=>by
  have h1:=tU a λp hp=>h p (by simp[post,hp]);have h2:=tU b λp hp=>h p (by simp[post,hp]);rw[Mt.FY]
  have:=zW .and (Mt.kd a,a.shownAt 1) (Mt.kd b,b.shownAt 1)
  simp only[post,aN,c4]at this ⊢;omega
 |.or a b,h=>by
  have h1:=tU a λp hp=>h p (by simp[post,hp]);have h2:=tU b λp hp=>h p (by simp[post,hp]);rw[Mt.JJ]
  have:=zW .or (Mt.kd a,a.shownAt 1) (Mt.kd b,b.shownAt 1)
  simp only[post,aN,c4]at this ⊢;omega
theorem fX.len(h:fX c H p (post x)):(x.shownAt 1).length<=30*(post x).length:=by obtain⟨as,h1,h2⟩:=h;refine tU x λp hp=>?_;obtain⟨i,hi,e⟩:=List.getElem_of_mem hp;obtain⟨a,_,_,_,h3⟩:=h2.at_ (a8.mpr ⟨hi,e⟩);exact h3
theorem iB.len(h:iB c F H a s):s.shown.length<=30*S1 s+80:=by
 obtain⟨dx,nm,na,pat,cd,h1,h2,h3,h4⟩:=h;cases s with
 |person l=>have cl:=nQ h4.2.1.sh;have le:=h4.2.1.le;simp only[bQ,blanks,fP,aN,aG,bh,S1];omega
 |group m l=>have cl:=nQ h4.2.2.2.1.sh;have ml:=h4.2.1;simp only[bQ,blanks,i5,aN,aG,bh,S1];omega
 |need p x=>
  obtain⟨ps,pl⟩:=iG h4.1
  have:=h4.2.1.len
  simp only[bQ,blanks,wOn,rA,ps,aN,aG,bh,S1];omega
 |veto p m=>
  obtain⟨ps,pl⟩:=iG h4.1
  have:=h4.2.2.1
  simp only[bQ,blanks,wOn,vG,ps,aN,aG,bh,S1];omega
 |sticky p=>obtain⟨ps,pl⟩:=iG h4.1;simp only[bQ,blanks,iK,ps,aN,aG,bh,S1];omega
 |default_ x=>
  have:=h4.1.len
  simp only[bQ,blanks,oW,rA,aN,aG,bh,S1];omega
theorem Uw(h:Al (iB c F H) as l):((l.map bQ).map λt=>(bH t).length).sum<=30*LD l+80*l.length:=by
 induction h with
 |nil=>simp[LD]
 |cons p _ ih=>
  have:=p.len
  simp only[LD,bO,xS,aG]at ih ⊢;rw[bM];omega
theorem shown_le:∀l:b6,(cj l).length<=((l.map bQ).map λt=>(bH t).length).sum+2*l.length
 |[]=>by simp[cj]
 |[x]=>by simp[cj,bM]
 |x::y::r=>by
  have:=shown_le (y::r)
  show(x.shown++(59::32::cj (y::r))).length<=_;simp only[bO,xS,aN,aG,bM]at this ⊢;omega
inductive OC(c:Cn)(vs:List V)(H:Hp)(Q:VK)(E_:XK):Prop
 |mk:∀a l F,vs=[.ref a]->vQ c F H a l->LD l<=1001->l.length<=24->(∀H',bA H H'->(cj l).length<=34000->Q (.str (bH (cj l))) H')->OC c vs H Q E_
theorem iO(G:aCe c):i7 c "show_statements" 5 ["statements"] (OC c):=by
 refine G.ou.gG (N:=["statements","statement"]) (k:=4) (λH vs Q E nd hr h=>?_);obtain⟨a,l,F,rfl,⟨as,ha,al⟩,hz,hl,k⟩:=h;refine⟨_,aL (bE (BZ cq (ni (own:=[("statement",1)]) rfl nd (dQ (pv 0)) (fo (by kernel_rfl)) (λ_ _ _ _ _=>d7 (i:=1) nd) (λ_ _ _ _ _=>kg) (λ_ _ _ _ _=>az (wX G) hr DD (aA (pv 1) aH))))),?_⟩;have hlen:=al.len;refine⟨⟨_,rfl⟩,_,rfl,a,rfl,⟨_,bf.of ha⟩,λD hD=>?_⟩;refine jb (zs:=l) (f:=λs=>some (vS s.shown)) hD (by omega) (λi H' hi s1=>?_) (λH' s1=>⟨_,bf.of (s1 _ _ ha),by rw[aB];omega⟩) ?_ ?_
 ·obtain⟨b,hb,_⟩:=al.at_ (aX hi);exact⟨_,_,bf.of (s1 _ _ ha),by rw[aP,hb];rfl⟩
 ·rintro i z H2 x H3 Zy Zn hz s2 ⟨rfl,hx⟩ k1 k2;have hx:=hx _ (bf.of (s2 _ _ ha));obtain⟨b,hb,hst⟩:=al.at_ hz;rw[aP,hb]at hx;have e:x=V.ref b:=(aV hx).symm;subst e;exact⟨rfl,_,rfl,b,z,F,rfl,hst.same s2,λH4 s4 _=>k1 _ _ rfl s4⟩
 ·intro H2 e s2;have h1:=Uw al;have h2:=shown_le l;refine⟨_,D,(l.map bQ).map bH,rfl,rfl,.inl (bf.of (by rw[e,bN,bN];simp)),?_,?_⟩
  ·rw[bN,aB,aB]
   have:((l.map bQ).map ((λx:Str=>x.length)∘bH)).sum<=30*LD l+80*l.length:=h1
   show _+l.length*2<=16777216;omega
  ·rw[show(("; ":Str))=bH [59,32]from rfl,yS,DW];exact k H2 s2 (by omega)
end
end Rv
namespace Rv
open Vamrqe (Who)
structure eZ(w:Who):Prop where
 pn:w.people.Nodup
 pl:w.people.length<=8
 gl:w.groups.length<=8
 dj:∀g∈w.groups,g.1∉w.people
 gm:∀g∈w.groups,g.2≠[]/\(∀n∈g.2,n∈w.people)/\g.2.length<=8
 gn:(w.groups.map (·.1)).Nodup
 sh:∀n∈w.people,n.length<=12
 gs:∀g∈w.groups,g.1.length<=12/\g.2.Nodup
def dw(w:Who)(n:aM):List aM:=match w.group n with
 |some l=>l
 |none=>w.people.filter λp=>decide (p=n)
theorem KR{l:List aM}(h:l.Nodup)(n:aM):(l.filter λp=>decide (p=n))=if n∈l then[n]else[]:=by
 induction l with
 |nil=>rfl
 |cons a r ih=>
  rw[hZ]at h;rw[mF,ih h.2];by_cases q:a=n
  ·subst q;rw[dE rfl,iP rfl,iN h.1,iP cA]
  ·rw[dF q,iN (by simp)];by_cases q2:n∈r
   ·rw[iP q2,iP (aq _ q2)]
   ·rw[iN q2,iN (by simp[q2];exact λz=>q z.symm)]
theorem Eu{w:Who}{n:aM}{l:List aM}(h:w.group n=some l):(n,l)∈w.groups:=by
 unfold Bp at h;cases e:w.groups.find? (λg=>decide (g.1=n))with
 |none=>rw[e]at h;cases h
 |some g=>rw[e]at h;have h1:=List.find?_some e;have h2:=Fg e;have h:g.2=l:=aV h;have h1:g.1=n:=of_decide_eq_true h1;rw[<-h,<-h1];exact h2
theorem qm{w:Who}(ok:eZ w)(n:aM):dw w n=(w.of n).getD []/\(dw w n≠[]↔w.had n=true):=by
 unfold dw Ea Who.of;cases e:w.group n with
 |some l=>have hm:=Eu e;have h1:¬w.people.contains n=true:=λz=>ok.dj _ hm (by simpa using z);have h2:(w.groups.find? λg=>decide (g.1=n)).map (λg=>g.2)=some l:=e;rw[iN h1,h2];exact⟨rfl,⟨λ_=>rfl,λ_=>(ok.gm _ hm).1⟩⟩
 |none=>
  have h2:(w.groups.find? λg=>decide (g.1=n)).map (λg=>g.2)=none:=e;dsimp only;rw[KR ok.pn,h2];by_cases q:n∈w.people
  ·rw[iP q,iP (by simpa using q)];exact⟨rfl,⟨λ_=>rfl,λ_=>by simp⟩⟩
  ·rw[iN q,iN (by simpa using q)];exact⟨rfl,⟨λz=>absurd rfl z,λz=>by cases z⟩⟩
theorem yc{w:Who}(ok:eZ w)(n:aM):(∀m∈dw w n,m∈w.people)/\(dw w n).length<=8/\(dw w n).Nodup:=by
 unfold dw;cases e:w.group n with
 |some l=>have hm:=Eu e;exact⟨(ok.gm _ hm).2.1,(ok.gm _ hm).2.2,(ok.gs _ hm).2⟩
 |none=>
  dsimp only;refine⟨λm hm=>(dh.mp hm).1,?_,ok.pn.filter _⟩
  have:=cP (λp=>decide (p=n)) w.people
  have:=ok.pl
  omega
def WJ(sl pl gd:aF):List (Str×V):=[("statements",.ref sl),("people",.ref pl),("groups",.ref gd)]
section
variable{sl pl gd:aF}
theorem fG:(WJ sl pl gd).lookup ("statements":Str)=some (.ref sl):=eD
theorem kH:(WJ sl pl gd).lookup ("people":Str)=some (.ref pl):=(cJ (by trivial)).trans eD
theorem nJ:(WJ sl pl gd).lookup ("groups":Str)=some (.ref gd):=(cJ (by trivial)).trans ((cJ (by trivial)).trans eD)
theorem wR(h1:¬("statements":Str)=m)(h2:¬("people":Str)=m)(h3:¬("groups":Str)=m):(WJ sl pl gd).lookup m=none:=(cJ h1).trans ((cJ h2).trans ((cJ h3).trans rfl))
end
def iW:bX->Bool
 |.default_ _=>true
 |_=>false
def Om(H:Hp)(sl pl:aF)(kv:Key×V)(g:aM×List aM):Prop:=kv.1=ai (bH g.1)/\∃a,kv.2=.ref a/\a≠sl/\a≠pl/\H a=some (.lst (g.2.map vS))
structure fL(c:Cn)(F:aF->Prop)(H:Hp)(b sl pl gd:aF)(l:b6)(w:Who):Prop where
 ins:∃dx,H b=some (.ins c.CB dx (WJ sl pl gd))
 ET:vQ c F H sl l
 oG:H pl=some (.lst (w.people.map vS))
 GP:∃kvs,H gd=some (.dK kvs)/\Al (Om H sl pl) kvs w.groups
 sp:sl≠pl
 fs:¬F sl
 fp:¬F pl
 df:w.default_=l.any iW
theorem K0{sl pl:aF}(h:Al (Om H sl pl) kvs gs)(n:aM):match(gs.find? λg=>decide (g.1=n)).map (λg=>g.2)with
  |none=>gU kvs (ai (bH n))=none
  |some l=>∃a,gU kvs (ai (bH n))=some (.ref a)/\a≠sl/\a≠pl/\H a=some (.lst (l.map vS)):=by
 induction h with
 |nil=>rfl
 |cons p q ih=>
  rename_i kv g r s;obtain⟨k,v⟩:=kv;obtain⟨p1,a,p2,p3⟩:=p;dsimp only at p1 p2;subst p1 p2;rw[cw];by_cases e:g.1=n
  ·rw[dE e];exact⟨a,hJ (by rw[e]),p3⟩
  ·rw[dF e]
   have:gU ((ai (bH g.1),V.ref a)::r) (ai (bH n))=gU r (ai (bH n)):=hG (by intro z;injection z with z;exact e (ki z))
   dsimp only;rw[this];exact ih
section
variable{c:Cn}
inductive Uo(c:Cn)(vs:List V)(H:Hp)(Q:VK)(E_:XK):Prop
 |mk:∀b sl pl gd l w n F,vs=[.ref b,.str (bH n)]->fL c F H b sl pl gd l w->w.people.length<=8->(∀a H',H a=none->H' a=some (.lst ((dw w n).map vS))->bA H H'->Q (.ref a) H')->Uo c vs H Q E_
theorem iD(G:aCe c):ux c c.CB "people_of" 1 ["self","name"] (Uo c):=by
 refine G.qF.gG (N:=["self","name","person"]) (k:=0) (λH vs Q E nd hr h=>?_);obtain⟨b,sl,pl,gd,l,w,n,F,rfl,B,h8,k⟩:=h;refine⟨_,aD (cf (zf (RN (lh hr) (pv 1) (ag (pv 0) rfl))) (aL (bE (lN qZ (by rfl) G.Br BV (aA (y9 (lh hr) (ag (pv 0) rfl) (pv 1) (λ_ _=>rfl)) aH)))) b8) (aL (bE (ni (own:=[("person",2)]) rfl nd (dQ (ag (pv 0) rfl)) (fo (by kernel_rfl)) (λ_ _ _ _ _=>d7 (i:=2) nd) (λ_ _ _ _ _=>uk (bU eX (pv 2) (pv 1) (bt _))) (λ_ _ _ _ _=>pv 2)))),?_⟩;obtain⟨dx,hb⟩:=B.ins;obtain⟨kvs,hg,al⟩:=B.GP;have gv:=K0 al n;refine⟨_,rfl,_,rfl,b,c.CB,dx,_,_,rfl,hb,G.eV,G.iC,nJ,gd,_,rfl,rj.k (k:=ai (bH n)) hg,_,rfl,?_⟩;cases e:(w.groups.find? λg=>decide (g.1=n)).map (λg=>g.2)with
 |some m=>
  rw[e]at gv;obtain⟨a,v1,v2,v3,v4⟩:=gv;have hp:dw w n=m:=by unfold dw Bp;rw[e]
  rw[v1];refine bq ⟨_,rfl,b,c.CB,dx,_,_,rfl,hb,G.eV,G.iC,nJ,_,rfl,gd,_,rfl,?_,a,_,rfl,.inl (bf.of v4),λp hp'=>k p _ hp' (by rw[aC,hp]) (aCb hp')⟩
  have:=rj.k (k:=ai (bH n)) hg
  rw[v1]at this;exact this
 |none=>
  rw[e]at gv;rw[gv];have hp:dw w n=w.people.filter λp=>decide (p=n):=by unfold dw Bp;rw[e]
  refine bW ⟨_,rfl,b,c.CB,dx,_,_,rfl,hb,G.eV,G.f9,kH,pl,rfl,⟨_,bf.of B.oG⟩,λD hD=>?_⟩;refine jb (zs:=w.people) (f:=λp=>if p=n then some (vS p)else none) hD (by omega) (λi H' hi s1=>⟨_,_,bf.of (s1 _ _ B.oG),by rw[aP,aX hi];rfl⟩) (λH' s1=>⟨_,bf.of (s1 _ _ B.oG),by rw[aB];exact a9 _⟩) ?_ ?_
  ·rintro i z H2 x H3 Zy Zn hz s2 ⟨rfl,hx⟩ k1 k2;have hx:=hx _ (bf.of (s2 _ _ B.oG));rw[aP,hz]at hx;have e:x=vS z:=(aV hx).symm;subst e;refine⟨rfl,_,rfl,_,rfl,rfl,_,rfl,?_⟩;by_cases q:z=n
   ·exact aDx (show vS z=V.str (bH n)by rw[q]) ⟨_,rfl,k1 _ _ (by rw[iP q]) λ_ _ h=>h⟩
   ·exact aDw (show ¬vS z=V.str (bH n)from λh=>q (mC.mp h)) (k2 _ (by rw[iN q]) λ_ _ h=>h)
  ·intro H2 e2 s2;refine k D _ hD ?_ s2;rw[e2,hp];congr 2;rw[<-lX,lY];congr 1;funext p;by_cases q:p=n <;> simp[q]
end
end Rv
namespace Rv
open Vamrqe (Who R andThen)
open Mt (PT)
def pL{A:Type}(c:Cn)(E:XK)(M:List aF)(H:Hp)(i:Int)(r:R A)(k:A->Prop):Prop:=match r with
 |.ok x=>k x
 |.error e=>Rz c E M H (-e) i
section
variable{c:Cn}{F:aF->Prop}{E:XK}{M M':List aF}{H H1 H':Hp}{A B:Type}{b sl pl gd:aF}{l:b6}{w:Who}
theorem pL.to(h:pL c E M H i r k)(kp:Kp M H H1)(sub:∀b∈M',b∈M)(hk:∀x,r=.ok x->k x->k' x):pL c E M' H1 i r k':=by
 cases r with
 |ok x=>exact hk x rfl h
 |error e=>exact(Rz.step h kp).less sub
theorem pL.then(h:pL c E M H i (andThen r f) k):pL c E M H i r λx=>pL c E M H i (f x) k:=by
 cases r with
 |ok x=>exact h
 |error e=>exact h
theorem vQ.same(h:vQ c F H a l)(s:bA H H'):vQ c F H' a l:=by obtain⟨as,h1,h2⟩:=h;exact⟨as,s _ _ h1,h2.mono λ_ _ z=>z.same s⟩
theorem Om.same(h:Om H sl pl kv g)(s:bA H H'):Om H' sl pl kv g:=by obtain⟨h1,a,h2,h3,h4,h5⟩:=h;exact⟨h1,a,h2,h3,h4,s _ _ h5⟩
theorem fL.same(B:fL c F H b sl pl gd l w)(s:bA H H'):fL c F H' b sl pl gd l w:=by obtain⟨dx,hb⟩:=B.ins;obtain⟨kvs,hg,al⟩:=B.GP;exact⟨⟨dx,s _ _ hb⟩,B.ET.same s,s _ _ B.oG,⟨kvs,s _ _ hg,al.mono λ_ _ z=>z.same s⟩,B.sp,B.fs,B.fp,B.df⟩
inductive ZG(c:Cn)(vs:List V)(H:Hp)(Q:VK)(E_:XK):Prop
 |mk:∀a dx,vs=[.ref a]->H a=some (.ins c.CB dx [])->(∀sl pl gd H',H sl=none->H pl=none->H gd=none->sl≠pl->H' a=some (.ins c.CB dx (WJ sl pl gd))->H' sl=some (.lst [])->H' pl=some (.lst [])->H' gd=some (.dK [])->Kp [a] H H'->Q .fB H')->ZG c vs H Q E_
theorem Hq(G:aCe c):Bb c "Book" c.CB 2 ["self"] (ZG c):=by
 refine G.Q9.gG (N:=["self"]) (k:=0) (λH vs Q E nd hr h=>?_);obtain⟨a,dx,rfl,ha,k⟩:=h;refine⟨_,aD (d8 (pv 0) (cp aH) rfl) (aD (d8 (pv 0) (cp aH) rfl) (aL (d8 (pv 0) qH rfl))),?_⟩;refine⟨bR _,λsl hs=>?_⟩;have n1:a≠sl:=aK ha hs;refine⟨_,rfl,a,c.CB,dx,_,rfl,by rw[aJ n1];exact ha,G.eV,G.dH,by show 0<1000;decide,?_⟩;rw[dW];refine⟨bR _,λpl hp=>?_⟩;have n2:a≠pl:=aK aC hp;refine⟨_,rfl,a,c.CB,dx,_,rfl,by rw[aJ n2,aC],G.eV,G.f9,by show 1<1000;decide,?_⟩;rw[bz (show ¬("statements":Str)="people" by trivial),dW];intro gd hg;have n3:a≠gd:=aK aC hg;refine⟨_,rfl,a,c.CB,dx,_,rfl,by rw[aJ n3,aC],G.eV,G.iC,by show 2<1000;decide,?_⟩;rw[bz (show ¬("statements":Str)="groups" by trivial),bz (show ¬("people":Str)="groups" by trivial),dW];rw[aJ n2.symm]at hp;have n4:sl≠pl:=by intro z;subst z;rw[aC]at hp;cases hp
 rw[aJ n4.symm]at hp;rw[aJ n3.symm]at hg;have n5:pl≠gd:=by intro z;subst z;rw[aC]at hg;cases hg
 rw[aJ n5.symm,aJ n3.symm]at hg;have n6:sl≠gd:=by intro z;subst z;rw[aC]at hg;cases hg
 rw[aJ n6.symm]at hg;refine k sl pl gd _ hs hp hg n4 aC ?_ ?_ ?_ λx o e nb=>?_
 ·rw[aJ n1.symm,aJ n6,aJ n1.symm,aJ n4,aJ n1.symm,aC]
 ·rw[aJ n2.symm,aJ n5,aJ n2.symm,aC]
 ·rw[aJ n3.symm,aC]
 ·have ba:x≠a:=by simpa using nb
  rw[aJ ba,aJ (aK e hg),aJ ba,aJ (aK e hp),aJ ba,aJ (aK e hs)];exact e
theorem PF(nx:H x=none)(nd:H dx=none)(k:∀sl pl gd H',H sl=none->H pl=none->H gd=none->fL c (λz=>H' z=none) H' x sl pl gd [] l7->bA H H'->W .fB H'):
  ZG c [.ref x] (aCc (aCc H dx (.own x)) x (.ins c.CB dx [])) W E:=by
 have back:∀{b:aF},(aCc (aCc H dx (.own x)) x (.ins c.CB dx [])) b=none->H b=none:=λ{b} z=>by
  by_cases q:b=x
  ·subst q;exact nx
  ·rw[aJ q]at z;by_cases q2:b=dx
   ·subst q2;exact nd
   ·rw[aJ q2]at z;exact z
 refine⟨x,dx,rfl,aC,λsl pl gd H' h1 h2 h3 h4 h5 h6 h7 h8 kp=>k sl pl gd H' (back h1) (back h2) (back h3) ⟨⟨dx,h5⟩,⟨[],h6,.nil⟩,h7,⟨[],h8,.nil⟩,h4,?_,?_,rfl⟩ λb o q=>kp b o (by rw[aJ (aK q nx),aJ (aK q nd)];exact q) (by simp[aK q nx])⟩
 ·rw[h6];simp
 ·rw[h7];simp
inductive Uk(c:Cn)(vs:List V)(H:Hp)(Q:VK)(E:XK):Prop
 |mk:∀b sl pl gd l w n F (i:Int),vs=[.ref b,.str (bH n),.int i]->fL c F H b sl pl gd l w->eZ w->((if w.had n=true then ∀H',bA H H'->Q .fB H' else Rz c E [] H 6 i))->Uk c vs H Q E
theorem k8(G:aCe c):i7 c "require_known" 4 ["book","name","number"] (Uk c):=by
 refine G.rR.gG (N:=["book","name","number"]) (k:=3) (λH vs Q E nd hr h=>?_);obtain⟨b,sl,pl,gd,l,w,n,F,i,rfl,B,ok,k⟩:=h;refine⟨_,aL (cf (uR (ck (cg (iD G) G.eV (pv 0) hr ae (aA (pv 1) aH)) (λ_=>rfl))) (aL (pD G.kM hr (aA (pv 2) aH))) b8),?_⟩;obtain⟨dx,hb⟩:=B.ins;refine⟨_,rfl,b,dx,_,rfl,hb,wR (by trivial) (by trivial) (by trivial),_,rfl,b,sl,pl,gd,l,w,n,F,rfl,B,ok.pl,λa H1 ha h1 s1=>⟨_,.inl ⟨_,bf.of h1,rfl⟩,?_⟩⟩;have e:=(qm ok n).2;by_cases q:w.had n=true
 ·rw[iP q]at k
  have:(!((dw w n).map vS).isEmpty)=true:=by
   have:=e.mpr q
   cases hx:dw w n with
   |nil=>exact absurd hx this
   |cons _ _=>rfl
  rw[this];exact bW (k _ s1)
 ·rw[iN q]at k
  have:(!((dw w n).map vS).isEmpty)=false:=by
   cases hx:dw w n with
   |nil=>rfl
   |cons _ _=>exact absurd (e.mp (by rw[hx];simp)) q
  rw[this];exact bq ⟨_,rfl,by simp,6,i,⟨rfl,rfl⟩,k.step (bA.kp s1)⟩
inductive XE(c:Cn)(vs:List V)(H:Hp)(Q:VK)(E:XK):Prop
 |mk:∀b sl pl gd l w n F (i:Int),vs=[.ref b,.str (bH n),.int i]->fL c F H b sl pl gd l w->eZ w->((if w.had n=true then Rz c E [] H 7 i else ∀H',bA H H'->Q .fB H'))->XE c vs H Q E
theorem p7(G:aCe c):i7 c "require_free" 4 ["book","name","number"] (XE c):=by
 refine G.tp.gG (N:=["book","name","number"]) (k:=3) (λH vs Q E nd hr h=>?_);obtain⟨b,sl,pl,gd,l,w,n,F,i,rfl,B,ok,k⟩:=h;refine⟨_,aL (cf (ck (cg (iD G) G.eV (pv 0) hr ae (aA (pv 1) aH)) (λ_=>rfl)) (aL (pD G.EX hr (aA (pv 2) aH))) b8),?_⟩;obtain⟨dx,hb⟩:=B.ins;refine⟨_,rfl,b,dx,_,rfl,hb,wR (by trivial) (by trivial) (by trivial),_,rfl,b,sl,pl,gd,l,w,n,F,rfl,B,ok.pl,λa H1 ha h1 s1=>⟨_,.inl ⟨_,bf.of h1,rfl⟩,?_⟩⟩;have e:=(qm ok n).2;by_cases q:w.had n=true
 ·rw[iP q]at k
  have:(!((dw w n).map vS).isEmpty)=true:=by
   have:=e.mpr q
   cases hx:dw w n with
   |nil=>exact absurd hx this
   |cons _ _=>rfl
  rw[this];exact bq ⟨_,rfl,by simp,7,i,⟨rfl,rfl⟩,k.step (bA.kp s1)⟩
 ·rw[iN q]at k
  have:(!((dw w n).map vS).isEmpty)=false:=by
   cases hx:dw w n with
   |nil=>rfl
   |cons _ _=>exact absurd (e.mp (by rw[hx];simp)) q
  rw[this];exact bW (k _ s1)
theorem NW(B:fL c F H b sl pl gd l w)(n:aM)(hg:H gd=some (.dK kvs)):(gU kvs (ai (bH n))).isSome=(w.group n).isSome:=by
 obtain⟨kvs',hg',al⟩:=B.GP;rw[hg]at hg';injection hg' with hg';injection hg' with hg';subst hg';have gv:=K0 al n;unfold Bp;cases e:(w.groups.find? λg=>decide (g.1=n)).map (λg=>g.2)with
 |none=>rw[e]at gv;rw[gv];rfl
 |some m=>rw[e]at gv;obtain⟨a,v1,_⟩:=gv;rw[v1];rfl
inductive JK(c:Cn)(vs:List V)(H:Hp)(Q:VK)(E:XK):Prop
 |mk:∀b sl pl gd l w a k n F (i:Int),vs=[.ref b,.ref a,.int i]->fL c F H b sl pl gd l w->eZ w->xU c H a (.some_ k n)->((match w.group n with
 |none=>Rz c E [] H 8 i
 |some m=>if m.length<k then Rz c E [] H 8 i else ∀H',bA H H'->Q .fB H'))->JK c vs H Q E
theorem wV(G:aCe c):i7 c "require_enough" 4 ["book","part","number"] (JK c):=by
 refine G.pz.gG (N:=["book","part","number"]) (k:=3) (λH vs Q E nd hr h=>?_);obtain⟨b,sl,pl,gd,l,w,a,kk,n,F,i,rfl,B,ok,⟨dp,p1,p2⟩,k⟩:=h;refine⟨_,aL (cf (FT (zf (FK (lh hr) (ag (pv 1) rfl) (ag (pv 0) rfl))) (zg (bU Cz (cF dC (by rfl) G.gR bP (aA (cg (iD G) G.eV (pv 0) hr ae (aA (ag (pv 1) rfl) aH)) aH)) (ag (pv 1) rfl) (bt _)))).pt (aL (pD G.BO hr (aA (pv 2) aH))) b8),?_⟩;obtain⟨dx,hb⟩:=B.ins;obtain⟨kvs,hg,al⟩:=B.GP;refine⟨_,rfl,a,c.CP,dp,_,_,rfl,p1,G.eW,G.fk,kf,_,rfl,b,c.CB,dx,_,_,rfl,hb,G.eV,G.iC,nJ,gd,_,rfl,rj.k (k:=ai (bH n)) hg,_,rfl,?_⟩;rw[NW B n hg];cases e:w.group n with
 |none=>rw[e]at k;exact bq (bq ⟨_,rfl,by simp,8,i,⟨rfl,rfl⟩,k⟩)
 |some m=>
  rw[e]at k;dsimp only at k;have hp:dw w n=m:=by unfold dw;rw[e]
  refine bW ⟨_,rfl,b,dx,_,rfl,hb,wR (by trivial) (by trivial) (by trivial),_,rfl,a,c.CP,dp,_,_,rfl,p1,G.eW,G.fk,kf,b,sl,pl,gd,l,w,n,F,rfl,B,ok.pl,λa2 H1 ha h1 s1=>?_⟩;refine⟨a2,_,rfl,.inl (bf.of h1),_,rfl,a,c.CP,dp,_,_,rfl,s1 _ _ p1,G.eW,G.jx,wx,_,_,rfl,rfl,_,rfl,?_⟩;rw[aB,hp];by_cases q:m.length<kk
  ·rw[iP q]at k;exact aDx (show(m.length:Int)<((V9 (PT.some_ kk n):Nat):Int)by show(m.length:Int)<((kk:Nat):Int);omega) ⟨_,rfl,by simp,8,i,⟨rfl,rfl⟩,k.step (bA.kp s1)⟩
  ·rw[iN q]at k;exact aDw (show ¬(m.length:Int)<((V9 (PT.some_ kk n):Nat):Int)by show ¬(m.length:Int)<((kk:Nat):Int);omega) (k _ s1)
end
end Rv
namespace Rv
open Mt (PT pN oP)
section
variable{c:Cn}
inductive Ud(c:Cn)(vs:List V)(H:Hp)(Q:VK)(E:XK):Prop
 |mk:∀b sl pl gd l w p ps F (i:Int),vs=[.ref b,.ref p,.int i]->fL c F H b sl pl gd l w->eZ w->fX c H p ps->(pL c E [] H i (pN w ps) λ_=>∀H',bA H H'->Q .fB H')->Ud c vs H Q E
theorem vC(G:aCe c):i7 c "check_condition" 5 ["book","condition","number"] (Ud c):=by
 refine G.om.gG (N:=["book","condition","number","part"]) (k:=4) (λH vs Q E nd hr h=>?_);obtain⟨b,sl,pl,gd,l,w,p,ps,F,i,rfl,B,ok,⟨as,hA,al⟩,k⟩:=h;refine⟨_,aL (fW jC rfl (dQ (pv 1)) (d7 (i:=3) nd) (aD (cf (bU mh (ag (pv 3) rfl) (b9 G.ow) rfl) (aL (ax (az (k8 G) hr ae (aA (pv 0) (aA (ag (pv 3) rfl) (aA (pv 2) aH)))))) b8) (aL (cf (bU eX (ag (pv 3) rfl) (b9 G.ug) (bt _)) (aL (ax (az (wV G) hr ae (aA (pv 0) (aA (pv 3) (aA (pv 2) aH)))))) b8)))),?_⟩;refine⟨_,rfl,p,rfl,⟨_,bf.of hA⟩,fH (xs:=as.map V.ref) (λj σ H'=>∃v:Option V,σ=[some (.ref b),some (.ref p),some (.int i),v]/\bA H H'/\pL c E [] H i (pN w (ps.drop j)) λ_=>∀H',bA H H'->Q .fB H') ⟨none,rfl,λ_ _ h=>h,k⟩ ?_ ?_ ?_⟩
 ·rintro j σ H' hj ⟨_,_,sm,_⟩;exact bf.of (sm _ _ hA)
 ·rintro j y σ H' hy ⟨v,rfl,sm,kk⟩;rw[aP]at hy;cases ha:as[j]? with
  |none=>rw[ha]at hy;cases hy
  |some a=>
   rw[ha]at hy;have e:y=V.ref a:=(aV hy).symm;subst e;obtain⟨pt,hpt,hP⟩:=al.at' ha;have hP':=hP.same sm;obtain⟨dx,o1,o2⟩:=hP';have hi:j<ps.length:=(a8.mp hpt).1;have hdr:ps.drop j=pt::ps.drop (j+1):=by rw[b3 hi,(a8.mp hpt).2]
   rw[hdr]at kk;have kk:=kk.then;refine⟨_,rfl,a,c.CP,dx,_,_,rfl,o1,G.eW,G.dP,gJ,c.JO,_,rfl,.inr (G.pI H'),rfl,rfl,_,rfl,?_⟩;rw[show(if true=true then !vw (V.str (ze pt)) [.str "and",.str "or"]else vw (V.str (ze pt)) [.str "and",.str "or"])=!jV pt from by rw[IW];rfl];have plain:∀H2,bA H H2->¬ze pt="some of"->pL c E [] H i (pN w (ps.drop (j+1))) (λ_=>∀H',bA H H'->Q .fB H')->
     ZM (Vh (Mb Xu (S8 c.K (g9 3) "kind") (tC (.str "some of")))) (Ah (OJ (JK c) E (gT (g9 0) (gT (g9 3) (gT (g9 2) oA))))) S9 {nx:=λσ H'=>∃v:Option V,σ=[some (.ref b),some (.ref p),some (.int i),v]/\bA H H'/\pL c E [] H i (pN w (ps.drop (j+1))) λ_=>∀H',bA H H'->Q .fB H',rt:=Q,ct:=λσ H'=>∃v:Option V,σ=[some (.ref b),some (.ref p),some (.int i),v]/\bA H H'/\pL c E [] H i (pN w (ps.drop (j+1))) λ_=>∀H',bA H H'->Q .fB H',bk:=λσ H'=>Q .fB H'} [some (.ref b),some (.ref p),some (.int i),some (.ref a)] H2:=by
    intro H2 s2 hno kk2;obtain⟨dx2,o1',_⟩:=hP.same s2;refine⟨_,rfl,a,c.CP,dx2,_,_,rfl,o1',G.eW,G.dP,gJ,rfl,_,rfl,?_⟩;exact aDw (show ¬V.str (ze pt)=V.str "some of" from λz=>by injection z with z;exact hno z) ⟨_,rfl,s2,kk2⟩
   cases pt with
   |and=>exact bW (plain H' sm (by show ¬("and":Str)="some of";decide+kernel) kk)
   |or=>exact bW (plain H' sm (by show ¬("or":Str)="some of";decide+kernel) kk)
   |by_ n=>
    refine bq ⟨_,rfl,_,rfl,a,c.CP,dx,_,_,rfl,o1,G.eW,G.fk,kf,_,rfl,b,sl,pl,gd,l,w,n,F,i,rfl,B.same sm,ok,?_⟩;by_cases q:w.had n=true
    ·rw[iP q];unfold oP at kk;dsimp only at kk;rw[iP q]at kk;exact λH2 s2=>plain H2 (λb o z=>s2 _ _ (sm _ _ z)) (by show ¬("name":Str)="some of";decide+kernel) kk
    ·rw[iN q];unfold oP at kk;dsimp only at kk;rw[iN q]at kk;exact Rz.step kk (bA.kp sm)
   |author n=>
    refine bq ⟨_,rfl,_,rfl,a,c.CP,dx,_,_,rfl,o1,G.eW,G.fk,kf,_,rfl,b,sl,pl,gd,l,w,n,F,i,rfl,B.same sm,ok,?_⟩;by_cases q:w.had n=true
    ·rw[iP q];unfold oP at kk;dsimp only at kk;rw[iP q]at kk;exact λH2 s2=>plain H2 (λb o z=>s2 _ _ (sm _ _ z)) (by show ¬("author":Str)="some of";decide+kernel) kk
    ·rw[iN q];unfold oP at kk;dsimp only at kk;rw[iN q]at kk;exact Rz.step kk (bA.kp sm)
   |some_ m n=>
    refine bq ⟨_,rfl,_,rfl,a,c.CP,dx,_,_,rfl,o1,G.eW,G.fk,kf,_,rfl,b,sl,pl,gd,l,w,n,F,i,rfl,B.same sm,ok,?_⟩;by_cases q:w.had n=true
    ·rw[iP q];unfold oP at kk;dsimp only at kk;rw[iN (by rw[q];simp)]at kk;intro H2 s2;have sm2:bA H H2:=λb o z=>s2 _ _ (sm _ _ z);obtain⟨dx2,o1',o2'⟩:=hP.same sm2;refine⟨_,rfl,a,c.CP,dx2,_,_,rfl,o1',G.eW,G.dP,gJ,rfl,_,rfl,?_⟩;refine aDx (show V.str (ze (PT.some_ m n))=V.str "some of" from rfl) ⟨_,rfl,_,rfl,_,rfl,b,sl,pl,gd,l,w,a,m,n,F,i,rfl,B.same sm2,ok,⟨dx2,o1',o2'⟩,?_⟩;cases eg:w.group n with
     |none=>rw[eg]at kk;exact Rz.step kk (bA.kp sm2)
     |some mm=>
      rw[eg]at kk;dsimp only at kk ⊢;by_cases q2:mm.length<m
      ·rw[iP q2]at kk ⊢;exact Rz.step kk (bA.kp sm2)
      ·rw[iN q2]at kk ⊢;exact λH3 s3=>⟨_,rfl,λb o z=>s3 _ _ (sm2 _ _ z),kk⟩
    ·rw[iN q];unfold oP at kk;dsimp only at kk;rw[iP (bT.mpr q)]at kk;exact Rz.step kk (bA.kp sm)
 ·rintro σ H' ⟨v,rfl,sm,kk⟩;rw[aB,al.len,fD]at kk;exact kk H' sm
inductive SJ(c:Cn)(vs:List V)(H:Hp)(Q:VK)(E:XK):Prop
 |mk:∀b sl pl gd l w a s F F' (i:Int),vs=[.ref b,.ref a,.int i]->fL c F H b sl pl gd l w->iB c F' H a s->l.length<=24->((if(iW s&&w.default_)=true then Rz c E [] H 10 i else ∀H',bA H H'->Q .fB H'))->SJ c vs H Q E
theorem Gn(s:bX):decide (V.str (aCn s)=V.str "default")=iW s:=by
 cases s with
 |default_ x=>exact dE rfl
 |person l=>exact dF (by show ¬V.str "person"=V.str "default";decide+kernel)
 |group n l=>exact dF (by show ¬V.str "group"=V.str "default";decide+kernel)
 |need p x=>exact dF (by show ¬V.str "need"=V.str "default";decide+kernel)
 |veto p n=>exact dF (by show ¬V.str "veto"=V.str "default";decide+kernel)
 |sticky p=>exact dF (by show ¬V.str "sticky"=V.str "default";decide+kernel)
theorem p9(G:aCe c):i7 c "require_one_default" 4 ["book","statement","number"] (SJ c):=by
 refine G.lE.gG (N:=["book","statement","number","earlier"]) (k:=3) (λH vs Q E nd hr h=>?_);obtain⟨b,sl,pl,gd,l,w,a,st,F,F',i,rfl,B,⟨dx,nm,na,pat,cd,o1,_⟩,hl,k⟩:=h;refine⟨_,aL (cf (uS (bU eX (ag (pv 1) rfl) (b9 G.qD) (bt _)) (pF (ck (cF (Hn rfl) (by rfl) G.Oz PM (aA (ni (own:=[("earlier",3)]) rfl nd (dQ (ag (pv 0) rfl)) (fo (by kernel_rfl)) (λ_ _ _ _ _=>d7 (i:=3) nd) (λ_ _ _ _ _=>kg) (λ_ _ _ _ _=>iR eX (ya (K:=c.K) rfl (pv 3) rfl) (b9 G.qD) (bt _))) aH)) (λ_=>rfl)))).pt (aL (pD G.BN hr (aA (pv 2) aH))) b8),?_⟩;refine⟨_,rfl,a,c.CS,dx,_,_,rfl,o1,G.aZ,G.ah,cY,rfl,_,rfl,?_⟩;rw[Gn];cases q:iW st with
 |false=>rw[q,dg,iN (by simp)]at k;exact bW (bW (k _ λ_ _ h=>h))
 |true=>
  rw[q,gZ,B.df]at k;obtain⟨db,hb⟩:=B.ins;obtain⟨as,hA,al⟩:=B.ET;have hlen:=al.len;refine bq ⟨_,rfl,b,c.CB,db,_,_,rfl,hb,G.eV,G.dH,fG,sl,rfl,⟨_,bf.of hA⟩,λD hD=>?_⟩;refine jb (zs:=l) (f:=λs=>some (.bl (iW s))) hD (by omega) (λi H' hi s1=>?_) (λH' s1=>⟨_,bf.of (s1 _ _ hA),by rw[aB];omega⟩) ?_ ?_
  ·obtain⟨x,hx,_⟩:=al.at_ (aX hi);exact⟨_,_,bf.of (s1 _ _ hA),by rw[aP,hx];rfl⟩
  ·rintro j z H2 x H3 Zy Zn hz s2 ⟨rfl,hx⟩ k1 k2;have hx:=hx _ (bf.of (s2 _ _ hA));obtain⟨y,hy,hst⟩:=al.at_ hz;rw[aP,hy]at hx;have e:x=V.ref y:=(aV hx).symm;subst e;obtain⟨dx2,nm2,na2,pat2,cd2,o2,_⟩:=hst.same s2;refine⟨rfl,_,rfl,y,c.CS,dx2,_,_,rfl,o2,G.aZ,G.ah,cY,rfl,?_⟩;rw[Gn];exact k1 _ _ rfl λ_ _ h=>h
  ·intro H2 e s2;refine⟨D,l.map iW,rfl,bf.of (by rw[e,bN];simp),_,rfl,?_⟩;rw[jD,show(id∘iW)=iW from rfl];cases q2:l.any iW with
   |true=>rw[q2,iP rfl]at k;exact bq ⟨_,rfl,by simp,10,i,⟨rfl,rfl⟩,k.step (bA.kp s2)⟩
   |false=>rw[q2,iN (by simp)]at k;exact bW (k _ s2)
end
end Rv
namespace Rv
open Vamrqe (Who)
theorem zT{w:Who}{n:aM}(h:¬w.had n=true):n∉w.people/\∀g∈w.groups,g.1≠n:=by
 unfold Ea Who.of at h;by_cases q:w.people.contains n=true
 ·rw[iP q]at h;exact absurd rfl h
 ·rw[iN q]at h;refine⟨by simpa using q,λg hg z=>?_⟩
  have:(w.groups.find? λg=>decide (g.1=n))≠none:=by rw[Ne,o6];intro z2;exact z2 g hg (by simpa using z)
  cases e:w.groups.find? (λg=>decide (g.1=n))with
  |none=>exact this e
  |some y=>rw[e]at h;exact h rfl
theorem eZ.more{w:Who}(ok:eZ w){n:aM}(h:¬w.had n=true)(h8:w.people.length<8)(hn:n.length<=12):eZ ⟨w.people++[n],w.groups,w.default_⟩:=by
 obtain⟨h1,h2⟩:=zT h;refine⟨?_,by simp;omega,ok.gl,λg hg=>?_,λg hg=>⟨(ok.gm g hg).1,λm hm=>vO _ ((ok.gm g hg).2.1 m hm),(ok.gm g hg).2.2⟩,ok.gn,λm hm=>?_,ok.gs⟩
 ·rw[lC];refine⟨ok.pn,by simp,λa ha b hb=>?_⟩;rw[aQ.mp hb];intro z;exact h1 (z▸ha)
 ·intro z;rcases bZ.mp z with z|z
  ·exact ok.dj g hg z
  ·exact h2 g hg (aQ.mp z)
 ·rcases bZ.mp hm with z|z
  ·exact ok.sh m z
  ·rw[aQ.mp z];exact hn
section
variable{c:Cn}{F:aF->Prop}{M:List aF}{H H':Hp}{b sl pl gd:aF}{l:b6}{w:Who}
def YK(M:List aF)(H:Hp):Prop:=∀b∈M,(∀xs,H b≠some (.lst xs))/\∀C d fs,H b=some (.ins C d fs)->fs.head?.map (·.1)≠some ("kind":Str)
theorem iB.Wh(h:iB c F H a s)(k:Kp M H H')(n:YK M H):iB c F H' a s:=by obtain⟨dx,nm,na,pat,cd,h1,h2,h3,h4⟩:=h;have hi:∀a C d fs,H a=some (.ins C d fs)->fs.head?.map (·.1)=some ("kind":Str)->a∉M:=λa C d fs e f z=>(n a z).2 C d fs e f;exact⟨dx,nm,na,pat,cd,k _ _ h1 (hi _ _ _ _ h1 rfl),h2,h3,h4.move k hi (λl e _ z=>(n _ z).1 _ e) λps ⟨as,e,_⟩ z=>(n _ z).1 _ e⟩
theorem fL.aBh(B:fL c F H b sl pl gd l w):fL c F (aCc H pl (.lst (w.people.map vS++[vS n]))) b sl pl gd l ⟨w.people++[n],w.groups,w.default_⟩:=by
 obtain⟨dx,hb⟩:=B.ins;obtain⟨kvs,hg,al⟩:=B.GP;obtain⟨as,hs,al2⟩:=B.ET;have ap:Ap [pl] F H:=Ap.cons B.fp (λC d fs e=>by rw[B.oG]at e;cases e) Bq;have kp:Kp [pl] H (aCc H pl (.lst (w.people.map vS++[vS n]))):=Kp.put (by simp);refine⟨⟨dx,?_⟩,⟨as,?_,al2.mono λ_ _ z=>z.ap kp ap⟩,?_,⟨kvs,?_,al.mono λkv g z=>?_⟩,B.sp,B.fs,B.fp,B.df⟩
 ·rw[aJ (cR hb B.oG nofun)];exact hb
 ·rw[aJ B.sp];exact hs
 ·rw[aC,aw];rfl
 ·rw[aJ (cR hg B.oG nofun)];exact hg
 ·obtain⟨z1,a,z2,z3,z4,z5⟩:=z;exact⟨z1,a,z2,z3,z4,by rw[aJ z4];exact z5⟩
inductive SD(c:Cn)(vs:List V)(H:Hp)(Q:VK)(E:XK):Prop
 |mk:∀b sl pl gd l w a ns F (i:Int),vs=[.ref b,.ref a,.int i]->fL c F H b sl pl gd l w->eZ w->iB c F H a (.person ns)->(pL c E [pl] H i (qT ns w) λw'=>∀H',fL c F H' b sl pl gd l w'->eZ w'->w'.default_=w.default_->Kp [pl] H H'->Q .fB H')->SD c vs H Q E
theorem zK(G:aCe c):i7 c "enter_people" 5 ["book","statement","number"] (SD c):=by
 refine G.t5.gG (N:=["book","statement","number","name"]) (k:=4) (λH vs Q E nd hr h=>?_);obtain⟨b,sl,pl,gd,l,w,a,ns,F,i,rfl,B,ok,⟨dx,nm,na,pat,cd,o1,f1,f2,nm1,nok,_⟩,k⟩:=h;have nm1:H na=some (.lst (ns.map vS)):=nm1;refine⟨_,aL (fW jC rfl (dQ (ag (pv 1) rfl)) (d7 (i:=3) nd) (aD (ax (az (p7 G) hr ae (aA (pv 0) (aA (pv 3) (aA (pv 2) aH))))) (aD (cf (bU eX (cF dC (by rfl) G.gR bP (aA (ag (pv 0) rfl) aH)) (b9 G.vo) (bt _)) (aL (pD G.rC hr (aA (pv 2) aH))) b8) (aL (ax (fZ aR ak ao dU (ag (pv 0) rfl) (aA (pv 3) aH))))))),?_⟩;have npl:na∉[pl]:=by simp only[aQ];intro z;exact B.fp (z▸f1)
 refine⟨_,rfl,a,c.CS,dx,_,_,rfl,o1,G.aZ,G.eJ,uq,na,rfl,⟨_,bf.of nm1⟩,fH (xs:=ns.map vS) (λj σ H'=>∃(v:Option V)(wj:Who),σ=[some (.ref b),some (.ref a),some (.int i),v]/\Kp [pl] H H'/\fL c F H' b sl pl gd l wj/\eZ wj/\wj.default_=w.default_/\pL c E [pl] H i (qT (ns.drop j) wj) λw'=>∀H',fL c F H' b sl pl gd l w'->eZ w'->w'.default_=w.default_->Kp [pl] H H'->Q .fB H') ⟨none,w,rfl,Kp.refl _ _,B,ok,rfl,k⟩ ?_ ?_ ?_⟩
 ·rintro j σ H' hj ⟨_,_,_,kp,_⟩;exact bf.of (kp _ _ nm1 npl)
 ·rintro j y σ H' hy ⟨v,wj,rfl,kp,Bj,okj,dj,kk⟩;rw[aP]at hy;cases hn:ns[j]? with
  |none=>rw[hn]at hy;cases hy
  |some n=>
   rw[hn]at hy;have e:y=vS n:=(aV hy).symm;subst e;have hi:j<ns.length:=(a8.mp hn).1;have hdr:ns.drop j=n::ns.drop (j+1):=by rw[b3 hi,(a8.mp hn).2]
   rw[hdr,qT]at kk;refine⟨_,rfl,_,rfl,_,rfl,b,sl,pl,gd,l,wj,n,F,i,rfl,Bj,okj,?_⟩;by_cases q:wj.had n=true
   ·rw[iP q]at kk ⊢;exact(Rz.step kk kp).less (by simp)
   ·rw[iN q]at kk ⊢;intro H2 s2;have B2:=Bj.same s2;obtain⟨db,hb⟩:=B2.ins;refine⟨_,rfl,b,c.CB,db,_,_,rfl,hb,G.eV,G.f9,kH,pl,_,rfl,.inl (bf.of B2.oG),rfl,_,rfl,?_⟩;rw[aB];have h8:=okj.pl;by_cases q8:wj.people.length=8
    ·rw[dE (show V.int (wj.people.length:Int)=V.int 8 by rw[q8];rfl)];rw[iP (show Tj<=wj.people.length by show 8<=_;omega)]at kk;exact bq ⟨_,rfl,by simp,9,i,⟨rfl,rfl⟩,((Rz.step kk kp).less (by simp)).step (bA.kp s2)⟩
    ·rw[dF (show ¬V.int (wj.people.length:Int)=V.int 8 by intro z;injection z with z;omega)];rw[iN (show ¬Tj<=wj.people.length by show ¬8<=_;omega)]at kk;refine bW ⟨_,rfl,b,c.CB,db,_,_,rfl,hb,G.eV,G.f9,kH,.inl ⟨rfl,_,bf.of B2.oG⟩,_,rfl,pl,_,_,rfl,rfl,B2.oG,by rw[aB];exact pG (by omega),?_⟩;exact⟨_,_,rfl,(kp.trans (bA.kp s2)).trans (Kp.put (by simp)),B2.aBh,okj.more q (by omega) (nok.sh n (bp hn)),dj,kk⟩
 ·rintro σ H' ⟨v,wj,rfl,kp,Bj,okj,dj,kk⟩;rw[aB,fD]at kk;exact kk H' Bj okj dj kp
end
end Rv
namespace Rv
open Vamrqe (Who andThen)
theorem uh(p:aM)(l:List aM):vw (vS p) (l.map vS)=l.contains p:=by unfold vw;rw[jD,HC];congr 1;funext x;show(bH x==bH p)=(p==x);rw[b7,beq_iff_eq,beq_iff_eq];exact⟨λz=>(ki z).symm,λz=>by rw[z]⟩
theorem qf(l:List aM):(l.map vS).all lF=true:=by rw[gW,dZ];intro x _;rfl
theorem Ai(ok:eZ w):∀{ns:List aM}{m:List aM},ie w ns=.ok m->(∀n∈m,n∈w.people)/\(ns≠[]->m≠[])
 |[],m,h=>by injection h with h;subst h;exact⟨λn hn=>by simp at hn,λz=>absurd rfl z⟩
 |n::r,m,h=>by
  rw[ie]at h;cases e:w.of n with
  |none=>rw[e]at h;cases h
  |some x=>
   rw[e]at h;dsimp only at h;cases e2:ie w r with
   |error z=>rw[e2]at h;cases h
   |ok y=>
    rw[e2]at h;injection h with h;subst h;have h1:=qm ok n;rw[e]at h1;have hx:dw w n=x:=h1.1;have hne:x≠[]:=by rw[<-hx];exact h1.2.mpr (by unfold Ea;rw[e];rfl)
    refine⟨λa ha=>?_,λ_=>?_⟩
    ·rcases bZ.mp ha with z|z
     ·exact(yc ok n).1 a (hx▸z)
     ·exact(Ai ok e2).1 a z
    ·simp[hne]
theorem eZ.group(ok:eZ w)(h:¬w.had n=true)(h8:w.groups.length<8)(hn:n.length<=12)(hns:ns≠[])(hm:ie w ns=.ok m):
  eZ ⟨w.people,w.groups++[(n,w.people.filter λx=>m.contains x)],w.default_⟩:=by
 obtain⟨h1,h2⟩:=zT h;obtain⟨t1,t2⟩:=Ai ok hm;refine⟨ok.pn,ok.pl,by simp;omega,λg hg=>?_,λg hg=>?_,?_,ok.sh,λg hg=>?_⟩
 ·rcases bZ.mp hg with z|z
  ·exact ok.dj g z
  ·rw[aQ.mp z];exact h1
 ·rcases bZ.mp hg with z|z
  ·exact ok.gm g z
  ·rw[aQ.mp z];refine⟨?_,λx hx=>(dh.mp hx).1,?_⟩
   ·obtain⟨a,ha⟩:∃a,a∈m:=by
     cases hm':m with
     |nil=>exact absurd hm' (t2 hns)
     |cons a _=>exact⟨a,by simp⟩
    intro z2
    have:a∈w.people.filter λx=>m.contains x:=dh.mpr ⟨t1 a ha,by simpa using ha⟩
    have z2:(w.people.filter λx=>m.contains x)=[]:=z2;rw[z2]at this;simp at this
   ·have:=cP (λx=>m.contains x) w.people
    have:=ok.pl
    show(w.people.filter λx=>m.contains x).length<=8;omega
 ·rw[aw,lC];refine⟨ok.gn,by simp,λa ha b hb=>?_⟩;obtain⟨g,hg,rfl⟩:=iJ.mp ha;rw[aQ.mp hb];exact h2 g hg
 ·rcases bZ.mp hg with z|z
  ·exact ok.gs g z
  ·rw[aQ.mp z];exact⟨hn,ok.pn.filter _⟩
section
variable{c:Cn}{F:aF->Prop}{M:List aF}{H H':Hp}{b sl pl gd:aF}{l:b6}{w:Who}
theorem fL.aA8{n:aM}(B:fL c F H b sl pl gd l w)(hg:H gd=some (.dK kvs))(ha:H ga=some (.lst (ms.map vS)))(h1:ga≠sl)(h2:ga≠pl):
  fL c F (aCc H gd (.dK (kvs++[(ai (bH n),.ref ga)]))) b sl pl gd l ⟨w.people,w.groups++[(n,ms)],w.default_⟩:=by
 obtain⟨dx,hb⟩:=B.ins;obtain⟨kvs',hg',al⟩:=B.GP;rw[hg]at hg';injection hg' with hg';injection hg' with hg';subst hg';obtain⟨as,hs,al2⟩:=B.ET;have Wh:YK [gd] H:=λx hx=>by rw[aQ.mp hx,hg];exact⟨(λxs z=>by cases z),(λC d fs z=>by cases z)⟩
 have kp:Kp [gd] H (aCc H gd (.dK (kvs++[(ai (bH n),.ref ga)]))):=Kp.put (by simp);refine⟨⟨dx,?_⟩,⟨as,?_,al2.mono λ_ _ z=>z.Wh kp Wh⟩,?_,⟨_,aC,Al.app (al.mono λkv g z=>?_) (Al.one ⟨rfl,ga,rfl,h1,h2,?_⟩)⟩,B.sp,B.fs,B.fp,B.df⟩
 ·rw[aJ (cR hb hg nofun)];exact hb
 ·rw[aJ (cR hs hg nofun)];exact hs
 ·rw[aJ (cR B.oG hg nofun)];exact B.oG
 ·obtain⟨z1,a,z2,z3,z4,z5⟩:=z;exact⟨z1,a,z2,z3,z4,by rw[aJ (cR z5 hg nofun)];exact z5⟩
 ·rw[aJ (cR ha hg nofun)];exact ha
inductive SA(c:Cn)(vs:List V)(H:Hp)(Q:VK)(E:XK):Prop
 |mk:∀b sl pl gd l w a n ns F (i:Int),vs=[.ref b,.ref a,.int i]->fL c F H b sl pl gd l w->eZ w->iB c F H a (.group n ns)->(pL c E [gd] H i (HM w (.group n ns)) λw'=>∀H',fL c F H' b sl pl gd l w'->eZ w'->w'.default_=w.default_->Kp [gd] H H'->Q .fB H')->SA c vs H Q E
inductive aEc(c:Cn)(H:Hp)(Q:VK)(E:XK)(b:aF)(sl:aF)(pl:aF)(gd:aF)(l:b6)(w:Who)(a:aF)(ns:List aM)(F:aF->Prop)(i:Int)(nm:List Nat)(wi:aF)(j:Nat)(σ:L2.St)(H':Hp):Prop
 |mk:∀(v:Option V)(acc:List aM),σ=[some (.ref b),some (.ref a),some (.int i),some (.ref wi),v,none]->bA H H'->H' wi=some (.lst (acc.map vS))->acc.length<=8*j->(pL c E [gd] H i (ie w (ns.drop j)) (λy=>∀H',ie w ns=.ok (acc++y)->fL c F H' b sl pl gd l ⟨w.people,w.groups++[(nm,w.people.filter λx=>(acc++y).contains x)],w.default_⟩->Kp [gd] H H'->Q .fB H'))->((∀y,ie w (ns.drop j)=.ok y->ie w ns=.ok (acc++y)))->aEc c H Q E b sl pl gd l w a ns F i nm wi j σ H'
theorem BD(G:aCe c):i7 c "enter_group" 5 ["book","statement","number"] (SA c):=by
 refine G.vY.gG (N:=["book","statement","number","within","name","person"]) (k:=4) (λH vs Q E nd hr h=>?_);obtain⟨b,sl,pl,gd,l,w,a,n,ns,F,i,rfl,B,ok,hst,k⟩:=h;have hst':=hst;obtain⟨dx,nm,na,pat,cd,o1,f1,f2,rfl,n12,nm1,nok,_⟩:=hst';have nm1:H na=some (.lst (ns.map vS)):=nm1;refine⟨_,aD (ax (az (p7 G) hr ae (aA (pv 0) (aA (ag (pv 1) rfl) (aA (pv 2) aH))))) (aD (cf (bU eX (cF uc (by rfl) G.gR bP (aA (ag (pv 0) rfl) aH)) (b9 G.vk) (bt _)) (aL (pD G.rC hr (aA (pv 2) aH))) b8) (aD (G8 (i:=3) nd rfl (HF rfl) (cp aH)) (aD (fW jC rfl (dQ (ag (pv 1) rfl)) (d7 (i:=4) nd) (aD (ax (az (k8 G) hr ae (aA (pv 0) (aA (pv 4) (aA (pv 2) aH))))) (aL (ax (fZ aR cU cV iY (pv 3) (aA (cg (iD G) G.eV (pv 0) hr ae (aA (pv 4) aH)) aH)))))) (aL (qp (lh hr) (ag (pv 0) rfl) (ag (pv 1) rfl) (ni (own:=[("person",5)]) rfl nd (dQ (ag (pv 0) rfl)) (fo (by kernel_rfl)) (λ_ _ _ _ _=>d7 (i:=5) nd) (λ_ _ _ _ _=>uk (bU (RH (K:=c.K) rfl) (pv 5) (pv 3) rfl)) (λ_ _ _ _ _=>pv 5)) rfl))))),?_⟩;have kc:pL c E [gd] H i (if w.had nm=true then .error (-7)else if E9<=w.groups.length then .error (-9)else andThen (ie w ns) λm=>.ok ⟨w.people,w.groups++[(nm,w.people.filter λx=>m.contains x)],w.default_⟩) λw'=>∀H',fL c F H' b sl pl gd l w'->eZ w'->w'.default_=w.default_->Kp [gd] H H'->Q .fB H':=k;refine⟨_,rfl,_,rfl,a,c.CS,dx,_,_,rfl,o1,G.aZ,G.de,qL,_,rfl,b,sl,pl,gd,l,w,nm,F,i,rfl,B,ok,?_⟩;by_cases q:w.had nm=true
 ·rw[iP q]at kc ⊢;exact kc.less (by simp)
 rw[iN q]at kc ⊢;intro H1 s1;have B1:=B.same s1;obtain⟨db,hb⟩:=B1.ins;obtain⟨kvs,hg,al⟩:=B1.GP;refine⟨_,rfl,b,c.CB,db,_,_,rfl,hb,G.eV,G.iC,nJ,gd,kvs,rfl,hg,rfl,_,rfl,?_⟩;have gl:=ok.gl;have hkl:=al.len;by_cases q8:w.groups.length=8
 ·rw[dE (show V.int (kvs.length:Int)=V.int 8 by rw[hkl,q8];rfl)];rw[iP (show E9<=w.groups.length by show 8<=_;omega)]at kc;exact bq ⟨_,rfl,by simp,9,i,⟨rfl,rfl⟩,(Rz.step kc (bA.kp s1)).less (by simp)⟩
 rw[dF (show ¬V.int (kvs.length:Int)=V.int 8 by intro z;injection z with z;omega)];rw[iN (show ¬E9<=w.groups.length by show ¬8<=_;omega)]at kc;have kc:=kc.then;refine bW ⟨bR _,λwi hwi=>?_⟩;have sw:=aCb (o:=.lst []) hwi;have s01:bA H (aCc H1 wi (.lst [])):=λb o z=>sw _ _ (s1 _ _ z);have hwi0:H wi=none:=aCf s1 hwi;refine⟨_,rfl,a,c.CS,dx,_,_,rfl,s01 _ _ o1,G.aZ,G.eJ,uq,na,rfl,⟨_,bf.of (s01 _ _ nm1)⟩,fH (xs:=ns.map vS) (aEc c H Q E b sl pl gd l w a ns F i nm wi) ⟨none,[],rfl,s01,aC,by simp,?_,λy hy=>hy⟩ ?_ ?_ ?_⟩
 ·exact kc.to (Kp.refl _ _) (λ_ h=>h) λy ey ky H' _ B' kp'=>ky H' B' (ok.group q (by omega) n12 nok.ne ey) rfl kp'
 ·rintro j σ H' hj ⟨_,_,_,sm,_⟩;exact bf.of (sm _ _ nm1)
 ·rintro j y σ H' hy ⟨v,acc,rfl,sm,hW,hl,kk,hto⟩;rw[aP]at hy;cases hn:ns[j]? with
  |none=>rw[hn]at hy;cases hy
  |some n=>
   rw[hn]at hy;have e:y=vS n:=(aV hy).symm;subst e;have hi:j<ns.length:=(a8.mp hn).1;have nle:=nok.le;have hdr:ns.drop j=n::ns.drop (j+1):=by rw[b3 hi,(a8.mp hn).2]
   rw[hdr,ie]at kk hto;have pp:=qm ok n;refine⟨_,rfl,_,rfl,_,rfl,b,sl,pl,gd,l,w,n,F,i,rfl,B.same sm,ok,?_⟩;cases eo:w.of n with
   |none=>
    rw[eo]at kk
    have:¬w.had n=true:=by unfold Ea;rw[eo];simp
    rw[iN this];exact(Rz.step kk (bA.kp sm)).less (by simp)
   |some x=>
    rw[eo]at kk hto;dsimp only at kk hto
    have:w.had n=true:=by unfold Ea;rw[eo];rfl
    rw[iP this];intro H2 s2;have sm2:bA H H2:=λb o z=>s2 _ _ (sm _ _ z);have B2:=B.same sm2;obtain⟨db2,hb2⟩:=B2.ins;have hx:dw w n=x:=by rw[pp.1,eo];rfl
    have hx8:=(yc ok n).2.1;rw[hx]at hx8;refine⟨_,rfl,.inl ⟨rfl,_,bf.of (s2 _ _ hW)⟩,_,rfl,b,db2,_,rfl,hb2,wR (by trivial) (by trivial) (by trivial),_,rfl,b,sl,pl,gd,l,w,n,F,rfl,B2,ok.pl,λpa H3 hpa h3 s3=>?_⟩;rw[hx]at h3;have hW3:=s3 _ _ (s2 _ _ hW);refine⟨wi,pa,_,_,rfl,rfl,hW3,h3,by rw[aB,aB];exact Rv.sl (by omega),_,acc++x,rfl,?_,?_,?_,?_,?_⟩
    ·intro b' o z;rw[aJ (aK z hwi0)];exact s3 _ _ (sm2 _ _ z)
    ·rw[aC,aw]
    ·simp only[aN];omega
    ·refine kk.then.to (Kp.refl _ _) (λ_ h=>h) λy ey ky H' t1 t2 t3=>?_;exact ky H' (by rw[t1,bV]) (by rw[<-bV];exact t2) t3
    ·intro y hy;rw[hy]at hto
     have:=hto (x++y) rfl
     rw[this,bV]
 ·rintro σ H' ⟨v,acc,rfl,sm,hW,hl,kk,hto⟩;rw[aB,fD]at kk hto;rw[aB]at hl;have nle:=nok.le;have kk:∀H',ie w ns=.ok (acc++[])->fL c F H' b sl pl gd l ⟨w.people,w.groups++[(nm,w.people.filter λx=>(acc++[]).contains x)],w.default_⟩->Kp [gd] H H'->Q .fB H':=kk;have hto:=hto [] rfl;have B2:=B.same sm;obtain⟨db2,hb2⟩:=B2.ins;refine⟨_,rfl,b,c.CB,db2,_,_,rfl,hb2,G.eV,G.f9,kH,pl,rfl,⟨_,bf.of B2.oG⟩,λD hD=>?_⟩;refine jb (zs:=w.people) (f:=λp=>if acc.contains p=true then some (vS p)else none) hD (by have:=ok.pl;omega) (λi H' hi s1=>⟨_,_,bf.of (s1 _ _ B2.oG),by rw[aP,aX hi];rfl⟩) (λH' s1=>⟨_,bf.of (s1 _ _ B2.oG),by rw[aB];exact a9 _⟩) ?_ ?_
  ·rintro j z H2 x H3 Zy Zn hz s2 ⟨rfl,hx⟩ k1 k2;have hx:=hx _ (bf.of (s2 _ _ B2.oG));rw[aP,hz]at hx;have e:x=vS z:=(aV hx).symm;subst e;refine⟨rfl,_,rfl,_,rfl,wi,_,rfl,.inl (bf.of (s2 _ _ hW)),rfl,qf _,_,rfl,?_⟩;rw[show(if false=true then !vw (vS z) (acc.map vS)else vw (vS z) (acc.map vS))=acc.contains z from by rw[uh];rfl];cases q:acc.contains z with
   |true=>exact bq ⟨_,rfl,k1 _ _ (by rw[q];rfl) λ_ _ h=>h⟩
   |false=>exact bW (k2 _ (by rw[q];rfl) λ_ _ h=>h)
  ·intro H3 e3 s3;have s03:bA H H3:=λb o z=>s3 _ _ (sm _ _ z);have B3:=B.same s03;obtain⟨db3,hb3⟩:=B3.ins;obtain⟨kvs3,hg3,al3⟩:=B3.GP;have gv:gU kvs3 (ai (bH nm))=none:=by
    have:=K0 al3 nm
    have hno:(w.groups.find? λg=>decide (g.1=nm))=none:=by rw[o6];intro g hg;simpa using(zT q).2 g hg
    rw[hno]at this;exact this
   have hD3:H3 D=some (.lst ((w.people.filter λx=>acc.contains x).map vS)):=by rw[e3];congr 2;rw[<-lX,lY];congr 1
   have nsl:D≠sl:=by obtain⟨as,hs,_⟩:=B2.ET;exact(aK hs hD).symm
   have npl:D≠pl:=(aK B2.oG hD).symm;refine⟨_,rfl,b,c.CB,db3,_,_,rfl,hb3,G.eV,G.iC,nJ,_,rfl,a,c.CS,dx,_,_,rfl,s03 _ _ o1,G.aZ,G.de,qL,gd,_,rfl,Be.k (k:=ai (bH nm)) hg3 ?_,?_⟩
   ·have:=al3.len
    exact pG (by omega)
   ·have hput:aCo kvs3 (ai (bH nm)) (V.ref D)=kvs3++[(ai (bH nm),V.ref D)]:=by unfold aCo;rw[qN,gv];rfl
    rw[hput];refine kk _ hto ?_ ((Kp.of s03).trans (Kp.put (by simp)))
    have:=B3.aA8 (n:=nm) hg3 hD3 nsl npl
    rw[bg];exact this
end
end Rv
namespace Rv
open Vamrqe (Who andThen check)
open Mt (post)
section
variable{c:Cn}{F:aF->Prop}{M:List aF}{H H':Hp}{b sl pl gd:aF}{l:b6}{w:Who}
theorem fL.aBv(B:fL c F H b sl pl gd l w)(hs:H sl=some (.lst (as.map V.ref)))(al:Al (iB c F H) as l)(ha:iB c F H a s)(hd:d=(w.default_||iW s)):
  fL c F (aCc H sl (.lst (as.map V.ref++[.ref a]))) b sl pl gd (l++[s]) ⟨w.people,w.groups,d⟩:=by
 obtain⟨dx,hb⟩:=B.ins;obtain⟨kvs,hg,al2⟩:=B.GP;have ap:Ap [sl] F H:=Ap.cons B.fs (λC d fs e=>by rw[hs]at e;cases e) Bq;have kp:Kp [sl] H (aCc H sl (.lst (as.map V.ref++[.ref a]))):=Kp.put (by simp);refine⟨⟨dx,?_⟩,⟨as++[a],?_,Al.app (al.mono λ_ _ z=>z.ap kp ap) (Al.one (ha.ap kp ap))⟩,?_,⟨kvs,?_,al2.mono λkv g z=>?_⟩,B.sp,B.fs,B.fp,?_⟩
 ·rw[aJ (cR hb hs nofun)];exact hb
 ·rw[aC,aw];rfl
 ·rw[aJ B.sp.symm];exact B.oG
 ·rw[aJ (cR hg hs nofun)];exact hg
 ·obtain⟨z1,a,z2,z3,z4,z5⟩:=z;exact⟨z1,a,z2,z3,z4,by rw[aJ z3];exact z5⟩
 ·show d=(l++[s]).any iW;rw[hd,sd,<-B.df];simp
theorem mP(h:¬aCn s=x):decide (V.str (aCn s)=V.str x)=false:=dF (by intro z;injection z with z;exact h z)
inductive Uh(c:Cn)(vs:List V)(H:Hp)(Q:VK)(E:XK):Prop
 |mk:∀b sl pl gd l w a s F (i:Int),vs=[.ref b,.ref a,.int i]->fL c F H b sl pl gd l w->eZ w->iB c F H a s->l.length<=23->(pL c E [sl,pl,gd] H i (s.check w) λw'=>∀H',fL c F H' b sl pl gd (l++[s]) w'->eZ w'->Kp [sl,pl,gd] H H'->Q .fB H')->Uh c vs H Q E
theorem NJ(G:aCe c):i7 c "enter" 6 ["book","statement","number"] (Uh c):=by
 refine G.Lq.gG (N:=["book","statement","number"]) (k:=5) (λH vs Q E nd hr h=>?_);obtain⟨b,sl,pl,gd,l,w,a,st,F,i,rfl,B,ok,hst,hl,k⟩:=h;refine⟨_,aD (cf (bU eX (ag (pv 1) rfl) (b9 G.yP) (bt _)) (aL (ax (az (zK G) hr ae (aA (pv 0) (aA (pv 1) (aA (pv 2) aH)))))) (aL (cf (bU eX (ag (pv 1) rfl) (b9 G.BW) (bt _)) (aL (ax (az (BD G) hr ae (aA (pv 0) (aA (pv 1) (aA (pv 2) aH)))))) (aL (cf (bU eX (ag (pv 1) rfl) (b9 G.GO) (bt _)) (aL (ax (az (k8 G) hr ae (aA (pv 0) (aA (ag (pv 1) rfl) (aA (pv 2) aH)))))) (aD (ax (az (p9 G) hr ae (aA (pv 0) (aA (pv 1) (aA (pv 2) aH))))) (aL (ax (az (vC G) hr ae (aA (pv 0) (aA (ag (pv 1) rfl) (aA (pv 2) aH)))))))))))) (aL (ax (fZ aR ak ao dU (ag (pv 0) rfl) (aA (pv 1) aH)))),?_⟩;have hst':=hst;obtain⟨dx,nm,na,pat,cd,o1,f1,f2,hB⟩:=hst';have fin:∀w' H',fL c F H' b sl pl gd l w'->iB c F H' a st->Kp [sl,pl,gd] H H'->(∀H',fL c F H' b sl pl gd (l++[st]) ⟨w'.people,w'.groups,w'.default_||iW st⟩->Kp [sl,pl,gd] H H'->Q .fB H')->
   Ah (aAc c.K "list" B5 (S8 c.K (g9 0) "statements") (gT (g9 1) oA)) {nx:=λ_ H'=>Q .fB H',rt:=Q} [some (.ref b),some (.ref a),some (.int i)] H':=by
  intro w' H' B' ha' kp' k';obtain⟨db,hb⟩:=B'.ins;obtain⟨as,hs,al⟩:=B'.ET;have hlen:=al.len;refine⟨_,rfl,b,c.CB,db,_,_,rfl,hb,G.eV,G.dH,fG,.inl ⟨rfl,_,bf.of hs⟩,_,rfl,sl,_,_,rfl,rfl,hs,by rw[aB];exact pG (by omega),?_⟩;exact k' _ (B'.aBv hs al ha' rfl) (kp'.trans (Kp.put (by simp)))
 have apl:Ap [pl] F H:=Ap.cons B.fp (λC d fs e=>by rw[B.oG]at e;cases e) Bq;refine⟨_,rfl,a,c.CS,dx,_,_,rfl,o1,G.aZ,G.ah,cY,rfl,_,rfl,?_⟩;cases st with
 |person ns=>
  refine aDx (show V.str (aCn (.person ns))=V.str "person" from rfl) ⟨_,rfl,_,rfl,_,rfl,b,sl,pl,gd,l,w,a,ns,F,i,rfl,B,ok,hst,?_⟩;refine k.to (Kp.refl _ _) (by simp) λw' ew k2 H' B' ok' hd' kp'=>?_;refine fin w' H' B' (hst.ap kp' apl) (kp'.mono (by simp)) λH2 B2 kp2=>k2 H2 ?_ ok' kp2;have e:(w'.default_||iW (.person ns))=w'.default_:=by simp[iW]
  rw[e]at B2;exact B2
 |group n ns=>
  rw[mP (show ¬aCn (.group n ns)="person" from by show ¬("group":Str)="person";decide+kernel)];refine bW ⟨_,rfl,a,c.CS,dx,_,_,rfl,o1,G.aZ,G.ah,cY,rfl,_,rfl,?_⟩;refine aDx (show V.str (aCn (.group n ns))=V.str "group" from rfl) ⟨_,rfl,_,rfl,_,rfl,b,sl,pl,gd,l,w,a,n,ns,F,i,rfl,B,ok,hst,?_⟩;refine k.to (Kp.refl _ _) (by simp) λw' ew k2 H' B' ok' hd' kp'=>?_;have Wh:YK [gd] H:=λx hx=>by obtain⟨kvs,hg,_⟩:=B.GP;rw[aQ.mp hx,hg];exact⟨(λxs z=>by cases z),(λC d fs z=>by cases z)⟩
  refine fin w' H' B' (hst.Wh kp' Wh) (kp'.mono (by simp)) λH2 B2 kp2=>k2 H2 ?_ ok' kp2;have e:(w'.default_||iW (.group n ns))=w'.default_:=by simp[iW]
  rw[e]at B2;exact B2
 |veto p n=>
  rw[mP (show ¬aCn (.veto p n)="person" from by show ¬("veto":Str)="person";decide+kernel)];refine bW ⟨_,rfl,a,c.CS,dx,_,_,rfl,o1,G.aZ,G.ah,cY,rfl,_,rfl,?_⟩;rw[mP (show ¬aCn (.veto p n)="group" from by show ¬("veto":Str)="group";decide+kernel)];refine bW ⟨_,rfl,a,c.CS,dx,_,_,rfl,o1,G.aZ,G.ah,cY,rfl,_,rfl,?_⟩;rw[dE (show V.str (aCn (.veto p n))=V.str "veto" from rfl)];obtain⟨_,rfl,_⟩:=hB;have kc:pL c E [sl,pl,gd] H i (if w.had nm=true then .ok w else .error (-6)) λw'=>∀H',fL c F H' b sl pl gd (l++[.veto p nm]) w'->eZ w'->Kp [sl,pl,gd] H H'->Q .fB H':=k;refine bq ⟨_,rfl,_,rfl,a,c.CS,dx,_,_,rfl,o1,G.aZ,G.de,qL,_,rfl,b,sl,pl,gd,l,w,nm,F,i,rfl,B,ok,?_⟩;by_cases q:w.had nm=true
  ·rw[iP q]at kc ⊢;intro H' s';refine fin w H' (B.same s') (hst.same s') (Kp.of s') λH2 B2 kp2=>kc H2 ?_ ok kp2;have e:(w.default_||iW (.veto p nm))=w.default_:=by simp[iW]
   rw[e]at B2;exact B2
  ·rw[iN q]at kc ⊢;exact kc.less (by simp)
 |sticky p=>
  rw[mP (show ¬aCn (.sticky p)="person" from by show ¬("sticky":Str)="person";decide+kernel)];refine bW ⟨_,rfl,a,c.CS,dx,_,_,rfl,o1,G.aZ,G.ah,cY,rfl,_,rfl,?_⟩;rw[mP (show ¬aCn (.sticky p)="group" from by show ¬("sticky":Str)="group";decide+kernel)];refine bW ⟨_,rfl,a,c.CS,dx,_,_,rfl,o1,G.aZ,G.ah,cY,rfl,_,rfl,?_⟩;rw[mP (show ¬aCn (.sticky p)="veto" from by show ¬("sticky":Str)="veto";decide+kernel)];refine bW ⟨_,rfl,_,rfl,_,rfl,b,sl,pl,gd,l,w,a,.sticky p,F,F,i,rfl,B,hst,by omega,?_⟩;rw[iN (by simp[iW])];intro H1 s1;refine⟨_,rfl,_,rfl,a,c.CS,dx,_,_,rfl,s1 _ _ o1,G.aZ,G.cE,gS,_,rfl,b,sl,pl,gd,l,w,cd,[],F,i,rfl,B.same s1,ok,hB.2.same s1,λH2 s2=>?_⟩;have s02:bA H H2:=λb o z=>s2 _ _ (s1 _ _ z);refine fin w H2 (B.same s02) (hst.same s02) (Kp.of s02) λH3 B3 kp3=>k H3 ?_ ok kp3;have e:(w.default_||iW (.sticky p))=w.default_:=by simp[iW]
  rw[e]at B3;exact B3
 |need p x=>
  rw[mP (show ¬aCn (.need p x)="person" from by show ¬("need":Str)="person";decide+kernel)];refine bW ⟨_,rfl,a,c.CS,dx,_,_,rfl,o1,G.aZ,G.ah,cY,rfl,_,rfl,?_⟩;rw[mP (show ¬aCn (.need p x)="group" from by show ¬("need":Str)="group";decide+kernel)];refine bW ⟨_,rfl,a,c.CS,dx,_,_,rfl,o1,G.aZ,G.ah,cY,rfl,_,rfl,?_⟩;rw[mP (show ¬aCn (.need p x)="veto" from by show ¬("need":Str)="veto";decide+kernel)];refine bW ⟨_,rfl,_,rfl,_,rfl,b,sl,pl,gd,l,w,a,.need p x,F,F,i,rfl,B,hst,by omega,?_⟩;rw[iN (by simp[iW])];intro H1 s1;have kc:pL c E [sl,pl,gd] H i (andThen (iM w x) λ_=>.ok w) λw'=>∀H',fL c F H' b sl pl gd (l++[.need p x]) w'->eZ w'->Kp [sl,pl,gd] H H'->Q .fB H':=k;refine⟨_,rfl,_,rfl,a,c.CS,dx,_,_,rfl,s1 _ _ o1,G.aZ,G.cE,gS,_,rfl,b,sl,pl,gd,l,w,cd,post x,F,i,rfl,B.same s1,ok,hB.2.1.same s1,?_⟩;rw[Mt.mw];refine kc.then.to (Kp.of s1) (by simp) λ_ _ k2 H2 s2=>?_;have s02:bA H H2:=λb o z=>s2 _ _ (s1 _ _ z);refine fin w H2 (B.same s02) (hst.same s02) (Kp.of s02) λH3 B3 kp3=>k2 H3 ?_ ok kp3;have e:(w.default_||iW (.need p x))=w.default_:=by simp[iW]
  rw[e]at B3;exact B3
 |default_ x=>
  rw[mP (show ¬aCn (.default_ x)="person" from by show ¬("default":Str)="person";decide+kernel)];refine bW ⟨_,rfl,a,c.CS,dx,_,_,rfl,o1,G.aZ,G.ah,cY,rfl,_,rfl,?_⟩;rw[mP (show ¬aCn (.default_ x)="group" from by show ¬("default":Str)="group";decide+kernel)];refine bW ⟨_,rfl,a,c.CS,dx,_,_,rfl,o1,G.aZ,G.ah,cY,rfl,_,rfl,?_⟩;rw[mP (show ¬aCn (.default_ x)="veto" from by show ¬("default":Str)="veto";decide+kernel)];have kc:pL c E [sl,pl,gd] H i (if w.default_=true then .error (-10)else andThen (iM w x) λ_=>.ok ⟨w.people,w.groups,true⟩) λw'=>∀H',fL c F H' b sl pl gd (l++[.default_ x]) w'->eZ w'->Kp [sl,pl,gd] H H'->Q .fB H':=k;refine bW ⟨_,rfl,_,rfl,_,rfl,b,sl,pl,gd,l,w,a,.default_ x,F,F,i,rfl,B,hst,by omega,?_⟩;cases q:w.default_ with
  |true=>rw[iP q]at kc;rw[iP (by simp[iW])];exact kc.less (by simp)
  |false=>
   rw[iN (by rw[q];simp)]at kc;rw[iN (by simp)];intro H1 s1;refine⟨_,rfl,_,rfl,a,c.CS,dx,_,_,rfl,s1 _ _ o1,G.aZ,G.cE,gS,_,rfl,b,sl,pl,gd,l,w,cd,post x,F,i,rfl,B.same s1,ok,hB.1.same s1,?_⟩;rw[Mt.mw];refine kc.then.to (Kp.of s1) (by simp) λ_ _ k2 H2 s2=>?_;have s02:bA H H2:=λb o z=>s2 _ _ (s1 _ _ z);refine fin w H2 (B.same s02) (hst.same s02) (Kp.of s02) λH3 B3 kp3=>k2 H3 ?_ ⟨ok.pn,ok.pl,ok.gl,ok.dj,ok.gm,ok.gn,ok.sh,ok.gs⟩ kp3;have e:(w.default_||iW (.default_ x))=true:=by simp[iW]
   rw[e]at B3;exact B3
end
end Rv
namespace Rv
open Vamrqe (Who checkFrom check)
theorem Ss:eZ l7:=⟨VN,by decide,by decide,(λg hg=>by cases hg),(λg hg=>by cases hg),VN,(λg hg=>by cases hg),λg hg=>by cases hg⟩
section
variable{c:Cn}
inductive Uu(c:Cn)(vs:List V)(H:Hp)(Q:VK)(E:XK):Prop
 |mk:∀(a:aF)(u:List Nat),vs=[.ref a]->H a=some (.lst (u.map iV))->u.length<=2000->(Res c E [] H (ez u) λl=>match check l with
 |.error e=>Rz c E [] H (-e.number) e.stmt
 |.ok w=>∀b sl pl gd F H',H b=none->H gd=none->fL c F H' b sl pl gd l w->eZ w->bA H H'->LD l<=1001->l.length<=24->Q (.ref b) H')->Uu c vs H Q E
inductive aEd(c:Cn)(a:aF)(b:aF)(sl:aF)(pl:aF)(gd:aF)(H1:Hp)(l:b6)(H2:Hp)(j:Nat)(σ:L2.St)(H':Hp):Prop
 |mk:∀(v2 v3:Option V)(wj:Who),σ=[some (.ref a),some (.ref b),v2,v3]->Kp [sl,pl,gd] H2 H'->fL c (λz=>H1 z=none) H' b sl pl gd (l.take j) wj->eZ wj->checkFrom (j+1) wj (l.drop j)=check l->aEd c a b sl pl gd H1 l H2 j σ H'
theorem tL(G:aCe c):i7 c "write_book" 13 ["codes"] (Uu c):=by
 refine G.yD.gG (N:=["codes","book","number","statement"]) (k:=12) (λH vs Q E nd hr h=>?_);obtain⟨a,u,rfl,ha,hu,k⟩:=h;refine⟨_,aD (bb (i:=1) nd (DG (Hq G) hr ae)) (aD (fW jC rfl (Iw (by rfl) G.og (aA (az (lS G) hr ae (aA (pv 0) aH)) aH)) (zb rfl (gH (d7 (i:=2) nd) (gH (d7 (i:=3) nd) pB))) (aL (ax (az (NJ G) hr ae (aA (pv 1) (aA (pv 3) (aA (pv 2) aH))))))) (aL (bE (pv 1)))),?_⟩;intro b db nb ndb ne;refine PF nb ndb λsl pl gd H1 hsl hpl hgd B1 s1=>⟨rfl,?_⟩;refine⟨_,rfl,a,u,rfl,s1 _ _ ha,hu,?_⟩;refine k.to (Kp.of s1) (by simp) λl el kl rl H2 hrl sts2 s2 sz2 le2=>?_;have s02:bA H H2:=λb o z=>s2 _ _ (s1 _ _ z);have B2:=B1.same s2;obtain⟨rs,hrs,al⟩:=sts2;have tr:∀{x:aF},x∈[sl,pl,gd]->H1 x≠none:=λ{x} hx=>by
  obtain⟨kvs,hg,_⟩:=B1.GP;obtain⟨as,hs,_⟩:=B1.ET;simp only[af,cC,or_false]at hx;rcases hx with z|z|z
  ·rw[z,hs];simp
  ·rw[z,B1.oG];simp
  ·rw[z,hg];simp
 have nrl:rl∉[sl,pl,gd]:=λz=>tr z hrl;have hb:∀x∈[sl,pl,gd],x∈([]:List aF)\/H x=none:=by
  intro x hx;simp only[af,cC,or_false]at hx;rcases hx with z|z|z
  ·rw[z];exact .inr hsl
  ·rw[z];exact .inr hpl
  ·rw[z];exact .inr hgd
 have hlen:=al.len
 have sH:∀{H':Hp},Kp [sl,pl,gd] H2 H'->∀{x:aF}{t:bX},iB c (λz=>H1 z=none) H2 x t->iB c (λz=>H1 z=none) H' x t:=λ{H'} kp {x t} h=>h.ap kp (λy hy=>⟨tr hy,λC d fs e=>by
  obtain⟨kvs,hg,_⟩:=B2.GP;obtain⟨as,hs,_⟩:=B2.ET;simp only[af,cC,or_false]at hy;rcases hy with z|z|z
  ·rw[z,hs]at e;cases e
  ·rw[z,B2.oG]at e;cases e
  ·rw[z,hg]at e;cases e⟩)
 refine⟨rl,_,rfl,bf.of hrs,qh (n:=l.length) (aEd c a b sl pl gd H1 l H2) ⟨none,none,l7,rfl,Kp.refl _ _,B2,Ss,rfl⟩ ?_ ?_ ?_ ?_⟩
 ·rintro j σ H' hj ⟨_,_,_,_,kp,_⟩;obtain⟨x,hx,_⟩:=al.at_ (aX hj);exact⟨_,_,bf.of (kp _ _ hrs nrl),by rw[aP,hx];rfl⟩
 ·rintro σ H' ⟨_,_,_,_,kp,_⟩;exact⟨_,bf.of (kp _ _ hrs nrl),by rw[aB];omega⟩
 ·rintro j σ H' y H3 hj ⟨v2,v3,wj,rfl,kp,Bj,okj,hck⟩ ⟨T,x,rfl,hT,rfl,hx⟩;have hx:=hx _ (bf.of (kp _ _ hrs nrl));have hlj:l[j]?=some l[j]:=aX hj;obtain⟨sa,hsa,hst⟩:=al.at_ hlj;rw[aP,hsa]at hx;have e:x=V.ref sa:=(aV hx).symm;subst e;have hdr:l.drop j=l[j]::l.drop (j+1):=b3 hj;rw[hdr,checkFrom]at hck;have sT:=aCb (o:=.tup [.int ((j+1:Nat):Int),.ref sa]) hT;refine⟨T,_,rfl,qU.of aC,rfl,_,_,rfl,_,_,rfl,rfl,_,rfl,_,rfl,_,rfl,b,sl,pl,gd,l.take j,wj,sa,l[j],_,_,rfl,Bj.same sT,okj,(sH kp hst).same sT,by rw[cB];omega,?_⟩;have kpT:Kp [sl,pl,gd] H2 (aCc H' T (.tup [.int ((j+1:Nat):Int),.ref sa])):=kp.trans (bA.kp sT);cases ec:l[j].check wj with
  |error e=>rw[ec]at hck;rw[<-hck]at kl;exact Rz.wU kl s02 hb |>.step kpT
  |ok w'=>rw[ec]at hck;intro H4 B4 ok4 kp4;refine⟨_,_,w',rfl,kpT.trans kp4,?_,ok4,hck⟩;rw[cy hlj];exact B4
 ·rintro σ H' ⟨v2,v3,wj,rfl,kp,Bj,okj,hck⟩;rw[fD]at hck;rw[cD]at Bj;have hck:check l=.ok wj:=hck.symm;rw[hck]at kl;refine⟨_,rfl,kl b sl pl gd _ H' nb hgd Bj okj (λx o z=>Kp.wU (M:=[]) s02 kp hb x o z (by simp)) sz2 le2⟩
end
def fF:List Bool->Nat
 |[]=>0
 |b::r=>(if b=true then 1 else 0)+2*fF r
theorem qr:∀(xs:List Bool)(i:Nat),(fF xs).testBit i=xs.getD i false
 |[],i=>by simp[fF]
 |b::r,0=>by rw[fF,Nat.testBit_zero];cases b <;> simp <;> omega
 |b::r,i+1=>by
  rw[fF,Nat.testBit_succ]
  have:((if b=true then 1 else 0)+2*fF r)/2=fF r:=by cases b <;> simp <;> omega
  rw[this,qr r i];rfl
theorem Gb{α:Type}(f g:α->Bool)(cs:List α):fF (cs.map f)&&& fF (cs.map g)=fF (cs.map λx=>f x&&g x):=by apply Mw;intro i;rw[Nat.testBit_and,qr,qr,qr];simp only[jh,aP];cases cs[i]? <;> rfl
theorem Rl{α:Type}(f g:α->Bool)(cs:List α):fF (cs.map f)||| fF (cs.map g)=fF (cs.map λx=>f x||g x):=by apply Mw;intro i;rw[Nat.testBit_or,qr,qr,qr];simp only[jh,aP];cases cs[i]? <;> rfl
theorem wQ(a b:Nat):sV (a:Int) (b:Int)=((a&&& b:Nat):Int):=by unfold sV;rw[dE (show(0:Int)<=(a:Int)by omega),dE (show(0:Int)<=(b:Int)by omega)];simp
theorem Eg(a b:Nat):Dr (a:Int) (b:Int)=((a||| b:Nat):Int):=by
 have hn:∀n:Nat,sW (n:Int)=-(n:Int) - 1:=λn=>by
  simp[sW]
  try omega
 have hm:∀n:Nat,sW (-(n:Int) - 1)=(n:Int):=λn=>by
  simp[sW]
  try omega
 unfold Dr sV;rw[hn,hn,dF (show ¬(0:Int)<=-(a:Int) - 1 by omega),dF (show ¬(0:Int)<=-(b:Int) - 1 by omega)];dsimp only;rw[hm,hm,gL,gL,hn,hm]
theorem Rm:fF (xs++[b])=fF xs+(if b=true then 2 ^ xs.length else 0):=by
 induction xs with
 |nil=>cases b <;> simp[fF]
 |cons a r ih=>rw[mE,fF,ih,fF,aG,sj];cases b <;> cases a <;> simp <;> omega
theorem M4:∀n:Nat,fF (br n true)=2 ^ n - 1
 |0=>rfl
 |n+1=>by
  rw[fS,fF,M4 n,sj]
  have:=yz (n:=n)
  simp
  omega
def rJ(p c:List aM):Nat:=match c.getLast? with
 |none=>0
 |some x=>p.idxOf x+1
def sF(p c:List aM):List (List aM):=(p.drop (rJ p c)).map λy=>c++[y]
theorem jU:∀{k:Nat}{p c:List aM},c∈di k p->c.length=k/\∀x∈c,x∈p
 |0,p,c,h=>by
  simp[di]at h
  subst h;simp
 |k+1,[],c,h=>by simp[di]at h
 |k+1,x::r,c,h=>by
  rw[di]at h;rcases bZ.mp h with h|h
  ·obtain⟨d,hd,rfl⟩:=iJ.mp h;obtain⟨h1,h2⟩:=jU hd
   exact⟨by simp[h1],λy hy=>by
    rcases af.mp hy with z|z
    ·simp[z]
    ·exact aq _ (h2 y z)⟩
  ·obtain⟨h1,h2⟩:=jU h;exact⟨h1,λy hy=>aq _ (h2 y hy)⟩
theorem AF:∀p:List aM,di 1 p=p.map λy=>[y]
 |[]=>rfl
 |x::r=>by rw[di,AF r];simp[di]
theorem qe{α β:Type}{f g:α->List β}:∀{l:List α},(∀a∈l,f a=g a)->l.flatMap f=l.flatMap g
 |[],_=>rfl
 |a::r,h=>by rw[gE,gE,h a (by simp),qe λb hb=>h b (by simp[hb])]
theorem Hg(hx:x∉r)(hc:c≠[])(h:∀y∈c,y∈r):rJ (x::r) c=rJ r c+1:=by unfold rJ;obtain⟨y,hy⟩:=z0 hc;rw[hy];dsimp only;have hm:y∈r:=h y (La hy);rw[Dl,show(x==y)=false from beq_eq_false_iff_ne.mpr λz=>hx (z▸hm)];rfl
theorem ext_cons(hx:x∉r)(hc:c≠[])(h:∀y∈c,y∈r):sF (x::r) c=sF r c:=by unfold sF;rw[Hg hx hc h];rfl
theorem QD(hx:x∉r)(h:∀y∈c,y∈r):sF (x::r) (x::c)=(sF r c).map (λl=>x::l):=by
 cases c with
 |nil=>unfold sF rJ;simp
 |cons a b=>
  have hl:(x::a::b).getLast?=(a::b).getLast?:=by rw[HX]
  have e:rJ (x::r) (x::a::b)=rJ (x::r) (a::b):=by unfold rJ;rw[hl]
  unfold sF;rw[e,Hg hx (by simp) h];simp;rfl
theorem tN:∀(p:List aM)(k:Nat),p.Nodup->(di k p).flatMap (sF p)=di (k+1) p
 |p,0,_=>by rw[AF];simp[di,sF,rJ]
 |[],k+1,_=>by simp[di]
 |x::r,k+1,h=>by
  rw[hZ]at h;have i1:=tN r k h.2;have i2:=tN r (k+1) h.2;rw[di,eN,di,<-i2];congr 1
  ·rw[List.flatMap_map,<-i1,List.map_flatMap];apply qe;intro c hc;exact QD h.1 (jU hc).2
  ·apply qe;intro c hc;obtain⟨h1,h2⟩:=jU hc;exact ext_cons h.1 (by intro z;subst z;cases h1) h2
theorem CA:∀{k:Nat}{p:List aM},k<=p.length->di k p≠[]
 |0,p,_=>by simp[di]
 |k+1,[],h=>by simp at h
 |k+1,x::r,h=>by
  rw[di]
  have:=CA (k:=k) (p:=r) (by simpa using h)
  simp[this]
theorem tP:∀{k:Nat}{p:List aM},p.length<k->di k p=[]
 |0,p,h=>by simp at h
 |k+1,[],_=>rfl
 |k+1,x::r,h=>by rw[di,tP (k:=k) (p:=r) (by simpa using h),tP (k:=k+1) (p:=r) (by simp at h;omega)];rfl
def Lk(p:List aM):List (List aM):=(ek (p.length+1)).flatMap λk=>di k p
theorem oh:∀(p:List aM)(k:Nat),(di k p).length<=2 ^ p.length
 |[],0=>by simp[di]
 |[],k+1=>by simp[di]
 |x::r,0=>by simp[di];exact yz
 |x::r,k+1=>by
  rw[di,aN,aB,aG,sj]
  have:=oh r k
  have:=oh r (k+1)
  omega
theorem ML{α:Type}{J:It}{zs:List α}{keep:α->Bool}{R:Hp->V->α->Prop}{g:TG}{tt:L2.TT}{te:TE}{vs:List Nat}{σ:L2.St}{H1:Hp}{D:aF}{Qd:Hp->Prop}(hD:H1 D=none)(hn:zs.length<=100000)(hgo:∀i H,i<zs.length->bA H1 H->J.go i H)(hst:∀H,bA H1 H->J.stop zs.length H)
  (hR:∀H H' v z,R H v z->Kp [D] H H'->R H' v z)
  (hs:∀i z H x H' (Zy:VK) (Zn:Hp->Prop),zs[i]?=some z->bA H1 H->(∃acc,H D=some (.lst acc))->J.OW i H x H'->(keep z=true->∀y H4,R H4 y z->bA H H4->Zy y H4)->(keep z=false->∀H4,bA H H4->Zn H4)->g x (wipe σ vs) H' λσ2 H2=>wipe σ2 vs=wipe σ vs/\tt σ2 H2 λb H3=>if b=true then te σ2 H3 Zy else Zn H3)
  (hd:∀H ys,H D=some (.lst ys)->Al (R H) ys (zs.filter keep)->bA H1 H->Qd H):
  ∃W:Nat->Nat->Hp->Prop,(∃m,W 0 m (aCc H1 D (.lst [])))/\∀i m H,W i m H->
   (J.stop i H/\Qd H)\/(J.go i H/\∃Nx:Hp->Prop,(∀H',Nx H'->∃m',m' < m/\W (i+1) m' H')/\∀x H',J.OW i H x H'->g x (wipe σ vs) H' λσ2 H2=>wipe σ2 vs=wipe σ vs/\tt σ2 H2 λb H3=> if b=true then te σ2 H3 λy H4=>∃acc,H4 D=some (.lst acc)/\acc.length<aj/\Nx (aCc H4 D (.lst (acc++[y])))else Nx H3):=by
 refine Q0 (n:=zs.length) (λi H=>∃ys,H D=some (.lst ys)/\Al (R H) ys ((zs.take i).filter keep)/\bA H1 H) ⟨[],aC,.nil,aCb hD⟩ (λi H hi ⟨_,_,_,s⟩=>hgo i H hi s) (λH ⟨_,_,_,s⟩=>hst H s) (λi H x H' hi ⟨ys,h1,h2,h3⟩ y=>?_) (λH ⟨ys,h1,h2,h3⟩=>hd H ys h1 (by rw[cD]at h2;exact h2) h3);have hz:zs[i]?=some zs[i]:=aX hi;refine hs i zs[i] H x H' _ _ hz h3 ⟨_,h1⟩ y (λhk v H4 r s=>?_) λhk H4 s=>?_
 ·have hl:=h2.len;have hle:((zs.take i).filter keep).length<=zs.length:=bw (cP _ _) (by rw[cB];omega);have kp:Kp [D] H4 (aCc H4 D (.lst (ys++[v]))):=Kp.put (by simp);refine⟨_,s _ _ h1,pG (by omega),ys++[v],aC,?_,λb o z=>?_⟩
  ·rw[cy hz,oZ,show[zs[i]].filter keep=[zs[i]]from by simp[hk]];exact Al.app (h2.mono λa b q=>hR _ _ _ _ (hR _ _ _ _ q (bA.kp s)) kp) (Al.one (hR _ _ _ _ r kp))
  ·rw[aJ (aK z hD)];exact s _ _ (h3 _ _ z)
 ·refine⟨ys,s _ _ h1,?_,λb o z=>s _ _ (h3 _ _ z)⟩;rw[cy hz,oZ,show[zs[i]].filter keep=[]from by simp[hk],bg];exact h2.mono λa b q=>hR _ _ _ _ q (bA.kp s)
section
variable{c:Cn}
def xT(H:Hp)(a:aF)(l:List aM):Prop:=H a=some (.lst (l.map vS))
inductive sX(H:Hp)(a:aF)(cs:List (List aM)):Prop
 |mk:∀as,H a=some (.lst (as.map V.ref))->Al (xT H) as cs->sX H a cs
theorem sX.same(h:sX H a cs)(s:bA H H'):sX H' a cs:=by obtain⟨as,h1,h2⟩:=h;exact⟨as,s _ _ h1,h2.mono λ_ _ z=>s _ _ z⟩
inductive SQ(vs:List V)(H:Hp)(Q:VK)(E_:XK):Prop
 |mk:∀a cs,vs=[.ref a]->sX H a cs->Q (.int ((fF (cs.map λ_=>true):Nat):Int)) H->SQ vs H Q E_
theorem tI(G:aCe c):i7 c "row_of_all" 1 ["crowds"] SQ:=by
 refine G.yC.gG (N:=["crowds","row","crowd"]) (k:=0) (λH vs Q E nd hr h=>?_);obtain⟨a,cs,rfl,⟨as,ha,al⟩,k⟩:=h;refine⟨_,aD (bb (i:=1) nd bB) (aD (fW jC rfl (dQ (pv 0)) (d7 (i:=2) nd) (aL (bb (i:=1) nd (eM wm (eM RK (pv 1) bB) bB)))) (aL (bE (pv 1)))),?_⟩;refine⟨_,rfl,a,rfl,⟨_,bf.of ha⟩,fH (xs:=as.map V.ref) (λi σ H'=>∃v:Option V,σ=[some (.ref a),some (.int ((2 ^ i - 1:Nat):Int)),v]/\H'=H) ⟨none,rfl,rfl⟩ (λi σ H' _ ⟨_,_,e⟩=>by rw[e];exact bf.of ha) ?_ ?_⟩
 ·rintro i x σ H' hx ⟨v,rfl,rfl⟩;refine⟨_,rfl,_,_,rfl,rfl,.inr ⟨by decide,by decide⟩,_,_,rfl,rfl,some x,?_,rfl⟩;show[some (V.ref a),some (V.int (((2 ^ i - 1:Nat):Int)*2+1)),some x]=_
  have:((2 ^ i - 1:Nat):Int)*2+1=((2 ^ (i+1) - 1:Nat):Int):=by
   have:=yz (n:=i)
   rw[sj];omega
  rw[this]
 ·rintro σ H' ⟨v,rfl,rfl⟩;refine⟨_,rfl,?_⟩;rw[aB,al.len]
  have:fF (cs.map λ_=>true)=2 ^ cs.length - 1:=by rw[<-M4,T7]
  rw[this]at k;exact k
inductive OA(vs:List V)(H:Hp)(Q:VK)(E_:XK):Prop
 |mk:∀n a cs,vs=[.str (bH n),.ref a]->sX H a cs->Q (.int ((fF (cs.map λm=>m.contains n):Nat):Int)) H->OA vs H Q E_
inductive aEe(H:Hp)(n:List Nat)(a:aF)(cs:List (List aM))(i:Nat)(σ:L2.St)(H':Hp):Prop
 |mk:∀(v:Option V),σ=[some (.str (bH n)),some (.ref a),some (.int ((fF ((cs.take i).map λm=>m.contains n):Nat):Int)),some (.int ((2 ^ i:Nat):Int)),v]->H'=H->aEe H n a cs i σ H'
theorem GB(G:aCe c):i7 c "row_with" 1 ["person","crowds"] OA:=by
 refine G.CJ.gG (N:=["person","crowds","row","bit","crowd"]) (k:=0) (λH vs Q E nd hr h=>?_);obtain⟨n,a,cs,rfl,⟨as,ha,al⟩,k⟩:=h;refine⟨_,aD (bb (i:=2) nd bB) (aD (bb (i:=3) nd bB) (aD (fW jC rfl (dQ (pv 1)) (d7 (i:=4) nd) (aD (cf (bU kS (pv 0) (pv 4) rfl) (aL (DI (i:=2) nd rfl (zx rfl) (pv 3) Cd)) b8) (aL (bb (i:=3) nd (eM RK (pv 3) bB))))) (aL (bE (pv 2))))),?_⟩;have hlen:=al.len;refine⟨_,rfl,a,rfl,⟨_,bf.of ha⟩,fH (xs:=as.map V.ref) (aEe H n a cs) ⟨none,rfl,rfl⟩ (λi σ H' _ ⟨_,_,e⟩=>by rw[e];exact bf.of ha) ?_ ?_⟩
 ·rintro i x σ H' hx ⟨v,rfl,rfl⟩;rw[aP]at hx;cases hb:as[i]? with
  |none=>rw[hb]at hx;cases hx
  |some b=>
   rw[hb]at hx;have e:x=V.ref b:=(aV hx).symm;subst e;obtain⟨m,hm,hb2⟩:=al.at' hb;have hb2:H' b=some (.lst (m.map vS)):=hb2;have hi:i<cs.length:=(a8.mp hm).1;have hrow:fF ((cs.take (i+1)).map λm=>m.contains n)=fF ((cs.take i).map λm=>m.contains n)+(if m.contains n=true then 2 ^ i else 0):=by
    rw[cy hm,aw]
    have:=Rm (xs:=(cs.take i).map λm=>m.contains n) (b:=m.contains n)
    rw[aB,cB,kX (by omega)]at this;exact this
   have hpow:((2 ^ i:Nat):Int)*2=((2 ^ (i+1):Nat):Int):=by rw[sj];omega
   refine⟨_,rfl,_,rfl,b,_,rfl,.inl (bf.of hb2),rfl,qf _,_,rfl,?_⟩;rw[show(if false=true then !vw (V.str (bH n)) (m.map vS)else vw (V.str (bH n)) (m.map vS))=m.contains n from by rw[show V.str (bH n)=vS n from rfl,uh];rfl];cases q:m.contains n with
   |true=>rw[q]at hrow;refine bq ⟨_,rfl,_,rfl,_,_,rfl,rfl,_,rfl,_,_,rfl,rfl,.inr ⟨by decide,by decide⟩,some (V.ref b),?_,rfl⟩;show[_,_,some (V.int (((fF ((cs.take i).map λm=>m.contains n):Nat):Int)+((2 ^ i:Nat):Int))),some (V.int (((2 ^ i:Nat):Int)*2)),_]=_;rw[hpow,hrow];simp
   |false=>rw[q]at hrow;refine bW ⟨_,rfl,_,_,rfl,rfl,.inr ⟨by decide,by decide⟩,some (V.ref b),?_,rfl⟩;show[_,_,some (V.int ((fF ((cs.take i).map λm=>m.contains n):Nat):Int)),some (V.int (((2 ^ i:Nat):Int)*2)),_]=_;rw[hpow,hrow];simp
 ·rintro σ H' ⟨v,rfl,rfl⟩;refine⟨_,rfl,?_⟩;rw[aB,hlen,cD];exact k
inductive Ui(vs:List V)(H:Hp)(Q:VK)(E_:XK):Prop
 |mk:∀a cs f,vs=[.ref a,.int ((fF (vN f cs):Nat):Int)]->sX H a cs->(match cs.find? f with
 |some m=>∀x,H x=some (.lst (m.map vS))->Q (.ref x) H
 |none=>Q .fB H)->Ui vs H Q E_
inductive aEf(H:Hp)(a:aF)(cs:List (List aM))(g:List aM->Bool)(i:Nat)(σ:L2.St)(H':Hp):Prop
 |mk:∀(v:Option V),σ=[some (.ref a),some (.int ((fF ((cs.drop i).map g):Nat):Int)),v]->H'=H->cs.find? g=(cs.drop i).find? g->aEf H a cs g i σ H'
theorem BE(G:aCe c):i7 c "first_crowd" 1 ["crowds","row"] Ui:=by
 refine G.vZ.gG (N:=["crowds","row","crowd"]) (k:=0) (λH vs Q E nd hr h=>?_);obtain⟨a,cs,g,rfl,⟨as,ha,al⟩,k⟩:=h;refine⟨_,aD (fW jC rfl (dQ (pv 0)) (d7 (i:=2) nd) (aD (cf (bU eX (eM Wi (pv 1) bB) bB (bt _)) (aL (bE (pv 2))) b8) (aL (bb (i:=1) nd (eM UY (pv 1) bB))))) (aL (bE uP)),?_⟩;have hlen:=al.len;refine⟨_,rfl,a,rfl,⟨_,bf.of ha⟩,fH (xs:=as.map V.ref) (aEf H a cs g) ⟨none,rfl,rfl,rfl⟩ (λi σ H' _ ⟨_,_,e,_⟩=>by rw[e];exact bf.of ha) ?_ ?_⟩
 ·rintro i x σ H' hx ⟨v,rfl,rfl,hf⟩;rw[aP]at hx;cases hb:as[i]? with
  |none=>rw[hb]at hx;cases hx
  |some b=>
   rw[hb]at hx;have e:x=V.ref b:=(aV hx).symm;subst e;obtain⟨m,hm,hb2⟩:=al.at' hb;have hi:i<cs.length:=(a8.mp hm).1;have hdr:cs.drop i=m::cs.drop (i+1):=by rw[b3 hi,(a8.mp hm).2]
   rw[hdr]at hf;rw[hdr,bO,fF];refine⟨_,rfl,_,_,rfl,rfl,by show(0:Int)<2;decide,rfl,_,rfl,?_⟩;cases q:g m with
   |true=>
    rw[dE (by
     congr 1
     simp)]
    rw[cw,q]at hf;rw[hf]at k;exact bq ⟨_,rfl,k b hb2⟩
   |false=>
    rw[dF (by
     intro z;injection z with z;simp at z)]
    rw[cw,q]at hf;refine bW ⟨_,rfl,_,_,rfl,rfl,⟨by decide,by decide⟩,some (V.ref b),?_,rfl,hf⟩;show[_,some (V.int ((((if false=true then 1 else 0)+2*fF ((cs.drop (i+1)).map g):Nat):Int)/2)),_]=_
    have:(((if false=true then 1 else 0)+2*fF ((cs.drop (i+1)).map g):Nat):Int)/2=((fF ((cs.drop (i+1)).map g):Nat):Int):=by simp
    rw[this]
 ·rintro σ H' ⟨v,rfl,rfl,hf⟩;rw[aB,hlen,fD]at hf;rw[hf]at k;exact k
end
theorem NP(xs:List V)(h:k<=xs.length):CF xs (some (k:Int)) none=xs.drop k:=by unfold CF;rw[HT.JI,HT.qw,kX h];exact sN (by rw[ay];omega)
theorem QO:∀{l:List aM}{j:Nat},l[j]?=some x->l.idxOf x<=j
 |[],j,h=>by cases h
 |a::r,0,h=>by
  have:a=x:=by simpa using h
  subst this;rw[Dl];simp
 |a::r,j+1,h=>by have ih:=QO (l:=r) (j:=j) (by simpa using h);rw[Dl];cases a==x <;> simp <;> omega
theorem Ep:Jh (vS a) (vS b)=true↔a=b:=by show(bH a==bH b)=true↔_;rw[beq_iff_eq];exact⟨ki,λh=>by rw[h]⟩
section
variable{c:Cn}
inductive SH(vs:List V)(H:Hp)(Q:VK)(E_:XK):Prop
 |mk:∀a p cs ps,vs=[.ref a,.ref p]->sX H a cs->H p=some (.lst (vN vS ps))->(∀m∈cs,∀x∈m,x∈ps)->ps.length<=8->cs.length<=3000->(∀m∈cs,m.length<=9)->(∀b H',H b=none->sX H' b (cs.flatMap (sF ps))->bA H H'->Q (.ref b) H')->SH vs H Q E_
inductive aDy(H:Hp)(a:aF)(p:aF)(cs:List (List aM))(ps:List aM)(L:aF)(i:Nat)(σ:L2.St)(H':Hp):Prop
 |mk:∀(v3 v4:Option V)(bs:List aF),σ=[some (.ref a),some (.ref p),some (.ref L),v3,v4,none]->bA H H'->H' L=some (.lst (bs.map V.ref))->Al (λx m=>xT H' x m/\x≠L) bs ((cs.take i).flatMap (sF ps))->aDy H a p cs ps L i σ H'
theorem xm(G:aCe c):i7 c "larger_by_one" 1 ["crowds","people"] SH:=by
 refine G.rP.gG (N:=["crowds","people","larger","crowd","begin","person"]) (k:=0) (λH vs Q E nd hr h=>?_);obtain⟨a,p,cs,ps,rfl,⟨as,ha,al⟩,hp,hin,h8,hcs,hm9,k⟩:=h;refine⟨_,aD (bb (i:=2) nd (cp aH)) (aD (fW jC rfl (dQ (pv 0)) (MY (i:=3) nd rfl (HF rfl)) (aD (bb (i:=4) nd (lx (ck (pv 3) (λ_=>rfl)) (eM wm (fZ aR E7 PySem.F.type_list_index Q6 (pv 1) (aA (fE du (pv 3) (wG pT bB) (λ_ _=>rfl)) aH)) bB) bB)) (aL (ax (fZ aR cU cV iY (pv 2) (aA (ni (own:=[("person",5)]) rfl nd (dQ (ly B7 (pv 1) (jc (pv 4)) G7)) (fo (by kernel_rfl)) (λ_ _ _ _ _=>d7 (i:=5) nd) (λ_ _ _ _ _=>kg) (λ_ _ _ _ _=>eM wo (pv 3) (cp (aA (pv 5) aH)))) aH)))))) (aL (bE (pv 2)))),?_⟩;refine⟨bR _,λL hL=>?_⟩;have sL:=aCb (o:=.lst []) hL;refine⟨_,rfl,a,rfl,⟨_,bf.of (sL _ _ ha)⟩,fH (xs:=as.map V.ref) (aDy H a p cs ps L) ⟨none,none,[],rfl,sL,aC,.nil⟩ ?_ ?_ ?_⟩
 ·rintro i σ H' hi ⟨_,_,_,_,sm,_⟩;exact bf.of (sm _ _ ha)
 ·rintro i y σ H' hy ⟨v3,v4,bs,rfl,sm,hLs,alb⟩;rw[aP]at hy;cases hb:as[i]? with
  |none=>rw[hb]at hy;cases hy
  |some b=>
   rw[hb]at hy;have e:y=V.ref b:=(aV hy).symm;subst e;obtain⟨m,hm,hb2⟩:=al.at' hb;have hmm:=bp hm;have hb2:H b=some (.lst (m.map vS)):=hb2;have hblen:((cs.take i).flatMap (sF ps)).length<=8*cs.length:=by
    have:∀l:List (List aM),(l.flatMap (sF ps)).length<=8*l.length:=λl=>by
     induction l with
     |nil=>simp
     |cons z r ih=>
      rw[gE,aN,aG]
      have:(sF ps z).length<=ps.length:=by unfold sF;rw[aB,ay];omega
      omega
    have:=this (cs.take i)
    rw[cB]at this;omega
   have hbl:=alb.len;have go:∀k0:Nat,k0=rJ ps m->k0<=ps.length->Ah (aAc c.K "list" M1 (g9 2) (gT (X3 (QN c.K (tSl (ZD c.K) (g9 1) (Vg (g9 4)) Ma)) (tw 5) Uy (Mb Yz (g9 3) (ZQ (gT (g9 5) oA))) ([(("person":Str),5)].map λx=>x.2)) oA))
     {nx:=aDy H a p cs ps L (i+1),rt:=Q,bk:=Gr (g9 2) {nx:=λx H'=>Q .fB H',rt:=Q},ct:=aDy H a p cs ps L (i+1)} [some (.ref a),some (.ref p),some (.ref L),some (.ref b),some (.int (k0:Int)),none] H':=by
    intro k0 e0 hk0;refine⟨_,rfl,.inl ⟨rfl,_,bf.of hLs⟩,_,rfl,_,rfl,_,rfl,p,_,rfl,bf.of (sm _ _ hp),λq hq=>?_⟩;rw[NP _ (by rw[aB];exact hk0),<-xR];have sq:=aCb (o:=.lst ((ps.drop k0).map vS)) hq;refine⟨q,rfl,⟨_,bf.of aC⟩,λD hD=>?_⟩;have hqq:(aCc H' q (.lst ((ps.drop k0).map vS))) q=some (.lst ((ps.drop k0).map vS)):=aC;generalize aCc H' q (.lst ((ps.drop k0).map vS))=H2 at sq hD hqq;have hLD:L≠D:=aK (sq _ _ hLs) hD;refine ML (zs:=ps.drop k0) (keep:=λ_=>true) (R:=λH v z=>∃x,v=V.ref x/\xT H x (m++[z])/\x≠L/\x≠D) hD (by rw[ay];omega) (λi H' hi s1=>⟨_,_,bf.of (s1 _ _ hqq),by rw[aP,aX hi];rfl⟩) (λH' s1=>⟨_,bf.of (s1 _ _ hqq),by rw[aB];exact a9 _⟩) ?_ ?_ ?_
    ·rintro H3 H4 v z ⟨x,h1,h2,h3,h4⟩ kp;exact⟨x,h1,kp _ _ h2 (by simpa using h4),h3,h4⟩
    ·rintro j z H3 x H4 Zy Zn hz s3 ⟨acc,hacc⟩ ⟨rfl,hx⟩ k1 k2;have hx:=hx _ (bf.of (s3 _ _ hqq));rw[aP,hz]at hx;have e:x=vS z:=(aV hx).symm;subst e;have hb3:=s3 _ _ (sq _ _ (sm _ _ hb2));refine⟨rfl,_,rfl,_,rfl,kh,λt ht=>?_⟩;have m9:=hm9 m hmm;refine⟨b,t,_,_,rfl,rfl,aCb ht _ _ hb3,aC,by rw[aB];exact sl (by show m.length+1<=100000;omega),λx hx=>?_⟩;have s45:bA H4 (aCc (aCc H4 t (.lst [vS z])) x (.lst (m.map vS++[vS z]))):=λb o q=>aCb hx _ _ (aCb ht _ _ q);refine k1 rfl _ _ ⟨x,rfl,?_,?_,?_⟩ s45
     ·show aCc _ x _ x=_;rw[aC,aw];rfl
     ·exact(aK (aCb ht _ _ (s3 _ _ (sq _ _ hLs))) hx).symm
     ·exact(aK (aCb ht _ _ hacc) hx).symm
    ·intro H3 ys e3 al3 s3;rw[show(ps.drop k0).filter (λ_=>true)=ps.drop k0 from Mr.mpr λ_ _=>rfl]at al3;obtain⟨xs,rfl,al4⟩:∃xs:List aF,ys=xs.map V.ref/\Al (λx z=>xT H3 x (m++[z])/\x≠L/\x≠D) xs (ps.drop k0):=by
      clear e3;generalize ps.drop k0=zz at al3
      induction al3 with
      |nil=>exact⟨[],rfl,.nil⟩
      |cons p q ih=>obtain⟨x,rfl,p2⟩:=p;obtain⟨xs,rfl,ih⟩:=ih;exact⟨x::xs,rfl,.cons p2 ih⟩
     have hL3:=s3 _ _ (sq _ _ hLs);have xl:=al4.len;rw[ay]at xl;refine⟨L,D,_,_,rfl,rfl,hL3,e3,by rw[aB,aB];exact sl (by omega),_,_,bs++xs,rfl,?_,?_,?_⟩
     ·intro b' o z;rw[aJ (aK z hL)];exact s3 _ _ (sq _ _ (sm _ _ z))
     ·rw[aC,aw]
     ·rw[cy hm,eN];refine Al.app (alb.mono λx z h=>⟨?_,h.2⟩) ?_
      ·show aCc H3 L _ x=_;rw[aJ h.2];exact s3 _ _ (sq _ _ h.1)
      ·rw[sJ];unfold sF;rw[<-e0];have key:∀(o:HO){xs:List aF}{zz:List aM},Al (λx z=>xT H3 x (m++[z])/\x≠L/\x≠D) xs zz->Al (λx m'=>xT (aCc H3 L o) x m'/\x≠L) xs (zz.map λy=>m++[y]):=by
        intro o xs zz h
        induction h with
        |nil=>exact .nil
        |cons p q ih=>refine .cons ⟨?_,p.2.1⟩ ih;show aCc H3 L _ _=_;rw[aJ p.2.1];exact p.1
       exact key _ al4
   have hb3:=sm _ _ hb2;refine⟨_,rfl,_,.inl ⟨_,bf.of hb3,rfl⟩,?_⟩;cases hml:m.getLast? with
   |none=>
    have:m=[]:=List.getLast?_eq_none_iff.mp hml
    subst this;exact bW (go 0 (by simp[rJ]) (bR _))
   |some x=>
    have hne:(!(m.map vS).isEmpty)=true:=by
     cases m with
     |nil=>cases hml
     |cons _ _=>rfl
    rw[hne];have hx:x∈ps:=hin m hmm x (La hml);have hidx:ps.idxOf x<ps.length:=List.idxOf_lt_length_of_mem hx;refine bq ⟨_,rfl,.inl ⟨rfl,_,bf.of (sm _ _ hp)⟩,_,rfl,_,rfl,b,_,_,vS x,rfl,rfl,bf.of hb3,x8 (by rw[zw,hml];rfl),p,_,vS x,ps.idxOf x,vS x,rfl,rfl,bf.of (sm _ _ hp),rfl,qf _,?_,Ep.mpr rfl,?_,?_⟩
    ·rw[aP,aX hidx,List.getElem_idxOf hidx];rfl
    ·intro j z hj hz;rw[aP]at hz;cases e:ps[j]? with
     |none=>rw[e]at hz;cases hz
     |some w=>
      rw[e]at hz
      have:z=vS w:=(aV hz).symm
      subst this;rw[bT];intro q
      have:w=x:=Ep.mp q
      subst this
      have:=QO e
      omega
    ·refine⟨_,_,rfl,rfl,?_⟩;exact go (ps.idxOf x+1) (by unfold rJ;rw[hml]) (by omega)
 ·rintro σ H' ⟨v3,v4,bs,rfl,sm,hLs,alb⟩;rw[aB,al.len,cD]at alb;exact⟨_,rfl,k L H' hL ⟨bs,hLs,alb.mono λ_ _ z=>z.1⟩ sm⟩
theorem Ys:∀{as:List aF}{cs:List (List aM)},Al (xT H) as cs->H L=some (.lst xs)->(∃x r,xs=V.ref x::r)->(∀m∈cs,m≠[])->Al (λx m=>xT H x m/\x≠L) as cs:=λ{as cs} h hL hx hm=>by
 induction h with
 |nil=>exact .nil
 |cons p q ih=>
  refine .cons ⟨p,λz=>?_⟩ (ih λm h=>hm m (aq _ h));subst z;rename_i m _ _;have p:H _=some (.lst (m.map vS)):=p;rw[hL]at p;obtain⟨x,r,rfl⟩:=hx;cases m with
  |nil=>exact hm [] cA rfl
  |cons y r'=>simp at p
inductive Ry(vs:List V)(H:Hp)(Q:VK)(E_:XK):Prop
 |mk:∀p ps,vs=[.ref p]->H p=some (.lst (vN vS ps))->ps.length<=8->ps.Nodup->(∀b H',sX H' b (Lk ps)->bA H H'->Q (.ref b) H')->Ry vs H Q E_
inductive aEg(H:Hp)(p:aF)(ps:List aM)(L:aF)(m:Nat)(σ:L2.St)(H':Hp):Prop
 |mk:∀(k0:Nat)(a':aF)(bs as:List aF),m=ps.length+2 - k0->k0<=ps.length+1->σ=[some (.ref p),some (.ref L),some (.ref a')]->bA H H'->a'≠L->H' L=some (.lst (bs.map V.ref))->Al (λx m=>xT H' x m/\x≠L) bs ((ek k0).flatMap λk=>di k ps)->H' a'=some (.lst (as.map V.ref))->Al (λx m=>xT H' x m/\x≠L) as (di k0 ps)->aEg H p ps L m σ H'
theorem EG(G:aCe c):i7 c "crowds_of" 2 ["people"] Ry:=by
 refine G.AO.gG (N:=["people","crowds","as_small"]) (k:=1) (λH vs Q E nd hr h=>?_);obtain⟨p,ps,rfl,hp,h8,hnd,k⟩:=h;refine⟨_,aD (bb (i:=1) nd (cp aH)) (aD (bb (i:=2) nd (cp (aA (cp aH) aH))) (aD (jY jC (ck (pv 2) (λ_=>rfl)) (aD (ax (fZ aR cU cV iY (pv 1) (aA (pv 2) aH))) (aL (bb (i:=2) nd (az (xm G) hr ae (aA (pv 2) (aA (pv 0) aH))))))) (aL (bE (pv 1))))),?_⟩;refine⟨bR _,λL hL=>⟨bR _,λe he=>⟨kh,λa ha=>?_⟩⟩⟩;have s1:=aCb (o:=.lst []) hL;have s2:=aCb (o:=.lst []) he;have s3:=aCb (o:=.lst [V.ref e]) ha;have s03:bA H (aCc (aCc (aCc H L (.lst [])) e (.lst [])) a (.lst [V.ref e])):=λb o z=>s3 _ _ (s2 _ _ (s1 _ _ z));have hLe:L≠e:=aK aC he;have hLa:L≠a:=aK (s2 _ _ aC) ha;have hea:e≠a:=aK aC ha;have hL3:(aCc (aCc (aCc H L (.lst [])) e (.lst [])) a (.lst [V.ref e])) L=some (.lst []):=by rw[aJ hLa,aJ hLe,aC]
 have he3:(aCc (aCc (aCc H L (.lst [])) e (.lst [])) a (.lst [V.ref e])) e=some (.lst []):=by rw[aJ hea,aC]
 have ha3:(aCc (aCc (aCc H L (.lst [])) e (.lst [])) a (.lst [V.ref e])) a=some (.lst [V.ref e]):=aC;generalize aCc (aCc (aCc H L (.lst [])) e (.lst [])) a (.lst [V.ref e])=H3 at s03 hL3 he3 ha3;have pw:2 ^ ps.length<=256:=by
  have:=Nat.pow_le_pow_right (n:=2) (by decide) h8
  simpa using this
 refine⟨aEg H p ps L,⟨_,0,a,[],[e],rfl,bR _,rfl,s03,hLa.symm,hL3,.nil,ha3,?_⟩,?_⟩
 ·simp only[di];exact Al.one ⟨he3,hLe.symm⟩
 rintro m σ H' ⟨k0,a',bs,as,rfl,hk,rfl,sm,nal,hLs,alb,has,ala⟩;refine⟨_,rfl,_,.inl ⟨_,bf.of has,rfl⟩,?_⟩;by_cases q:k0<=ps.length
 ·have hne:(!(as.map V.ref).isEmpty)=true:=by
   cases as with
   |nil=>
    have:=ala.len
    exact absurd (eQ this.symm) (CA q)
   |cons _ _=>rfl
  rw[hne];have cl:=oh ps k0;have fl:((ek k0).flatMap λk=>di k ps).length<=k0*256:=by
   have:∀n:Nat,((ek n).flatMap λk=>di k ps).length<=n*256:=λn=>by
    induction n with
    |zero=>simp
    |succ n ih=>
     rw[T8,eN,aN,sJ]
     have:=oh ps n
     omega
   exact this k0
  have l1:=alb.len;have l2:=ala.len;refine bq ⟨_,λ_ _ z=>z,?_⟩;refine⟨_,rfl,.inl ⟨rfl,_,bf.of hLs⟩,_,rfl,L,a',_,_,rfl,rfl,hLs,has,by rw[aB,aB];exact sl (by omega),?_⟩;have kp:Kp [L] H' (aCc H' L (.lst (bs.map V.ref++as.map V.ref))):=Kp.put (by simp);have up:∀{x:aF}{m:List aM},(xT H' x m/\x≠L)->xT (aCc H' L (.lst (bs.map V.ref++as.map V.ref))) x m/\x≠L:=λ{x m} z=>⟨kp _ _ z.1 (by simpa using z.2),z.2⟩;have sm2:bA H (aCc H' L (.lst (bs.map V.ref++as.map V.ref))):=λb o z=>kp _ _ (sm _ _ z) (by simpa using aK z hL);have hL4:(aCc H' L (.lst (bs.map V.ref++as.map V.ref))) L=some (.lst (bs.map V.ref++as.map V.ref)):=aC;have has4:(aCc H' L (.lst (bs.map V.ref++as.map V.ref))) a'=some (.lst (as.map V.ref)):=by rw[aJ nal];exact has
  generalize aCc H' L (.lst (bs.map V.ref++as.map V.ref))=H4 at kp up sm2 hL4 has4;refine⟨_,rfl,_,rfl,a',p,di k0 ps,ps,rfl,⟨as,has4,ala.mono λ_ _ z=>(up z).1⟩,sm2 _ _ hp,λm hm=>(jU hm).2,h8,by omega,λm hm=>by rw[(jU hm).1];omega,λb H5 hb cr s5=>?_⟩;rw[tN ps k0 hnd]at cr;obtain⟨as5,h5,al5⟩:=cr;refine⟨_,by omega,k0+1,b,bs++as,as5,rfl,by omega,rfl,λb o z=>s5 _ _ (sm2 _ _ z),(aK hL4 hb).symm,by rw[s5 _ _ hL4,aw],?_,h5,?_⟩
  ·rw[T8,eN,sJ];exact Al.app (alb.mono λ_ _ z=>⟨s5 _ _ (up z).1,z.2⟩) (ala.mono λ_ _ z=>⟨s5 _ _ (up z).1,z.2⟩)
  ·have hL5:=s5 _ _ hL4
   refine Ys al5 hL5 ?_ (by
    intro m hm z;subst z
    have:=(jU hm).1
    simp at this)
   have hbs:as.map V.ref≠[]:=by intro z;rw[z]at hne;cases hne
   cases h1:bs with
   |nil=>
    cases h2:as with
    |nil=>rw[h2]at hbs;exact absurd rfl hbs
    |cons x y=>exact⟨x,_,rfl⟩
   |cons x y=>exact⟨x,_,rfl⟩
 ·have e:k0=ps.length+1:=by omega
  subst e;rw[tP (by omega)]at ala;cases ala;exact bW ⟨_,rfl,k L H' ⟨bs,hLs,alb.mono λ_ _ z=>z.1⟩ sm⟩
end
def yw(path:aM):bX->Bool
 |.need p _=>eA p path
 |.veto p _=>eA p path
 |.sticky p=>eA p path
 |.default_ _=>true
 |_=>false
def way:bX->Nat
 |.need _ _=>1
 |.veto _ _=>2
 |.sticky _=>3
 |_=>4
def gc(l:b6)(path:aM):List (Nat×Nat):=l.zipIdx.filterMap λx=>if yw path x.1=true then some (x.2+1,way x.1)else none
def ij(l:b6)(path:aM):List (Nat×Nat):=if((gc l path).any λx=>decide (x.2=1))=true then(gc l path).filter (λx=>!decide (x.2=4))else gc l path
def aCj(td:List (Nat×Nat))(k:Nat):List Nat:=(td.filter λx=>decide (x.2=k)).map (·.1)
abbrev J4(u1 u2 u3 u4:aE):List (Key×aE):=[(ai "need",u1),(ai "veto",u2),(ai "sticky",u3),(ai "default",u4)]
theorem Mi{k:Key}{u:aE}{r:List (Key×aE)}:fw ((k,u)::r) k=some u:=by simp[fw]
theorem wJ{k k':Key}{u:aE}{r:List (Key×aE)}(h:¬k=k'):fw ((k,u)::r) k'=fw r k':=by unfold fw;rw[cw,dF h]
theorem aCp(h:¬x=y):¬(ai x:Key)=ai y:=λz=>by injection z with z;exact h z
section
variable{c:Cn}
def Hd(H:Hp)(x:aF)(p:Nat×Nat):Prop:=H x=some (.tup [iV p.1,iV p.2])
inductive Dv(H:Hp)(a:aF)(ps:List (Nat×Nat)):Prop
 |mk:∀as,H a=some (.lst (as.map V.ref))->Al (Hd H) as ps->Dv H a ps
theorem Dv.same(h:Dv H a ps)(s:bA H H'):Dv H' a ps:=by obtain⟨as,h1,h2⟩:=h;exact⟨as,s _ _ h1,h2.mono λ_ _ z=>s _ _ z⟩
theorem yo{u1 u2 u3 u4:aE}(r1:aCg (.int 1) u1)(r2:aCg (.int 2) u2)(r3:aCg (.int 3) u3)(r4:aCg (.int 4) u4)(s:bX)(h:aCn s≠"person"/\aCn s≠"group"):
  ∃u,fw (J4 u1 u2 u3 u4) (ai (aCn s):Key)=some u/\aCg (iV (way s)) u:=by
 cases s with
 |person l=>exact absurd rfl h.1
 |group n l=>exact absurd rfl h.2
 |need p x=>exact⟨u1,Mi,r1⟩
 |veto p n=>show ∃u,fw (J4 u1 u2 u3 u4) (ai "veto")=some u/\aCg (iV 2) u;exact⟨u2,(wJ (aCp (by trivial))).trans Mi,r2⟩
 |sticky p=>show ∃u,fw (J4 u1 u2 u3 u4) (ai "sticky")=some u/\aCg (iV 3) u;exact⟨u3,(wJ (aCp (by trivial))).trans ((wJ (aCp (by trivial))).trans Mi),r3⟩
 |default_ x=>show ∃u,fw (J4 u1 u2 u3 u4) (ai "default")=some u/\aCg (iV 4) u;exact⟨u4,(wJ (aCp (by trivial))).trans ((wJ (aCp (by trivial))).trans ((wJ (aCp (by trivial))).trans Mi)),r4⟩
theorem Fb{u1 u2 u3 u4:aE}{x:Str}(h1:¬("need":Str)=x)(h2:¬("veto":Str)=x)(h3:¬("sticky":Str)=x)(h4:¬("default":Str)=x):
  fw (J4 u1 u2 u3 u4) (ai x:Key)=none:=
 (wJ (aCp h1)).trans ((wJ (aCp h2)).trans ((wJ (aCp h3)).trans ((wJ (aCp h4)).trans rfl)))
inductive Up(c:Cn)(vs:List V)(H:Hp)(Q:VK)(E_:XK):Prop
 |mk:∀a s F path,vs=[.ref a,.str (bH path)]->iB c F H a s->path.length<=2000->(∀H',bA H H'->Q (.bl (yw path s)) H')->Up c vs H Q E_
theorem zM(G:aCe c):i7 c "may_speak_of" 2 ["statement","path"] (Up c):=by
 obtain⟨u1,u2,u3,u4,hm,kd,r1,r2,r3,r4⟩:=G.LF;refine G.t8.gG (N:=["statement","path"]) (k:=1) (λH vs Q E nd hr h=>?_);obtain⟨a,st,F,path,rfl,⟨dx,nm,na,pat,cd,o1,_,_,hB⟩,hpl,k⟩:=h;refine⟨_,aD (cf (bU eX (ag (pv 0) rfl) (b9 G.qD) (bt _)) (aL (bE FL)) b8) (aL (bE (wu (RQ (U1 (ag (pv 0) rfl) (by rfl) hm kd)) (qk (az (mT G) hr ae (aA (ag (pv 0) rfl) (aA (pv 1) aH))))))),?_⟩;refine⟨_,rfl,a,c.CS,dx,_,_,rfl,o1,G.aZ,G.ah,cY,rfl,_,rfl,?_⟩;rw[Gn];have pat40:∀{p:km},cW pat=some p->pat.length<=2000:=λh=>by
  have:=(iG h).2
  omega
 cases st with
 |default_ x=>exact bq (k _ λ_ _ h=>h)
 |person l=>refine bW ⟨_,rfl,a,c.CS,dx,_,_,rfl,o1,G.aZ,G.ah,cY,ai "person",rfl,_,rfl,?_⟩;rw[Fb (by trivial) (by trivial) (by trivial) (by trivial)];exact bW (k _ λ_ _ h=>h)
 |group n l=>refine bW ⟨_,rfl,a,c.CS,dx,_,_,rfl,o1,G.aZ,G.ah,cY,ai "group",rfl,_,rfl,?_⟩;rw[Fb (by trivial) (by trivial) (by trivial) (by trivial)];exact bW (k _ λ_ _ h=>h)
 |need p x=>obtain⟨u,e,_⟩:=yo r1 r2 r3 r4 (.need p x) ⟨by show ¬("need":Str)="person";decide+kernel,by show ¬("need":Str)="group";decide+kernel⟩;refine bW ⟨_,rfl,a,c.CS,dx,_,_,rfl,o1,G.aZ,G.ah,cY,ai (aCn (.need p x)),rfl,_,rfl,?_⟩;rw[e];exact bq ⟨_,rfl,a,c.CS,dx,_,_,rfl,o1,G.aZ,G.c8,kT,_,rfl,pat,path,p,rfl,pat40 hB.1,hpl,hB.1,k⟩
 |veto p n=>obtain⟨u,e,_⟩:=yo r1 r2 r3 r4 (.veto p n) ⟨by show ¬("veto":Str)="person";decide+kernel,by show ¬("veto":Str)="group";decide+kernel⟩;refine bW ⟨_,rfl,a,c.CS,dx,_,_,rfl,o1,G.aZ,G.ah,cY,ai (aCn (.veto p n)),rfl,_,rfl,?_⟩;rw[e];exact bq ⟨_,rfl,a,c.CS,dx,_,_,rfl,o1,G.aZ,G.c8,kT,_,rfl,pat,path,p,rfl,pat40 hB.1,hpl,hB.1,k⟩
 |sticky p=>obtain⟨u,e,_⟩:=yo r1 r2 r3 r4 (.sticky p) ⟨by show ¬("sticky":Str)="person";decide+kernel,by show ¬("sticky":Str)="group";decide+kernel⟩;refine bW ⟨_,rfl,a,c.CS,dx,_,_,rfl,o1,G.aZ,G.ah,cY,ai (aCn (.sticky p)),rfl,_,rfl,?_⟩;rw[e];exact bq ⟨_,rfl,a,c.CS,dx,_,_,rfl,o1,G.aZ,G.c8,kT,_,rfl,pat,path,p,rfl,pat40 hB.1,hpl,hB.1,k⟩
inductive XH(vs:List V)(H:Hp)(Q:VK)(E_:XK):Prop
 |mk:∀a td k,vs=[.ref a,.int ((k:Nat):Int)]->Dv H a td->td.length<=1000->(∀b H',H b=none->H' b=some (.lst ((aCj td k).map iV))->bA H H'->Q (.ref b) H')->XH vs H Q E_
theorem iU(G:aCe c):i7 c "numbers_told" 1 ["told","asked"] XH:=by
 refine G.t9.gG (N:=["told","asked","number","way"]) (k:=0) (λH vs Q E nd hr h=>?_);obtain⟨a,td,kk,rfl,⟨as,ha,al⟩,hl,k⟩:=h;refine⟨_,aL (bE (ni (own:=[("number",2),("way",3)]) rfl nd (dQ (pv 0)) (fo (by kernel_rfl)) (λ_ _ _ _ _=>G2 (K:=c.K) (n:=2) rfl rfl (gH (d7 (i:=2) nd) (gH (d7 (i:=3) nd) pB))) (λ_ _ _ _ _=>uk (bU eX (pv 3) (pv 1) (bt _))) (λ_ _ _ _ _=>pv 2))),?_⟩;have hlen:=al.len;refine⟨_,rfl,a,rfl,⟨_,bf.of ha⟩,λD hD=>?_⟩;refine jb (zs:=td) (f:=λp=>if p.2=kk then some (iV p.1)else none) hD (by omega) (λi H' hi s1=>?_) (λH' s1=>⟨_,bf.of (s1 _ _ ha),by rw[aB];omega⟩) ?_ ?_
 ·obtain⟨x,hx,_⟩:=al.at_ (aX hi);exact⟨_,_,bf.of (s1 _ _ ha),by rw[aP,hx];rfl⟩
 ·rintro i z H2 x H3 Zy Zn hz s2 ⟨rfl,hx⟩ k1 k2;have hx:=hx _ (bf.of (s2 _ _ ha));obtain⟨t,ht,hT⟩:=al.at_ hz;rw[aP,ht]at hx;have e:x=V.ref t:=(aV hx).symm;subst e;refine⟨t,_,rfl,qU.of (s2 _ _ hT),rfl,_,_,rfl,_,_,rfl,rfl,rfl,_,rfl,_,rfl,rfl,_,rfl,?_⟩;by_cases q:z.2=kk
  ·exact aDx (show iV z.2=V.int (kk:Int)by rw[q]) ⟨_,rfl,k1 _ _ (by rw[iP q]) λ_ _ h=>h⟩
  ·exact aDw (show ¬iV z.2=V.int (kk:Int)by intro z;injection z with z;omega) (k2 _ (by rw[iN q]) λ_ _ h=>h)
 ·intro H2 e s2;refine k D _ hD ?_ s2;rw[e];congr 2;unfold aCj;rw[bN,<-lX,lY];congr 1;funext p;by_cases q:p.2=kk <;> simp[q]
inductive SI(vs:List V)(H:Hp)(Q:VK)(E_:XK):Prop
 |mk:∀a td,vs=[.ref a]->Dv H a td->td.length<=1000->(∀b H',H b=none->H' b=some (.lst ((aCj td 1++aCj td 4).map iV))->bA H H'->Q (.ref b) H')->SI vs H Q E_
theorem uN(td:List (Nat×Nat))(k:Nat):(aCj td k).length<=td.length:=by unfold aCj;rw[aB];exact cP _ _
theorem Bx(G:aCe c):i7 c "needs_told" 2 ["told"] SI:=by refine G.xy.gG (N:=["told"]) (k:=1) (λH vs Q E nd hr h=>?_);obtain⟨a,td,rfl,hT,hl,k⟩:=h;refine⟨_,aL (bE (eM wo (az (iU G) hr ae (aA (pv 0) (aA (b9 G.zR) aH))) (az (iU G) hr ae (aA (pv 0) (aA (b9 G.qi) aH))))),?_⟩;have l1:=uN td 1;have l4:=uN td 4;refine⟨_,rfl,a,td,1,rfl,hT,hl,λb1 H1 hb1 h1 s1=>?_⟩;refine⟨_,rfl,a,td,4,rfl,hT.same s1,hl,λb2 H2 hb2 h2 s2=>?_⟩;refine⟨b1,b2,_,_,rfl,rfl,s2 _ _ h1,h2,by rw[aB,aB];exact sl (by omega),λp hp=>?_⟩;exact k p _ (aCf (λb o z=>s2 _ _ (s1 _ _ z)) hp) (by rw[aC,aw]) λb o z=>aCb hp _ _ (s2 _ _ (s1 _ _ z))
end
theorem LI(l:b6)(s:bX)(path:aM):gc (l++[s]) path=gc l path++(if yw path s=true then[(l.length+1,way s)]else[]):=by unfold gc;rw[O2,u9];congr 1;simp only[List.zipIdx_cons,List.zipIdx_nil,gP,List.filterMap_nil,Nat.zero_add];by_cases q:yw path s=true <;> simp[q]
theorem ur(l:b6)(path:aM):(gc l path).length<=l.length:=by
 unfold gc
 have:=HD (λx:bX×Nat=>if yw path x.1=true then some (x.2+1,way x.1)else none) l.zipIdx
 rw[List.length_zipIdx]at this;exact this
theorem mz(l:b6)(path:aM):(ij l path).length<=l.length:=by
 unfold ij;split
 ·exact bw (cP _ _) (ur l path)
 ·exact ur l path
theorem uM(td:List (Nat×Nat))(k:Nat):(!(aCj td k).isEmpty)=td.any λx=>decide (x.2=k):=by
 unfold aCj
 induction td with
 |nil=>rfl
 |cons a r ih=>
  rw[mF,g7];by_cases q:a.2=k
  ·simp[q]
  ·rw[dF q,mI,<-ih];rfl
section
variable{c:Cn}
inductive XJ(c:Cn)(vs:List V)(H:Hp)(Q:VK)(E_:XK):Prop
 |mk:∀a l F path,vs=[.ref a,.str (bH path)]->vQ c F H a l->l.length<=24->path.length<=2000->(∀b H',Dv H' b (ij l path)->bA H H'->Q (.ref b) H')->XJ c vs H Q E_
theorem tK(G:aCe c):i7 c "told_of" 3 ["statements","path"] (XJ c):=by
 obtain⟨u1,u2,u3,u4,hm,kd,r1,r2,r3,r4⟩:=G.LF;refine G.Eo.gG (N:=["statements","path","told","number","statement","pair"]) (k:=2) (λH vs Q E nd hr h=>?_);obtain⟨a,l,F,path,rfl,⟨as,ha,al⟩,hl,hpl,k⟩:=h;refine⟨_,aD (bb (i:=2) nd (cp aH)) (aD (fW jC rfl (Iw (by rfl) G.og (aA (pv 0) aH)) (zb rfl (gH (d7 (i:=3) nd) (gH (d7 (i:=4) nd) pB))) (aL (cf (ck (az (zM G) hr ae (aA (pv 4) (aA (pv 1) aH))) (λ_=>rfl)) (aL (ax (fZ aR ak ao dU (pv 2) (aA (pQ (aA (pv 3) (aA (RT (by rfl) hm kd (ag (pv 4) rfl) (λ_ _=>rfl)) aH))) aH)))) b8))) (aD (cf (ck (az (iU G) hr ae (aA (pv 2) (aA (b9 G.zR) aH))) (λ_=>rfl)) (aL (JA (i:=2) (own:=[("pair",5)]) rfl nd rfl rfl (M8 rfl rfl rfl rfl) (dQ (pv 2)) (fo (by kernel_rfl)) (λ_ _ _ _ _=>d7 (i:=5) nd) (λ_ _ _ _ _=>uk (bU MU (fE (UJ (K:=c.K) rfl) (pv 5) bB (λ_ _=>rfl)) (b9 G.qi) (bt _))) (λ_ _ _ _ _=>pv 5))) b8) (aL (bE (pv 2))))),?_⟩;have hlen:=al.len;refine⟨bR _,λL hL=>?_⟩;have sL:=aCb (o:=.lst []) hL;refine⟨_,rfl,a,_,rfl,bf.of (sL _ _ ha),qh (n:=l.length) (λi σ H'=>∃(v3 v4:Option V)(ts:List aF),σ=[some (.ref a),some (.str (bH path)),some (.ref L),v3,v4,none]/\bA H H'/\H' L=some (.lst (ts.map V.ref))/\Al (Hd H') ts (gc (l.take i) path)) ⟨none,none,[],rfl,sL,aC,.nil⟩ ?_ ?_ ?_ ?_⟩
 ·rintro j σ H' hj ⟨_,_,_,_,sm,_⟩;obtain⟨x,hx,_⟩:=al.at_ (aX hj);exact⟨_,_,bf.of (sm _ _ ha),by rw[aP,hx];rfl⟩
 ·rintro σ H' ⟨_,_,_,_,sm,_⟩;exact⟨_,bf.of (sm _ _ ha),by rw[aB];omega⟩
 ·rintro j σ H' y H2 hj ⟨v3,v4,ts,rfl,sm,hLs,alt⟩ ⟨T,x,rfl,hT,rfl,hx⟩;have hx:=hx _ (bf.of (sm _ _ ha));have hlj:l[j]?=some l[j]:=aX hj;obtain⟨sa,hsa,hst⟩:=al.at_ hlj;rw[aP,hsa]at hx;have e:x=V.ref sa:=(aV hx).symm;subst e;have sT:=aCb (o:=.tup [.int ((j+1:Nat):Int),.ref sa]) hT;have sm2:bA H (aCc H' T (.tup [.int ((j+1:Nat):Int),.ref sa])):=λb o z=>sT _ _ (sm _ _ z);refine⟨T,_,rfl,qU.of aC,rfl,_,_,rfl,_,_,rfl,rfl,_,rfl,_,rfl,sa,l[j],F,path,rfl,hst.same sm2,hpl,λH3 s3=>⟨_,rfl,?_⟩⟩;have sm3:bA H H3:=λb o z=>s3 _ _ (sm2 _ _ z);have hL3:=s3 _ _ (sT _ _ hLs);have al3:=alt.mono λb p z=>s3 _ _ (sT _ _ z);have hts:=LI (l.take j) l[j] path;rw[<-cy hlj,cB,kX (by omega)]at hts;cases q:yw path l[j]with
  |false=>rw[q,iN (by simp),bg]at hts;rw[hts];exact bW ⟨_,_,ts,rfl,sm3,hL3,al3⟩
  |true=>
   rw[q,iP rfl]at hts;have tl:=ur (l.take j) path;rw[cB]at tl;have htl:=alt.len;have hno:aCn l[j]≠"person"/\aCn l[j]≠"group":=by
    cases hs:l[j]with
    |person x=>rw[hs]at q;cases q
    |group n x=>rw[hs]at q;cases q
    |need p x=>exact⟨by show ¬("need":Str)="person";decide+kernel,by show ¬("need":Str)="group";decide+kernel⟩
    |veto p n=>exact⟨by show ¬("veto":Str)="person";decide+kernel,by show ¬("veto":Str)="group";decide+kernel⟩
    |sticky p=>exact⟨by show ¬("sticky":Str)="person";decide+kernel,by show ¬("sticky":Str)="group";decide+kernel⟩
    |default_ x=>exact⟨by show ¬("default":Str)="person";decide+kernel,by show ¬("default":Str)="group";decide+kernel⟩
   obtain⟨u,eu,ru⟩:=yo r1 r2 r3 r4 l[j] hno;obtain⟨dx,nm,na,pat,cd,o1,_⟩:=hst.same sm3;refine bq ⟨_,rfl,.inl ⟨rfl,_,bf.of hL3⟩,_,rfl,_,rfl,sa,c.CS,dx,_,_,rfl,o1,G.aZ,G.ah,cY,ai (aCn l[j]),u,iV (way l[j]),rfl,eu,ru,yh,λt ht=>?_⟩;refine⟨L,_,_,rfl,rfl,aCb ht _ _ hL3,by rw[aB];exact pG (by omega),_,_,ts++[t],rfl,?_,?_,?_⟩
   ·intro b o z;rw[aJ (aK z hL)];exact aCb ht _ _ (sm3 _ _ z)
   ·rw[aC,aw];rfl
   ·rw[hts];have ntL:t≠L:=(aK hL3 ht).symm;refine Al.app (al3.mono λb p z=>?_) (Al.one ?_)
    ·show aCc _ L _ b=_;rw[aJ (cR z hL3 nofun)];exact aCb ht _ _ z
    ·show aCc _ L _ t=_;rw[aJ ntL,aC]
 ·rintro σ H' ⟨v3,v4,ts,rfl,sm,hLs,alt⟩;rw[cD]at alt;have tl:=ur l path;have htl:=alt.len;refine⟨_,rfl,L,gc l path,1,rfl,⟨ts,hLs,alt⟩,by omega,λnb H2 hnb hn2 s2=>⟨_,.inl ⟨_,bf.of hn2,rfl⟩,?_⟩⟩;have hemp:(!((aCj (gc l path) 1).map iV).isEmpty)=(gc l path).any λx=>decide (x.2=1):=by rw[<-uM];cases aCj (gc l path) 1 <;> rfl
  rw[hemp];have sm2:bA H H2:=λb o z=>s2 _ _ (sm _ _ z);have alt2:=alt.mono λb p z=>s2 _ _ z;cases q:(gc l path).any λx=>decide (x.2=1)with
  |false=>
   have e:ij l path=gc l path:=by unfold ij;rw[q];rfl
   rw[e]at k;exact bW ⟨_,rfl,k L H2 ⟨ts,s2 _ _ hLs,alt2⟩ sm2⟩
  |true=>
   have e:ij l path=(gc l path).filter λx=>!decide (x.2=4):=by unfold ij;rw[q];rfl
   rw[e]at k;refine bq ⟨_,rfl,L,rfl,⟨_,bf.of (s2 _ _ hLs)⟩,λD hD=>?_⟩;refine ML (zs:=gc l path) (keep:=λx=>!decide (x.2=4)) (R:=λH v p=>∃x,v=V.ref x/\Hd H x p/\x≠D) hD (by omega) (λi H' hi s1=>?_) (λH' s1=>⟨_,bf.of (s1 _ _ (s2 _ _ hLs)),by rw[aB];omega⟩) ?_ ?_ ?_
   ·obtain⟨x,hx,_⟩:=alt.at_ (aX hi);exact⟨_,_,bf.of (s1 _ _ (s2 _ _ hLs)),by rw[aP,hx];rfl⟩
   ·rintro H3 H4 v p ⟨x,h1,h2,h3⟩ kp;exact⟨x,h1,kp _ _ h2 (by simpa using h3),h3⟩
   ·rintro j z H3 x H4 Zy Zn hz s3 ⟨acc,hacc⟩ ⟨rfl,hx⟩ k1 k2;have hx:=hx _ (bf.of (s3 _ _ (s2 _ _ hLs)));obtain⟨t,ht,hT⟩:=alt2.at_ hz;rw[aP,ht]at hx;have e:x=V.ref t:=(aV hx).symm;subst e;have hT3:=s3 _ _ hT;refine⟨rfl,_,rfl,t,_,_,_,rfl,rfl,qU.of hT3,eE (i:=1) rfl,rfl,_,rfl,?_⟩;by_cases q4:z.2=4
    ·rw[dE (show iV z.2=V.int 4 by rw[q4];rfl)];exact bW (k2 (by simp[q4]) _ λ_ _ h=>h)
    ·rw[dF (show ¬iV z.2=V.int 4 by intro z;injection z with z;omega)];exact bq ⟨_,rfl,k1 (by simp[q4]) _ _ ⟨t,rfl,hT3,cR hT3 hacc nofun⟩ λ_ _ h=>h⟩
   ·intro H3 ys e3 al3 s3;obtain⟨xs,rfl,al4⟩:∃xs:List aF,ys=xs.map V.ref/\Al (Hd H3) xs ((gc l path).filter λx=>!decide (x.2=4)):=by
     clear e3;generalize((gc l path).filter λx=>!decide (x.2=4))=zz at al3
     induction al3 with
     |nil=>exact⟨[],rfl,.nil⟩
     |cons p q ih=>obtain⟨x,rfl,p2,_⟩:=p;obtain⟨xs,rfl,ih⟩:=ih;exact⟨x::xs,rfl,.cons p2 ih⟩
    exact⟨_,rfl,k D H3 ⟨xs,e3,al4⟩ λb o z=>s3 _ _ (sm2 _ _ z)⟩
end
abbrev dY:=List aM
abbrev ib(cs:List dY)(f:dY->Bool):V:=iV (fF (cs.map f))
def ph(g:aM->dY->Bool)(ps:List aM)(m:dY):Nat:=(ps.filter λn=>g n m).length
def Oe(b:aF)(au:Str)(wh:Int)(rd:aF):List (Str×V):=[("book",.ref b),("author",.str au),("whole",.int wh),("rows",.ref rd)]
section
variable{b rd:aF}{au:Str}{wh:Int}
theorem Rq:(Oe b au wh rd).lookup ("book":Str)=some (.ref b):=eD
theorem Ku:(Oe b au wh rd).lookup ("author":Str)=some (.str au):=(cJ (by trivial)).trans eD
theorem zj:(Oe b au wh rd).lookup ("whole":Str)=some (.int wh):=(cJ (by trivial)).trans ((cJ (by trivial)).trans eD)
theorem DT:(Oe b au wh rd).lookup ("rows":Str)=some (.ref rd):=(cJ (by trivial)).trans ((cJ (by trivial)).trans ((cJ (by trivial)).trans eD))
theorem Gf(h1:¬("book":Str)=m)(h2:¬("author":Str)=m)(h3:¬("whole":Str)=m)(h4:¬("rows":Str)=m):(Oe b au wh rd).lookup m=none:=(cJ h1).trans ((cJ h2).trans ((cJ h3).trans ((cJ h4).trans rfl)))
end
structure vB(c:Cn)(H:Hp)(s b rd:aF)(au:aM)(cs:List dY)(oG:List aM)(g:aM->dY->Bool):Prop where
 ins:∃dx,H s=some (.ins c.CL dx (Oe b (bH au) ((fF (cs.map λ_=>true):Nat):Int) rd))
 rows:∃kvs,H rd=some (.dK kvs)/\kvs.length<=100/\∀n∈oG,gU kvs (ai (bH n))=some (ib cs (g n))
theorem vB.same{s b rd:aF}(h:vB c H s b rd au cs oG g)(k:bA H H'):vB c H' s b rd au cs oG g:=by obtain⟨⟨dx,h1⟩,kvs,h2,h3⟩:=h;exact⟨⟨dx,k _ _ h1⟩,kvs,k _ _ h2,h3⟩
theorem JG(cs:List dY):fF (cs.map λ_=>false)=0:=by
 induction cs with
 |nil=>rfl
 |cons a r ih=>rw[bO,fF,ih];rfl
section
variable{c:Cn}
inductive JN(c:Cn)(vs:List V)(H:Hp)(Q:VK)(E_:XK):Prop
 |mk:∀s b rd au cs oG g k pa ps,vs=[.ref s,.int ((k:Nat):Int),.ref pa]->vB c H s b rd au cs oG g->H pa=some (.lst (vN vS ps))->(∀n∈ps,n∈oG)->k<=99->(∀H',bA H H'->Q (ib cs λm=>decide (k<=ph g ps m)) H')->JN c vs H Q E_
theorem PZ(g:aM->dY->Bool){ps:List aM}{i:Nat}{n:aM}(h:ps[i]?=some n)(m:dY):ph g (ps.take (i+1)) m=ph g (ps.take i) m+(if g n m=true then 1 else 0):=by unfold ph;rw[cy h,oZ,aN];by_cases q:g n m=true <;> simp[q]
def lI(cs:List dY)(g:aM->dY->Bool)(ps:List aM)(am i j:Nat):List V:=(ek (am+1)).map λk=>ib cs λm=>decide (k<=ph g (ps.take (if am<k+j then i+1 else i)) m)
theorem FX(cs:List dY)(g:aM->dY->Bool)(ps:List aM)(am i j:Nat):(lI cs g ps am i j).length=am+1:=by simp[lI]
theorem DQ(h:k<=am)(hk:k+j<=am):(lI cs g ps am i j)[k]?=some (ib cs λm=>decide (k<=ph g (ps.take i) m)):=by unfold lI;rw[aP,xH (by omega)];show some _=some _;dsimp only;rw[iN (by omega)]
theorem Nh(hk:k+j=am):(lI cs g ps am i j).set k (ib cs λm=>decide (k<=ph g (ps.take (i+1)) m))=lI cs g ps am i (j+1):=by
 apply List.ext_getElem?;intro n;rw[List.getElem?_set];by_cases q:k=n
 ·subst q;rw[iP rfl,iP (by rw[FX];omega)];unfold lI;rw[aP,xH (by omega)];show some _=some _;dsimp only;rw[iP (by omega)]
 ·rw[iN q];unfold lI;rw[aP,aP];by_cases qn:n<am+1
  ·rw[xH qn];show some _=some _;dsimp only;by_cases qq:am<n+j
   ·rw[iP qq,iP (by omega)]
   ·rw[iN qq,iN (by omega)]
  ·rw[Jo (by simp;omega)];rfl
theorem Kt(cs:List dY)(g:aM->dY->Bool)(ps:List aM)(am i:Nat):lI cs g ps am i am=lI cs g ps am (i+1) 0:=by
 unfold lI;apply i9;intro k hk;rw[vP]at hk;by_cases q:k=0
 ·subst q;simp
 ·rw[iP (by omega),iN (by omega)]
theorem IP{α:Type}(x:α):∀n:Nat,(br n [x]).flatten=br n x
 |0=>rfl
 |n+1=>by rw[fS,lB,IP x n,fS];rfl
theorem Ks(cs:List dY)(g:aM->dY->Bool)(ps:List aM)(am:Nat):([V.int ((fF (cs.map λ_=>true):Nat):Int)]++br am (V.int 0))=lI cs g ps am 0 0:=by
 unfold lI;rw[List.range_succ_eq_map,bO,bN];show _::_=_::_;congr 1
 ·have:(ek am).map ((λk=>ib cs λm=>decide (k<=ph g (ps.take (if am<k+0 then 0+1 else 0)) m))∘Nat.succ)=(ek am).map λ_=>V.int 0:=by
   apply i9;intro k hk;rw[vP]at hk;show ib cs _=_;rw[iN (by omega)]
   have:(λm:dY=>decide (k.succ<=ph g (ps.take 0) m))=λ_=>false:=by
    funext m
    simp[ph]
   rw[this];show V.int ((fF (cs.map λ_=>false):Nat):Int)=_;rw[JG];rfl
  rw[this,T7,List.length_range];rfl
inductive aEh(H:Hp)(sc:aF)(cs:List dY)(g:aM->dY->Bool)(am:Nat)(pa:aF)(ps:List aM)(L:aF)(i:Nat)(σ:L2.St)(H':Hp):Prop
 |mk:∀(v4 v5:Option V),σ=[some (.ref sc),some (.int ((am:Nat):Int)),some (.ref pa),some (.ref L),v4,v5]->bA H H'->H' L=some (.lst (lI cs g ps am i 0))->aEh H sc cs g am pa ps L i σ H'
inductive aEi(H:Hp)(sc:aF)(cs:List dY)(g:aM->dY->Bool)(am:Nat)(pa:aF)(ps:List aM)(L:aF)(i:Nat)(n:aM)(j:Nat)(σ:L2.St)(H':Hp):Prop
 |mk:∀(v5:Option V),σ=[some (.ref sc),some (.int ((am:Nat):Int)),some (.ref pa),some (.ref L),some (vS n),v5]->bA H H'->H' L=some (.lst (lI cs g ps am i j))->aEi H sc cs g am pa ps L i n j σ H'
theorem xp(G:aCe c):ux c c.CL "weigh_so_many" 1 ["self","amount","people"] (JN c):=by
 refine G.lH.gG (N:=["self","amount","people","rows","person","k"]) (k:=0) (λH vs Q E nd hr h=>?_);obtain⟨sc,b,rd,au,cs,oG,g,am,pa,ps,rfl,S,hpa,hin,h99,k⟩:=h;obtain⟨⟨dx,hs⟩,kvs,hrd,hkl,hrow⟩:=S;refine⟨_,aD (bb (i:=3) nd (eM wo (cp (aA (ag (pv 0) rfl) aH)) (eM Wj (cp (aA bB aH)) (pv 1)))) (aD (fW jC rfl (dQ (pv 2)) (d7 (i:=4) nd) (aL (fW jC rfl (Na (by rfl) G.Lm (aA (pv 1) (aA bB (aA (wG pT bB) aH)))) (d7 (i:=5) nd) (aL (Wq (eM V6 (fE du (pv 3) (pv 5) (λ_ _=>rfl)) (eM Kk (fE du (pv 3) (eM GY (pv 5) bB) (λ_ _=>rfl)) (y9 (lh hr) (ag (pv 0) rfl) (pv 4) (λ_ _=>rfl)))) (Wl (pv 3) (pv 5) set_list)))))) (aL (bE (fE du (pv 3) (pv 1) (λ_ _=>rfl))))),?_⟩;refine⟨_,rfl,sc,c.CL,dx,_,_,rfl,hs,G.gw,G.jy,zj,kh,λp1 hp1=>?_⟩;have s1:=aCb (o:=.lst [V.int ((fF (cs.map λ_=>true):Nat):Int)]) hp1;refine⟨kh,λp2 hp2=>?_⟩;have s2:=aCb (o:=.lst [V.int 0]) hp2;refine⟨_,rfl,p2,_,_,rfl,rfl,aC,by omega,by omega,by rw[gL];exact sl (by show 1*am<=100000;omega),λp3 hp3=>?_⟩;rw[gL];have s3:=aCb (o:=.lst (br am [V.int 0]).flatten) hp3;have hfl:=IP (V.int 0) am;rw[hfl]at s3 ⊢;refine⟨p1,p3,_,_,rfl,rfl,s3 _ _ (s2 _ _ aC),aC,by rw[Jp];exact sl (by show 1+am<=100000;omega),λL hL=>?_⟩;have s4:=aCb (o:=.lst ([V.int ((fF (cs.map λ_=>true):Nat):Int)]++br am (V.int 0))) hL;have sL:bA H (aCc (aCc (aCc (aCc H p1 (.lst [V.int ((fF (cs.map λ_=>true):Nat):Int)])) p2 (.lst [V.int 0])) p3 (.lst (br am (V.int 0)))) L (.lst ([V.int ((fF (cs.map λ_=>true):Nat):Int)]++br am (V.int 0)))):=λb o z=>s4 _ _ (s3 _ _ (s2 _ _ (s1 _ _ z)));have hL0:H L=none:=aCf (λb o z=>s3 _ _ (s2 _ _ (s1 _ _ z))) hL;have hinit:=Ks cs g ps am;rw[hinit]at sL ⊢;have hLL:(aCc (aCc (aCc (aCc H p1 (.lst [V.int ((fF (cs.map λ_=>true):Nat):Int)])) p2 (.lst [V.int 0])) p3 (.lst (br am (V.int 0)))) L (.lst (lI cs g ps am 0 0))) L=some (.lst (lI cs g ps am 0 0)):=aC;generalize aCc (aCc (aCc (aCc H p1 (.lst [V.int ((fF (cs.map λ_=>true):Nat):Int)])) p2 (.lst [V.int 0])) p3 (.lst (br am (V.int 0)))) L (.lst (lI cs g ps am 0 0))=H1 at sL hLL;refine⟨_,rfl,pa,rfl,⟨_,bf.of (sL _ _ hpa)⟩,fH (xs:=ps.map vS) (aEh H sc cs g am pa ps L) ⟨none,none,rfl,sL,hLL⟩ (λi σ H' _ ⟨_,_,_,sm,_⟩=>bf.of (sm _ _ hpa)) ?_ ?_⟩
 ·rintro i x σ H' hx ⟨v4,v5,rfl,sm,hLs⟩;rw[aP]at hx;cases hn:ps[i]? with
  |none=>rw[hn]at hx;cases hx
  |some n=>
   rw[hn]at hx;have e:x=vS n:=(aV hx).symm;subst e;have hn':=hin n (bp hn);refine⟨_,rfl,_,rfl,_,_,_,am,rfl,?_,KS (aEi H sc cs g am pa ps L i n) ⟨_,rfl,sm,hLs⟩ ?_ ?_⟩
   ·have:=Zs.neg (i:=(am:Int)) (j:=0) (by omega) (by omega) (by omega) (by omega)
    rw[show((am:Int) - 0).toNat=am from by omega]at this;exact this
   ·rintro j σ H2 hj ⟨v5,rfl,sm2,hL2⟩;rw[show(am:Int)+(j:Nat)*(-1)=((am - j:Nat):Int)from by omega];have e1:=DQ (cs:=cs) (g:=g) (ps:=ps) (am:=am) (i:=i) (j:=j) (k:=am - j) (by omega) (by omega);have e2:=DQ (cs:=cs) (g:=g) (ps:=ps) (am:=am) (i:=i) (j:=j) (k:=am - j - 1) (by omega) (by omega);refine⟨_,rfl,_,rfl,L,_,_,_,rfl,rfl,bf.of hL2,eE e1,_,rfl,_,rfl,_,_,rfl,rfl,L,_,_,_,rfl,rfl,bf.of hL2,by rw[show((am - j:Nat):Int) - 1=((am - j - 1:Nat):Int)from by omega];exact eE e2,_,rfl,sc,c.CL,dx,_,_,rfl,sm2 _ _ hs,G.gw,G.kZ,DT,_,rfl,rd,ib cs (g n),rfl,?_,_,_,rfl,rfl,_,_,rfl,rfl,?_⟩
    ·have:=rj.k (k:=ai (bH n)) (sm2 _ _ hrd)
     rw[hrow n hn']at this;exact this
    dsimp only;rw[wQ,Gb,Eg,Rl];refine⟨_,rfl,_,rfl,L,_,_,am - j,rfl,rfl,hL2,?_,_,rfl,λb o z=>?_,?_⟩
    ·rw[FX];unfold TY;rw[iP (by omega),iP (by omega)];simp
    ·rw[aJ (aK z hL0)];exact sm2 _ _ z
    ·rw[aC]
     have:(λm=>decide (am - j<=ph g (ps.take i) m)||(decide (am - j - 1<=ph g (ps.take i) m)&&g n m))=λm=>decide (am - j<=ph g (ps.take (i+1)) m):=by
      funext m
      rw[PZ g hn m];by_cases q:g n m=true
      ·rw[q,iP rfl,b7];simp;omega
      ·rw[bT.mpr q];simp
     rw[this,Nh (by omega)]
   ·rintro σ H2 ⟨v5,rfl,sm2,hL2⟩;rw[Kt]at hL2;exact⟨_,_,rfl,sm2,hL2⟩
 ·rintro σ H' ⟨v4,v5,rfl,sm,hLs⟩;rw[aB]at hLs;have e1:=DQ (cs:=cs) (g:=g) (ps:=ps) (am:=am) (i:=ps.length) (j:=0) (k:=am) (by omega) (by omega);rw[cD]at e1;exact⟨_,rfl,_,rfl,L,_,_,_,rfl,rfl,bf.of hLs,eE e1,k _ sm⟩
end
end Rv
namespace Rv
open Vamrqe (Who)
open Mt (PT)
section
variable{c:Cn}
inductive M5(c:Cn)(vs:List V)(H:Hp)(Q:VK)(E_:XK):Prop
 |mk:∀s dx b sl pl gd l w F au ca cs,vs=[.ref s,.ref b,.str (bH au),.ref ca]->H s=some (.ins c.CL dx [])->fL c F H b sl pl gd l w->w.people.length<=8->sX H ca cs->s∉[b,sl,pl,gd,ca]->(∀rd H',H rd=none->vB c H' s b rd au cs w.people (λn m=>m.contains n)->(∃kvs,H' rd=some (.dK kvs)/\kvs.length<=8)->Kp [s] H H'->Q .fB H')->M5 c vs H Q E_
theorem NH(G:aCe c):Bb c "Scale" c.CL 3 ["self","book","author","crowds"] (M5 c):=by
 refine G.MQ.gG (N:=["self","book","author","crowds","person"]) (k:=1) (λH vs Q E nd hr h=>?_);obtain⟨sc,dx,b,sl,pl,gd,l,w,F,au,ca,cs,rfl,hs,B,h8,hC,hns,k⟩:=h;refine⟨_,aD (d8 (pv 0) (pv 1) rfl) (aD (d8 (pv 0) (pv 2) rfl) (aD (d8 (pv 0) (az (tI G) hr ae (aA (pv 3) aH)) rfl) (aD (d8 (pv 0) qH rfl) (aL (fW jC rfl (dQ (ag (pv 1) rfl)) (d7 (i:=4) nd) (aL (qp (lh hr) (ag (pv 0) rfl) (pv 4) (az (GB G) hr ae (aA (pv 4) (aA (pv 3) aH))) rfl))))))),?_⟩;obtain⟨db,hb⟩:=B.ins;simp only[af,cC,or_false,not_or]at hns;obtain⟨n1,n2,n3,n4,n5⟩:=hns;refine⟨_,rfl,_,rfl,sc,c.CL,dx,_,rfl,hs,G.gw,G.qV,by show 0<1000;decide,?_⟩;rw[dW];refine⟨_,rfl,_,rfl,sc,c.CL,dx,_,rfl,aC,G.gw,G.nG,by show 1<1000;decide,?_⟩;rw[bz (show ¬("book":Str)="author" by trivial),dW];obtain⟨as,hca,alc⟩:=hC;have kp1:Kp [sc] H (aCc (aCc H sc (.ins c.CL dx [("book",.ref b)])) sc (.ins c.CL dx [("book",.ref b),("author",.str (bH au))])):=(Kp.put (by simp)).trans (Kp.put (by simp));have crs:∀{H':Hp},Kp [sc] H H'->sX H' ca cs:=λ{H'} kp=>⟨as,kp _ _ hca (by simpa using λz=>n5 z.symm),alc.mono λx m z=>kp _ _ z (by simpa using cR z hs nofun)⟩;refine⟨_,rfl,ca,cs,rfl,crs kp1,_,rfl,sc,c.CL,dx,_,rfl,aC,G.gw,G.jy,by show 2<1000;decide,?_⟩;rw[bz (show ¬("book":Str)="whole" by trivial),bz (show ¬("author":Str)="whole" by trivial),dW];intro rd hrd;have nsr:sc≠rd:=aK aC hrd;refine⟨_,rfl,sc,c.CL,dx,_,rfl,by rw[aJ nsr,aC],G.gw,G.kZ,by show 3<1000;decide,?_⟩;rw[bz (show ¬("book":Str)="rows" by trivial),bz (show ¬("author":Str)="rows" by trivial),bz (show ¬("whole":Str)="rows" by trivial),dW];rw[aJ nsr.symm,aJ nsr.symm,aJ nsr.symm]at hrd;have fin:∀H',H'=aCc (aCc (aCc (aCc (aCc H sc (.ins c.CL dx [("book",.ref b)])) sc (.ins c.CL dx [("book",.ref b),("author",.str (bH au))])) sc (.ins c.CL dx [("book",.ref b),("author",.str (bH au)),("whole",.int ((fF (cs.map λ_=>true):Nat):Int))])) rd (.dK [])) sc (.ins c.CL dx (Oe b (bH au) ((fF (cs.map λ_=>true):Nat):Int) rd))->
   H' sc=some (.ins c.CL dx (Oe b (bH au) ((fF (cs.map λ_=>true):Nat):Int) rd))/\H' rd=some (.dK [])/\Kp [sc] H H':=by
  intro H' e;subst e;refine⟨aC,by rw[aJ nsr.symm,aC],λx o z nx=>?_⟩;have nx':x≠sc:=by simpa using nx
  rw[aJ nx',aJ (aK z hrd),aJ nx',aJ nx',aJ nx'];exact z
 obtain⟨f1,f2,f3⟩:=fin _ rfl;rw[show([("book",.ref b),("author",.str (bH au)),("whole",.int ((fF (cs.map λ_=>true):Nat):Int)),("rows",.ref rd)]:List (Str×V))=Oe b (bH au) ((fF (cs.map λ_=>true):Nat):Int) rd from rfl];generalize aCc (aCc (aCc (aCc (aCc H sc (.ins c.CL dx [("book",.ref b)])) sc (.ins c.CL dx [("book",.ref b),("author",.str (bH au))])) sc (.ins c.CL dx [("book",.ref b),("author",.str (bH au)),("whole",.int ((fF (cs.map λ_=>true):Nat):Int))])) rd (.dK [])) sc (.ins c.CL dx (Oe b (bH au) ((fF (cs.map λ_=>true):Nat):Int) rd))=H1 at f1 f2 f3;have bk1:∀{H':Hp},Kp [sc] H H'->H' b=some (.ins c.CB db (WJ sl pl gd)):=λkp=>kp _ _ hb (by simpa using λz=>n1 z.symm);have pp1:∀{H':Hp},Kp [sc] H H'->H' pl=some (.lst (w.people.map vS)):=λkp=>kp _ _ B.oG (by simpa using λz=>n3 z.symm);refine⟨_,rfl,b,c.CB,db,_,_,rfl,bk1 f3,G.eV,G.f9,kH,pl,rfl,⟨_,bf.of (pp1 f3)⟩,fH (xs:=w.people.map vS) (λi σ H'=>∃(v:Option V)(kvs:List (Key×V)),σ=[some (.ref sc),some (.ref b),some (.str (bH au)),some (.ref ca),v]/\Kp [sc] H H'/\H' sc=some (.ins c.CL dx (Oe b (bH au) ((fF (cs.map λ_=>true):Nat):Int) rd))/\H' rd=some (.dK kvs)/\kvs.length<=i/\∀n∈w.people.take i,gU kvs (ai (bH n))=some (ib cs λm=>m.contains n)) ⟨none,[],rfl,f3,f1,f2,bR _,λn hn=>by simp at hn⟩ ?_ ?_ ?_⟩
 ·rintro i σ H' hi ⟨_,_,_,kp,_⟩;exact bf.of (pp1 kp)
 ·rintro i x σ H' hx ⟨v,kvs,rfl,kp,h1,h2,h3,h4⟩;rw[aP]at hx;cases hn:w.people[i]? with
  |none=>rw[hn]at hx;cases hx
  |some n=>
   rw[hn]at hx;have e:x=vS n:=(aV hx).symm;subst e;have hi:i<w.people.length:=(a8.mp hn).1;refine⟨_,rfl,_,rfl,n,ca,cs,rfl,crs kp,_,rfl,sc,c.CL,dx,_,_,rfl,h1,G.gw,G.kZ,DT,_,rfl,rd,_,rfl,Be.k (k:=ai (bH n)) h2 (pG (by omega)),_,_,rfl,?_,?_,aC,?_,?_⟩
   ·exact λy o z ny=>by rw[aJ (aK z hrd)];exact kp _ _ z ny
   ·rw[aJ nsr];exact h1
   ·have:=DJ kvs (ai (bH n)) (ib cs λm=>m.contains n)
    exact bw this (by omega)
   ·intro m hm;rw[Dc];rw[cy hn]at hm;by_cases q:m=n
    ·subst q;rw[iP rfl]
    ·rw[iN (by intro z;injection z with z;exact q (ki z))];rcases bZ.mp hm with z|z
     ·exact h4 m z
     ·exact absurd (aQ.mp z) q
 ·rintro σ H' ⟨v,kvs,rfl,kp,h1,h2,h3,h4⟩;rw[aB]at h3 h4;rw[cD]at h4;exact k rd H' hrd ⟨⟨dx,h1⟩,kvs,h2,by omega,h4⟩ ⟨kvs,h2,by omega⟩ kp
theorem XA{W:VK}{E:XK}{x dx b sl pl gd ca:aF}{au:aM}(nx:H x=none)(nd:H dx=none)(B:fL c F H b sl pl gd l w)(h8:w.people.length<=8)(hC:sX H ca cs)
  (k:∀rd H',H rd=none->vB c H' x b rd au cs w.people (λn m=>m.contains n)->(∃kvs,H' rd=some (.dK kvs)/\kvs.length<=8)->bA H H'->W .fB H'):M5 c [.ref x,.ref b,.str (bH au),.ref ca] (aCc (aCc H dx (.own x)) x (.ins c.CL dx [])) W E:=by
 have sm:bA H (aCc (aCc H dx (.own x)) x (.ins c.CL dx [])):=λb o q=>by rw[aJ (aK q nx),aJ (aK q nd)];exact q
 have back:∀{b:aF},(aCc (aCc H dx (.own x)) x (.ins c.CL dx [])) b=none->H b=none:=λ{b} z=>aCf sm z;refine⟨x,dx,b,sl,pl,gd,l,w,F,au,ca,cs,rfl,aC,B.same sm,h8,hC.same sm,?_,λrd H' h1 h2 h3 kp=>k rd H' (back h1) h2 h3 λb o q=>kp b o (sm _ _ q) (by simp[aK q nx])⟩;obtain⟨db,hb⟩:=B.ins;obtain⟨kvs,hg,_⟩:=B.GP;obtain⟨as,hs,_⟩:=B.ET;obtain⟨bs,hc,_⟩:=hC;simp only[af,cC,or_false,not_or];exact⟨(aK hb nx).symm,(aK hs nx).symm,(aK B.oG nx).symm,(aK hg nx).symm,(aK hc nx).symm⟩
inductive Rx(c:Cn)(vs:List V)(H:Hp)(Q:VK)(E_:XK):Prop
 |mk:∀s b rd au cs oG g n,vs=[.ref s,.str (bH n)]->vB c H s b rd au cs oG g->(∃kvs,H rd=some (.dK kvs)/\kvs.length<=50)->(∀H',vB c H' s b rd au cs oG (λk m=>decide (k=n)||g k m)->Kp [rd] H H'->(∀kvs,H rd=some (.dK kvs)->∃kvs',H' rd=some (.dK kvs')/\kvs'.length<=kvs.length+1)->Q .fB H')->Rx c vs H Q E_
theorem zJ(G:aCe c):ux c c.CL "count_always" 1 ["self","person"] (Rx c):=by
 refine G.lr.gG (N:=["self","person"]) (k:=0) (λH vs Q E nd hr h=>?_);obtain⟨sc,b,rd,au,cs,oG,g,n,rfl,⟨⟨dx,hs⟩,kvs,hrd,hkl,hrow⟩,hk50,k⟩:=h;refine⟨_,aL (qp (lh hr) (ag (pv 0) rfl) (pv 1) (ag (pv 0) rfl) rfl),?_⟩;refine⟨_,rfl,sc,c.CL,dx,_,_,rfl,hs,G.gw,G.jy,zj,_,rfl,sc,c.CL,dx,_,_,rfl,hs,G.gw,G.kZ,DT,_,rfl,rd,_,rfl,Be.k (k:=ai (bH n)) hrd (pG (by omega)),?_⟩;obtain⟨kvs0,h0,h50⟩:=hk50;rw[hrd]at h0;injection h0 with h0;injection h0 with h0;subst h0;have pl:=DJ kvs (ai (bH n)) (V.int ((fF (cs.map λ_=>true):Nat):Int));refine k _ ⟨⟨dx,by rw[aJ (cR hs hrd nofun)];exact hs⟩,_,aC,by omega,λm hm=>?_⟩ (Kp.put (by simp)) λkvs' h'=>?_
 ·rw[Dc];by_cases q:m=n
  ·subst q;rw[iP rfl]
   have:(λx:dY=>decide (m=m)||g m x)=λ_=>true:=by funext x;simp
   show _=some (iV (fF (cs.map λx=>decide (m=m)||g m x)));rw[this]
  ·rw[iN (by intro z;injection z with z;exact q (ki z)),hrow m hm]
   have:(λx:dY=>decide (m=n)||g m x)=g m:=by funext x;simp[q]
   show _=some (iV (fF (cs.map λx=>decide (m=n)||g m x)));rw[this]
 ·rw[hrd]at h';injection h' with h';injection h' with h';subst h';exact⟨_,aC,pl⟩
def Ck(w:Who)(au:aM)(g:aM->dY->Bool):PT->dY->Bool
 |.by_ n,m=>decide (1<=ph g (dw w n) m)
 |.some_ k n,m=>decide (k<=ph g (dw w n) m)
 |.author n,_=>(dw w n).contains au
 |_,_=>false
inductive LB(c:Cn)(vs:List V)(H:Hp)(Q:VK)(E_:XK):Prop
 |mk:∀s b sl pl gd l w F rd au cs g a p,vs=[.ref s,.ref a]->fL c F H b sl pl gd l w->eZ w->vB c H s b rd au cs w.people g->xU c H a p->jV p=false->(∀H',bA H H'->Q (ib cs (Ck w au g p)) H')->LB c vs H Q E_
theorem EK(G:aCe c):ux c c.CL "weigh_one" 2 ["self","part"] (LB c):=by
 refine G.oz.gG (N:=["self","part","people","amount"]) (k:=1) (λH vs Q E nd hr h=>?_);obtain⟨sc,b,sl,pl,gd,l,w,F,rd,au,cs,g,a,p,rfl,B,ok,S,⟨dp,p1,p2,p3⟩,hj,k⟩:=h;refine⟨_,aD (bb (i:=2) nd (cg (iD G) G.eV (ag (pv 0) rfl) hr ae (aA (ag (pv 1) rfl) aH))) (aD (cf (bU eX (ag (pv 1) rfl) (b9 G.uA) (bt _)) (aL (bE (lx (bU kS (ag (pv 0) rfl) (pv 2) rfl) (ag (pv 0) rfl) bB))) b8) (aD (bb (i:=3) nd (lx (bU eX (ag (pv 1) rfl) (b9 G.KU) (bt _)) bB (ag (pv 1) rfl))) (aL (bE (cg (xp G) G.gw (pv 0) hr ae (aA (pv 3) (aA (pv 2) aH))))))),?_⟩;have S':=S;obtain⟨⟨dx,hs⟩,_⟩:=S';obtain⟨db,hb⟩:=B.ins;refine⟨_,rfl,sc,c.CL,dx,_,_,rfl,hs,G.gw,G.qV,Rq,b,db,_,rfl,hb,wR (by trivial) (by trivial) (by trivial),_,rfl,a,c.CP,dp,_,_,rfl,p1,G.eW,G.fk,kf,b,sl,pl,gd,l,w,U6 p,F,rfl,B,ok.pl,λpa H1 hpa h1 s1=>?_⟩;refine⟨_,rfl,a,c.CP,dp,_,_,rfl,s1 _ _ p1,G.eW,G.dP,gJ,rfl,_,rfl,?_⟩;have many:∀(am:Nat),am<=99->(∀H',bA H H'->Q (ib cs λm=>decide (am<=ph g (dw w (U6 p)) m)) H')->
   Gr (M9 c.CL "weigh_so_many" (JN c) E (g9 0) (gT (g9 3) (gT (g9 2) oA))) {nx:=λ_ H'=>Q .fB H',rt:=Q} [some (.ref sc),some (.ref a),some (.ref pa),some (.int ((am:Nat):Int))] H1:=by
  intro am h99 k2;exact⟨_,rfl,sc,dx,_,rfl,s1 _ _ hs,Gf (by trivial) (by trivial) (by trivial) (by trivial),_,rfl,_,rfl,sc,b,rd,au,cs,w.people,g,am,pa,_,rfl,S.same s1,h1,(yc ok _).1,h99,λH2 s2=>k2 H2 λb o z=>s2 _ _ (s1 _ _ z)⟩
 cases p with
 |and=>cases hj
 |or=>cases hj
 |author n=>
  refine aDx (show V.str (ze (PT.author n))=V.str "author" from rfl) ⟨_,rfl,sc,c.CL,dx,_,_,rfl,s1 _ _ hs,G.gw,G.nG,Ku,_,rfl,pa,_,rfl,.inl (bf.of h1),rfl,qf _,_,rfl,?_⟩;rw[show(if false=true then !vw (V.str (bH au)) ((dw w (U6 (PT.author n))).map vS)else vw (V.str (bH au)) ((dw w (U6 (PT.author n))).map vS))=(dw w n).contains au from by rw[show V.str (bH au)=vS au from rfl,uh];rfl];cases q:(dw w n).contains au with
  |true=>
   refine bq ⟨_,rfl,sc,c.CL,dx,_,_,rfl,s1 _ _ hs,G.gw,G.jy,zj,?_⟩
   have:Q (ib cs λ_=>(dw w n).contains au) H1:=k H1 s1
   rw[q]at this;exact this
  |false=>
   refine bW ?_
   have:Q (ib cs λ_=>(dw w n).contains au) H1:=k H1 s1
   rw[q]at this;rw[show ib cs (λ_=>false)=V.int 0 from by show iV _=_;rw[JG];rfl]at this;exact this
 |by_ n=>refine aDw (show ¬V.str (ze (PT.by_ n))=V.str "author" from by show ¬V.str "name"=V.str "author";decide+kernel) ⟨_,rfl,a,c.CP,dp,_,_,rfl,s1 _ _ p1,G.eW,G.dP,gJ,rfl,_,rfl,?_⟩;exact aDx (show V.str (ze (PT.by_ n))=V.str "name" from rfl) (many 1 (by decide) k)
 |some_ kk n=>refine aDw (show ¬V.str (ze (PT.some_ kk n))=V.str "author" from by show ¬V.str "some of"=V.str "author";decide+kernel) ⟨_,rfl,a,c.CP,dp,_,_,rfl,s1 _ _ p1,G.eW,G.dP,gJ,rfl,_,rfl,?_⟩;exact aDw (show ¬V.str (ze (PT.some_ kk n))=V.str "name" from by show ¬V.str "some of"=V.str "name";decide+kernel) ⟨_,rfl,a,c.CP,dp,_,_,rfl,s1 _ _ p1,G.eW,G.jx,wx,many kk p3 k⟩
end
end Rv
namespace Rv
open Vamrqe (Who)
open Mt (post PT)
def Er(w:Who)(au:aM)(g:aM->dY->Bool):dD->dY->Bool
 |.by_ n,m=>decide (1<=ph g (dw w n) m)
 |.some_ k n,m=>decide (k<=ph g (dw w n) m)
 |.author n,_=>(dw w n).contains au
 |.and a b,m=>Er w au g a m&&Er w au g b m
 |.or a b,m=>Er w au g a m||Er w au g b m
def MI(p:PT)(a b:dY->Bool):dY->Bool:=match p with
 |.and=>λm=>a m&&b m
 |_=>λm=>a m||b m
def DR(lf:PT->dY->Bool):List PT->List (dY->Bool)->List (dY->Bool)
 |[],st=>st
 |p::r,st=>if jV p=true then(match st with|b::a::st'=>DR lf r (MI p a b::st')|st=>DR lf r st)else DR lf r (lf p::st)
theorem Nn(h:jV p=false)(r:List PT)(st:List (dY->Bool)):DR lf (p::r) st=DR lf r (lf p::st):=by
 cases p with
 |and=>cases h
 |or=>cases h
 |by_ n=>rfl
 |some_ k n=>rfl
 |author n=>rfl
theorem qK(w:Who)(au:aM)(g:aM->dY->Bool):∀(x:dD)(r:List PT)(st:List (dY->Bool)),DR (Ck w au g) (post x++r) st=DR (Ck w au g) r (Er w au g x::st)
 |.by_ n,r,st=>rfl
 |.some_ k n,r,st=>rfl
 |.author n,r,st=>rfl
 |.and a b,r,st=>by
  have e:post (.and a b)++r=post a++(post b++(.and::r)):=by simp[post,bV]
  rw[e,qK w au g a,qK w au g b];rfl
 |.or a b,r,st=>by
  have e:post (.or a b)++r=post a++(post b++(.or::r)):=by simp[post,bV]
  rw[e,qK w au g a,qK w au g b];rfl
section
variable{c:Cn}
inductive Ut(c:Cn)(vs:List V)(H:Hp)(Q:VK)(E_:XK):Prop
 |mk:∀s b sl pl gd l w F rd au cs g p x,vs=[.ref s,.ref p]->fL c F H b sl pl gd l w->eZ w->vB c H s b rd au cs w.people g->fX c H p (post x)->(post x).length<=3000->(∀H',bA H H'->Q (ib cs (Er w au g x)) H')->Ut c vs H Q E_
inductive aD4(H:Hp)(sc:aF)(w:Who)(au:aM)(cs:List dY)(g:aM->dY->Bool)(p:aF)(x:dD)(d:aF)(i:Nat)(σ:L2.St)(H':Hp):Prop
 |mk:∀(v3 v4 v5:Option V)(st:List (dY->Bool)),σ=[some (.ref sc),some (.ref p),some (.ref d),v3,v4,v5]->bA H H'->wL (ib cs) H' d st->DR (Ck w au g) ((post x).drop i) st=[Er w au g x]->Wf ((post x).drop i) st.length=true->st.length<=i->aD4 H sc w au cs g p x d i σ H'
theorem NK(G:aCe c):ux c c.CL "weigh" 3 ["self","condition"] (Ut c):=by
 refine G.wD.gG (N:=["self","condition","met","part","second","first"]) (k:=2) (λH vs Q E nd hr h=>?_);obtain⟨sc,b,sl,pl,gd,l,w,F,rd,au,cs,g,p,x,rfl,B,ok,S,⟨as,hA,al⟩,hn,k⟩:=h;refine⟨_,aD (bb (i:=2) nd (cp aH)) (aD (fW jC rfl (dQ (pv 1)) (d7 (i:=3) nd) (aL (cf (bU kS (ag (pv 3) rfl) (b9 G.ow) rfl) (aD (bb (i:=4) nd (uO aR eO eP uK (pv 2))) (aD (bb (i:=5) nd (uO aR eO eP uK (pv 2))) (aL (ax (fZ aR ak ao dU (pv 2) (aA (lx (bU eX (ag (pv 3) rfl) (b9 G.AZ) (bt _)) (eM Kk (pv 5) (pv 4)) (eM V6 (pv 5) (pv 4))) aH)))))) (aL (ax (fZ aR ak ao dU (pv 2) (aA (cg (EK G) G.gw (pv 0) hr ae (aA (pv 3) aH)) aH))))))) (aL (bE (fE du (pv 2) bB (λ_ _=>rfl))))),?_⟩;refine⟨bR _,λd hd=>?_⟩;have hA0:(aCc H d (.lst [])) p=some (.lst (as.map V.ref)):=aCb hd _ _ hA;have S':=S;obtain⟨⟨dx,hs⟩,_⟩:=S';refine⟨_,rfl,p,rfl,⟨_,bf.of hA0⟩,fH (xs:=as.map V.ref) (aD4 H sc w au cs g p x d) ⟨none,none,none,[],rfl,aCb hd,aC,?_,Df x,a9 _⟩ ?_ ?_ ?_⟩
 ·have:=qK w au g x [] []
  rw[bg]at this;exact this
 ·rintro i σ H' hi ⟨_,_,_,_,_,sm,_⟩;exact bf.of (sm _ _ hA)
 ·rintro i y σ H' hy ⟨v3,v4,v5,st,rfl,sm,hS,hr1,hw,hl⟩;rw[aP]at hy;cases ha:as[i]? with
  |none=>rw[ha]at hy;cases hy
  |some a=>
   rw[ha]at hy;have e:y=V.ref a:=(aV hy).symm;subst e;obtain⟨pt,hpt,dp,o1,o2⟩:=al.at' ha;have hi:i<(post x).length:=(a8.mp hpt).1;have hdr:(post x).drop i=pt::(post x).drop (i+1):=by rw[b3 hi,(a8.mp hpt).2]
   rw[hdr]at hr1 hw;have hS':H' d=some (.lst (st.reverse.map (ib cs))):=hS;refine⟨_,rfl,a,c.CP,dp,_,_,rfl,sm _ _ o1,G.eW,G.dP,gJ,c.JO,_,rfl,.inr (G.pI H'),rfl,rfl,_,rfl,?_⟩;rw[QP];cases q:jV pt with
   |true=>
    unfold Wf at hw;rw[iP q,bG,decide_eq_true_eq]at hw;obtain⟨b2,a1,st',rfl⟩:∃b a1 st',st=b::a1::st':=by
     match st,hw.1 with
     |b::a1::st',_=>exact⟨b,a1,st',rfl⟩
    have hr2:DR (Ck w au g) ((post x).drop (i+1)) (MI pt a1 b2::st')=[Er w au g x]:=by rw[DR,iP q]at hr1;exact hr1
    have t1:=wL.top hS;refine bq ⟨_,rfl,.inl ⟨rfl,_,bf.of hS'⟩,d,_,_,rfl,rfl,hS',t1.1,?_⟩;rw[t1.2];have hS2:wL (ib cs) (aCc H' d (.lst ((a1::st').reverse.map (ib cs)))) d (a1::st'):=aC;have t2:=wL.top hS2;refine⟨_,rfl,.inl ⟨rfl,_,bf.of aC⟩,d,_,_,rfl,rfl,aC,t2.1,?_⟩;rw[t2.2];have sm2:bA H (aCc (aCc H' d (.lst ((a1::st').reverse.map (ib cs)))) d (.lst (st'.reverse.map (ib cs)))):=λb' o z=>by rw[aJ (aK z hd),aJ (aK z hd)];exact sm _ _ z
    have hd2:(aCc (aCc H' d (.lst ((a1::st').reverse.map (ib cs)))) d (.lst (st'.reverse.map (ib cs)))) d=some (.lst (st'.reverse.map (ib cs))):=aC;generalize aCc (aCc H' d (.lst ((a1::st').reverse.map (ib cs)))) d (.lst (st'.reverse.map (ib cs)))=H2 at sm2 hd2;have fin:∀(f:dY->Bool),f=MI pt a1 b2->B5 (V.ref d) [ib cs f] H2 λ_ H1=>aD4 H sc w au cs g p x d (i+1) [some (V.ref sc),some (V.ref p),some (V.ref d),some (V.ref a),some (ib cs b2),some (ib cs a1)] H1:=by
     intro f ef;subst ef;refine⟨d,_,_,rfl,rfl,hd2,?_,_,_,_,MI pt a1 b2::st',rfl,λb' o z=>?_,?_,hr2,hw.2,?_⟩
     ·rw[aB,fQ];simp only[aG]at hl;exact pG (by omega)
     ·rw[aJ (aK z hd)];exact sm2 _ _ z
     ·show aCc _ d _ d=_;rw[aC];simp
     ·simp only[aG]at hl ⊢;omega
    refine⟨_,rfl,.inl ⟨rfl,_,bf.of hd2⟩,_,rfl,a,c.CP,dp,_,_,rfl,sm2 _ _ o1,G.eW,G.dP,gJ,rfl,_,rfl,?_⟩;cases pt with
    |by_ n=>cases q
    |some_ kk n=>cases q
    |author n=>cases q
    |and=>refine aDx (show V.str (ze PT.and)=V.str "and" from rfl) ⟨_,rfl,_,rfl,_,_,rfl,rfl,?_⟩;dsimp only;rw[wQ,Gb];exact fin _ rfl
    |or=>refine aDw (show ¬V.str (ze PT.or)=V.str "and" from by show ¬V.str "or"=V.str "and";decide+kernel) ⟨_,rfl,_,rfl,_,_,rfl,rfl,?_⟩;dsimp only;rw[Eg,Rl];exact fin _ rfl
   |false=>
    unfold Wf at hw;rw[iN (by rw[q];simp)]at hw;rw[Nn q]at hr1;refine bW ⟨_,rfl,.inl ⟨rfl,_,bf.of hS'⟩,_,rfl,sc,dx,_,rfl,sm _ _ hs,Gf (by trivial) (by trivial) (by trivial) (by trivial),_,rfl,sc,b,sl,pl,gd,l,w,F,rd,au,cs,g,a,pt,rfl,B.same sm,ok,S.same sm,⟨dp,sm _ _ o1,o2⟩,q,λH2 s2=>?_⟩;refine⟨d,_,_,rfl,rfl,s2 _ _ hS',?_,_,_,_,Ck w au g pt::st,rfl,λb' o z=>?_,?_,hr1,hw,?_⟩
    ·rw[aB,fQ];exact pG (by omega)
    ·rw[aJ (aK z hd)];exact s2 _ _ (sm _ _ z)
    ·show aCc _ d _ d=_;rw[aC,Oq,aw];rfl
    ·simp only[aG];omega
 ·rintro σ H' ⟨v3,v4,v5,st,rfl,sm,hS,hr1,hw,hl⟩;rw[aB,al.len,fD]at hr1;have hr1:st=[Er w au g x]:=hr1;subst hr1;have hS':H' d=some (.lst [ib cs (Er w au g x)]):=hS;exact⟨_,rfl,d,_,_,ib cs (Er w au g x),rfl,rfl,bf.of hS',eE (i:=0) rfl,k _ sm⟩
end
end Rv
namespace Rv
open Vamrqe (Who stays counts howMany withMore ofNat)
def NL(path:aM):bX->Option dD
 |.need q x=>if eA q path=true then some x else none
 |_=>none
def Tw:bX->Option dD
 |.default_ x=>some x
 |_=>none
def OS(path:aM):bX->Option aM
 |.veto q n=>if eA q path=true then some n else none
 |_=>none
def pick{α:Type}(f:bX->Option α)(l:b6):List (α×Nat):=l.zipIdx.filterMap λx=>(f x.1).map λy=>(y,x.2+1)
theorem G5{α:Type}{f:bX->Option α}{F:bX×Nat->Option (α×Nat)}(l:b6)(h:∀s i,F (s,i)=(f s).map λy=>(y,i)):(wM l).filterMap F=pick f l:=by unfold wM pick;rw[OZ];congr 1;funext x;exact h _ _
abbrev wq(l:b6)(path:aM):List (dD×Nat):=pick (NL path) l
theorem yZ(l:b6)(path:aM):eF l path=if(wq l path).isEmpty=false then wq l path else pick Tw l:=by
 unfold eF;dsimp only;rw[G5 (f:=NL path) l ?_,G5 (f:=Tw) l ?_]
 ·intro s i;cases s <;> rfl
 ·intro s i;cases s with
  |need q x=>by_cases z:eA q path=true <;> simp[NL,z]
  |_=>rfl
theorem Mj(l:b6)(path:aM):jK l path=pick (OS path) l:=by
 unfold jK;rw[G5 (f:=OS path) l ?_];intro s i;cases s with
 |veto q x=>by_cases z:eA q path=true <;> simp[OS,z]
 |_=>rfl
theorem Kh(l:b6)(path:aM)(k:Nat):aCj (gc l path) k=l.zipIdx.filterMap λx=>if yw path x.1=true/\way x.1=k then some (x.2+1)else none:=by
 unfold aCj gc;rw[Jn,yr];congr 1;funext x;by_cases q:yw path x.1=true
 ·by_cases q2:way x.1=k <;> simp[q,q2]
 ·simp[q]
theorem zc{α:Type}{f:bX->Option α}(l:b6)(path:aM){k:Nat}(h:∀s,(f s).isSome=true↔yw path s=true/\way s=k):(pick f l).map (·.2)=aCj (gc l path) k:=by
 rw[Kh];unfold pick;rw[yr];congr 1;funext x
 have:=h x.1
 cases e:f x.1 with
 |none=>rw[e]at this;rw[iN λz=>by cases this.mpr z];rfl
 |some y=>rw[e]at this;rw[iP (this.mp rfl)];rfl
theorem DB(l:b6)(path:aM):(wq l path).map (·.2)=aCj (gc l path) 1:=by
 refine zc l path λs=>?_;cases s with
 |need q x=>by_cases z:eA q path=true <;> simp[NL,yw,way,z]
 |_=>simp[NL,yw,way]
theorem P1(l:b6)(path:aM):(pick Tw l).map (·.2)=aCj (gc l path) 4:=by refine zc l path λs=>?_;cases s <;> simp[Tw,yw,way]
theorem Iu(td:List (Nat×Nat))(h:k≠4):aCj (td.filter λx=>!decide (x.2=4)) k=aCj td k:=by
 unfold aCj;rw[O0];congr 1;apply jR;intro x _;by_cases q:x.2=k
 ·simp[q,h]
 ·simp[q]
theorem GX(td:List (Nat×Nat)):aCj (td.filter λx=>!decide (x.2=4)) 4=[]:=by
 unfold aCj;rw[O0]
 have:(td.filter λa=>decide (a.2=4)&&!decide (a.2=4))=[]:=by rw[List.filter_eq_nil_iff];intro a _;by_cases q:a.2=4 <;> simp[q]
 rw[this];rfl
theorem Tp(l:b6)(path:aM):((gc l path).any λx=>decide (x.2=1))=!(wq l path).isEmpty:=by rw[<-uM,<-DB];cases wq l path <;> rfl
theorem D6(l:b6)(path:aM):ij l path=if(wq l path).isEmpty=false then(gc l path).filter (λx=>!decide (x.2=4))else gc l path:=by unfold ij;rw[Tp];cases(wq l path).isEmpty <;> rfl
theorem LJ(l:b6)(path:aM)(h:k≠4):aCj (ij l path) k=aCj (gc l path) k:=by
 rw[D6];split
 ·exact Iu _ h
 ·rfl
theorem Cu(l:b6)(path:aM):aCj (ij l path) 1++aCj (ij l path) 4=(eF l path).map (·.2):=by
 rw[LJ l path (by decide),yZ,D6];cases q:(wq l path).isEmpty with
 |false=>rw[iP rfl,iP rfl,GX,bg,DB]
 |true=>
  rw[iN (by simp),iN (by simp),P1 l path,<-DB]
  have:wq l path=[]:=by simpa using q
  rw[this];rfl
theorem F9(l:b6)(path:aM):aCj (ij l path) 2=(jK l path).map (·.2):=by
 rw[LJ l path (by decide),Mj];refine(zc l path λs=>?_).symm;cases s with
 |veto q x=>by_cases z:eA q path=true <;> simp[OS,yw,way,z]
 |_=>simp[OS,yw,way]
theorem NB(l:b6)(path:aM):((ij l path).any λx=>decide (x.2=3))=stays l path:=by
 rw[<-uM,LJ l path (by decide),uM];unfold gc stays;rw[List.any_filterMap];have e:l=l.zipIdx.map (·.1):=by rw[List.zipIdx_map_fst]
 conv=>rhs;rw[e,jD]
 congr 1
 funext x
 obtain⟨s,i⟩:=x;cases s with
 |need q x=>by_cases z:eA q path=true <;> simp[yw,way,z]
 |veto q x=>by_cases z:eA q path=true <;> simp[yw,way,z]
 |sticky q=>by_cases z:eA q path=true <;> simp[yw,way,z]
 |_=>simp[yw,way]
theorem Sz{α:Type}{l:List α}{x:α×Nat}(h:x∈l.zipIdx):l[x.2]?=some x.1:=by obtain⟨a,i⟩:=x;exact List.mem_zipIdx_iff_getElem?.mp h
theorem B0{α:Type}{f:bX->Option α}{l:b6}{x:α×Nat}(h:x∈pick f l):∃i s,x.2=i+1/\l[i]?=some s/\f s=some x.1:=by
 unfold pick at h;obtain⟨⟨s,i⟩,hz,h⟩:=o7.mp h;dsimp only at h;cases e:f s with
 |none=>rw[e]at h;cases h
 |some y=>rw[e]at h;have h:(y,i+1)=x:=aV h;subst h;exact⟨i,s,rfl,Sz hz,e⟩
theorem RC(h:x∈eF l path):∃i s,x.2=i+1/\l[i]?=some s/\((∃p,s=.need p x.1)\/s=.default_ x.1):=by
 rw[yZ]at h;split at h
 ·obtain⟨i,s,h1,h2,h3⟩:=B0 h;refine⟨i,s,h1,h2,?_⟩;cases s with
  |need q y=>
   unfold NL at h3;dsimp only at h3;split at h3
   ·injection h3 with h3;exact .inl ⟨q,by rw[h3]⟩
   ·cases h3
  |_=>cases h3
 ·obtain⟨i,s,h1,h2,h3⟩:=B0 h;refine⟨i,s,h1,h2,?_⟩;cases s with
  |default_ y=>have h3:some y=some x.1:=h3;injection h3 with h3;exact .inr (by rw[h3])
  |_=>cases h3
theorem VH(h:x∈jK l path):∃i p,x.2=i+1/\l[i]?=some (.veto p x.1):=by
 rw[Mj]at h;obtain⟨i,s,h1,h2,h3⟩:=B0 h;cases s with
 |veto q y=>
  unfold OS at h3;dsimp only at h3;split at h3
  ·injection h3 with h3;exact⟨i,q,h1,by rw[<-h3];exact h2⟩
  ·cases h3
 |_=>cases h3
theorem za(l:b6)(path:aM):(eF l path).length<=2*l.length:=by
 rw[<-aB (f:=λx:dD×Nat=>x.2),<-Cu,aN]
 have:=uN (ij l path) 1
 have:=uN (ij l path) 4
 have:=mz l path
 omega
theorem J3(l:b6)(path:aM):(jK l path).length<=l.length:=by rw[<-aB (f:=λx:aM×Nat=>x.2),<-F9];exact bw (uN _ _) (mz l path)
theorem Sj(l:b6)(path:aM):ij l path=l.zipIdx.filterMap λx=>if yw path x.1=true/\(way x.1=4->(wq l path).isEmpty=true)then some (x.2+1,way x.1)else none:=by
 rw[D6];unfold gc;cases q:(wq l path).isEmpty with
 |false=>
  rw[iP rfl,Jn];congr 1;funext x;by_cases q1:yw path x.1=true
  ·by_cases q2:way x.1=4 <;> simp[q1,q2]
  ·simp[q1]
 |true=>rw[iN (by simp)];congr 1;funext x;by_cases q1:yw path x.1=true <;> simp[q1]
theorem N6(h:(aAy x,i)∈l.zipIdx):((eF l path).any λy=>decide (y.2=i+1))=(wq l path).isEmpty:=by
 have hi:=Sz h;cases q:(wq l path).isEmpty with
 |false=>
  rw[bT];intro z;obtain⟨y,hy,e⟩:=mD.mp z;have e:=of_decide_eq_true e;rw[yZ,q,iP rfl]at hy;obtain⟨j,s,h1,h2,h3⟩:=B0 hy;have e:j=i:=by omega
  subst e;dsimp only at hi;rw[hi]at h2;injection h2 with h2;subst h2;cases h3
 |true=>rw[yZ,q,iN (by simp),mD];exact⟨(x,i+1),o7.mpr ⟨_,h,rfl⟩,by simp⟩
theorem yI{α β:Type}{f g:α->Option β}:∀{l:List α},(∀a∈l,f a=g a)->l.filterMap f=l.filterMap g
 |[],_=>rfl
 |a::r,h=>by rw[gP,gP,h a (by simp),yI λb hb=>h b (by simp[hb])]
theorem ZS(h:∀s i,(s,i)∈l.zipIdx->F (s,i+1)=if yw path s=true/\(way s=4->(wq l path).isEmpty=true)then some [ofNat (i+1),ofNat (way s)]else none):(wM l).filterMap F=(ij l path).map λp=>[ofNat p.1,ofNat p.2]:=by rw[Sj,yr];unfold wM;rw[OZ];apply yI;rintro⟨s,i⟩ hz;refine(h s i hz).trans ?_;dsimp only;split <;> rfl
theorem N9(l:b6)(path:aM):sD l path=ofNat (ij l path).length::(ij l path).flatMap λp=>[ofNat p.1,ofNat p.2]:=by
 unfold sD;dsimp only;rw[ZS (path:=path) ?_,aB]
 ·rfl
 ·intro s i hz;cases s with
  |person x=>simp[yw]
  |group n x=>simp[yw]
  |need p x=>by_cases q:eA p path=true <;> simp[yw,way,q,ofNat]
  |veto p x=>by_cases q:eA p path=true <;> simp[yw,way,q,ofNat]
  |sticky p=>by_cases q:eA p path=true <;> simp[yw,way,q,ofNat]
  |default_ x=>dsimp only;rw[N6 hz];cases(wq l path).isEmpty <;> simp[yw,way,ofNat]
theorem Q5(c:c6):withMore c []=c:=by cases c;simp[withMore]
theorem AH(l:b6)(c:c6)(m:List aM)(h:p.2<=c.version)(n:aM):counts l (withMore c m) p n=(counts l c p n||m.contains n):=by
 unfold counts withMore;dsimp only;rw[sd,jD];congr 1;rw[b7,mD,u7]
 constructor
 ·rintro⟨x,h1,h2⟩;simp at h2;rw[<-h2.1];exact h1
 ·intro h1;exact⟨n,h1,by simp[h]⟩
def UC(l:b6)(c:c6)(p:aM×Nat)(n:aM)(m:dY):Bool:=counts l c p n||m.contains n
theorem Cq(ok:eZ w)(l:b6)(c:c6)(h:p.2<=c.version)(m:dY):∀x:dD,jf l w (withMore c m) p x=Er w c.author (UC l c p) x m
 |.by_ n=>by
  unfold jf Er howMany ph;rw[<-(qm ok n).1];simp only[AH l c m h,UC]
  try rfl
 |.some_ k n=>by
  unfold jf Er howMany ph;rw[<-(qm ok n).1];simp only[AH l c m h,UC]
  try rfl
 |.author n=>by unfold jf Er;rw[<-(qm ok n).1];rfl
 |.and a b=>by unfold jf Er;rw[Cq ok l c h m a,Cq ok l c h m b]
 |.or a b=>by unfold jf Er;rw[Cq ok l c h m a,Cq ok l c h m b]
end Rv
namespace Rv
open Vamrqe (Who)
def vK(l:List (aM×Nat)):List (Key×V):=l.map λx=>(ai (bH x.1),iV x.2)
def nK(l:List aM):List (Key×V):=l.map λn=>(ai (bH n),V.bl true)
theorem GR(h:¬a=b):¬(ai (bH a):Key)=ai (bH b):=λz=>by injection z with z;exact h (ki z)
theorem Sr(l:List (aM×Nat))(n:aM):gU (vK l) (ai (bH n))=(l.find? λx=>decide (x.1=n)).map λx=>iV x.2:=by
 induction l with
 |nil=>rfl
 |cons a r ih=>
  rw[cw];by_cases q:a.1=n
  ·rw[dE q];exact hJ (show(ai (bH a.1):Key)=ai (bH n)by rw[q])
  ·rw[dF q];exact(hG (GR q)).trans ih
theorem Q8(l:List aM)(n:aM):(gU (nK l) (ai (bH n))).isSome=l.contains n:=by
 induction l with
 |nil=>rfl
 |cons a r ih=>
  rw[oY];by_cases q:a=n
  ·rw[show(n==a)=true from by simp[q],Ja]
   have:gU (nK (a::r)) (ai (bH n))=some (V.bl true):=hJ (by rw[q])
   rw[this];rfl
  ·rw[show(n==a)=false from beq_eq_false_iff_ne.mpr λz=>q z.symm,mI,<-ih]
   have:gU (nK (a::r)) (ai (bH n))=gU (nK r) (ai (bH n)):=hG (GR q)
   rw[this]
theorem LO(h:(l.map (·.1)).Nodup)(hx:x∈l):gU (vK l) (ai (bH x.1))=some (iV x.2):=by
 rw[Sr]
 induction l with
 |nil=>simp at hx
 |cons a r ih=>
  rw[bO,hZ]at h;rw[cw];rcases af.mp hx with z|z
  ·subst z;rw[dE rfl];rfl
  ·rw[dF λe=>h.1 (by rw[e];exact List.mem_map_of_mem z)];exact ih h.2 z
theorem Cv{α:Type}[BEq α][LawfulBEq α]:∀{l m:List α},l.Nodup->(∀x∈l,x∈m)->l.length<=m.length
 |[],m,_,_=>bR _
 |a::r,m,h,hs=>by
  rw[hZ]at h;have ha:a∈m:=hs a (by simp)
  have:=Cv (m:=m.erase a) h.2 λx hx=>(List.mem_erase_of_ne (λz=>h.1 (by rw[<-z];exact hx))).mpr (hs x (by simp[hx]))
  rw[List.length_erase_of_mem ha]at this
  have:=List.length_pos_of_mem ha
  rw[aG];omega
def Hu(au:Str)(ver:Int)(pd ad vd:aF):List (Str×V):=[("author",.str au),("version",.int ver),("paths",.ref pd),("approvals",.ref ad),("vetoes",.ref vd)]
section
variable{au:Str}{ver:Int}{pd ad vd:aF}
theorem q5:(Hu au ver pd ad vd).lookup ("author":Str)=some (.str au):=eD
theorem kQ:(Hu au ver pd ad vd).lookup ("version":Str)=some (.int ver):=(cJ (by trivial)).trans eD
theorem kP:(Hu au ver pd ad vd).lookup ("paths":Str)=some (.ref pd):=(cJ (by trivial)).trans ((cJ (by trivial)).trans eD)
theorem jH:(Hu au ver pd ad vd).lookup ("approvals":Str)=some (.ref ad):=(cJ (by trivial)).trans ((cJ (by trivial)).trans ((cJ (by trivial)).trans eD))
theorem qc:(Hu au ver pd ad vd).lookup ("vetoes":Str)=some (.ref vd):=(cJ (by trivial)).trans ((cJ (by trivial)).trans ((cJ (by trivial)).trans ((cJ (by trivial)).trans eD)))
theorem BI(v:Int):jP "version" (.int v) (Hu au ver pd ad vd)=Hu au v pd ad vd:=by unfold Hu;rw[bz (by trivial),pE]
end
structure oI(c:Cn)(H:Hp)(x pd ad vd gd:aF)(ch:c6):Prop where
 ins:∃dx,H x=some (.ins c.CC dx (Hu (bH ch.author) (ch.version:Int) pd ad vd))
 pth:Rd H pd (.dK (vK ch.paths))
 app:H ad=some (.dK (vK ch.approvals))
 J2:H vd=some (.dK (nK ch.vetoes))
 n1:pd≠ad
 n2:pd≠vd
 n3:ad≠vd
 n4:pd≠gd
 n5:ad≠gd
 n6:vd≠gd
structure yx(w:Who)(ch:c6):Prop where
 au:ch.author∈w.people
 pn:(ch.paths.map (·.1)).Nodup
 pl:ch.paths.length<=8
 ps:∀p∈ch.paths,d6 p.1=true/\p.2<=ch.version
 an:(ch.approvals.map (·.1)).Nodup
 av:∀a∈ch.approvals,a.1∈w.people/\a.2<=ch.version
 vn:ch.vetoes.Nodup
 vv:∀n∈ch.vetoes,n∈w.people
theorem yx.al(h:yx w ch)(ok:eZ w):ch.approvals.length<=8:=by
 have:=Cv h.an (m:=w.people) λx hx=>by obtain⟨a,ha,rfl⟩:=iJ.mp hx;exact(h.av a ha).1
 rw[aB]at this
 have:=ok.pl
 omega
theorem yx.vl(h:yx w ch)(ok:eZ w):ch.vetoes.length<=8:=by
 have:=Cv h.vn (m:=w.people) h.vv
 have:=ok.pl
 omega
theorem wc(h:d6 p=true):p.length<=40:=by have hg:d6 p=((decide (p.length<=40)&&decide ((TU p).length<=4))&&(TU p).all Vamrqe.goodName):=rfl;rw[hg,bG,bG]at h;exact of_decide_eq_true h.1.1
section
variable{c:Cn}{F:aF->Prop}{M:List aF}{H H':Hp}{b sl pl gd x pd ad vd:aF}{l:b6}{w:Who}{ch:c6}
theorem Rd.same(h:Rd H a u)(s:bA H H'):Rd H' a u:=by
 rcases h with h|⟨o,h⟩
 ·exact .inl (s _ _ h)
 ·exact .inr ⟨o,s _ _ h⟩
theorem oI.same(h:oI c H x pd ad vd gd ch)(s:bA H H'):oI c H' x pd ad vd gd ch:=by obtain⟨dx,h1⟩:=h.ins;exact⟨⟨dx,s _ _ h1⟩,Rv.Rd.same h.pth s,s _ _ h.app,s _ _ h.J2,h.n1,h.n2,h.n3,h.n4,h.n5,h.n6⟩
theorem fL.off(B:fL c F H b sl pl gd l w)(k:Kp M H H')(n:YK M H)(hb:b∉M)(hg:gd∉M):fL c F H' b sl pl gd l w:=by obtain⟨dx,h1⟩:=B.ins;obtain⟨kvs,h2,al⟩:=B.GP;obtain⟨as,h3,al3⟩:=B.ET;refine⟨⟨dx,k _ _ h1 hb⟩,⟨as,k _ _ h3 λz=>(n _ z).1 _ h3,al3.mono λ_ _ z=>z.Wh k n⟩,k _ _ B.oG λz=>(n _ z).1 _ B.oG,⟨kvs,k _ _ h2 hg,al.mono λkv g z=>?_⟩,B.sp,B.fs,B.fp,B.df⟩;obtain⟨e1,a,e2,e3,e4,e5⟩:=z;exact⟨e1,a,e2,e3,e4,k _ _ e5 λz=>(n _ z).1 _ e5⟩
theorem fL.dict(B:fL c F H b sl pl gd l w)(hd:H d=some (.dK kvs))(ne:d≠gd)(k:Kp [d] H H'):fL c F H' b sl pl gd l w:=by
 obtain⟨dx,h1⟩:=B.ins;refine B.off k (λy hy=>?_) ?_ ?_
 ·rw[aQ]at hy;subst hy;exact⟨λxs z=>(by rw[hd]at z;cases z),λC d' fs z=>(by rw[hd]at z;cases z)⟩
 ·rw[aQ];exact cR h1 hd nofun
 ·rw[aQ];exact λz=>ne z.symm
theorem sX.dict(h:sX H a cs)(hd:H d=some (.dK kvs))(k:Kp [d] H H'):sX H' a cs:=by obtain⟨as,h1,h2⟩:=h;exact⟨as,k _ _ h1 (iw <| cR h1 hd nofun),h2.mono λy m z=>k _ _ z (iw <| cR z hd nofun)⟩
inductive SX(c:Cn)(vs:List V)(H:Hp)(Q:VK)(E_:XK):Prop
 |mk:∀b sl pl gd l w F x pd ad vd ch n,vs=[.ref b,.ref x,.str (bH n)]->fL c F H b sl pl gd l w->eZ w->oI c H x pd ad vd gd ch->(∀H',bA H H'->Q (.bl ((dw w n).any λp=>ch.vetoes.contains p)) H')->SX c vs H Q E_
theorem EH(G:aCe c):i7 c "is_vetoed" 2 ["book","change","name"] (SX c):=by
 refine G.AQ.gG (N:=["book","change","name","person"]) (k:=1) (λH vs Q E nd hr h=>?_);obtain⟨b,sl,pl,gd,l,w,F,x,pd,ad,vd,ch,n,rfl,B,ok,C,k⟩:=h;refine⟨_,aL (bE (cF (Hn rfl) (by rfl) G.Oz PM (aA (ni (own:=[("person",3)]) rfl nd (dQ (cg (iD G) G.eV (pv 0) hr ae (aA (pv 2) aH))) (fo (by kernel_rfl)) (λ_ _ _ _ _=>d7 (i:=3) nd) (λ_ _ _ _ _=>kg) (λ_ _ _ _ _=>RQ (RN (lh hr) (pv 3) (ya (K:=c.K) rfl (pv 1) rfl)))) aH))),?_⟩;obtain⟨db,hb⟩:=B.ins;obtain⟨dx,hx⟩:=C.ins;refine⟨_,rfl,b,db,_,rfl,hb,wR (by trivial) (by trivial) (by trivial),_,rfl,b,sl,pl,gd,l,w,n,F,rfl,B,ok.pl,λpa H1 hpa h1 s1=>?_⟩;have hlen:=(yc ok n).2.1;refine⟨pa,rfl,⟨_,bf.of h1⟩,λD hD=>?_⟩;refine jb (zs:=dw w n) (f:=λp=>some (.bl (ch.vetoes.contains p))) hD (by omega) (λi H' hi s2=>⟨_,_,bf.of (s2 _ _ h1),by rw[aP,aX hi];rfl⟩) (λH' s2=>⟨_,bf.of (s2 _ _ h1),by rw[aB];exact a9 _⟩) ?_ ?_
 ·rintro i z H2 y H3 Zy Zn hz s2 ⟨rfl,hy⟩ k1 k2;have hy:=hy _ (bf.of (s2 _ _ h1));rw[aP,hz]at hy;have e:y=vS z:=(aV hy).symm;subst e;refine⟨rfl,_,rfl,_,rfl,x,c.CC,dx,_,_,rfl,s2 _ _ (s1 _ _ hx),G.cX,G.gj,qc,vd,_,rfl,rj.k (k:=ai (bH z)) (s2 _ _ (s1 _ _ C.J2)),?_⟩;rw[Q8];exact k1 _ _ rfl λ_ _ h=>h
 ·intro H2 e s2;refine⟨D,(dw w n).map λp=>ch.vetoes.contains p,rfl,bf.of (by rw[e,bN];simp),?_⟩;rw[jD];exact k _ λb o z=>s2 _ _ (s1 _ _ z)
end
end Rv
namespace Rv
open Vamrqe (Who stays)
open Mt (post)
def gI(l:b6)(ch:c6)(p:aM×Nat)(i:Nat)(n:aM)(m:dY):Bool:=((ch.approvals.take i).any λa=>decide (a.1=n)&&(decide (p.2<=a.2)||stays l p.1))||m.contains n
theorem WW(l:b6)(ch:c6)(p:aM×Nat):gI l ch p ch.approvals.length=UC l ch p:=by
 funext n m
 unfold gI UC Vamrqe.counts;rw[cD]
theorem UB(l:b6)(ch:c6)(p:aM×Nat):gI l ch p 0=λn m=>m.contains n:=by
 funext n m
 simp[gI]
theorem WX(h:ch.approvals[i]?=some a)(q:(decide (p.2<=a.2)||stays l p.1)=true):gI l ch p (i+1)=λk m=>decide (k=a.1)||gI l ch p i k m:=by
 funext k m
 unfold gI;rw[cy h,sd];simp only[g7,Je,q,Gy,xP];rw[show decide (a.1=k)=decide (k=a.1)from by by_cases z:a.1=k;(· rw[dE z,dE z.symm]);(· rw[dF z,dF λy=>z y.symm])];cases decide (k=a.1) <;> simp
theorem Yk(h:ch.approvals[i]?=some a)(q:(decide (p.2<=a.2)||stays l p.1)=false):gI l ch p (i+1)=gI l ch p i:=by
 funext k m
 unfold gI;rw[cy h,sd];simp only[g7,Je,q,je,xP]
section
variable{c:Cn}{F:aF->Prop}{M:List aF}{H H':Hp}{b sl pl gd x pd ad vd:aF}{l:b6}{w:Who}{ch:c6}
theorem Dv.dict(h:Dv H a ps)(hd:H d=some (.dK kvs))(k:Kp [d] H H'):Dv H' a ps:=by obtain⟨as,h1,h2⟩:=h;exact⟨as,k _ _ h1 (iw <| cR h1 hd nofun),h2.mono λy m z=>k _ _ z (iw <| cR z hd nofun)⟩
theorem Rd.kp(h:Rd H a u)(k:Kp M H H')(n:a∉M):Rd H' a u:=by
 rcases h with h|⟨o,h⟩
 ·exact .inl (k _ _ h n)
 ·exact .inr ⟨o,k _ _ h n⟩
def Y9(cs:List dY)(H:Hp)(t:aF)(p:Nat×(dY->Bool)):Prop:=H t=some (.tup [iV p.1,ib cs p.2])
inductive aAz(cs:List dY)(H:Hp)(a:aF)(ps:List (Nat×(dY->Bool))):Prop
 |mk:∀as,H a=some (.lst (as.map V.ref))->Al (Y9 cs H) as ps->aAz cs H a ps
def J5(l:b6)(w:Who)(ch:c6)(p:aM×Nat):List (Nat×(dY->Bool)):=(eF l p.1).map λx=>(x.2,λm=>jf l w (gq ch m) p x.1)
theorem Uv(h:iB c F H a s)(q:(∃p,s=.need p y)\/s=.default_ y):∃dx nm na pat cd,H a=some (.ins c.CS dx (pS (aCn s) nm na pat cd))/\fX c H cd (post y)/\(post y).length<=1500:=by
 obtain⟨dx,nm,na,pat,cd,h1,_,_,h4⟩:=h;rcases q with⟨p,rfl⟩|rfl
 ·exact⟨dx,_,na,_,cd,h1,h4.2.1,h4.2.2⟩
 ·exact⟨dx,_,na,_,cd,h1,h4.1,h4.2⟩
inductive SY(c:Cn)(vs:List V)(H:Hp)(Q:VK)(E_:XK):Prop
 |mk:∀b sl pl gd l w F x pd ad vd ch p ca cs,vs=[.ref b,.ref x,.str (bH p.1),.ref ca]->fL c F H b sl pl gd l w->eZ w->l.length<=24->oI c H x pd ad vd gd ch->yx w ch->p∈ch.paths->sX H ca cs->(∀a H',aAz cs H' a (J5 l w ch p)->bA H H'->Q (.ref a) H')->SY c vs H Q E_
theorem rL(G:aCe c):i7 c "weigh_needs" 5 ["book","change","path","crowds"] (SY c):=by
 refine G.ve.gG (N:=["book","change","path","crowds","told","scale","person","number"]) (k:=4) (λH vs Q E nd hr h=>?_);obtain⟨b,sl,pl,gd,l,w,F,x,pd,ad,vd,ch,p,ca,cs,rfl,B,ok,hl24,C,O,hp,hC,k⟩:=h;refine⟨_,aD (bb (i:=4) nd (az (tK G) hr ae (aA (ag (pv 0) rfl) (aA (pv 2) aH)))) (aD (G8 (i:=5) nd rfl (HF rfl) (gy (NH G) hr ae (aA (pv 0) (aA (ag (pv 1) rfl) (aA (pv 3) aH))))) (aD (yd (fW jC rfl (G3 (ag (pv 1) rfl)) (d7 (i:=6) nd) (aL (cf (FT (bU Yv (y9 (lh hr) (ag (pv 1) rfl) (pv 6) (λ_ _=>rfl)) (y9 (lh hr) (ag (pv 1) rfl) (pv 2) (λ_ _=>rfl)) (bt _)) (zg (ck (az (iU G) hr ae (aA (pv 4) (aA (b9 G.A0) aH))) (λ_=>rfl)))).pt (aL (ax (cg (zJ G) G.gw (pv 5) hr ae (aA (pv 6) aH)))) b8)))) (aL (bE (ni (own:=[("number",7)]) rfl nd (dQ (az (Bx G) hr ae (aA (pv 4) aH))) (fo (by kernel_rfl)) (λ_ _ _ _ _=>d7 (i:=7) nd) (λ_ _ _ _ _=>kg) (λ_ _ _ _ _=>pQ (aA (pv 7) (aA (cg (NK G) G.gw (pv 5) hr DD (aA (ya (K:=c.K) rfl (fE (IX (K:=c.K) rfl) (ya (K:=c.K) rfl (pv 0) rfl) (eM GY (pv 7) bB) (λ_ _=>rfl)) rfl) aH)) aH)))))))),?_⟩;obtain⟨db,hb⟩:=B.ins;obtain⟨dx,hx⟩:=C.ins;have hp40:=wc (O.ps p hp).1;refine⟨_,rfl,b,c.CB,db,_,_,rfl,hb,G.eV,G.dH,fG,_,rfl,sl,l,F,p.1,rfl,B.ET,hl24,by omega,λtb H1 hT s1=>?_⟩;refine⟨_,rfl,_,rfl,x,c.CC,dx,_,_,rfl,s1 _ _ hx,G.cX,G.gi,q5,_,rfl,λsc ds nsc nds _=>?_⟩;refine XA (l:=l) (w:=w) (F:=F) (b:=b) (sl:=sl) (pl:=pl) (gd:=gd) (cs:=cs) nsc nds (B.same s1) ok.pl (hC.same s1) λrd H2 nrd S hk8 s2=>⟨rfl,?_⟩;have s12:bA H H2:=λy o z=>s2 _ _ (s1 _ _ z);have had1:=s1 _ _ C.app;have had2:=s2 _ _ had1;refine⟨ad,_,had2,trivial,λod=>?_⟩;have hT2:=hT.same s2;have kp2:Kp [ad] H1 (aCc H2 ad (.k9 od (.dK (vK ch.approvals)))):=λy o z ny=>by rw[aJ (by simpa using ny)];exact s2 _ _ z
 have nra:rd≠ad:=(aK had1 nrd).symm;have nsa:sc≠ad:=(aK had1 nsc).symm;have nrs:rd≠sc:=by obtain⟨⟨d1,h1⟩,kvs,h2,_⟩:=S;exact cR h2 h1 nofun
 have scU:∀{Ha Hb:Hp}{g:aM->dY->Bool},vB c Ha sc b rd ch.author cs w.people g->Hb sc=Ha sc->Hb rd=Ha rd->vB c Hb sc b rd ch.author cs w.people g:=λS e1 e2=>by obtain⟨⟨d1,h1⟩,kvs,h2,h3⟩:=S;exact⟨⟨d1,by rw[e1];exact h1⟩,kvs,by rw[e2];exact h2,h3⟩
 have hal:=O.al ok;have vlen:(vK ch.approvals).length=ch.approvals.length:=by simp[vK]
 refine⟨_,rfl,x,c.CC,dx,_,_,rfl,kp2 _ _ (s1 _ _ hx) (iw <| cR (s1 _ _ hx) had1 nofun),G.cX,G.dv,jH,ad,od,rfl,.inl ⟨vK ch.approvals,aC,?_⟩⟩;refine qh (n:=ch.approvals.length) (λi σ H'=>∃v6:Option V,σ=[some (.ref b),some (.ref x),some (.str (bH p.1)),some (.ref ca),some (.ref tb),some (.ref sc),v6,none]/\Kp [ad] H1 H'/\H' ad=some (.k9 od (.dK (vK ch.approvals)))/\vB c H' sc b rd ch.author cs w.people (gI l ch p i)/\∃kvs,H' rd=some (.dK kvs)/\kvs.length<=8+i)
  ⟨none,rfl,kp2,aC,by rw[UB];exact scU S (aJ nsa) (aJ nra),?_⟩ ?_ ?_ ?_ ?_
 ·obtain⟨kvs,h1,h2⟩:=hk8;exact⟨kvs,by rw[aJ nra];exact h1,h2⟩
 ·rintro i σ H' hi ⟨_,_,_,h,_⟩;exact⟨h,by rw[vlen];exact hi⟩
 ·rintro σ H' ⟨_,_,_,h,_⟩;exact⟨h,by rw[vlen];exact a9 _⟩
 ·rintro i σ H0 y H' hi ⟨v6,rfl,kp,hfa,Si,kvs,hrd,hkl⟩ ⟨rfl,ky,vy,hky,rfl⟩;have ha:ch.approvals[i]?=some ch.approvals[i]:=aX hi;generalize ch.approvals[i]=a at ha;unfold vK at hky;rw[aP,ha]at hky;have hky:=aV hky;injection hky with e1 e2;subst e1 e2;have hx':H' x=some (.ins c.CC dx (Hu (bH ch.author) (ch.version:Int) pd ad vd)):=kp _ _ (s1 _ _ hx) (iw <| cR (s1 _ _ hx) had1 nofun);have hpd:Rd H' pd (.dK (vK ch.paths)):=Rd.kp (Rv.Rd.same C.pth s1) kp (iw <| C.n1);have va:=LO O.an (bp ha);have vp:=LO O.pn hp;have hT':=hT.dict had1 kp;have cnt:∀(H2 H3:Hp),bA H' H2->(decide (p.2<=a.2)||stays l p.1)=true->vB c H3 sc b rd ch.author cs w.people (λk m=>decide (k=a.1)||gI l ch p i k m)->Kp [rd] H2 H3->(∀kvs,H2 rd=some (.dK kvs)->∃kvs',H3 rd=some (.dK kvs')/\kvs'.length<=kvs.length+1)->
    Kp [ad] H1 H3/\H3 ad=some (.k9 od (.dK (vK ch.approvals)))/\vB c H3 sc b rd ch.author cs w.people (gI l ch p (i+1))/\∃kvs,H3 rd=some (.dK kvs)/\kvs.length<=8+(i+1):=by
   intro H2 H3 sh q S3 kp3 h3;refine⟨λy o z ny=>kp3 _ _ (sh _ _ (kp _ _ z ny)) (iw <| aK z nrd),kp3 _ _ (sh _ _ hfa) (iw <| nra.symm),by rw[WX ha q];exact S3,?_⟩;obtain⟨kvs',e1,e2⟩:=h3 kvs (sh _ _ hrd);exact⟨kvs',e1,by omega⟩
  obtain⟨⟨d1,hsc⟩,_⟩:=id Si;have scn:(Oe b (bH ch.author) ((fF (cs.map λ_=>true):Nat):Int) rd).lookup ("count_always":Str)=none:=Gf (by trivial) (by trivial) (by trivial) (by trivial);refine⟨_,rfl,x,c.CC,dx,_,_,rfl,hx',G.cX,G.dv,jH,_,rfl,ad,_,rfl,.inl ⟨_,ai (bH a.1),.inr ⟨od,hfa⟩,rfl,va.symm⟩,_,rfl,x,c.CC,dx,_,_,rfl,hx',G.cX,G.eS,kP,_,rfl,pd,_,rfl,.inl ⟨_,ai (bH p.1),hpd,rfl,vp.symm⟩,_,_,rfl,rfl,_,rfl,?_⟩;by_cases q1:p.2<=a.2
  ·refine aDx (show(p.2:Int)<=(a.2:Int)by omega) (bq ⟨_,rfl,sc,d1,_,rfl,hsc,scn,_,rfl,sc,b,rd,ch.author,cs,w.people,gI l ch p i,a.1,rfl,Si,⟨kvs,hrd,by omega⟩,λH3 S3 kp3 h3=>⟨_,rfl,cnt _ _ (λ_ _ h=>h) (by simp[q1]) S3 kp3 h3⟩⟩)
  ·refine aDw (show ¬(p.2:Int)<=(a.2:Int)by omega) ⟨_,rfl,tb,_,3,rfl,hT',?_,λnb H2 _ hnb s3=>⟨_,.inl ⟨_,bf.of hnb,rfl⟩,?_⟩⟩
   ·have:=mz l p.1
    omega
   ·have hemp:(!((aCj (ij l p.1) 3).map iV).isEmpty)=stays l p.1:=by rw[<-NB,<-uM];cases aCj (ij l p.1) 3 <;> rfl
    rw[hemp];cases q2:stays l p.1 with
    |true=>exact bq ⟨_,rfl,sc,d1,_,rfl,s3 _ _ hsc,scn,_,rfl,sc,b,rd,ch.author,cs,w.people,gI l ch p i,a.1,rfl,Si.same s3,⟨kvs,s3 _ _ hrd,by omega⟩,λH3 S3 kp3 h3=>⟨_,rfl,cnt _ _ s3 (by simp[q2]) S3 kp3 h3⟩⟩
    |false=>refine bW ⟨_,rfl,λy o z ny=>s3 _ _ (kp _ _ z ny),s3 _ _ hfa,?_,kvs,s3 _ _ hrd,by omega⟩;rw[Yk ha (by simp[q1,q2])];exact Si.same s3
 ·rintro σ H' ⟨v6,rfl,kp,hfa,S3,_⟩;rw[WW]at S3;refine⟨hfa,?_⟩;have s3:bA H1 (aCc H' ad (.dK (vK ch.approvals))):=λy o z=>by
   by_cases q:y=ad
   ·subst q;rw[aC,<-had1,z]
   ·rw[aJ q];exact kp _ _ z (by simpa using q)
  have S4:vB c (aCc H' ad (.dK (vK ch.approvals))) sc b rd ch.author cs w.people (UC l ch p):=scU S3 (aJ nsa) (aJ nra);generalize aCc H' ad (.dK (vK ch.approvals))=H3 at s3 S4;have tl:=mz l p.1;refine⟨_,rfl,tb,ij l p.1,rfl,hT.same s3,by omega,λnb H4 _ hnb s4=>?_⟩;rw[Cu,bN]at hnb;have s04:bA H H4:=λy o z=>s4 _ _ (s3 _ _ (s1 _ _ z));have S5:=S4.same s4;have nl:=za l p.1;refine⟨nb,rfl,⟨_,bf.of hnb⟩,λD hD=>?_⟩;refine ML (zs:=eF l p.1) (keep:=λ_=>true) (R:=λH v z=>∃t,v=V.ref t/\H t=some (.tup [iV z.2,ib cs (Er w ch.author (UC l ch p) z.1)])/\t≠D) hD (by omega) (λi H' hi s5=>?_) (λH' s5=>⟨_,bf.of (s5 _ _ hnb),by rw[aB];exact a9 _⟩) ?_ ?_ ?_
  ·exact⟨_,_,bf.of (s5 _ _ hnb),by rw[aP,aX hi];rfl⟩
  ·rintro H5 H6 v z ⟨t,e1,e2,e3⟩ kp6;exact⟨t,e1,kp6 _ _ e2 (by simpa using e3),e3⟩
  ·rintro i z H5 y H6 Zy Zn hz s5 ⟨acc,hacc⟩ ⟨rfl,hy⟩ k1 k2;have hy:=hy _ (bf.of (s5 _ _ hnb));rw[aP,hz]at hy;have e:y=iV z.2:=(aV hy).symm;subst e;obtain⟨j,st,ej,hj,hst⟩:=RC (bp hz);have s05:bA H _:=λy o z=>s5 _ _ (s04 _ _ z);obtain⟨as,hsl,als⟩:=(B.ET).same s05;obtain⟨sa,hsa,hS⟩:=als.at_ hj;obtain⟨ds,nm,na,pat,cd,o1,o2,o3⟩:=Uv hS hst;have S6:=S5.same s5;obtain⟨⟨d1,hsc⟩,_⟩:=id S6;refine⟨rfl,_,rfl,_,rfl,sc,d1,_,rfl,hsc,Gf (by trivial) (by trivial) (by trivial) (by trivial),_,rfl,b,c.CB,db,_,_,rfl,s05 _ _ hb,G.eV,G.dH,fG,_,rfl,_,_,rfl,rfl,sl,_,_,V.ref sa,rfl,rfl,bf.of hsl,?_,sa,c.CS,ds,_,_,rfl,o1,G.aZ,G.cE,gS,sc,b,sl,pl,gd,l,w,F,rd,ch.author,cs,UC l ch p,cd,z.1,rfl,B.same s05,ok,S6,o2,by omega,λH7 s7=>?_⟩
   ·rw[ej,show((j+1:Nat):Int) - 1=(j:Int)by omega];exact eE (by rw[aP,hsa];rfl)
   ·refine⟨yh,λt ht=>k1 rfl _ _ ⟨t,rfl,aC,?_⟩ λy o z=>aCb ht _ _ (s7 _ _ z)⟩;exact(aK (s7 _ _ hacc) ht).symm
  ·intro H5 ys e5 al5 s5;obtain⟨xs,rfl,al6⟩:∃xs:List aF,ys=xs.map V.ref/\Al (Y9 cs H5) xs (J5 l w ch p):=by
    unfold J5
    have:((eF l p.1).filter λ_=>true)=eF l p.1:=by simp
    rw[this]at al5;have hm:∀z:dD,(λm=>jf l w (gq ch m) p z)=Er w ch.author (UC l ch p) z:=λz=>by
     funext m
     exact Cq ok l ch (O.ps p hp).2 m z
    simp only[hm];clear e5 this;generalize eF l p.1=zz at al5
    induction al5 with
    |nil=>exact⟨[],rfl,.nil⟩
    |cons p q ih=>obtain⟨x,rfl,p2,_⟩:=p;obtain⟨xs,rfl,ih⟩:=ih;exact⟨x::xs,rfl,.cons p2 ih⟩
   exact k D H5 ⟨xs,e5,al6⟩ λy o z=>s5 _ _ (s04 _ _ z)
end
end Rv
namespace Rv
open Vamrqe (Who unmet)
def FA(l:b6)(w:Who)(ch:c6)(p:aM×Nat):List (Nat×Nat):=(unmet l w ch p).map λx=>(x.2,1)
def A4(l:b6)(w:Who)(ch:c6)(p:aM×Nat):List (Nat×Nat):=FA l w ch p++if(eF l p.1).isEmpty=true then[(0,3)]else[]
def Gs(w:Who)(ch:c6)(x:aM×Nat):Bool:=(dw w x.1).any λn=>ch.vetoes.contains n
def wA(l:b6)(w:Who)(ch:c6)(p:aM×Nat):List (Nat×Nat):=A4 l w ch p++((jK l p.1).filter (Gs w ch)).map λx=>(x.2,2)
theorem UK(ok:eZ w)(i:Nat)(p:aM×Nat):Tn l w ch i p=(wA l w ch p).map λx=>⟨i,x.1,x.2⟩:=by
 unfold Tn wA A4 FA;rw[aw,aw,bN,bN];congr 1
 ·cases q:(eF l p.1).isEmpty with
  |true=>
   have:unmet l w ch p=[]:=by unfold unmet;rw[TH.mp q];rfl
   rw[this];rfl
  |false=>rw[iN (by simp),iN (by simp)];simp
 ·congr 1
  apply jR;intro x _;unfold Gs;rw[(qm ok x.1).1]
theorem Ci(l:b6)(w:Who)(ch:c6)(p:aM×Nat):(wA l w ch p).length<=3*l.length+1:=by
 unfold wA A4 FA unmet;rw[aN,aN,aB,aB];have h1:=cP (λx:dD×Nat=>!jf l w ch p x.1) (eF l p.1);have h2:=za l p.1;have h3:=cP (Gs w ch) (jK l p.1);have h4:=J3 l p.1;have h5:(if(eF l p.1).isEmpty=true then[((0:Nat),(3:Nat))]else[]).length<=1:=by split <;> simp
 omega
theorem W4(P:Hp->Prop)(hr:∀H',P H'->D.nx σ H')(ha:b=true->(∀H',P H'->D.nx σ H')->A)(hb:b=false->P H):if b=true then A else S9 D σ H:=by
 cases b with
 |true=>exact bq (ha rfl hr)
 |false=>exact bW (hr _ (hb rfl))
section
variable{c:Cn}{H H':Hp}
inductive SG(c:Cn)(vs:List V)(H:Hp)(Q:VK)(E_:XK):Prop
 |mk:∀b sl pl gd l w F x pd ad vd ch p,vs=[.ref b,.ref x,.str (bH p.1)]->fL c F H b sl pl gd l w->eZ w->l.length<=24->oI c H x pd ad vd gd ch->yx w ch->p∈ch.paths->(∀a H',H a=none->Dv H' a (wA l w ch p)->bA H H'->Q (.ref a) H')->SG c vs H Q E_
theorem zL(G:aCe c):i7 c "kept_back_at" 6 ["book","change","path"] (SG c):=by
 refine G.t7.gG (N:=["book","change","path","weighed","kept","number","row"]) (k:=5) (λH vs Q E nd hr h=>?_);obtain⟨b,sl,pl,gd,l,w,F,x,pd,ad,vd,ch,p,rfl,B,ok,hl24,C,O,hp,k⟩:=h;refine⟨_,aD (bb (i:=3) nd (az (rL G) hr ae (aA (pv 0) (aA (pv 1) (aA (pv 2) (aA (cp (aA (cp aH) aH)) aH)))))) (aD (JA (i:=4) (own:=[("number",5),("row",6)]) rfl nd rfl rfl (M8 rfl rfl rfl rfl) (dQ (pv 3)) (fo (by kernel_rfl)) (λ_ _ _ _ _=>G2 (K:=c.K) (n:=2) rfl rfl (gH (d7 (i:=5) nd) (gH (d7 (i:=6) nd) pB))) (λ_ _ _ _ _=>uk (bU eX (pv 6) bB (bt _))) (λ_ _ _ _ _=>pQ (aA (pv 5) (aA (b9 G.uD) aH)))) (aD (cf (uR (ck (pv 3) (λ_=>rfl))) (aL (ax (fZ aR ak ao dU (pv 4) (aA (pQ (aA bB (aA (b9 G.uE) aH))) aH)))) b8) (aD (fW jC rfl (dQ (az (iU G) hr ae (aA (az (tK G) hr ae (aA (ag (pv 0) rfl) (aA (pv 2) aH))) (aA (b9 G.Es) aH)))) (d7 (i:=5) nd) (aL (cf (ck (az (EH G) hr ae (aA (pv 0) (aA (pv 1) (aA (ag (fE du (ag (pv 0) rfl) (eM GY (pv 5) bB) (λ_ _=>rfl)) rfl) aH)))) (λ_=>rfl)) (aL (ax (fZ aR ak ao dU (pv 4) (aA (pQ (aA (pv 5) (aA (b9 G.IT) aH))) aH)))) b8))) (aL (bE (pv 4)))))),?_⟩;obtain⟨db,hb⟩:=B.ins;have hp40:=wc (O.ps p hp).1;refine⟨_,rfl,_,rfl,_,rfl,bR _,λe he=>⟨kh,λa ha=>?_⟩⟩;have s0:bA H (aCc (aCc H e (.lst [])) a (.lst [.ref e])):=λy o z=>aCb ha _ _ (aCb he _ _ z);have hcr:sX (aCc (aCc H e (.lst [])) a (.lst [.ref e])) a [[]]:=⟨[e],aC,.cons (aCb ha _ _ aC) .nil⟩;generalize aCc (aCc H e (.lst [])) a (.lst [.ref e])=H0 at s0 hcr;refine⟨b,sl,pl,gd,l,w,F,x,pd,ad,vd,ch,p,a,[[]],rfl,B.same s0,ok,hl24,C.same s0,O,hp,hcr,λwa H1 hW s01=>?_⟩;have s1:bA H H1:=λy o z=>s01 _ _ (s0 _ _ z);obtain⟨as,hwa,alw⟩:=hW;have hwl:=alw.len;have wl:(J5 l w ch p).length=(eF l p.1).length:=by simp[J5]
 have nl:=za l p.1;refine⟨_,rfl,wa,rfl,⟨_,bf.of hwa⟩,λD hD=>?_⟩;refine ML (zs:=J5 l w ch p) (keep:=λx=>!x.2 []) (R:=λH v z=>∃t,v=V.ref t/\Hd H t (z.1,1)/\t≠D) hD (by omega) (λi H' hi s2=>?_) (λH' s2=>⟨_,bf.of (s2 _ _ hwa),by rw[aB];omega⟩) ?_ ?_ ?_
 ·obtain⟨t,ht,_⟩:=alw.at_ (aX hi);exact⟨_,_,bf.of (s2 _ _ hwa),by rw[aP,ht];rfl⟩
 ·rintro H5 H6 v z ⟨t,e1,e2,e3⟩ kp6;exact⟨t,e1,kp6 _ _ e2 (by simpa using e3),e3⟩
 ·rintro i z H5 y H6 Zy Zn hz s2 ⟨acc,hacc⟩ ⟨rfl,hy⟩ k1 k2;have hy:=hy _ (bf.of (s2 _ _ hwa));obtain⟨t,ht,hT⟩:=alw.at_ hz;rw[aP,ht]at hy;have e:y=V.ref t:=(aV hy).symm;subst e;refine⟨t,_,rfl,qU.of (s2 _ _ hT),rfl,_,_,rfl,_,_,rfl,rfl,rfl,_,rfl,rfl,_,rfl,?_⟩;cases q:z.2 []with
  |true=>exact aDw (show ¬ib [[]] z.2=V.int 0 from by show ¬iV (fF [z.2 []])=_;rw[q];decide) (k2 (by simp[q]) _ λ_ _ h=>h)
  |false=>exact aDx (show ib [[]] z.2=V.int 0 from by show iV (fF [z.2 []])=_;rw[q];rfl) ⟨_,rfl,yh,λt' ht'=>k1 (by simp[q]) _ _ ⟨t',rfl,aC,(aK hacc ht').symm⟩ (aCb ht')⟩
 ·intro H2 ys e2 al2 s2;obtain⟨xs,rfl,al3⟩:∃xs:List aF,ys=xs.map V.ref/\Al (Hd H2) xs (FA l w ch p):=by
   have:FA l w ch p=((J5 l w ch p).filter λx=>!x.2 []).map λz=>(z.1,1):=by unfold FA J5 unmet;rw[Dh,bN];congr 1;apply jR;intro x _;show _=!jf l w (gq ch []) p x.1;rw[Q5]
   rw[this];clear e2 this;generalize((J5 l w ch p).filter λx=>!x.2 [])=zz at al2
   induction al2 with
   |nil=>exact⟨[],rfl,.nil⟩
   |cons p q ih=>obtain⟨x,rfl,p2,_⟩:=p;obtain⟨xs,rfl,ih⟩:=ih;exact⟨x::xs,rfl,.cons p2 ih⟩
  have kl:=Ci l w ch p;have hwa2:=s2 _ _ hwa;have hemp:(!(!(as.map V.ref).isEmpty))=(eF l p.1).isEmpty:=by
   have h:as.length=(eF l p.1).length:=hwl.trans wl;rw[Xd];clear nl wl hwl alw hwa hwa2;generalize eF l p.1=nn at h;cases as with
   |nil=>
    cases nn with
    |nil=>rfl
    |cons a r=>cases h
   |cons a r=>
    cases nn with
    |nil=>cases h
    |cons a r=>rfl
  refine⟨_,rfl,_,.inl ⟨_,bf.of hwa2,rfl⟩,?_⟩;show(if(!(!(as.map V.ref).isEmpty))=true then _ else _);rw[hemp];refine W4 (λH3=>∃ts:List aF,H3 D=some (.lst (ts.map V.ref))/\Al (Hd H3) ts (A4 l w ch p)/\bA H1 H3) ?_ ?_ ?_
  rotate_left
  ·intro q rest;refine⟨_,rfl,.inl ⟨rfl,_,bf.of e2⟩,yh,λt ht=>⟨D,_,_,rfl,rfl,aCb ht _ _ e2,?_,rest _ ⟨xs++[t],?_,?_,?_⟩⟩⟩
   ·rw[aB,al3.len];unfold wA A4 at kl;rw[aN,aN]at kl;exact pG (by omega)
   ·rw[aC,aw];rfl
   ·unfold A4;rw[q,iP rfl];refine Al.app (al3.mono λy p z=>?_) (Al.one ?_)
    ·show aCc _ D _ y=_;rw[aJ (cR z e2 nofun)];exact aCb ht _ _ z
    ·show aCc _ D _ t=_;rw[aJ (aK e2 ht).symm,aC];rfl
   ·intro y o z;rw[aJ (aK z hD)];exact aCb ht _ _ (s2 _ _ z)
  ·intro q;refine⟨xs,e2,?_,s2⟩;unfold A4;rw[q,iN (by simp),bg];exact al3
  ·rintro H3 ⟨ts,hD3,al4,s3⟩;have s03:bA H H3:=λy o z=>s3 _ _ (s1 _ _ z);refine⟨_,rfl,b,c.CB,db,_,_,rfl,s03 _ _ hb,G.eV,G.dH,fG,_,rfl,sl,l,F,p.1,rfl,B.ET.same s03,hl24,by omega,λtb H4 hT s4=>?_⟩;have tl:=mz l p.1;refine⟨tb,_,2,rfl,hT,by omega,λnb H5 hnb h5 s5=>?_⟩;rw[F9,bN]at h5;have s35:bA H3 H5:=λy o z=>s5 _ _ (s4 _ _ z);have hD5:=s35 _ _ hD3;have nD:nb≠D:=(aK (s4 _ _ hD3) hnb).symm;have s05:bA H H5:=λy o z=>s35 _ _ (s03 _ _ z);have s15:bA H1 H5:=λy o z=>s35 _ _ (s3 _ _ z);have vl:=J3 l p.1;refine⟨nb,rfl,⟨_,bf.of h5⟩,fH (xs:=(jK l p.1).map (iV∘λx=>x.2)) (λi σ H'=>∃(v5:Option V)(ts:List aF),σ=[some (.ref b),some (.ref x),some (.str (bH p.1)),some (.ref wa),some (.ref D),v5,none]/\Kp [D] H5 H'/\H' D=some (.lst (ts.map V.ref))/\Al (Hd H') ts (A4 l w ch p++(((jK l p.1).take i).filter (Gs w ch)).map λx=>(x.2,2))) ⟨none,ts,rfl,Kp.refl _ _,hD5,?_⟩ ?_ ?_ ?_⟩
   ·simp only[o8,List.filter_nil,sM,bg];exact al4.mono λy p z=>s35 _ _ z
   ·rintro i σ H' hi ⟨_,_,_,kp,_⟩;exact bf.of (kp _ _ h5 (by simpa using nD))
   ·rintro i y σ H' hy ⟨v5,ts,rfl,kp,hD',al⟩;rw[aP]at hy;cases hv:(jK l p.1)[i]? with
    |none=>rw[hv]at hy;cases hy
    |some v=>
     rw[hv]at hy;have e:y=iV v.2:=(aV hy).symm;subst e;have hi:i<(jK l p.1).length:=(a8.mp hv).1;have s0':bA H H':=λy o z=>kp _ _ (s05 _ _ z) (iw <| aK (s1 _ _ z) hD);obtain⟨j,pt,ej,hj⟩:=VH (bp hv);obtain⟨sas,hsl,als⟩:=B.ET.same s0';obtain⟨sa,hsa,⟨ds,nm,na,pat,cd,o1,_,_,hB⟩⟩:=als.at_ hj;have enm:nm=v.1:=hB.2.1;subst enm;refine⟨_,rfl,_,rfl,_,rfl,b,c.CB,db,_,_,rfl,s0' _ _ hb,G.eV,G.dH,fG,_,rfl,_,_,rfl,rfl,sl,_,_,V.ref sa,rfl,rfl,bf.of hsl,?_,sa,c.CS,ds,_,_,rfl,o1,G.aZ,G.de,qL,b,sl,pl,gd,l,w,F,x,pd,ad,vd,ch,v.1,rfl,B.same s0',ok,C.same s0',λH6 s6=>⟨_,rfl,?_⟩⟩
     ·rw[ej,show((j+1:Nat):Int) - 1=(j:Int)by omega];exact eE (by rw[aP,hsa];rfl)
     ·have hD6:=s6 _ _ hD';have al6:=al.mono λy p z=>s6 _ _ z;have kp6:Kp [D] H5 H6:=λy o z ny=>s6 _ _ (kp _ _ z ny);have hal:=al.len;rw[aN,aB]at hal;have hf:(((jK l p.1).take i).filter (Gs w ch)).length<=24:=bw (cP _ _) (by rw[cB];omega);unfold wA at kl;rw[aN]at kl;rw[cy hv,oZ];show if Gs w ch v=true then _ else _;cases q:Gs w ch v with
      |false=>refine bW ⟨_,ts,rfl,kp6,hD6,?_⟩;rw[show[v].filter (Gs w ch)=[]from by simp[q],bg];exact al6
      |true=>
       refine bq ⟨_,rfl,.inl ⟨rfl,_,bf.of hD6⟩,_,rfl,yh,λt ht=>⟨D,_,_,rfl,rfl,aCb ht _ _ hD6,?_,_,ts++[t],rfl,?_,?_,?_⟩⟩
       ·rw[aB,hal];exact pG (by omega)
       ·exact λy o z ny=>by rw[aJ (by simpa using ny)];exact aCb ht _ _ (kp6 _ _ z ny)
       ·rw[aC,aw];rfl
       ·rw[show[v].filter (Gs w ch)=[v]from by simp[q],aw,<-bV];refine Al.app (al6.mono λy p z=>?_) (Al.one ?_)
        ·show aCc _ D _ y=_;rw[aJ (cR z hD6 nofun)];exact aCb ht _ _ z
        ·show aCc _ D _ t=_;rw[aJ (aK hD6 ht).symm,aC];rfl
   ·rintro σ H' ⟨v5,ts,rfl,kp,hD',al⟩;rw[aB,cD]at al;exact⟨_,rfl,k D H' (aCf s1 hD) ⟨ts,hD',al⟩ λy o z=>kp _ _ (s05 _ _ z) (iw <| aK (s1 _ _ z) hD)⟩
end
end Rv
namespace Rv
open Vamrqe (Who unmet)
def vI(l:b6)(w:Who)(ch:c6)(i:Nat):List ua:=(ch.paths.take i).zipIdx.flatMap λx=>(wA l w ch x.1).map λy=>⟨x.2,y.1,y.2⟩
theorem So(ok:eZ w):j5 l w ch=vI l w ch ch.paths.length:=by unfold j5 vI;rw[cD];exact qe λx _=>UK ok x.2 x.1
theorem Mg(h:ch.paths[i]?=some p):vI l w ch (i+1)=vI l w ch i++(wA l w ch p).map λy=>⟨i,y.1,y.2⟩:=by have hi:=(a8.mp h).1;unfold vI;rw[cy h,O2,eN];congr 1;rw[cB,kX (by omega)];simp
theorem LN(w:Who)(ch:c6)(h:l.length<=24):∀i,i<=ch.paths.length->(vI l w ch i).length<=73*i
 |0,_=>by simp[vI]
 |i+1,hi=>by
  have hp:ch.paths[i]?=some ch.paths[i]:=aX hi;rw[Mg hp,aN,aB]
  have:=LN w ch h i (by omega)
  have:=Ci l w ch ch.paths[i]
  omega
section
variable{c:Cn}{F:aF->Prop}{H H':Hp}{b sl pl gd x pd ad vd:aF}{l:b6}{w:Who}{ch:c6}
def Vq(H:Hp)(t:aF)(k:ua):Prop:=H t=some (.tup [iV k.path,iV k.stmt,iV k.how])
inductive aAo(H:Hp)(a:aF)(ks:List ua):Prop
 |mk:∀as,H a=some (.lst (as.map V.ref))->Al (Vq H) as ks->aAo H a ks
theorem oI.lock(C:oI c H x pd ad vd gd ch)(hpd:H pd=some (.dK (vK ch.paths)))(kp:Kp [pd] H H')(hf:H' pd=some (.k9 od (.dK (vK ch.paths)))):oI c H' x pd ad vd gd ch:=by obtain⟨dx,hx⟩:=C.ins;exact⟨⟨dx,kp _ _ hx (iw <| cR hx hpd nofun)⟩,.inr ⟨od,hf⟩,kp _ _ C.app (iw <| C.n1.symm),kp _ _ C.J2 (iw <| C.n2.symm),C.n1,C.n2,C.n3,C.n4,C.n5,C.n6⟩
theorem pJ(hd:H d=some u)(kp:Kp [d] H H'):bA H (aCc H' d u):=λy o z=>by
 by_cases q:y=d
 ·subst q;rw[aC,<-hd,z]
 ·rw[aJ q];exact kp _ _ z (by simpa using q)
inductive XG(c:Cn)(vs:List V)(H:Hp)(Q:VK)(E_:XK):Prop
 |mk:∀b sl pl gd l w F x pd ad vd ch,vs=[.ref b,.ref x]->fL c F H b sl pl gd l w->eZ w->l.length<=24->oI c H x pd ad vd gd ch->H pd=some (.dK (vK ch.paths))->yx w ch->(∀a H',aAo H' a (j5 l w ch)->bA H H'->Q (.ref a) H')->XG c vs H Q E_
inductive aEj(H:Hp)(b:aF)(l:b6)(w:Who)(x:aF)(pd:aF)(ch:c6)(L:aF)(od:Obj)(i:Nat)(σ:L2.St)(H':Hp):Prop
 |mk:∀(v3 v4 v5 v6:Option V)(ts:List aF),σ=[some (.ref b),some (.ref x),some (.ref L),v3,v4,v5,v6]->Kp [pd] H H'->H' pd=some (.k9 od (.dK (vK ch.paths)))->H' L=some (.lst (ts.map V.ref))->Al (Vq H') ts (vI l w ch i)->aEj H b l w x pd ch L od i σ H'
inductive aEk(b:aF)(l:b6)(w:Who)(x:aF)(ch:c6)(L:aF)(i:Nat)(p:aM×Nat)(H3:Hp)(j:Nat)(σ:L2.St)(H':Hp):Prop
 |mk:∀(v5 v6:Option V)(ts:List aF),σ=[some (.ref b),some (.ref x),some (.ref L),some (.int (i:Nat)),some (.str (bH p.1)),v5,v6]->Kp [L] H3 H'->H' L=some (.lst (ts.map V.ref))->Al (Vq H') ts (vI l w ch i++((wA l w ch p).take j).map λy=>⟨i,y.1,y.2⟩)->aEk b l w x ch L i p H3 j σ H'
theorem EI(G:aCe c):i7 c "kept_back" 7 ["book","change"] (XG c):=by
 refine G.AR.gG (N:=["book","change","kept","place","path","number","how"]) (k:=6) (λH vs Q E nd hr h=>?_);obtain⟨b,sl,pl,gd,l,w,F,x,pd,ad,vd,ch,rfl,B,ok,hl24,C,hpd,O,k⟩:=h;refine⟨_,aD (bb (i:=2) nd (cp aH)) (aD (yd (fW jC rfl (RV (by rfl) G.og (aA (ag (pv 1) rfl) aH)) (zb rfl (gH (d7 (i:=3) nd) (gH (d7 (i:=4) nd) pB))) (aL (fW jC rfl (dQ (az (zL G) hr ae (aA (pv 0) (aA (pv 1) (aA (pv 4) aH))))) (zb rfl (gH (d7 (i:=5) nd) (gH (d7 (i:=6) nd) pB))) (aL (ax (fZ aR ak ao dU (pv 2) (aA (pQ (aA (pv 3) (aA (pv 5) (aA (pv 6) aH)))) aH)))))))) (aL (bE (pv 2)))),?_⟩;obtain⟨dx,hx⟩:=C.ins;refine⟨bR _,λL hL=>?_⟩;have sL:=aCb (o:=.lst []) hL;have nLp:L≠pd:=(aK hpd hL).symm;have nxp:x≠pd:=cR hx hpd nofun;refine⟨pd,_,sL _ _ hpd,trivial,λod=>?_⟩;have vlen:(vK ch.paths).length=ch.paths.length:=by simp[vK]
 refine⟨_,rfl,x,c.CC,dx,_,_,rfl,by rw[aJ nxp];exact sL _ _ hx,G.cX,G.eS,kP,pd,od,vK ch.paths,rfl,aC,?_⟩;refine qh (n:=ch.paths.length) (aEj H b l w x pd ch L od)
  ⟨none,none,none,none,[],rfl,λy o z ny=>by rw[aJ (by simpa using ny)];exact sL _ _ z,aC,by rw[aJ nLp,aC];rfl,.nil⟩ ?_ ?_ ?_ ?_
 ·rintro i σ H' hi ⟨_,_,_,_,_,_,_,h,_⟩;exact⟨h,by rw[vlen];exact hi⟩
 ·rintro σ H' ⟨_,_,_,_,_,_,_,h,_⟩;exact⟨h,vlen⟩
 ·rintro i σ H' y H2 hi ⟨v3,v4,v5,v6,ts,rfl,kp,hf,hLs,al⟩ ⟨T,ky,vy,hky,rfl,hT,rfl⟩;have hpi:ch.paths[i]?=some ch.paths[i]:=aX hi;have hpm:=bp hpi;generalize ch.paths[i]=p at hpi hpm;unfold vK at hky;rw[aP,hpi]at hky;have hky:=aV hky;injection hky with e1 e2;subst e1 e2;have sT:=aCb (o:=.tup [.int (i:Nat),kV (ai (bH p.1))]) hT;have kp2:Kp [pd] H (aCc H' T (.tup [.int (i:Nat),kV (ai (bH p.1))])):=λy o z ny=>sT _ _ (kp _ _ z ny);have hf2:=sT _ _ hf;have hL2:=sT _ _ hLs;have al2:=al.mono λy p z=>sT _ _ z;refine⟨T,_,rfl,qU.of aC,rfl,_,_,rfl,_,_,rfl,rfl,?_⟩;generalize aCc H' T (.tup [.int (i:Nat),kV (ai (bH p.1))])=H2 at kp2 hf2 hL2 al2;refine⟨_,rfl,_,rfl,_,rfl,b,sl,pl,gd,l,w,F,x,pd,ad,vd,ch,p,rfl,B.dict hpd C.n4 kp2,ok,hl24,C.lock hpd kp2 hf2,O,hpm,λkb H3 hkb hK s3=>?_⟩;obtain⟨as,hka,alk⟩:=hK;have nkL:kb≠L:=(aK hL2 hkb).symm;have hL3:=s3 _ _ hL2;have al3:=al2.mono λy p z=>s3 _ _ z;have hlen:=alk.len;have kl:=Ci l w ch p;have v1:=LN w ch hl24 i (by omega);have p8:=O.pl;have hf3:=s3 _ _ hf2;refine⟨kb,rfl,⟨_,bf.of hka⟩,fH (xs:=as.map V.ref) (aEk b l w x ch L i p H3) ⟨v5,v6,ts,rfl,Kp.refl _ _,hL3,by rw[o8,sM,bg];exact al3⟩ ?_ ?_ ?_⟩
  ·rintro j σ H4 hj ⟨_,_,_,_,kp4,_⟩;exact bf.of (kp4 _ _ hka (by simpa using nkL))
  ·rintro j y σ H4 hy ⟨v5,v6,ts,rfl,kp4,hL4,al4⟩;rw[aP]at hy;cases ht:as[j]? with
   |none=>rw[ht]at hy;cases hy
   |some t=>
    rw[ht]at hy;have e:y=V.ref t:=(aV hy).symm;subst e;obtain⟨q,hq,hTq⟩:=alk.at' ht;have hT4:H4 t=some (.tup [iV q.1,iV q.2]):=kp4 _ _ hTq (iw <| cR hTq hL3 nofun);have hal:=al4.len;rw[aN,aB,cB]at hal;refine⟨t,_,rfl,qU.of hT4,rfl,_,_,rfl,_,_,rfl,rfl,_,rfl,.inl ⟨rfl,_,bf.of hL4⟩,_,rfl,_,rfl,_,rfl,aBq,λt' ht'=>⟨L,_,_,rfl,rfl,aCb ht' _ _ hL4,?_,_,_,ts++[t'],rfl,?_,?_,?_⟩⟩
    ·rw[aB,hal];exact pG (by omega)
    ·exact λy o z ny=>by rw[aJ (by simpa using ny)];exact aCb ht' _ _ (kp4 _ _ z ny)
    ·rw[aC,aw];rfl
    ·rw[cy hq,aw,<-bV];refine Al.app (al4.mono λy p z=>?_) (Al.one ?_)
     ·show aCc _ L _ y=_;rw[aJ (cR z hL4 nofun)];exact aCb ht' _ _ z
     ·show aCc _ L _ t'=_;rw[aJ (aK hL4 ht').symm,aC]
  ·rintro σ H4 ⟨v5,v6,ts,rfl,kp4,hL4,al4⟩;rw[aB,hlen,cD,<-Mg hpi]at al4;exact⟨_,_,_,_,ts,rfl,λy o z ny=>kp4 _ _ (s3 _ _ (kp2 _ _ z ny)) (iw <| aK z hL),kp4 _ _ hf3 (iw <| nLp.symm),hL4,al4⟩
 ·rintro σ H' ⟨v3,v4,v5,v6,ts,rfl,kp,hf,hLs,al⟩;refine⟨hf,_,rfl,k L _ ⟨ts,by rw[aJ nLp];exact hLs,?_⟩ (pJ hpd kp)⟩;rw[So ok];exact al.mono λy p z=>by show aCc _ pd _ y=_;rw[aJ (cR z hf nofun)];exact z
def T1(l:b6)(w:Who)(ch:c6)(m:dY)(p:aM×Nat):Bool:=!(eF l p.1).isEmpty&&(unmet l w (gq ch m) p).isEmpty
theorem MO(l:b6)(w:Who)(ch:c6):j3 l w ch=(Lk (w.people.filter λn=>!decide (n=ch.author))).find? λm=>ch.paths.all (T1 l w ch m):=rfl
theorem OQ(l:b6)(w:Who)(ch:c6)(p:aM×Nat)(m:dY):(unmet l w (gq ch m) p).isEmpty=(J5 l w ch p).all λz=>z.2 m:=by
 unfold unmet J5;rw[gW];generalize eF l p.1=nn
 induction nn with
 |nil=>rfl
 |cons a r ih=>
  rw[mF,g6,<-ih];cases q:jf l w (gq ch m) p a.1 with
  |true=>rw[show(!true)=false from rfl,iN (by simp)];show _=(jf l w (gq ch m) p a.1&&_);rw[q,gZ]
  |false=>rw[show(!false)=true from rfl,iP rfl];show _=(jf l w (gq ch m) p a.1&&_);rw[q,dg];rfl
inductive Nv(c:Cn)(vs:List V)(H:Hp)(Q:VK)(E_:XK):Prop
 |mk:∀b sl pl gd l w F x pd ad vd ch,vs=[.ref b,.ref x]->fL c F H b sl pl gd l w->eZ w->l.length<=24->oI c H x pd ad vd gd ch->H pd=some (.dK (vK ch.paths))->yx w ch->((j3 l w ch=none->∀H',bA H H'->Q .fB H'))->(∀m,j3 l w ch=some m->∀a H',H' a=some (.lst (m.map vS))->bA H H'->Q (.ref a) H')->Nv c vs H Q E_
inductive aEm(b:aF)(l:b6)(w:Who)(x:aF)(pd:aF)(ch:c6)(ca:aF)(H2:Hp)(cs:List (List aM))(od:Obj)(i:Nat)(σ:L2.St)(H':Hp):Prop
 |mk:∀(v4 v5 v6 v7:Option V),σ=[some (.ref b),some (.ref x),some (.ref ca),some (ib cs λm=>(ch.paths.take i).all (T1 l w ch m)),v4,v5,v6,v7,none]->Kp [pd] H2 H'->H' pd=some (.k9 od (.dK (vK ch.paths)))->aEm b l w x pd ch ca H2 cs od i σ H'
inductive aEn(b:aF)(l:b6)(w:Who)(x:aF)(ch:c6)(ca:aF)(cs:List (List aM))(i:Nat)(p:aM×Nat)(wa:aF)(H3:Hp)(j:Nat)(σ:L2.St)(H':Hp):Prop
 |mk:∀(v6 v7:Option V),σ=[some (.ref b),some (.ref x),some (.ref ca),some (ib cs λm=>(ch.paths.take i).all (T1 l w ch m)&&((J5 l w ch p).take j).all λz=>z.2 m),some (.str (bH p.1)),some (.ref wa),v6,v7,none]->H'=H3->aEn b l w x ch ca cs i p wa H3 j σ H'
theorem wY(G:aCe c):i7 c "who_is_missing" 6 ["book","change"] (Nv c):=by
 refine G.qC.gG (N:=["book","change","crowds","enough","path","weighed","number","row","person"]) (k:=5) (λH vs Q E nd hr h=>?_);obtain⟨b,sl,pl,gd,l,w,F,x,pd,ad,vd,ch,rfl,B,ok,hl24,C,hpd,O,kn,ks⟩:=h;refine⟨_,aD (bb (i:=2) nd (az (EG G) hr ae (aA (ni (own:=[("person",8)]) rfl nd (dQ (ag (pv 0) rfl)) (fo (by kernel_rfl)) (λ_ _ _ _ _=>d7 (i:=8) nd) (λ_ _ _ _ _=>uk (bU MU (pv 8) (ya (K:=c.K) rfl (pv 1) rfl) (bt _))) (λ_ _ _ _ _=>pv 8)) aH))) (aD (bb (i:=3) nd (az (tI G) hr ae (aA (pv 2) aH))) (aD (yd (fW jC rfl (G3 (ag (pv 1) rfl)) (d7 (i:=4) nd) (aD (bb (i:=5) nd (az (rL G) hr ae (aA (pv 0) (aA (pv 1) (aA (pv 4) (aA (pv 2) aH)))))) (aD (cf (uR (ck (pv 5) (λ_=>rfl))) (aL (bE uP)) b8) (aL (fW jC rfl (dQ (pv 5)) (zb rfl (gH (d7 (i:=6) nd) (gH (d7 (i:=7) nd) pB))) (aL (bb (i:=3) nd (eM Kk (pv 3) (pv 7)))))))))) (aL (bE (az (BE G) hr ae (aA (pv 2) (aA (pv 3) aH))))))),?_⟩;obtain⟨dx,hx⟩:=C.ins;obtain⟨db,hb⟩:=B.ins;have nxp:x≠pd:=cR hx hpd nofun;have hpl:=ok.pl;refine⟨_,rfl,b,c.CB,db,_,_,rfl,hb,G.eV,G.f9,kH,pl,rfl,⟨_,bf.of B.oG⟩,λD hD=>?_⟩;refine jb (zs:=w.people) (f:=λp=>if p=ch.author then none else some (vS p)) hD (by omega) (λi H' hi s1=>⟨_,_,bf.of (s1 _ _ B.oG),by rw[aP,aX hi];rfl⟩) (λH' s1=>⟨_,bf.of (s1 _ _ B.oG),by rw[aB];exact a9 _⟩) ?_ ?_
 ·rintro i z H2 y H3 Zy Zn hz s2 ⟨rfl,hy⟩ k1 k2;have hy:=hy _ (bf.of (s2 _ _ B.oG));rw[aP,hz]at hy;have e:y=vS z:=(aV hy).symm;subst e;refine⟨rfl,_,rfl,_,rfl,x,c.CC,dx,_,_,rfl,s2 _ _ hx,G.cX,G.gi,q5,rfl,_,rfl,?_⟩;by_cases q:z=ch.author
  ·rw[dE (show vS z=V.str (bH ch.author)by rw[q])];exact bW (k2 _ (by rw[iP q]) λ_ _ h=>h)
  ·rw[dF (show ¬vS z=V.str (bH ch.author)from λh=>q (mC.mp h))];exact bq ⟨_,rfl,k1 _ _ (by rw[iN q]) λ_ _ h=>h⟩
 ·intro H1 e1 s1;have e1:H1 D=some (.lst ((w.people.filter λn=>!decide (n=ch.author)).map vS)):=by rw[e1,<-lX,lY];congr 3;funext p;by_cases q:p=ch.author <;> simp[q]
  have me:=MO l w ch;have hlp:=cP (λn=>!decide (n=ch.author)) w.people;have hnd:(w.people.filter λn=>!decide (n=ch.author)).Nodup:=ok.pn.filter _;generalize(w.people.filter λn=>!decide (n=ch.author))=pp at e1 me hlp hnd;refine⟨D,pp,rfl,e1,by omega,hnd,λca H2 hC s2=>?_⟩;generalize Lk pp=cs at hC me;have s02:bA H H2:=λy o z=>s2 _ _ (s1 _ _ z);refine⟨_,rfl,ca,cs,rfl,hC,?_⟩;have hpd2:=s02 _ _ hpd;refine⟨pd,_,hpd2,trivial,λod=>?_⟩;have vlen:(vK ch.paths).length=ch.paths.length:=by simp[vK]
  refine⟨_,rfl,x,c.CC,dx,_,_,rfl,by rw[aJ nxp];exact s02 _ _ hx,G.cX,G.eS,kP,pd,od,rfl,.inl ⟨vK ch.paths,aC,?_⟩⟩;refine qh (n:=ch.paths.length) (aEm b l w x pd ch ca H2 cs od)
   ⟨none,none,none,none,rfl,Kp.put (by simp),aC⟩ ?_ ?_ ?_ ?_
  ·rintro i σ H' hi ⟨_,_,_,_,_,_,h⟩;exact⟨h,by rw[vlen];exact hi⟩
  ·rintro σ H' ⟨_,_,_,_,_,_,h⟩;exact⟨h,by rw[vlen];exact a9 _⟩
  ·rintro i σ H0 y H' hi ⟨v4,v5,v6,v7,rfl,kp,hf⟩ ⟨rfl,ky,vy,hky,rfl⟩;have hpi:ch.paths[i]?=some ch.paths[i]:=aX hi;have hpm:=bp hpi;generalize ch.paths[i]=p at hpi hpm;unfold vK at hky;rw[aP,hpi]at hky;have hky:=aV hky;injection hky with q1 q2;subst q1 q2;refine⟨_,rfl,_,rfl,_,rfl,_,rfl,b,sl,pl,gd,l,w,F,x,pd,ad,vd,ch,p,ca,cs,rfl,(B.same s02).dict hpd2 C.n4 kp,ok,hl24,(C.same s02).lock hpd2 kp hf,O,hpm,hC.dict hpd2 kp,λwa H3 hW s3=>?_⟩;obtain⟨as,hwa,alw⟩:=hW;have hwl:=alw.len;have wl:(J5 l w ch p).length=(eF l p.1).length:=by simp[J5]
   have hf3:=s3 _ _ hf;have kp3:Kp [pd] H2 H3:=λy o z ny=>s3 _ _ (kp _ _ z ny);have hemp:(!(!(as.map V.ref).isEmpty))=(eF l p.1).isEmpty:=by
    have h:as.length=(eF l p.1).length:=hwl.trans wl;rw[Xd];clear wl hwl alw hwa;generalize eF l p.1=nn at h;cases as with
    |nil=>
     cases nn with
     |nil=>rfl
     |cons a r=>cases h
    |cons a r=>
     cases nn with
     |nil=>cases h
     |cons a r=>rfl
   refine⟨_,rfl,_,.inl ⟨_,bf.of hwa,rfl⟩,?_⟩;show(if(!(!(as.map V.ref).isEmpty))=true then _ else _);rw[hemp];cases q:(eF l p.1).isEmpty with
   |true=>
    refine bq ⟨hf3,kn ?_ _ λy o z=>pJ hpd2 kp3 _ _ (s02 _ _ z)⟩;rw[me,o6];intro m _ z
    have:=dZ.mp z p hpm
    unfold T1 at this;rw[q]at this;cases this
   |false=>
    refine bW ⟨_,rfl,wa,rfl,⟨_,bf.of hwa⟩,fH (xs:=as.map V.ref) (aEn b l w x ch ca cs i p wa H3) ⟨v6,v7,?_,rfl⟩ ?_ ?_ ?_⟩
    ·simp only[o8,Xj,Gy];rfl
    ·rintro j σ H4 hj ⟨_,_,_,rfl⟩;exact bf.of hwa
    ·rintro j y σ H4 hy ⟨v6,v7,rfl,rfl⟩;rw[aP]at hy;cases ht:as[j]? with
     |none=>rw[ht]at hy;cases hy
     |some t=>
      rw[ht]at hy;have e:y=V.ref t:=(aV hy).symm;subst e;obtain⟨z,hz,hTz⟩:=alw.at' ht;refine⟨t,_,rfl,qU.of hTz,rfl,_,_,rfl,_,_,rfl,rfl,_,rfl,_,rfl,_,_,rfl,rfl,?_⟩;dsimp only;rw[wQ,Gb];refine⟨some (iV z.1),some (ib cs z.2),?_,rfl⟩;rw[cy hz]
      have:(λm=>((ch.paths.take i).all (T1 l w ch m)&&((J5 l w ch p).take j).all λz=>z.2 m)&&z.2 m)=λm=>(ch.paths.take i).all (T1 l w ch m)&&((J5 l w ch p).take j++[z]).all λz=>z.2 m:=by
       funext m
       rw[Dg,Bool.and_assoc];simp
      rw[<-this];rfl
    ·rintro σ H4 ⟨v6,v7,rfl,rfl⟩;refine⟨some (.str (bH p.1)),some (.ref wa),v6,v7,?_,kp3,hf3⟩;rw[aB,hwl,cD,cy hpi]
     have:(λm=>(ch.paths.take i).all (T1 l w ch m)&&(J5 l w ch p).all λz=>z.2 m)=λm=>(ch.paths.take i++[p]).all (T1 l w ch m):=by
      funext m
      rw[Dg,<-OQ];congr 1;simp[T1,q]
     rw[this]
  ·rintro σ H' ⟨v4,v5,v6,v7,rfl,kp,hf⟩;rw[cD];have s3:=pJ hpd2 kp;refine⟨hf,_,rfl,_,rfl,ca,cs,λm=>ch.paths.all (T1 l w ch m),rfl,hC.same s3,?_⟩;rw[<-me];cases e:j3 l w ch with
   |none=>exact kn e _ λy o z=>s3 _ _ (s02 _ _ z)
   |some m=>exact λy hy=>ks m e _ _ hy λy o z=>s3 _ _ (s02 _ _ z)
end
end Rv
namespace Rv
open Vamrqe (Who namesOf cutAt goodName small)
open Mt (tr known)
def Kn(n:aM):Prop:=∀x∈n,known x=true
theorem k63:known 63=false:=by decide
theorem Me(h:Kn n):n.map tr=n:=by
 induction n with
 |nil=>rfl
 |cons a r ih=>rw[bO,Mt.oB (h a (by simp)),ih λx hx=>h x (by simp[hx])]
theorem D7(h:Kn n):∀u:aM,u.map tr=n↔u=n:=by
 induction n with
 |nil=>intro u;simp
 |cons a r ih=>
  intro u;cases u with
  |nil=>simp
  |cons b s=>
   have ha:=h a (by simp)
   have:=Mt.F6 ha (by rintro rfl;rw[k63]at ha;cases ha) b
   rw[bO,qQ,qQ,this,ih (λx hx=>h x (by simp[hx])) s]
theorem Vk(h:Kn n)(u:aM):decide (n=u.map tr)=decide (n=u):=by
 by_cases q:n=u
 ·rw[dE q,dE ((D7 h u).mpr q.symm).symm]
 ·rw[dF q,dF λz=>q ((D7 h u).mp z.symm).symm]
theorem MS(h:jW n=true):Kn n:=by
 cases n with
 |nil=>intro x hx;simp at hx
 |cons a r=>
  have h:(small a&&r.all cZ&&decide ((a::r).length<=Vs)&&!Vamrqe.reserved.contains (a::r))=true:=h;simp only[bG]at h;intro x hx;rcases af.mp hx with z|z
  ·subst z;exact Mt.j1 _ (Mt.qx _ h.1.1.1)
  ·exact Mt.j1 _ (dZ.mp h.1.1.2 x z)
theorem KO:∀(u n:aM),cutAt (n.map tr) (u.map tr)=(cutAt n u).map λm=>m.map tr
 |[],n=>by simp[cutAt]
 |a::r,n=>by
  rw[bO,cutAt,cutAt];have h47:tr a=47↔a=47:=Mt.F6 (by decide) (by decide) a;by_cases q:a=47
  ·rw[iP (h47.mpr q),iP q,bO,<-KO r [],List.map_reverse];rfl
  ·rw[iN λz=>q (h47.mp z),iN q];exact KO r (a::n)
theorem Il(u:aM):namesOf (u.map tr)=(namesOf u).map λm=>m.map tr:=KO u []
theorem MF(n:aM):goodName (n.map tr)=goodName n:=by
 unfold goodName;rw[aB,gW];congr 1
 have:(fz∘tr)=fz:=funext Mt.VE
 rw[this]
theorem U0(u:aM):d6 (u.map tr)=d6 u:=by
 unfold d6;rw[Il,aB,aB,gW];congr 1
 have:(goodName∘λm:aM=>m.map tr)=goodName:=funext MF
 rw[this]
theorem ME(h:goodName n=true):Kn n:=λx hx=>by unfold goodName at h;rw[bG]at h;exact Mt.wk _ (dZ.mp h.2 x hx)
theorem GH:∀(u n:aM)(x:Nat),x∈u\/x∈n->x=47\/∃m∈cutAt n u,x∈m
 |[],n,x,h=>by
  rcases h with h|h
  ·simp at h
  ·exact .inr ⟨n.reverse,by simp[cutAt],by simpa using h⟩
 |a::r,n,x,h=>by
  rw[cutAt];by_cases q:a=47
  ·rw[iP q];rcases h with h|h
   ·rcases af.mp h with z|z
    ·exact .inl (z.trans q)
    ·rcases GH r [] x (.inl z)with y|⟨m,h1,h2⟩
     ·exact .inl y
     ·exact .inr ⟨m,by simp[h1],h2⟩
   ·exact .inr ⟨n.reverse,by simp,by simpa using h⟩
  ·rw[iN q];refine GH r (a::n) x ?_;rcases h with h|h
   ·rcases af.mp h with z|z
    ·exact .inr (by simp[z])
    ·exact .inl z
   ·exact .inr (by simp[h])
theorem UZ(h:d6 u=true):Kn u:=λx hx=>by
 unfold d6 at h;rw[bG]at h;rcases GH u [] x (.inl hx)with z|⟨m,h1,h2⟩
 ·subst z;decide
 ·exact ME (dZ.mp h.2 m h1) x h2
theorem Iv:∀l:List aM,jX (l.map λm=>m.map tr)=jX l
 |[]=>rfl
 |n::r=>by
  have h1:n.map tr=[42,42]↔n=[42,42]:=D7 (λx hx=>by simp at hx;subst hx;decide) n;have h2:n.map tr=[42]↔n=[42]:=D7 (λx hx=>by simp at hx;subst hx;decide) n;rw[bO,jX,jX,Iv r,MF];by_cases q1:n=[42,42]
  ·rw[iP (h1.mpr q1),iP q1];cases r <;> rfl
  ·rw[iN λz=>q1 (h1.mp z),iN q1];by_cases q2:n=[42]
   ·rw[iP (h2.mpr q2),iP q2]
   ·rw[iN λz=>q2 (h2.mp z),iN q2];cases q3:goodName n with
    |false=>rfl
    |true=>rw[iP rfl,iP rfl,Me (ME q3)]
theorem DF(u:aM):cW (u.map tr)=cW u:=by unfold cW;rw[Il,aB,aB,Iv]
structure Dx(w:Who):Prop where
 ps:∀n∈w.people,Kn n
 gs:∀g∈w.groups,Kn g.1
theorem Wo(h:Dx w)(u:aM):w.people.contains (u.map tr)=w.people.contains u:=by
 rw[b7,u7,u7]
 constructor
 ·intro z
  have:=(D7 (h.ps _ z) u).mp rfl
  rw[<-this]at z;exact z
 ·intro z;rw[Me (h.ps _ z)];exact z
theorem MA{α:Type}{f g:α->Bool}:∀{l:List α},(∀a∈l,f a=g a)->l.find? f=l.find? g
 |[],_=>rfl
 |a::r,h=>by rw[cw,cw,h a (by simp),MA λb hb=>h b (by simp[hb])]
theorem RZ(h:Dx w)(u:aM):dw w (u.map tr)=dw w u:=by
 unfold dw Bp;have e:(w.groups.find? λg=>decide (g.1=u.map tr))=w.groups.find? λg=>decide (g.1=u):=MA λg hg=>Vk (h.gs g hg) u;rw[e];cases(w.groups.find? λg=>decide (g.1=u)).map λg=>g.2 with
 |some l=>rfl
 |none=>exact jR λp hp=>Vk (h.ps p hp) u
theorem bj{A B:Type}{r:kF A}{f:A->kF B}{y:B}(h:bc r f=.ok y):∃x,r=.ok x/\f x=.ok y:=by
 cases r with
 |ok x=>exact⟨x,rfl,h⟩
 |error e=>cases h
theorem A8(h:cn ts=.ok x):jW x.1=true:=by
 unfold cn at h;split at h
 ·split at h
  ·rename_i q;injection h with h;rw[<-h];exact q
  ·cases h
 ·cases h
theorem yX:∀{f m:Nat}{ts:List qS}{x:List aM×List qS},i6 f m ts=.ok x->∀n∈x.1,jW n=true
 |0,m,ts,x,h=>by cases h
 |f+1,m,ts,x,h=>by
  rw[i6]at h;obtain⟨y,h1,h2⟩:=bj h;have hy:=A8 h1;split at h2
  ·obtain⟨z,h3,h4⟩:=bj h2;injection h4 with h4;rw[<-h4];intro n hn;rcases af.mp hn with q|q
   ·rw[q];exact hy
   ·exact yX h3 n q
  ·injection h2 with h2;rw[<-h2];intro n hn;rw[aQ.mp hn];exact hy
def TZ:bX->List aM
 |.person l=>l
 |.group n _=>[n]
 |_=>[]
theorem JR(h:eI ts=.ok x):∀n∈TZ x.1,jW n=true:=by
 unfold eI at h;split at h
 ·obtain⟨y,h1,h2⟩:=bj h;injection h2 with h2;rw[<-h2];exact yX h1
 ·split at h
  ·obtain⟨y,h1,h2⟩:=bj h;obtain⟨r,_,h2⟩:=bj h2;obtain⟨z,_,h2⟩:=bj h2;injection h2 with h2;rw[<-h2];intro n hn;rw[aQ.mp hn];exact A8 h1
  ·split at h
   ·obtain⟨p,_,h2⟩:=bj h;split at h2
    ·obtain⟨z,_,h2⟩:=bj h2;injection h2 with h2;rw[<-h2];intro n hn;simp[TZ]at hn
    ·obtain⟨r,_,h2⟩:=bj h2;obtain⟨z,_,h2⟩:=bj h2;injection h2 with h2;rw[<-h2];intro n hn;simp[TZ]at hn
   ·split at h
    ·obtain⟨p,_,h2⟩:=bj h;injection h2 with h2;rw[<-h2];intro n hn;simp[TZ]at hn
    ·obtain⟨p,_,h2⟩:=bj h;obtain⟨r,_,h2⟩:=bj h2;obtain⟨z,_,h2⟩:=bj h2;injection h2 with h2;rw[<-h2];intro n hn;simp[TZ]at hn
theorem yk:∀{f m:Nat}{ts:List qS}{l:b6},nz f m ts=.ok l->∀s∈l,∀n∈TZ s,jW n=true
 |0,m,ts,l,h=>by cases h
 |f+1,m,ts,l,h=>by
  rw[nz]at h;obtain⟨y,h1,h2⟩:=bj h;have hy:=JR h1;split at h2
  ·injection h2 with h2;rw[<-h2];intro s hs;rw[aQ.mp hs];exact hy
  ·split at h2
   ·obtain⟨z,h3,h4⟩:=bj h2;injection h4 with h4;rw[<-h4];intro s hs;rcases af.mp hs with q|q
    ·rw[q];exact hy
    ·exact yk h3 s q
   ·cases h2
theorem U8(h:ez u=.ok l):∀s∈l,∀n∈TZ s,jW n=true:=by
 unfold ez at h;split at h
 ·cases h
 ·obtain⟨y,h1,h2⟩:=bj h;split at h2
  ·injection h2 with h2;subst h2;unfold HN at h1;obtain⟨z,_,h3⟩:=bj h1;exact yk h3
  ·cases h2
theorem AD:∀{l:List aM}{w v:Who},qT l w=.ok v->Dx w->(∀n∈l,jW n=true)->Dx v
 |[],w,v,h,W,_=>by injection h with h;rw[<-h];exact W
 |n::l,w,v,h,W,hn=>by
  rw[qT]at h;split at h
  ·cases h
  ·split at h
   ·cases h
   ·refine AD h ⟨λm hm=>?_,W.gs⟩ λm hm=>hn m (by simp[hm]);rcases bZ.mp hm with z|z
    ·exact W.ps m z
    ·rw[aQ.mp z];exact MS (hn n (by simp))
theorem wO{A B:Type}{r:Zv A}{f:A->Zv B}{y:B}(h:dA r f=.ok y):∃x,r=.ok x/\f x=.ok y:=by
 cases r with
 |ok x=>exact⟨x,rfl,h⟩
 |error e=>cases h
theorem Tu(h:s.check w=.ok v)(W:Dx w)(hn:∀n∈TZ s,jW n=true):Dx v:=by
 unfold HM at h;cases s with
 |person l=>exact AD h W hn
 |group n l=>
  dsimp only at h;split at h
  ·cases h
  ·split at h
   ·cases h
   ·obtain⟨m,_,h2⟩:=wO h;injection h2 with h2;rw[<-h2];refine⟨W.ps,λg hg=>?_⟩;rcases bZ.mp hg with z|z
    ·exact W.gs g z
    ·rw[aQ.mp z];exact MS (hn n (by simp[TZ]))
 |need p x=>obtain⟨m,_,h2⟩:=wO h;injection h2 with h2;rw[<-h2];exact W
 |veto p x=>
  dsimp only at h;split at h
  ·injection h with h;rw[<-h];exact W
  ·cases h
 |sticky p=>injection h with h;rw[<-h];exact W
 |default_ x=>
  dsimp only at h;split at h
  ·cases h
  ·obtain⟨m,_,h2⟩:=wO h;injection h2 with h2;rw[<-h2];exact⟨W.ps,W.gs⟩
theorem AE:∀{l:b6}{i:Nat}{w v:Who},Ob i w l=.ok v->Dx w->(∀s∈l,∀n∈TZ s,jW n=true)->Dx v
 |[],i,w,v,h,W,_=>by injection h with h;rw[<-h];exact W
 |s::r,i,w,v,h,W,hn=>by
  rw[Ob]at h;cases e:s.check w with
  |error x=>rw[e]at h;cases h
  |ok v'=>rw[e]at h;exact AE h (Tu e W (hn s (by simp))) λt ht=>hn t (by simp[ht])
theorem Wx(h:ez u=.ok l)(hc:yu l=.ok w):Dx w:=AE hc ⟨λn hn=>by simp[l7]at hn,λg hg=>by simp[l7]at hg⟩ (U8 h)
end Rv
namespace Rv
open Vamrqe (Who State)
def BJ(b:aF)(cv:V):List (Str×V):=[("book",.ref b),("change",cv)]
section
variable{b b':aF}{cv cv':V}
theorem nS:(BJ b cv).lookup ("book":Str)=some (.ref b):=eD
theorem kK:(BJ b cv).lookup ("change":Str)=some cv:=(cJ (by trivial)).trans eD
theorem GI:jP "book" (.ref b') (BJ b cv)=BJ b' cv:=by unfold BJ;rw[pE]
theorem tq:jP "change" cv' (BJ b cv)=BJ b cv':=by unfold BJ;rw[bz (by trivial),pE]
end
def LX(c:Cn)(H:Hp)(gd:aF)(w:Who)(cv:V):Option c6->Prop
 |none=>cv=.fB
 |some ch=>∃x pd ad vd,cv=.ref x/\oI c H x pd ad vd gd ch/\H pd=some (.dK (vK ch.paths))/\yx w ch
structure Dt(c:Cn)(F:aF->Prop)(H:Hp)(d b sl pl gd:aF)(cv:V)(s:State):Prop where
 ins:∃dx,H d=some (.ins c.CD dx (BJ b cv))
 bk:fL c F H b sl pl gd s.rules s.who
 ok:eZ s.who
 nm:Dx s.who
 sz:LD s.rules<=1001
 ln:s.rules.length<=24
 ch:LX c H gd s.who cv s.change
inductive Dk(c:Cn)(H:Hp)(d:aF)(s:State):Prop
 |mk:∀F b sl pl gd cv,Dt c F H d b sl pl gd cv s->Dk c H d s
def Ls(H H':Hp):Prop:=(∀a xs,H a=some (.lst xs)->H' a=some (.lst xs))/\∀a o u,H a=some (.k9 o u)->H' a=some (.k9 o u)
def jw(c:Cn)(E:XK)(Q:VK)(H:Hp)(d:aF)(r:Xp):Prop:=match r with
 |.ok x=>∀a H',H a=none->H' a=some (.lst (x.2.map V.int))->x.2.length<=35000->Dk c H' d x.1->Ls H H'->Q (.ref a) H'
 |.error e=>∀p,Rz c E [] H (-e) p
inductive Vw(H:Hp)(r:aF)(us:List aM):Prop
 |mk:∀as,H r=some (.lst (as.map V.ref))->Al (λa u=>H a=some (.lst (u.map iV))) as us->Vw H r us
inductive gg(c:Cn)(clOf:List aM->Option hU)(vs:List V)(H:Hp)(Q:VK)(E:XK):Prop
 |mk:∀d r us s k,vs=[.ref d,.ref r]->Dk c H d s->Vw H r us->clOf us=some k->(∀u∈us,u.length<=2000)->jw c E Q H d (j4 s k)->gg c clOf vs H Q E
def EO(k:hU):List aM->Option hU
 |[]=>some k
 |_=>none
def oU(f:aM->hU):List aM->Option hU
 |[u]=>some (f u)
 |_=>none
def Ng(f:aM->aM->hU):List aM->Option hU
 |[u,v]=>some (f u v)
 |_=>none
section
variable{c:Cn}{F:aF->Prop}{M:List aF}{H H':Hp}{E:XK}{Q:VK}{vs:List V}{d b sl pl gd x pd ad vd:aF}{cv:V}{l:b6}{w:Who}{s:State}{ch:c6}
theorem Lp(h:gg c (EO k) vs H Q E):∃d r s,vs=[.ref d,.ref r]/\Dk c H d s/\jw c E Q H d (j4 s k):=by
 obtain⟨d,r,us,s,k',rfl,D,_,e,_,o⟩:=h;cases us with
 |nil=>cases e;exact⟨d,r,s,rfl,D,o⟩
 |cons u t=>cases e
theorem vT(h:gg c (oU f) vs H Q E):∃d r s a u,vs=[.ref d,.ref r]/\Dk c H d s/\H r=some (.lst [.ref a])/\H a=some (.lst (u.map iV))/\u.length<=2000/\jw c E Q H d (j4 s (f u)):=by
 obtain⟨d,r,us,s,k',rfl,D,⟨as,hr,al⟩,e,hl,o⟩:=h;cases al with
 |nil=>cases e
 |cons p q=>
  cases q with
  |nil=>cases e;exact⟨d,r,s,_,_,rfl,D,hr,p,hl _ (by simp),o⟩
  |cons p q=>cases e
theorem call2(h:gg c (Ng f) vs H Q E):∃d r s a u a' u',vs=[.ref d,.ref r]/\Dk c H d s/\H r=some (.lst [.ref a,.ref a'])/\H a=some (.lst (u.map iV))/\u.length<=2000/\H a'=some (.lst (u'.map iV))/\u'.length<=2000/\jw c E Q H d (j4 s (f u u')):=by
 obtain⟨d,r,us,s,k',rfl,D,⟨as,hr,al⟩,e,hl,o⟩:=h;cases al with
 |nil=>cases e
 |cons p q=>
  cases q with
  |nil=>cases e
  |cons p' q'=>
   cases q' with
   |nil=>cases e;exact⟨d,r,s,_,_,_,_,rfl,D,hr,p,hl _ (by simp),p',hl _ (by simp),o⟩
   |cons p q=>cases e
def aAr(H:Hp)(a:aF):Prop:=(∃kvs,H a=some (.dK kvs))\/∃C dx fs,H a=some (.ins C dx fs)/\fs.head?.map (·.1)≠some ("kind":Str)
theorem Ls.of(s:bA H H'):Ls H H':=⟨λa xs h=>s _ _ h,λa o u h=>s _ _ h⟩
theorem Ls.kp(k:Kp M H H')(n:∀y∈M,aAr H y):Ls H H':=by
 refine⟨λa xs h=>k _ _ h λz=>?_,λa o u h=>k _ _ h λz=>?_⟩
 ·rcases n a z with⟨kvs,e⟩|⟨C,dx,fs,e,_⟩
  ·rw[e]at h;cases h
  ·rw[e]at h;cases h
 ·rcases n a z with⟨kvs,e⟩|⟨C,dx,fs,e,_⟩
  ·rw[e]at h;cases h
  ·rw[e]at h;cases h
theorem Ls.trans(a:Ls H H1)(b:Ls H1 H2):Ls H H2:=⟨λy xs h=>b.1 _ _ (a.1 _ _ h),λy o u h=>b.2 _ _ _ (a.2 _ _ _ h)⟩
theorem LX.same(h:LX c H gd w cv o)(s:bA H H'):LX c H' gd w cv o:=by
 cases o with
 |none=>exact h
 |some ch=>obtain⟨x,pd,ad,vd,e,C,hp,O⟩:=h;exact⟨x,pd,ad,vd,e,C.same s,s _ _ hp,O⟩
theorem Dt.same(D:Dt c F H d b sl pl gd cv s)(h:bA H H'):Dt c F H' d b sl pl gd cv s:=by obtain⟨dx,h1⟩:=D.ins;exact⟨⟨dx,h _ _ h1⟩,D.bk.same h,D.ok,D.nm,D.sz,D.ln,D.ch.same h⟩
theorem Dk.same(D:Dk c H d s)(h:bA H H'):Dk c H' d s:=by obtain⟨F,b,sl,pl,gd,cv,D⟩:=D;exact⟨F,b,sl,pl,gd,cv,D.same h⟩
theorem Kg(h:∀y∈M,aAr H y):YK M H:=λy hy=>by
 rcases h y hy with⟨kvs,e⟩|⟨C,dx,fs,e,n⟩
 ·exact⟨λxs z=>(by rw[e]at z;cases z),λC d' fs z=>(by rw[e]at z;cases z)⟩
 ·exact⟨λxs z=>(by rw[e]at z;cases z),λC' d' fs' z=>(by rw[e]at z;cases z;exact n)⟩
theorem BX(h:¬f=g):some f≠some g:=λz=>h (aV z)
theorem QL(h:H a=some (.ins C dx ((f,u)::r)))(h':H a'=some (.ins C' dx' ((g,v)::t)))(n:¬f=g):a≠a':=λz=>by subst z;rw[h]at h';injection h' with h';injection h' with _ _ h';injection h' with h' _;injection h' with h' _;exact n h'
theorem fL.Ye(B:fL c F H b sl pl gd l w)(hd:H d=some (.ins c.CD dx (BJ b0 cv)))(k:Kp [d] H H'):fL c F H' b sl pl gd l w:=by
 obtain⟨db,hb⟩:=B.ins;obtain⟨kvs,hg,_⟩:=B.GP;refine B.off k (Kg λy hy=>?_) ?_ ?_
 ·rw[aQ]at hy;subst hy;exact .inr ⟨_,_,_,hd,BX (show ¬("book":Str)="kind" by trivial)⟩
 ·rw[aQ];exact QL hb hd (show ¬("statements":Str)="book" by trivial)
 ·rw[aQ];exact cR hg hd nofun
theorem Dt.turn(D:Dt c F H d b sl pl gd (.ref x) s)(C:oI c H x pd ad vd gd ch)(hpd:H pd=some (.dK (vK ch.paths)))(k:Kp [x,pd,ad,vd] H H')(C':oI c H' x pd ad vd gd ch')(hpd':H' pd=some (.dK (vK ch'.paths)))(O:yx s.who ch'):
  Dk c H' d ⟨s.rules,s.who,some ch'⟩/\Ls H H':=by
 obtain⟨dd,hd⟩:=D.ins;obtain⟨db,hb⟩:=D.bk.ins;obtain⟨kvs,hg,_⟩:=D.bk.GP;obtain⟨dx,hx⟩:=C.ins;have odd:∀y∈[x,pd,ad,vd],aAr H y:=λy hy=>by
  simp only[af,cC,or_false]at hy;rcases hy with z|z|z|z
  ·rw[z];exact .inr ⟨_,_,_,hx,BX (show ¬("author":Str)="kind" by trivial)⟩
  ·rw[z];exact .inl ⟨_,hpd⟩
  ·rw[z];exact .inl ⟨_,C.app⟩
  ·rw[z];exact .inl ⟨_,C.J2⟩
 have nb:∀{y:aF}{dy:aF}{f:Str}{u:V}{r:List (Str×V)}{Cy:aF},H y=some (.ins Cy dy ((f,u)::r))->¬f="author"->y∉[x,pd,ad,vd]:=λ{y dy f u r Cy} hy n z=>by
  simp only[af,cC,or_false]at z;rcases z with z|z|z|z
  ·exact QL hy hx n z
  ·exact cR hy hpd nofun z
  ·exact cR hy C.app nofun z
  ·exact cR hy C.J2 nofun z
 have ng:gd∉[x,pd,ad,vd]:=λz=>by
  simp only[af,cC,or_false]at z;rcases z with z|z|z|z
  ·exact cR hg hx nofun z
  ·exact C.n4 z.symm
  ·exact C.n5 z.symm
  ·exact C.n6 z.symm
 exact⟨⟨F,b,sl,pl,gd,.ref x,⟨dd,k _ _ hd (nb hd (show ¬("book":Str)="author" by trivial))⟩,D.bk.off k (Kg odd) (nb hb (show ¬("statements":Str)="author" by trivial)) ng,D.ok,D.nm,D.sz,D.ln,x,pd,ad,vd,rfl,C',hpd',O⟩,Ls.kp k odd⟩
inductive ZH(c:Cn)(vs:List V)(H:Hp)(Q:VK)(E_:XK):Prop
 |mk:∀a dx au,vs=[.ref a,.str au]->H a=some (.ins c.CC dx [])->(∀pd ad vd H',H pd=none->H ad=none->H vd=none->pd≠ad->pd≠vd->ad≠vd->H' a=some (.ins c.CC dx (Hu au 0 pd ad vd))->H' pd=some (.dK [])->H' ad=some (.dK [])->H' vd=some (.dK [])->Kp [a] H H'->Q .fB H')->ZH c vs H Q E_
theorem KH(G:aCe c):Bb c "Change" c.CC 2 ["self","author"] (ZH c):=by
 refine G.Ij.gG (N:=["self","author"]) (k:=0) (λH vs Q E nd hr h=>?_);obtain⟨a,dx,au,rfl,ha,k⟩:=h;refine⟨_,aD (d8 (pv 0) (pv 1) rfl) (aD (d8 (pv 0) bB rfl) (aD (d8 (pv 0) qH rfl) (aD (d8 (pv 0) qH rfl) (aL (d8 (pv 0) qH rfl))))),?_⟩;refine⟨_,rfl,_,rfl,a,c.CC,dx,_,rfl,ha,G.cX,G.gi,by show 0<1000;decide,?_⟩;rw[dW];refine⟨_,rfl,a,c.CC,dx,_,rfl,aC,G.cX,G.eh,by show 1<1000;decide,?_⟩;rw[bz (show ¬("author":Str)="version" by trivial),dW];intro pd hp;have n1:a≠pd:=aK aC hp;refine⟨_,rfl,a,c.CC,dx,_,rfl,by rw[aJ n1,aC],G.cX,G.eS,by show 2<1000;decide,?_⟩;rw[bz (show ¬("author":Str)="paths" by trivial),bz (show ¬("version":Str)="paths" by trivial),dW];intro ad hq;have n2:a≠ad:=aK aC hq;refine⟨_,rfl,a,c.CC,dx,_,rfl,by rw[aJ n2,aC],G.cX,G.dv,by show 3<1000;decide,?_⟩;rw[bz (show ¬("author":Str)="approvals" by trivial),bz (show ¬("version":Str)="approvals" by trivial),bz (show ¬("paths":Str)="approvals" by trivial),dW];intro vd hv;have n3:a≠vd:=aK aC hv;refine⟨_,rfl,a,c.CC,dx,_,rfl,by rw[aJ n3,aC],G.cX,G.gj,by show 4<1000;decide,?_⟩;rw[bz (show ¬("author":Str)="vetoes" by trivial),bz (show ¬("version":Str)="vetoes" by trivial),bz (show ¬("paths":Str)="vetoes" by trivial),bz (show ¬("approvals":Str)="vetoes" by trivial),dW];rw[aJ n1.symm,aJ n1.symm]at hp;rw[aJ n2.symm]at hq;have n4:pd≠ad:=aK aC hq;rw[aJ n4.symm,aJ n2.symm,aJ n2.symm]at hq;rw[aJ n3.symm]at hv;have n5:ad≠vd:=aK aC hv;rw[aJ n5.symm,aJ n3.symm]at hv;have n6:pd≠vd:=aK aC hv;rw[aJ n6.symm,aJ n3.symm,aJ n3.symm]at hv;refine k pd ad vd _ hp hq hv n4 n6 n5 aC ?_ ?_ ?_ λy o e nb=>?_
 ·rw[aJ n1.symm,aJ n6,aJ n1.symm,aJ n4,aJ n1.symm,aC]
 ·rw[aJ n2.symm,aJ n5,aJ n2.symm,aC]
 ·rw[aJ n3.symm,aC]
 ·have ba:y≠a:=by simpa using nb
  rw[aJ ba,aJ (aK e hv),aJ ba,aJ (aK e hq),aJ ba,aJ (aK e hp),aJ ba,aJ ba];exact e
theorem WN(nx:H x=none)(nd:H dx=none)(hg:H gd≠none)(k:∀pd ad vd H',oI c H' x pd ad vd gd ⟨au,0,[],[],[]⟩->H' pd=some (.dK [])->bA H H'->W .fB H'):
  ZH c [.ref x,.str (bH au)] (aCc (aCc H dx (.own x)) x (.ins c.CC dx [])) W E:=by
 have back:∀{b:aF},(aCc (aCc H dx (.own x)) x (.ins c.CC dx [])) b=none->H b=none:=λ{b} z=>by
  by_cases q:b=x
  ·subst q;exact nx
  ·rw[aJ q]at z;by_cases q2:b=dx
   ·subst q2;exact nd
   ·rw[aJ q2]at z;exact z
 exact⟨x,dx,bH au,rfl,aC,λpd ad vd H' h1 h2 h3 n1 n2 n3 h5 h6 h7 h8 kp=>k pd ad vd H' ⟨⟨dx,h5⟩,.inl h6,h7,h8,n1,n2,n3,λz=>hg (by rw[<-z];exact back h1),λz=>hg (by rw[<-z];exact back h2),λz=>hg (by rw[<-z];exact back h3)⟩ h6 λb o q=>kp b o (by rw[aJ (aK q nx),aJ (aK q nd)];exact q) (by simp[aK q nx])⟩
inductive aBu(c:Cn)(vs:List V)(H:Hp)(Q:VK)(E_:XK):Prop
 |mk:∀a dx,vs=[.ref a]->H a=some (.ins c.CD dx [])->(∀b sl pl gd F H',H' a=some (.ins c.CD dx (BJ b .fB))->fL c F H' b sl pl gd [] l7->Kp [a] H H'->Q .fB H')->aBu c vs H Q E_
theorem PY(G:aCe c):Bb c "Desk" c.CD 5 ["self"] (aBu c):=by
 refine G.RA.gG (N:=["self"]) (k:=3) (λH vs Q E nd hr h=>?_);obtain⟨a,dx,rfl,ha,k⟩:=h;refine⟨_,aD (d8 (pv 0) (DG (Hq G) hr ae) rfl) (aL (d8 (pv 0) uP rfl)),?_⟩;intro b db nb ndb ne;refine PF nb ndb λsl pl gd H1 hsl hpl hgd B1 s1=>⟨rfl,?_⟩;have ha1:=s1 _ _ ha;refine⟨_,rfl,a,c.CD,dx,_,rfl,ha1,G.iX,G.gQ,by show 0<1000;decide,?_⟩;rw[dW];refine⟨_,rfl,a,c.CD,dx,_,rfl,aC,G.iX,G.eT,by show 1<1000;decide,?_⟩;rw[bz (show ¬("book":Str)="change" by trivial),dW];obtain⟨dB,hB⟩:=B1.ins;obtain⟨kvs,hg,_⟩:=B1.GP;have kp:Kp [a] H1 (aCc (aCc H1 a (.ins c.CD dx [("book",.ref b)])) a (.ins c.CD dx [("book",.ref b),("change",.fB)])):=λy o e n=>by rw[aQ]at n;rw[aJ n,aJ n];exact e
 refine k b sl pl gd _ _ aC (B1.off kp (Kg λy hy=>?_) ?_ ?_) λy o e n=>kp _ _ (s1 _ _ e) n
 ·rw[aQ]at hy;subst hy;exact .inr ⟨_,_,_,ha1,by simp⟩
 ·rw[aQ];intro z;subst z;rw[ha]at nb;cases nb
 ·rw[aQ];exact cR hg ha1 nofun
end
end Rv
namespace Rv
open Vamrqe (State ofNat)
section
variable{c:Cn}
inductive SM(c:Cn)(vs:List V)(H:Hp)(Q:VK)(E:XK):Prop
 |mk:∀a u,vs=[.ref a]->H a=some (.lst (u.map iV))->u.length<=2000->((if d6 u=true then ∀H',bA H H'->Q (.str (bH u)) H' else Rz c E [] H 11 0))->SM c vs H Q E
theorem tG(G:aCe c):i7 c "path_of" 4 ["codes"] (SM c):=by
 refine G.Ek.gG (N:=["codes","path"]) (k:=3) (λH vs Q E nd hr h=>?_);obtain⟨a,u,rfl,ha,hu,k⟩:=h;refine⟨_,aD (bb (i:=1) nd (az (lg G) hr ae (aA (pv 0) aH))) (aD (cf (uR (ck (az (Hr G) hr ae (aA (pv 1) aH)) (λ_=>rfl))) (aL (zd G.Sx hr)) b8) (aL (bE (pv 1)))),?_⟩;refine⟨_,rfl,a,u,rfl,ha,hu,λH1 s1=>?_⟩;refine⟨_,rfl,u.map Mt.tr,rfl,by rw[aB];exact hu,λH2 s2=>⟨_,rfl,?_⟩⟩;rw[U0];have s12:bA H H2:=λb o z=>s2 _ _ (s1 _ _ z);cases q:d6 u with
 |true=>rw[iP q]at k;refine bW ⟨_,rfl,?_⟩;rw[Me (UZ q)];exact k _ s12
 |false=>rw[iN (by rw[q];simp)]at k;exact bq ⟨by simp,11,0,⟨rfl,rfl,rfl⟩,k.step (bA.kp s12)⟩
theorem QG(l:List aM):(l.map vS).all lF=true:=by rw[gW,dZ];intro x _;rfl
inductive SN(c:Cn)(vs:List V)(H:Hp)(Q:VK)(E:XK):Prop
 |mk:∀d s a u,vs=[.ref d,.ref a]->Dk c H d s->H a=some (.lst (u.map iV))->u.length<=2000->((if s.who.people.contains u=true then ∀H',bA H H'->Q (.str (bH u)) H' else ∀p,Rz c E [] H 6 p))->SN c vs H Q E
theorem vU(G:aCe c):i7 c "person_of" 4 ["desk","codes"] (SN c):=by
 refine G.AU.gG (N:=["desk","codes","person"]) (k:=3) (λH vs Q E nd hr h=>?_);obtain⟨d,s,a,u,rfl,⟨F,b,sl,pl,gd,cv,D⟩,ha,hu,k⟩:=h;refine⟨_,aD (bb (i:=2) nd (az (lg G) hr ae (aA (pv 1) aH))) (aD (cf (bU mh (pv 2) (ag (ag (pv 0) rfl) rfl) rfl) (aL (pD G.kM hr (aA bB aH))) b8) (aL (bE (pv 2)))),?_⟩;refine⟨_,rfl,a,u,rfl,ha,hu,λH1 s1=>?_⟩;have D1:=D.same s1;obtain⟨dd,hd⟩:=D1.ins;obtain⟨db,hb⟩:=D1.bk.ins;refine⟨_,rfl,_,rfl,d,c.CD,dd,_,_,rfl,hd,G.iX,G.gQ,nS,b,c.CB,db,_,_,rfl,hb,G.eV,G.f9,kH,pl,_,rfl,.inl (bf.of D1.bk.oG),rfl,QG _,_,rfl,?_⟩;rw[show(if true=true then !vw (V.str (bH (u.map Mt.tr))) (s.who.people.map vS)else vw (V.str (bH (u.map Mt.tr))) (s.who.people.map vS))=!s.who.people.contains u from by rw[iP rfl,show V.str (bH (u.map Mt.tr))=vS (u.map Mt.tr)from rfl,uh,Wo D.nm]];cases q:s.who.people.contains u with
 |true=>rw[iP q]at k;refine bW ⟨_,rfl,?_⟩;rw[Me (D.nm.ps _ (by simpa using q))];exact k _ s1
 |false=>rw[iN (by rw[q];simp)]at k;exact bq ⟨by simp,6,0,⟨rfl,rfl⟩,(k 0).step (bA.kp s1)⟩
inductive Nw(c:Cn)(vs:List V)(H:Hp)(Q:VK)(E:XK):Prop
 |mk:∀d F b sl pl gd cv s,vs=[.ref d]->Dt c F H d b sl pl gd cv s->(match s.change with
 |some ch=>Q cv H
 |none=>∀p,Rz c E [] H 12 p)->Nw c vs H Q E
theorem ir(G:aCe c):i7 c "present_change" 4 ["desk"] (Nw c):=by
 refine G.pk.gG (N:=["desk"]) (k:=3) (λH vs Q E nd hr h=>?_);obtain⟨d,F,b,sl,pl,gd,cv,s,rfl,D,k⟩:=h;refine⟨_,aD (cf (zf (Kl (ag (pv 0) rfl))) (aL (zd G.LU hr)) b8) (aL (bE (ag (pv 0) rfl))),?_⟩;obtain⟨dd,hd⟩:=D.ins;have hc:=D.ch;refine⟨_,rfl,d,c.CD,dd,_,_,rfl,hd,G.iX,G.eT,kK,_,rfl,?_⟩;cases e:s.change with
 |none=>rw[e]at k hc;have hc:cv=.fB:=hc;exact aDx hc ⟨by simp,12,0,⟨rfl,rfl,rfl⟩,k 0⟩
 |some ch=>rw[e]at k hc;obtain⟨x,pd,ad,vd,rfl,_⟩:=hc;exact aDw nofun ⟨_,rfl,d,c.CD,dd,_,_,rfl,hd,G.iX,G.eT,kK,k⟩
def Te(c:Cn)(E:XK)(H:Hp)(s:State)(u:aM)(q:Prop):Prop:=if s.who.people.contains u=true then match s.change with
  |some ch=>if ch.author=u then ∀p,Rz c E [] H 13 p else q
  |none=>∀p,Rz c E [] H 12 p
 else ∀p,Rz c E [] H 6 p
inductive Kx(c:Cn)(vs:List V)(H:Hp)(Q:VK)(E:XK):Prop
 |mk:∀d F b sl pl gd cv s a u,vs=[.ref d,.ref a]->Dt c F H d b sl pl gd cv s->H a=some (.lst (u.map iV))->u.length<=2000->(Te c E H s u (∀H',bA H H'->Q (.str (bH u)) H'))->Kx c vs H Q E
theorem mM(G:aCe c):i7 c "reviewer_of" 5 ["desk","codes"] (Kx c):=by
 refine G.vc.gG (N:=["desk","codes","person"]) (k:=4) (λH vs Q E nd hr h=>?_);obtain⟨d,F,b,sl,pl,gd,cv,s,a,u,rfl,D,ha,hu,k⟩:=h;unfold Te at k;refine⟨_,aD (bb (i:=2) nd (az (vU G) hr ae (aA (pv 0) (aA (pv 1) aH)))) (aD (cf (bU eX (ag (az (ir G) hr ae (aA (pv 0) aH)) rfl) (pv 2) (bt _)) (aL (zd G.EW hr)) b8) (aL (bE (pv 2)))),?_⟩;refine⟨_,rfl,_,rfl,d,s,a,u,rfl,⟨F,b,sl,pl,gd,cv,D⟩,ha,hu,?_⟩;by_cases q:s.who.people.contains u=true
 ·rw[iP q]at k ⊢;intro H1 s1;refine⟨_,rfl,d,F,b,sl,pl,gd,cv,s,rfl,D.same s1,?_⟩;have hc:=(D.same s1).ch;cases e:s.change with
  |none=>rw[e]at k;exact λp=>(k p).step (bA.kp s1)
  |some ch=>
   rw[e]at k hc;obtain⟨x,pd,ad,vd,rfl,C,_⟩:=hc;obtain⟨dx,hx⟩:=C.ins;have k:if ch.author=u then ∀p,Rz c E [] H 13 p else ∀H',bA H H'->Q (.str (bH u)) H':=k;refine⟨x,c.CC,dx,_,_,rfl,hx,G.cX,G.gi,q5,_,rfl,rfl,_,rfl,?_⟩;by_cases q2:ch.author=u
   ·rw[iP q2]at k;exact aDx (show V.str (bH ch.author)=V.str (bH u)by rw[q2]) ⟨by simp,13,0,⟨rfl,rfl,rfl⟩,(k 0).step (bA.kp s1)⟩
   ·rw[iN q2]at k;exact aDw (show ¬V.str (bH ch.author)=V.str (bH u)from λz=>q2 (mC.mp z)) ⟨_,rfl,k _ s1⟩
 ·rw[iN q]at k ⊢;exact k
theorem W3(l:List Nat):l.map iV=(l.map ofNat).map V.int:=by rw[bN];rfl
theorem sv(t:aM):(t.length::t).map iV=(dz t).map V.int:=W3 _
theorem um(t:aM):(dz t).length=t.length+1:=by simp[dz]
theorem yf:∀l:List aM,(∀n∈l,n.length<=40)->(l.flatMap dz).length<=41*l.length
 |[],_=>by simp
 |a::r,h=>by
  have:=yf r λn hn=>h n (by simp[hn])
  have:=h a (by simp)
  rw[gE,aN,um,aG];omega
def u0(x:aM×Nat):List Int:=dz x.1++[ofNat x.2]
theorem Dd:∀l:List (aM×Nat),(∀n∈l,n.1.length<=40)->(l.flatMap u0).length<=42*l.length
 |[],_=>by simp
 |a::r,h=>by
  have:=Dd r λn hn=>h n (by simp[hn])
  have:=h a (by simp)
  rw[gE,aN,aG];unfold u0;rw[aN,um,c4];unfold u0 at *;omega
inductive ZJ(vs:List V)(H:Hp)(Q:VK)(E_:XK):Prop
 |mk:∀(a:aF)(l:List aM),vs=[.ref a]->H a=some (.lst (l.map vS))->l.length<=8->(∀n∈l,n.length<=40)->(∀b H',H b=none->H' b=some (.lst ((l6 l).map V.int))->bA H H'->Q (.ref b) H')->ZJ vs H Q E_
inductive aEo(H:Hp)(a:aF)(l:List aM)(t:aF)(i:Nat)(σ:L2.St)(H':Hp):Prop
 |mk:∀(v2:Option V),σ=[some (.ref a),some (.ref t),v2]->bA H H'->H' t=some (.lst ((ofNat l.length::(l.take i).flatMap dz).map V.int))->aEo H a l t i σ H'
theorem k7(G:aCe c):i7 c "counted_names" 3 ["names"] ZJ:=by
 refine G.rO.gG (N:=["names","told","name"]) (k:=2) (λH vs Q E nd hr h=>?_);obtain⟨a,l,rfl,ha,hl,hs,k⟩:=h;refine⟨_,aD (bb (i:=1) nd (cp (aA (cF dC (by rfl) G.gR bP (aA (pv 0) aH)) aH))) (aD (fW jC rfl (dQ (pv 0)) (d7 (i:=2) nd) (aL (ax (fZ aR cU cV iY (pv 1) (aA (az (gu G) hr ae (aA (pv 2) aH)) aH))))) (aL (bE (pv 1)))),?_⟩;refine⟨_,rfl,a,_,rfl,.inl (bf.of ha),kh,λt ht=>?_⟩;have st:=aCb (o:=.lst [V.int ((l.map vS).length:Nat)]) ht;have nat:a≠t:=aK ha ht;refine⟨_,rfl,a,rfl,⟨_,bf.of (st _ _ ha)⟩,fH (xs:=l.map vS) (aEo H a l t) ⟨none,rfl,st,by rw[aC,aB];rfl⟩ ?_ ?_ ?_⟩
 ·rintro i σ H' hi ⟨_,_,sm,_⟩;exact bf.of (sm _ _ ha)
 ·rintro i y σ H1 hy ⟨v2,rfl,sm,ht1⟩;rw[aP]at hy;cases hn:l[i]? with
  |none=>rw[hn]at hy;cases hy
  |some n=>
   rw[hn]at hy;have e:y=vS n:=(aV hy).symm;subst e;have hi:=(a8.mp hn).1;have h40:=hs n (bp hn);have hrl:=yf (l.take i) λn hn=>hs n (Lb hn);rw[cB]at hrl;refine⟨_,rfl,.inl ⟨rfl,_,bf.of ht1⟩,_,rfl,n,rfl,by omega,λb H2 hb h2 s2=>?_⟩;refine⟨t,b,_,_,rfl,rfl,s2 _ _ ht1,h2,?_,_,rfl,λy o z=>?_,?_⟩
   ·rw[aB,aB,aG,aG];exact sl (by omega)
   ·rw[aJ (aK z ht)];exact s2 _ _ (sm _ _ z)
   ·rw[aC,sv,<-aw,cy hn,eN];simp
 ·rintro σ H1 ⟨v2,rfl,sm,ht1⟩;rw[aB,cD]at ht1;exact⟨_,rfl,k t H1 ht ht1 sm⟩
inductive XN(vs:List V)(H:Hp)(Q:VK)(E_:XK):Prop
 |mk:∀(d:aF)(l:List (aM×Nat)),vs=[.ref d]->H d=some (.dK (vK l))->(l.map (·.1)).Nodup->l.length<=8->(∀n∈l,n.1.length<=40)->(∀b H',H b=none->H' b=some (.lst ((ofNat l.length::l.flatMap u0).map V.int))->bA H H'->Q (.ref b) H')->XN vs H Q E_
inductive aEp(H:Hp)(d:aF)(l:List (aM×Nat))(t:aF)(od:Obj)(i:Nat)(σ:L2.St)(H':Hp):Prop
 |mk:∀(v2:Option V),σ=[some (.ref d),some (.ref t),v2]->Kp [d] H H'->H' d=some (.k9 od (.dK (vK l)))->H' t=some (.lst ((ofNat l.length::(l.take i).flatMap u0).map V.int))->aEp H d l t od i σ H'
theorem l8(G:aCe c):i7 c "counted_versions" 3 ["versions"] XN:=by
 refine G.nR.gG (N:=["versions","told","name"]) (k:=2) (λH vs Q E nd hr h=>?_);obtain⟨d,l,rfl,hd,hn,hl,hs,k⟩:=h;refine⟨_,aD (bb (i:=1) nd (cp (aA (cF uc (by rfl) G.gR bP (aA (pv 0) aH)) aH))) (aD (yd (fW jC rfl (G3 (pv 0)) (d7 (i:=2) nd) (aD (ax (fZ aR cU cV iY (pv 1) (aA (az (gu G) hr ae (aA (pv 2) aH)) aH))) (aL (ax (fZ aR ak ao dU (pv 1) (aA (y9 (lh hr) (pv 0) (pv 2) (λ_ _=>rfl)) aH))))))) (aL (bE (pv 1)))),?_⟩;have vlen:(vK l).length=l.length:=by simp[vK]
 refine⟨_,rfl,d,_,rfl,hd,kh,λt ht=>?_⟩;have st:=aCb (o:=.lst [V.int ((vK l).length:Nat)]) ht;have ntd:t≠d:=(aK hd ht).symm;refine⟨d,_,st _ _ hd,trivial,λod=>?_⟩;refine⟨_,rfl,d,od,rfl,.inl ⟨vK l,aC,?_⟩⟩;refine qh (n:=l.length) (aEp H d l t od)
  ⟨none,rfl,λy o z ny=>by rw[aJ (by simpa using ny)];exact st _ _ z,aC,by rw[aJ ntd,aC,vlen];rfl⟩ ?_ ?_ ?_ ?_
 ·rintro i σ H' hi ⟨_,_,_,h,_⟩;exact⟨h,by rw[vlen];exact hi⟩
 ·rintro σ H' ⟨_,_,_,h,_⟩;exact⟨h,by rw[vlen];exact a9 _⟩
 ·rintro i σ H0 y H1 hi ⟨v2,rfl,kp,hf,ht1⟩ ⟨rfl,ky,vy,hky,rfl⟩;have hpi:l[i]?=some l[i]:=aX hi;have hpm:=bp hpi;generalize l[i]=p at hpi hpm;unfold vK at hky;rw[aP,hpi]at hky;have hky:=aV hky;injection hky with e1 e2;subst e1 e2;have h40:=hs p hpm;have hrl:=Dd (l.take i) λn hn=>hs n (Lb hn);rw[cB]at hrl;refine⟨_,rfl,.inl ⟨rfl,_,bf.of ht1⟩,_,rfl,p.1,rfl,by omega,λb H2 hb h2 s2=>?_⟩;refine⟨t,b,_,_,rfl,rfl,s2 _ _ ht1,h2,?_,?_⟩
  ·rw[aB,aB,aG,aG];exact sl (by omega)
  have hf2:(aCc H2 t (.lst ((ofNat l.length::(l.take i).flatMap u0).map V.int++(p.1.length::p.1).map iV))) d=some (.k9 od (.dK (vK l))):=by rw[aJ ntd.symm];exact s2 _ _ hf
  refine⟨_,rfl,.inl ⟨rfl,_,bf.of aC⟩,_,rfl,_,rfl,d,_,rfl,.inl ⟨_,ai (bH p.1),.inr ⟨od,hf2⟩,rfl,(LO hn hpm).symm⟩,?_⟩;refine⟨t,_,_,rfl,rfl,aC,?_,_,rfl,λy o z ny=>?_,?_,?_⟩
  ·rw[aN,aB,aB,aG,aG];exact pG (by omega)
  ·rw[aJ (aK z ht),aJ (aK z ht)];exact s2 _ _ (kp _ _ z ny)
  ·rw[aJ ntd.symm];exact hf2
  ·rw[aC,sv,cy hpi,eN];simp[u0];rfl
 ·rintro σ H1 ⟨v2,rfl,kp,hf,ht1⟩;rw[cD]at ht1;exact⟨hf,_,rfl,k t _ ht (by rw[aJ ntd];exact ht1) (pJ hd kp)⟩
end
end Rv
namespace Rv
open Vamrqe (State ofNat)
theorem kC(h:aCc H a o q=none):H q=none:=by
 by_cases e:q=a
 ·subst e;rw[aC]at h;cases h
 ·rw[aJ e]at h;exact h
section
variable{c:Cn}{E:XK}{Q:VK}{H H':Hp}{d a:aF}{s:State}{l:List Int}
theorem jo(D:Dk c H d s)(h:jw c E Q H d (.ok (s,l)))(hl:l.length<=35000)(na:H a=none)(e:H' a=some (.lst (l.map V.int)))(sm:bA H H'):Q (.ref a) H':=h a H' na e hl (D.same sm) (Ls.of sm)
theorem Bw(G:aCe c):i7 c "call_rules" 14 ["desk","rows"] (gg c (oU .rules)):=by
 refine G.xw.gG (N:=["desk","rows"]) (k:=13) (λH vs Q E nd hr h=>?_);obtain⟨d,r,st,a,u,rfl,⟨F,b,sl,pl,gd,cv,D⟩,hr0,ha,hu,ko⟩:=vT h;refine⟨_,aD (d8 (pv 0) (az (tL G) hr ae (aA (fE du (pv 1) bB (λ_ _=>rfl)) aH)) rfl) (aD (d8 (pv 0) uP rfl) (aL (bE (cp (aA (cF dC (by rfl) G.gR bP (aA (ag (ag (pv 0) rfl) rfl) aH)) aH))))),?_⟩;refine⟨_,rfl,r,_,0,_,rfl,rfl,bf.of hr0,rfl,a,u,rfl,ha,hu,?_⟩;have ko:jw c E Q H d (dA (Oc u) λx=>.ok (⟨x.1,x.2,none⟩,[ofNat x.1.length])):=ko;unfold Oc at ko;cases er:ez u with
 |error e=>rw[er]at ko;exact ko e.place
 |ok l=>
  rw[er]at ko;dsimp only[Res]at ko ⊢;cases ec:yu l with
  |error e=>rw[ec]at ko;exact ko e.stmt
  |ok w=>
   rw[ec]at ko;intro b' pG pl' gd' F' H1 hb hgd B ok s1 sz le;obtain⟨dd,hd⟩:=D.ins;have hd1:=s1 _ _ hd;refine⟨_,rfl,d,c.CD,dd,_,rfl,hd1,G.iX,G.gQ,by show 2<1000;decide,?_⟩;rw[GI];refine⟨_,rfl,d,c.CD,dd,_,rfl,aC,G.iX,G.eT,by show 2<1000;decide,?_⟩;rw[tq];have kp:Kp [d] H1 (aCc (aCc H1 d (.ins c.CD dd (BJ b' cv))) d (.ins c.CD dd (BJ b' .fB))):=λy o e n=>by rw[aQ]at n;rw[aJ n,aJ n];exact e
   have B3:=B.Ye hd1 kp
   have ls:Ls H (aCc (aCc H1 d (.ins c.CD dd (BJ b' cv))) d (.ins c.CD dd (BJ b' .fB))):=(Ls.of s1).trans (Ls.kp kp (λy hy=>by
    rw[aQ]at hy;subst hy;exact .inr ⟨_,_,_,hd1,BX (show ¬("book":Str)="kind" by trivial)⟩))
   have back:∀{q:aF},aCc (aCc H1 d (.ins c.CD dd (BJ b' cv))) d (.ins c.CD dd (BJ b' .fB)) q=none->H q=none:=λh=>aCf s1 (kC (kC h));have hd3:aCc (aCc H1 d (.ins c.CD dd (BJ b' cv))) d (.ins c.CD dd (BJ b' .fB)) d=some (.ins c.CD dd (BJ b' .fB)):=aC;generalize aCc (aCc H1 d (.ins c.CD dd (BJ b' cv))) d (.ins c.CD dd (BJ b' .fB))=H3 at B3 ls back hd3;obtain⟨db,hb3⟩:=B3.ins;obtain⟨as,hs3,al⟩:=B3.ET;refine⟨_,rfl,d,c.CD,dd,_,_,rfl,hd3,G.iX,G.gQ,nS,b',c.CB,db,_,_,rfl,hb3,G.eV,G.dH,fG,pG,_,rfl,.inl (bf.of hs3),kh,λq hq=>?_⟩;have D3:Dt c F' H3 d b' pG pl' gd' .fB ⟨l,w,none⟩:=⟨⟨dd,hd3⟩,B3,ok,Wx er ec,sz,le,rfl⟩;refine ko q _ (back hq) ?_ (by show 1<=35000;decide) ⟨F',b',pG,pl',gd',.fB,D3.same (aCb hq)⟩ (ls.trans (Ls.of (aCb hq)));rw[aC,aB,al.len];rfl
theorem Bv(G:aCe c):i7 c "call_fault" 14 ["desk","rows"] (gg c (oU .fault)):=by
 obtain⟨_,_,_,atR,_,_,_,_,t1,t2,t3⟩:=G.base;refine G.xu.gG (N:=["desk","rows","refusal"]) (k:=13) (λH vs Q E nd hr h=>?_);obtain⟨d,r,st,a,u,rfl,D,hr0,ha,hu,ko⟩:=vT h;have ko:jw c E Q H d (.ok (st,AB u)):=ko;refine⟨_,aD (R1 (i:=2) (E':=λv o H'=>∃C dx k p,v=.ref C/\o=some dx/\Xl c C/\H' dx=some (.xd (nf k p))/\bA H H'/\AB u=[k,p]) qY nd rfl rfl (by rfl) atR t1 t2 t3 (λC o H' ⟨C',dx,_,_,e1,e2,rf,_⟩=>⟨C',dx,e1,e2,rf.sub⟩) (λpn xe hp=>aL (ax (az (tL G) hr hp (aA (fE (IX (K:=c.K) rfl) (pv 1) bB (λ_ _=>rfl)) aH)))) (λa=>aL (bE (cp (aA (RU (pv 2) rfl) (aA (RU (pv 2) rfl) aH)))))) (aL (bE (cp (aA bB (aA bB aH))))),?_⟩;have hf:AB u=match ez u with
  |.error e=>[-e.number,ofNat e.place]
  |.ok l=>match yu l with
   |.error e=>[-e.number,ofNat e.stmt]
   |.ok _=>[0,0]:=rfl
 refine⟨⟨_,rfl,r,_,0,_,rfl,rfl,bf.of hr0,rfl,a,u,rfl,ha,hu,?_⟩,λC dx x tv H1 σ' hE nx hσ=>?_⟩
 ·cases er:ez u with
  |error e=>rw[er]at hf;exact λC dx H' rf hx kp=>⟨C,dx,_,_,rfl,rfl,rf,hx,kp.same,hf⟩
  |ok l=>
   rw[er]at hf;dsimp only[Res]at hf ⊢;cases ec:yu l with
   |error e=>rw[ec]at hf;exact λC dx H' rf hx kp=>⟨C,dx,_,_,rfl,rfl,rf,hx,kp.same,hf⟩
   |ok w=>rw[ec]at hf;intro b' pG pl' gd' F' H1 hb hgd B ok s1 sz le;refine⟨yh,λq hq=>?_⟩;rw[hf]at ko;exact jo D ko (by show 2<=35000;decide) (aCf s1 hq) aC λy o z=>aCb hq _ _ (s1 _ _ z)
 ·obtain⟨C',dx',k,p,e1,e2,rf,hx,s1,hft⟩:=hE;cases e1;cases e2
  match σ',hσ with
  |[x0,x1,x2],_=>
   have hx2:(aCc H1 x (XO x C (some dx) tv)) dx=some (.xd (nf k p)):=by rw[aJ (aK hx nx)];exact hx
   refine⟨_,rfl,x,C,dx,tv,_,_,rfl,aC,hx2,rf.cl,rf.n1,FI,_,rfl,x,C,dx,tv,_,_,rfl,aC,hx2,rf.cl,rf.n2,RD,yh,λq hq=>?_⟩;rw[hft]at ko;exact jo D ko (by show 2<=35000;decide) (aCf s1 (kC hq)) aC λy o z=>aCb hq _ _ (aCb nx _ _ (s1 _ _ z))
theorem ED(G:aCe c):i7 c "call_show" 14 ["desk","rows"] (gg c (EO .show)):=by refine G.AL.gG (N:=["desk","rows"]) (k:=13) (λH vs Q E nd hr h=>?_);obtain⟨d,r,st,rfl,⟨F,b,sl,pl,gd,cv,D⟩,ko⟩:=Lp h;refine⟨_,aL (bE (az (gu G) hr ae (aA (az (iO G) hr ae (aA (ag (ag (pv 0) rfl) rfl) aH)) aH))),?_⟩;obtain⟨dd,hd⟩:=D.ins;obtain⟨db,hb⟩:=D.bk.ins;refine⟨_,rfl,d,c.CD,dd,_,_,rfl,hd,G.iX,G.gQ,nS,b,c.CB,db,_,_,rfl,hb,G.eV,G.dH,fG,sl,st.rules,F,rfl,D.bk.ET,D.sz,D.ln,λH1 s1 hl=>?_⟩;refine⟨cj st.rules,rfl,by omega,λq H2 nq h2 s2=>?_⟩;rw[sv]at h2;exact jo ⟨F,b,sl,pl,gd,cv,D⟩ ko (by rw[um];omega) (aCf s1 nq) h2 λy o z=>s2 _ _ (s1 _ _ z)
theorem EB(G:aCe c):i7 c "call_form" 14 ["desk","rows"] (gg c (oU .form)):=by
 refine G.AJ.gG (N:=["desk","rows"]) (k:=13) (λH vs Q E nd hr h=>?_);obtain⟨d,r,st,a,u,rfl,D,hr0,ha,hu,ko⟩:=vT h;refine⟨_,aL (bE (az (gu G) hr ae (aA (az (iO G) hr ae (aA (az (lS G) hr ae (aA (fE du (pv 1) bB (λ_ _=>rfl)) aH)) aH)) aH))),?_⟩;refine⟨_,rfl,r,_,0,_,rfl,rfl,bf.of hr0,rfl,a,u,rfl,ha,hu,?_⟩;have ko:jw c E Q H d (dA (dA (mS u) λl=>.ok (dz (cj l))) λl=>.ok (st,l)):=ko;unfold mS at ko;cases er:ez u with
 |error e=>rw[er]at ko;exact ko e.place
 |ok l=>rw[er]at ko;intro lb H1 _ ET s1 sz le;refine⟨lb,l,_,rfl,ET,sz,le,λH2 s2 hl=>?_⟩;refine⟨cj l,rfl,by omega,λq H3 nq h3 s3=>?_⟩;rw[sv]at h3;exact jo D ko (by rw[um];omega) (aCf s1 (aCf s2 nq)) h3 λy o z=>s3 _ _ (s2 _ _ (s1 _ _ z))
theorem EC(G:aCe c):i7 c "call_same" 14 ["desk","rows"] (gg c (Ng .same)):=by
 refine G.AK.gG (N:=["desk","rows","first","second"]) (k:=13) (λH vs Q E nd hr h=>?_);obtain⟨d,r,st,a,u,a',u',rfl,D,hr0,ha,hu,ha',hu',ko⟩:=call2 h;refine⟨_,aD (bb (i:=2) nd (az (iO G) hr ae (aA (az (lS G) hr ae (aA (fE du (pv 1) bB (λ_ _=>rfl)) aH)) aH))) (aD (bb (i:=3) nd (az (iO G) hr ae (aA (az (lS G) hr ae (aA (fE du (pv 1) bB (λ_ _=>rfl)) aH)) aH))) (aL (bE (cp (aA (lx (bU eX (pv 2) (pv 3) (bt _)) bB bB) aH))))),?_⟩;refine⟨_,rfl,r,_,0,_,rfl,rfl,bf.of hr0,rfl,a,u,rfl,ha,hu,?_⟩;have ko:jw c E Q H d (dA (dA (mS u) λl=>dA (mS u') λm=>.ok [if cj l=cj m then 1 else 0]) λl=>.ok (st,l)):=ko;unfold mS at ko;cases er:ez u with
 |error e=>rw[er]at ko;exact ko e.place
 |ok l=>
  rw[er]at ko;intro lb H1 _ ET s1 sz le;refine⟨lb,l,_,rfl,ET,sz,le,λH2 s2 hl=>?_⟩;have s02:bA H H2:=λy o z=>s2 _ _ (s1 _ _ z);refine⟨_,rfl,r,_,1,_,rfl,rfl,bf.of (s02 _ _ hr0),rfl,a',u',rfl,s02 _ _ ha',hu',?_⟩;cases er':ez u' with
  |error e=>rw[er']at ko;exact(ko e.place).step (bA.kp s02)
  |ok l'=>
   rw[er']at ko;intro lb' H3 _ sts' s3 sz' le';refine⟨lb',l',_,rfl,sts',sz',le',λH4 s4 hl'=>?_⟩;have s04:bA H H4:=λy o z=>s4 _ _ (s3 _ _ (s02 _ _ z));refine⟨_,rfl,_,rfl,rfl,_,rfl,?_⟩;have ko:jw c E Q H d (.ok (st,[if cj l=cj l' then 1 else 0])):=ko;by_cases q:cj l=cj l'
   ·rw[iP q]at ko;exact aDx (show V.str (bH (cj l))=V.str (bH (cj l'))by rw[q]) ⟨kh,λq hq=>jo D ko (by decide) (aCf s04 hq) aC λy o z=>aCb hq _ _ (s04 _ _ z)⟩
   ·rw[iN q]at ko;exact aDw (show ¬V.str (bH (cj l))=V.str (bH (cj l'))from λz=>q (mC.mp z)) ⟨kh,λq hq=>jo D ko (by decide) (aCf s04 hq) aC λy o z=>aCb hq _ _ (s04 _ _ z)⟩
end
end Rv
namespace Rv
open Vamrqe (State ofNat)
section
variable{c:Cn}{E:XK}{Q Q':VK}{H H':Hp}{d a x pd ad vd gd:aF}{s:State}{l:List Int}{M:List aF}{ch:c6}
theorem zG(G:aCe c):i7 c "call_members" 14 ["desk","rows"] (gg c (oU .members)):=by
 refine G.tX.gG (N:=["desk","rows","people"]) (k:=13) (λH vs Q E nd hr h=>?_);obtain⟨d,r,st,a,u,rfl,⟨F,b,sl,pl,gd,cv,D⟩,hr0,ha,hu,ko⟩:=vT h;refine⟨_,aD (bb (i:=2) nd (cg (iD G) G.eV (ag (pv 0) rfl) hr ae (aA (az (lg G) hr ae (aA (fE du (pv 1) bB (λ_ _=>rfl)) aH)) aH))) (aD (cf (uR (ck (pv 2) (λ_=>rfl))) (aL (pD G.kM hr (aA bB aH))) b8) (aL (bE (az (k7 G) hr ae (aA (pv 2) aH))))),?_⟩;obtain⟨dd,hd⟩:=D.ins;obtain⟨db,hb⟩:=D.bk.ins;refine⟨_,rfl,d,c.CD,dd,_,_,rfl,hd,G.iX,G.gQ,nS,b,db,_,rfl,hb,wR (by trivial) (by trivial) (by trivial),_,rfl,r,_,0,_,rfl,rfl,bf.of hr0,rfl,a,u,rfl,ha,hu,λH1 s1=>?_⟩;refine⟨b,sl,pl,gd,st.rules,st.who,u.map Mt.tr,F,rfl,D.bk.same s1,D.ok.pl,λpa H2 hpa h2 s2=>?_⟩;have s02:bA H H2:=λy o z=>s2 _ _ (s1 _ _ z);rw[RZ D.nm]at h2;refine⟨_,rfl,_,.inl ⟨_,bf.of h2,rfl⟩,?_⟩;show(if(!(!((dw st.who u).map vS).isEmpty))=true then _ else _);obtain⟨e1,e2⟩:=qm D.ok u;obtain⟨p1,p2,_⟩:=yc D.ok u
 have ko:jw c E Q H d (dA (match st.who.of u with
  |some l=>.ok (l6 l)
  |none=>.error (-6)) λl=>.ok (st,l)):=ko
 unfold Ea at e2;cases eo:st.who.of u with
 |none=>rw[eo]at ko e1;rw[show dw st.who u=[]from e1];exact bq ⟨by simp,6,0,⟨rfl,rfl⟩,Rz.step (ko 0) (bA.kp s02)⟩
 |some l=>
  rw[eo]at ko e1 e2;have e1:dw st.who u=l:=e1;rw[e1]at e2 h2 p1 p2 ⊢;have ne:l≠[]:=e2.mpr rfl;rw[show(!(!(l.map vS).isEmpty))=false from by cases l with|nil=>exact absurd rfl ne|cons _ _=>rfl];have h40:∀n∈l,n.length<=40:=λn hn=>by
   have:=D.ok.sh n (p1 n hn)
   omega
  refine bW ⟨_,rfl,pa,l,rfl,h2,p2,h40,λq H3 nq h3 s3=>?_⟩;refine jo ⟨F,b,sl,pl,gd,cv,D⟩ ko ?_ (aCf s02 nq) h3 λy o z=>s3 _ _ (s02 _ _ z)
  have:=yf l h40
  show(ofNat l.length::l.flatMap dz).length<=35000;rw[aG];omega
theorem zF(G:aCe c):i7 c "call_matches" 14 ["desk","rows"] (gg c (Ng .matches_)):=by
 refine G.tW.gG (N:=["desk","rows","pattern"]) (k:=13) (λH vs Q E nd hr h=>?_);obtain⟨d,r,st,a,u,a',u',rfl,D,hr0,ha,hu,ha',hu',ko⟩:=call2 h;refine⟨_,aD (bb (i:=2) nd (az (lg G) hr ae (aA (fE du (pv 1) bB (λ_ _=>rfl)) aH))) (aD (cf (uR (ck (az (tF G) hr ae (aA (pv 2) aH)) (λ_=>rfl))) (aL (zd G.J9 hr)) b8) (aL (bE (cp (aA (lx (ck (az (mT G) hr ae (aA (pv 2) (aA (az (tG G) hr ae (aA (fE du (pv 1) bB (λ_ _=>rfl)) aH)) aH))) (λ_=>rfl)) bB bB) aH))))),?_⟩;have ko:jw c E Q H d (dA (Li u u') λl=>.ok (st,l)):=ko;unfold Li at ko;refine⟨_,rfl,r,_,0,_,rfl,rfl,bf.of hr0,rfl,a,u,rfl,ha,hu,λH1 s1=>?_⟩;refine⟨_,rfl,u.map Mt.tr,rfl,by rw[aB];exact hu,λH2 s2=>⟨_,rfl,?_⟩⟩;have s02:bA H H2:=λy o z=>s2 _ _ (s1 _ _ z);rw[DF];cases ep:cW u with
 |none=>rw[ep]at ko;exact bq ⟨by simp,14,0,⟨rfl,rfl,rfl⟩,Rz.step (ko 0) (bA.kp s02)⟩
 |some p=>
  rw[ep]at ko;have ko:jw c E Q H d (dA (if d6 u'=false then .error (-11)else .ok [if eA p u'=true then 1 else 0]) λl=>.ok (st,l)):=ko;refine bW ⟨_,rfl,_,rfl,r,_,1,_,rfl,rfl,bf.of (s02 _ _ hr0),rfl,a',u',rfl,s02 _ _ ha',hu',?_⟩;cases q:d6 u' with
  |false=>rw[iP q]at ko;exact Rz.step (ko 0) (bA.kp s02)
  |true=>
   rw[iN (by rw[q];simp)]at ko;intro H3 s3;refine⟨u.map Mt.tr,u',p,rfl,by rw[aB];exact hu,hu',by rw[DF];exact ep,λH4 s4=>⟨_,rfl,?_⟩⟩;have s04:bA H H4:=λy o z=>s4 _ _ (s3 _ _ (s02 _ _ z));have ko:jw c E Q H d (.ok (st,[if eA p u'=true then 1 else 0])):=ko;cases q2:eA p u' with
   |true=>rw[iP q2]at ko;exact bq ⟨kh,λq hq=>jo D ko (by decide) (aCf s04 hq) aC λy o z=>aCb hq _ _ (s04 _ _ z)⟩
   |false=>rw[iN (by rw[q2];simp)]at ko;exact bW ⟨kh,λq hq=>jo D ko (by decide) (aCf s04 hq) aC λy o z=>aCb hq _ _ (s04 _ _ z)⟩
theorem oI.kp(C:oI c H x pd ad vd gd ch)(hpd:H pd=some (.dK (vK ch.paths)))(k:Kp M H H')(n1:x∉M)(n2:pd∉M)(n3:ad∉M)(n4:vd∉M):oI c H' x pd ad vd gd ch:=by obtain⟨dx,hx⟩:=C.ins;exact⟨⟨dx,k _ _ hx n1⟩,.inl (k _ _ hpd n2),k _ _ C.app n3,k _ _ C.J2 n4,C.n1,C.n2,C.n3,C.n4,C.n5,C.n6⟩
theorem Bu(G:aCe c):i7 c "call_begin" 14 ["desk","rows"] (gg c (oU .begin)):=by
 refine G.xt.gG (N:=["desk","rows"]) (k:=13) (λH vs Q E nd hr h=>?_);obtain⟨d,r,st,a,u,rfl,⟨F,b,sl,pl,gd,cv,D⟩,hr0,ha,hu,ko⟩:=vT h;refine⟨_,aD (d8 (pv 0) (gy (KH G) hr ae (aA (az (vU G) hr ae (aA (pv 0) (aA (fE du (pv 1) bB (λ_ _=>rfl)) aH))) aH)) rfl) (aL (bE (cp (aA bB aH)))),?_⟩;have ko:jw c E Q H d (dA (st.person u) λn=>st.set ⟨n,0,[],[],[]⟩ [0]):=ko;unfold Vy at ko;refine⟨_,rfl,_,rfl,r,_,0,_,rfl,rfl,bf.of hr0,rfl,d,st,a,u,rfl,⟨F,b,sl,pl,gd,cv,D⟩,ha,hu,?_⟩;by_cases q:st.who.people.contains u=true
 ·rw[iP q]at ko ⊢;intro H1 s1 x dx nx ndx ne;obtain⟨dd,hd⟩:=D.ins;obtain⟨kvs,hg,_⟩:=D.bk.GP;refine WN (gd:=gd) nx ndx (by rw[s1 _ _ hg];simp) λpd ad vd H2 C hpd s2=>⟨rfl,?_⟩;have s02:bA H H2:=λy o z=>s2 _ _ (s1 _ _ z);have hd2:=s02 _ _ hd;refine⟨_,rfl,d,c.CD,dd,_,rfl,hd2,G.iX,G.eT,by show 2<1000;decide,?_⟩;rw[tq];have kp:Kp [d] H2 (aCc H2 d (.ins c.CD dd (BJ b (.ref x)))):=Kp.put (by simp);have B3:=(D.bk.same s02).Ye hd2 kp;obtain⟨dx',hx⟩:=C.ins;have C3:=C.kp hpd kp (iw <| QL hx hd2 (show ¬("author":Str)="book" by trivial)) (iw <| cR hpd hd2 nofun) (iw <| cR C.app hd2 nofun) (iw <| cR C.J2 hd2 nofun);have hpd3:=kp _ _ hpd (iw <| cR hpd hd2 nofun)
  have ls:Ls H (aCc H2 d (.ins c.CD dd (BJ b (.ref x)))):=(Ls.of s02).trans (Ls.kp kp (λy hy=>by
   rw[aQ]at hy;subst hy;exact .inr ⟨_,_,_,hd2,BX (show ¬("book":Str)="kind" by trivial)⟩))
  have D3:Dt c F (aCc H2 d (.ins c.CD dd (BJ b (.ref x)))) d b sl pl gd (.ref x) ⟨st.rules,st.who,some ⟨u,0,[],[],[]⟩⟩:=
   ⟨⟨dd,aC⟩,B3,D.ok,D.nm,D.sz,D.ln,x,pd,ad,vd,rfl,C3,hpd3,⟨by simpa using q,by simp,by simp,by simp,by simp,by simp,by simp,by simp⟩⟩
  exact⟨kh,λq hq=>ko q _ (aCf s02 (kC hq)) aC (by show 1<=35000;decide) ⟨F,b,sl,pl,gd,.ref x,D3.same (aCb hq)⟩ (ls.trans (Ls.of (aCb hq)))⟩
 ·rw[iN q]at ko ⊢;exact ko
theorem X8(l:List (aM×Nat))(n:aM):(gU (vK l) (ai (bH n))).isSome=l.any λx=>decide (x.1=n):=by
 rw[Sr]
 induction l with
 |nil=>rfl
 |cons a r ih=>
  rw[cw,g7,<-ih];by_cases q:a.1=n
  ·rw[dE q];rfl
  ·rw[dF q,mI]
theorem K3{a b:aM}:(ai (bH a):Key)=ai (bH b)↔a=b:=⟨λz=>by injection z with z;exact ki z,λz=>by rw[z]⟩
theorem Sq(l:List (aM×Nat))(n:aM)(v:Nat):aCo (vK l) (ai (bH n)) (iV v)=vK (if(l.any λx=>decide (x.1=n))=true then l.map (λx=>if x.1=n then(n,v)else x)else l++[(n,v)]):=by
 have ha:((vK l).any λkv=>decide (kv.1=ai (bH n)))=l.any λx=>decide (x.1=n):=by unfold vK;rw[jD];congr 1;funext x;show decide ((ai (bH x.1):Key)=ai (bH n))=_;rw[decide_eq_decide,K3]
 unfold aCo;rw[ha];by_cases q:(l.any λx=>decide (x.1=n))=true
 ·rw[iP q,iP q];unfold vK;rw[bN,bN];apply i9;intro x _;show(if(ai (bH x.1):Key)=ai (bH n)then((ai (bH x.1):Key),iV v)else(ai (bH x.1),iV x.2))=(ai (bH (if x.1=n then(n,v)else x).1),iV (if x.1=n then(n,v)else x).2);by_cases q2:x.1=n
  ·rw[iP (K3.mpr q2),iP q2,q2]
  ·rw[iN (λz=>q2 (K3.mp z)),iN q2]
 ·rw[iN q,iN q];unfold vK;rw[aw];rfl
theorem Mh(l:List (aM×Nat))(n:aM):rS (vK l) (ai (bH n))=vK (fu n l):=by
 unfold rS vK fu;rw[Dh];congr 1;apply jR;intro x _;show decide ((ai (bH x.1):Key)≠ai (bH n))=!decide (x.1=n);by_cases q:x.1=n
 ·simp[q]
 ·simp[q,GR q]
theorem MP(l:List aM)(n:aM):rS (nK l) (ai (bH n))=nK (l.filter λx=>!decide (x=n)):=by
 unfold rS nK;rw[Dh];congr 1;apply jR;intro x _;show decide ((ai (bH x):Key)≠ai (bH n))=!decide (x=n);by_cases q:x=n
 ·simp[q]
 ·simp[q,GR q]
theorem J6(l:List (aM×Nat))(n:aM):((fu n l).any λx=>decide (x.1=n))=false:=by
 rw[Oo];intro x hx
 have:=(dh.mp hx).2
 simpa using this
theorem aCs{l:List (aM×Nat)}(h:(l.map (·.1)).Nodup)(n:aM)(v:Nat):((fu n l++[(n,v)]).map (·.1)).Nodup:=by
 rw[aw,lC];refine⟨HA (HB _ Ms) h,by simp,?_⟩;intro a ha b hb;simp only[bO,sM,aQ]at hb;obtain⟨y,hy,rfl⟩:=iJ.mp ha
 have:=(dh.mp hy).2
 rw[hb];simpa using this
end
end Rv
namespace Rv
open Vamrqe (Who State ofNat Call)
section
variable{c:Cn}{E:XK}{Q Q':VK}{H H':Hp}{d a x pd ad vd gd:aF}{s:State}{l:List Int}{M:List aF}{ch:c6}{w:Who}
theorem yx.edit(O:yx w ch)(hg:d6 u=true)(h8:(ch.paths.any λx=>decide (x.1=u))=true\/ch.paths.length<8):
  yx w ⟨ch.author,ch.version+1,if(ch.paths.any λx=>decide (x.1=u))=true then ch.paths.map (λx=>if x.1=u then(u,ch.version+1)else x)else ch.paths++[(u,ch.version+1)],ch.approvals,ch.vetoes⟩:=by
 have av:∀a∈ch.approvals,a.1∈w.people/\a.2<=ch.version+1:=λa ha=>⟨(O.av a ha).1,by have:=(O.av a ha).2;omega⟩;by_cases q:(ch.paths.any λx=>decide (x.1=u))=true
 ·rw[iP q];refine⟨O.au,?_,by rw[aB];exact O.pl,λp hp=>?_,O.an,av,O.vn,O.vv⟩
  ·have:(ch.paths.map (λx=>if x.1=u then(u,ch.version+1)else x)).map (·.1)=ch.paths.map (·.1):=by
    rw[bN];apply i9;intro x _;show(if x.1=u then(u,ch.version+1)else x).1=x.1;by_cases q2:x.1=u
    ·rw[iP q2,q2]
    ·rw[iN q2]
   show((ch.paths.map (λx=>if x.1=u then(u,ch.version+1)else x)).map (·.1)).Nodup;rw[this];exact O.pn
  ·obtain⟨x,hx,e⟩:=iJ.mp hp;by_cases q2:x.1=u
   ·rw[iP q2]at e;rw[<-e];exact⟨hg,a9 _⟩
   ·rw[iN q2]at e;rw[<-e]
    have:=O.ps x hx
    exact⟨this.1,TK this.2⟩
 ·rw[iN q];refine⟨O.au,?_,?_,λp hp=>?_,O.an,av,O.vn,O.vv⟩
  ·show((ch.paths++[(u,ch.version+1)]).map (·.1)).Nodup;rw[aw,lC];refine⟨O.pn,by simp,?_⟩;intro a ha b hb;simp only[bO,sM,aQ]at hb;obtain⟨y,hy,rfl⟩:=iJ.mp ha;rw[hb];intro z;exact q (mD.mpr ⟨y,hy,dE z⟩)
  ·show(ch.paths++[(u,ch.version+1)]).length<=8;rw[aN,c4];rcases h8 with z|z
   ·exact absurd z q
   ·omega
  ·rcases bZ.mp hp with z|z
   ·have:=O.ps p z
    exact⟨this.1,TK this.2⟩
   ·rw[aQ]at z;rw[z];exact⟨hg,a9 _⟩
theorem EA(G:aCe c):i7 c "call_edit" 14 ["desk","rows"] (gg c (oU .edit)):=by
 refine G.AI.gG (N:=["desk","rows","path","change"]) (k:=13) (λH vs Q E nd hr h=>?_);obtain⟨d,r,st,a,u,rfl,⟨F,b,sl,pl,gd,cv,D⟩,hr0,ha,hu,ko⟩:=vT h;refine⟨_,aD (bb (i:=2) nd (az (tG G) hr ae (aA (fE du (pv 1) bB (λ_ _=>rfl)) aH))) (aD (bb (i:=3) nd (az (ir G) hr ae (aA (pv 0) aH))) (aD (cf (uS (zf (FK (lh hr) (pv 2) (ag (pv 3) rfl))) (pF (bU eX (cF uc (by rfl) G.gR bP (aA (ag (pv 3) rfl) aH)) (b9 G.yM) (bt _)))).pt (aL (pD G.rC hr (aA bB aH))) b8) (aD (FQ (pv 3) bB QR) (aD (qp (lh hr) (ag (pv 3) rfl) (pv 2) (ag (pv 3) rfl) rfl) (aL (bE (cp (aA (ag (pv 3) rfl) aH)))))))),?_⟩;have ko:jw c E Q H d (st.edits u):=ko;unfold State.edits at ko;refine⟨_,rfl,r,_,0,_,rfl,rfl,bf.of hr0,rfl,a,u,rfl,ha,hu,?_⟩;cases hg:d6 u with
 |false=>rw[iP hg]at ko;exact ko 0
 |true=>
  rw[iN (by rw[hg];simp)]at ko;intro H1 s1;have D1:=D.same s1;unfold Du at ko;refine⟨_,rfl,d,F,b,sl,pl,gd,cv,st,rfl,D1,?_⟩;cases ec:st.change with
  |none=>rw[ec]at ko;exact λp=>Rz.step (ko p) (bA.kp s1)
  |some ch=>
   rw[ec]at ko;have hc:=D1.ch;rw[ec]at hc;obtain⟨x,pd,ad,vd,rfl,C,hpd,O⟩:=hc;obtain⟨dx,hx⟩:=C.ins;have vlen:(vK ch.paths).length=ch.paths.length:=by simp[vK]
   have ko:jw c E Q H d (if(ch.paths.any λx=>decide (x.1=u))=true then st.set ⟨ch.author,ch.version+1,ch.paths.map (λx=>if x.1=u then(u,ch.version+1)else x),ch.approvals,ch.vetoes⟩ [ofNat (ch.version+1)]else if HK<=ch.paths.length then .error (-9)else st.set ⟨ch.author,ch.version+1,ch.paths++[(u,ch.version+1)],ch.approvals,ch.vetoes⟩ [ofNat (ch.version+1)]):=ko;dsimp only;refine⟨_,rfl,_,rfl,x,c.CC,dx,_,_,rfl,hx,G.cX,G.eS,kP,pd,_,rfl,rj.k (k:=ai (bH u)) hpd,_,rfl,?_⟩;rw[X8];have p8:=O.pl;by_cases q8:¬(ch.paths.any λx=>decide (x.1=u))=true/\ch.paths.length=8
   ·rw[bT.mpr q8.1];rw[iN q8.1,iP (show HK<=ch.paths.length by show 8<=_;omega)]at ko;refine bq ⟨_,rfl,x,c.CC,dx,_,_,rfl,hx,G.cX,G.eS,kP,pd,_,rfl,hpd,rfl,_,rfl,?_⟩;exact aDx (show V.int ((vK ch.paths).length:Int)=V.int 8 by rw[vlen,q8.2];rfl) ⟨by simp,9,0,⟨rfl,rfl⟩,Rz.step (ko 0) (bA.kp s1)⟩
   have h8:(ch.paths.any λx=>decide (x.1=u))=true\/ch.paths.length<8:=by
    by_cases q:(ch.paths.any λx=>decide (x.1=u))=true
    ·exact .inl q
    ·right
     have:¬ch.paths.length=8:=λz=>q8 ⟨q,z⟩
     omega
   by_cases q:(ch.paths.any λx=>decide (x.1=u))=true
   case' pos=>rw[q];refine bW (bW ?_)
   case' neg=>rw[bT.mpr q];refine bq ⟨_,rfl,x,c.CC,dx,_,_,rfl,hx,G.cX,G.eS,kP,pd,_,rfl,hpd,rfl,_,rfl,?_⟩;refine aDw (show ¬V.int ((vK ch.paths).length:Int)=V.int 8 by intro z;injection z with z;rcases h8 with y|y;exact q y;omega) ?_
   all_goals
    clear q;have ko:jw c E Q H d (st.set ⟨ch.author,ch.version+1,if(ch.paths.any λx=>decide (x.1=u))=true then ch.paths.map (λx=>if x.1=u then(u,ch.version+1)else x)else ch.paths++[(u,ch.version+1)],ch.approvals,ch.vetoes⟩ [ofNat (ch.version+1)]):=by
     by_cases q:(ch.paths.any λx=>decide (x.1=u))=true
     ·rw[iP q]at ko ⊢;exact ko
     ·rw[iN q]at ko ⊢;rw[iN (show ¬HK<=ch.paths.length by show ¬8<=_;rcases h8 with z|z;exact absurd z q;omega)]at ko;exact ko
    have O':=O.edit hg h8;refine⟨_,rfl,x,c.CC,dx,_,_,rfl,hx,G.cX,G.eh,kQ,?_⟩;refine⟨_,_,rfl,rfl,dx,_,hx,by show 5<1000;decide,?_⟩;rw[show((ch.version:Int)+1)=((ch.version+1:Nat):Int)from rfl,BI];have npx:pd≠x:=cR hpd hx nofun;have nax:ad≠x:=cR C.app hx nofun;have nvx:vd≠x:=cR C.J2 hx nofun;have hpd2:aCc H1 x (.ins c.CC dx (Hu (bH ch.author) ((ch.version+1:Nat):Int) pd ad vd)) pd=some (.dK (vK ch.paths)):=by rw[aJ npx];exact hpd
    refine⟨_,rfl,x,c.CC,dx,_,_,rfl,aC,G.cX,G.eh,kQ,_,rfl,x,c.CC,dx,_,_,rfl,aC,G.cX,G.eS,kP,_,rfl,pd,_,rfl,Be.k (k:=ai (bH u)) hpd2 (by rw[vlen];have:=O.pl;exact pG (by omega)),?_⟩;rw[show V.int ((ch.version+1:Nat):Int)=iV (ch.version+1)from rfl,Sq];generalize hps:(if(ch.paths.any λx=>decide (x.1=u))=true then ch.paths.map (λx=>if x.1=u then(u,ch.version+1)else x)else ch.paths++[(u,ch.version+1)])=ps at ko O';have hx3:(aCc (aCc H1 x (.ins c.CC dx (Hu (bH ch.author) ((ch.version+1:Nat):Int) pd ad vd))) pd (.dK (vK ps))) x=some (.ins c.CC dx (Hu (bH ch.author) ((ch.version+1:Nat):Int) pd ad vd)):=by rw[aJ npx.symm,aC]
    refine⟨_,rfl,x,c.CC,dx,_,_,rfl,hx3,G.cX,G.eh,kQ,kh,λq hq=>?_⟩;have C3:oI c (aCc (aCc H1 x (.ins c.CC dx (Hu (bH ch.author) ((ch.version+1:Nat):Int) pd ad vd))) pd (.dK (vK ps))) x pd ad vd gd ⟨ch.author,ch.version+1,ps,ch.approvals,ch.vetoes⟩:=
     ⟨⟨dx,hx3⟩,.inl aC,by rw[aJ C.n1.symm,aJ nax];exact C.app,by rw[aJ C.n2.symm,aJ nvx];exact C.J2,C.n1,C.n2,C.n3,C.n4,C.n5,C.n6⟩
    have T:=D1.turn C hpd (H':=aCc (aCc H1 x (.ins c.CC dx (Hu (bH ch.author) ((ch.version+1:Nat):Int) pd ad vd))) pd (.dK (vK ps))) (λy o e n=>by
     simp only[af,cC,or_false,not_or]at n;rw[aJ n.2.1,aJ n.1];exact e) C3 aC O'
    exact ko q _ (aCf s1 (kC (kC hq))) aC (by show 1<=35000;decide) (T.1.same (aCb hq)) (((Ls.of s1).trans T.2).trans (Ls.of (aCb hq)))
def Mn(t:TE):Prop:=∀(σ:L2.St)(H:Hp)(Q Q':VK),(∀v H',Q v H'->Q' v H')->t σ H Q->t σ H Q'
theorem UN:Mn (tC v):=λ_ _ _ _ h k=>h _ _ k
theorem uJ:Mn (g9 i):=λ_ _ _ _ h ⟨v,e,k⟩=>⟨v,e,h _ _ k⟩
theorem Cr{K:aU}(ma:Mn ta):Mn (S8 K ta f):=λσ H Q Q' h k=>ma σ H _ _ (λx H1 ⟨a,C,dx,fs,v,e1,e2,e3,e4,e5,k⟩=>⟨a,C,dx,fs,v,e1,e2,e3,e4,e5,h _ _ k⟩) k
def aB4(td ty tx:TE):TE:=λσ H Q=>td σ H λx H1=>∃a,x=.ref a/\Z5 H1 a/\ty σ H1 λy H2=>tx σ H2 λz H3=>∃kvs k,H3 a=some (.dK kvs)/\y=kV k/\∀v H4,H4 a=some (.dK (rS kvs k))->Kp [a] H3 H4->(∀q,H4 q=none->H3 q=none)->Q v H4
theorem NS{kvs:List (Key×V)}{k:Key}(h:gU kvs k=none):rS kvs k=kvs:=by
 unfold gU at h;rw[Option.map_eq_none_iff,o6]at h;unfold rS;rw[Mr];intro x hx
 have:=h x hx
 simpa using this
theorem G1{X:Cx}{o e f:cQ}{td ty tx:TE}{apos cpos:Pos}(ho:PE X o td)(he:PE X e ty)(hf:PE X f tx)(m:M2 X o "pop" apos e f cpos)(md:Mn td)(my:Mn ty)(mx:Mn tx):PE X (.Call (.Attribute o "pop" apos) [e,f] [] cpos) (aB4 td ty tx):=λpins s σ H Q I h=>by
 refine RS ho he hf m pins s σ H Q I (md _ _ _ _ (λx H1 ⟨a,e1,e2,h2⟩=>⟨a,e1,e2,my _ _ _ _ (λy H2 h3=>mx _ _ _ _ (λz H3 ⟨kvs,k,e3,e4,h4⟩=>⟨kvs,k,e3,e4,λv _=>?_,λn=>?_⟩) h3) h2⟩) h)
 ·exact h4 v _ aC (Kp.put (by simp)) λq z=>kC z
 ·exact h4 z H3 (by rw[NS n];exact e3) (Kp.refl _ _) λq z=>z
theorem Ge(k:jw c E Q H d (s.said u f))(hk:∀ch,s.change=some ch->s.who.people.contains u=true->¬ch.author=u->jw c E Q H d (f ch)->q):Te c E H s u q:=by
 unfold Te;unfold State.said Vy Du at k;by_cases q1:s.who.people.contains u=true
 ·rw[iP q1]at k ⊢;cases e:s.change with
  |none=>rw[e]at k;exact k
  |some ch=>
   rw[e]at k;have k:jw c E Q H d (if ch.author=u then .error (-13)else f ch):=k;by_cases q2:ch.author=u
   ·rw[iP q2]at k;dsimp only;rw[iP q2];exact k
   ·rw[iN q2]at k;dsimp only;rw[iN q2];exact hk ch e q1 q2 k
 ·rw[iN q1]at k ⊢;exact k
theorem zE(G:aCe c):i7 c "call_approve" 14 ["desk","rows"] (gg c (oU .approve)):=by
 refine G.tV.gG (N:=["desk","rows","person","change"]) (k:=13) (λH vs Q E nd hr h=>?_);obtain⟨d,r,st,a,u,rfl,⟨F,b,sl,pl,gd,cv,D⟩,hr0,ha,hu,ko⟩:=vT h;refine⟨_,aD (bb (i:=2) nd (az (mM G) hr ae (aA (pv 0) (aA (fE du (pv 1) bB (λ_ _=>rfl)) aH)))) (aD (bb (i:=3) nd (ag (pv 0) rfl)) (aD (ax (G1 (ag (pv 3) rfl) (pv 2) uP ⟨rfl,rfl,rfl,rfl⟩ (Cr uJ) uJ UN)) (aD (qp (lh hr) (ag (pv 3) rfl) (pv 2) (ag (pv 3) rfl) rfl) (aL (bE (cp (aA (ag (pv 3) rfl) aH))))))),?_⟩;refine⟨_,rfl,_,rfl,r,_,0,_,rfl,rfl,bf.of hr0,rfl,d,F,b,sl,pl,gd,cv,st,a,u,rfl,D,ha,hu,Ge ko λch ec hp hn ko=>?_⟩;intro H1 s1;have D1:=D.same s1;have hc:=D1.ch;rw[ec]at hc;obtain⟨x,pd,ad,vd,rfl,C,hpd,O⟩:=hc;obtain⟨dx,hx⟩:=C.ins;obtain⟨dd,hd⟩:=D1.ins;refine⟨_,rfl,d,c.CD,dd,_,_,rfl,hd,G.iX,G.eT,kK,?_⟩;refine⟨_,rfl,x,c.CC,dx,_,_,rfl,hx,G.cX,G.dv,jH,ad,rfl,.inl ⟨_,.inl C.app⟩,_,rfl,_,ai (bH u),C.app,rfl,?_⟩;have nxa:x≠ad:=cR hx C.app nofun
 ·intro _ H2 had kp back;rw[Mh]at had;have hx2:=kp _ _ hx (iw <| nxa);refine⟨_,rfl,x,c.CC,dx,_,_,rfl,hx2,G.cX,G.eh,kQ,_,rfl,x,c.CC,dx,_,_,rfl,hx2,G.cX,G.dv,jH,_,rfl,ad,_,rfl,Be.k (k:=ai (bH u)) had ?_,?_⟩
  ·have:=O.al D.ok
   have:=cP (λa:aM×Nat=>!decide (a.1=u)) ch.approvals
   unfold vK fu;rw[aB];exact pG (by omega)
  rw[show V.int (ch.version:Int)=iV ch.version from rfl,Sq,iN (by rw[J6];simp)];have hx3:aCc H2 ad (.dK (vK (fu u ch.approvals++[(u,ch.version)]))) x=some (.ins c.CC dx (Hu (bH ch.author) (ch.version:Int) pd ad vd)):=by rw[aJ nxa];exact hx2
  refine⟨_,rfl,x,c.CC,dx,_,_,rfl,hx3,G.cX,G.eh,kQ,kh,λq hq=>?_⟩;have hpd3:aCc H2 ad (.dK (vK (fu u ch.approvals++[(u,ch.version)]))) pd=some (.dK (vK ch.paths)):=by rw[aJ C.n1];exact kp _ _ hpd (iw <| C.n1)
  have C3:oI c (aCc H2 ad (.dK (vK (fu u ch.approvals++[(u,ch.version)])))) x pd ad vd gd ⟨ch.author,ch.version,ch.paths,fu u ch.approvals++[(u,ch.version)],ch.vetoes⟩:=
   ⟨⟨dx,hx3⟩,.inl hpd3,aC,by rw[aJ C.n3.symm];exact kp _ _ C.J2 (iw <| C.n3.symm),C.n1,C.n2,C.n3,C.n4,C.n5,C.n6⟩
  have T:=D1.turn C hpd (λy o e n=>by
   simp only[af,cC,or_false,not_or]at n;rw[aJ n.2.2.1]
   exact kp _ _ e (iw <| n.2.2.1)) C3 hpd3 ⟨O.au,O.pn,O.pl,O.ps,aCs O.an u _,λa ha=>by
    rcases bZ.mp ha with z|z
    ·exact O.av a (dh.mp z).1
    ·rw[aQ]at z;rw[z];exact⟨by simpa using hp,a9 _⟩,O.vn,O.vv⟩
  exact ko q _ (aCf s1 (back _ (kC hq))) aC (by show 1<=35000;decide) (T.1.same (aCb hq)) (((Ls.of s1).trans T.2).trans (Ls.of (aCb hq)))
theorem EF(G:aCe c):i7 c "call_veto" 14 ["desk","rows"] (gg c (oU .veto)):=by
 refine G.AN.gG (N:=["desk","rows","person","vetoes"]) (k:=13) (λH vs Q E nd hr h=>?_);obtain⟨d,r,st,a,u,rfl,⟨F,b,sl,pl,gd,cv,D⟩,hr0,ha,hu,ko⟩:=vT h;refine⟨_,aD (bb (i:=2) nd (az (mM G) hr ae (aA (pv 0) (aA (fE du (pv 1) bB (λ_ _=>rfl)) aH)))) (aD (bb (i:=3) nd (ag (ag (pv 0) rfl) rfl)) (aD (ax (G1 (pv 3) (pv 2) uP ⟨rfl,rfl,rfl,rfl⟩ uJ uJ UN)) (aD (qp (lh hr) (pv 3) (pv 2) FL rfl) (aL (bE (cp (aA (cF uc (by rfl) G.gR bP (aA (pv 3) aH)) aH))))))),?_⟩;refine⟨_,rfl,_,rfl,r,_,0,_,rfl,rfl,bf.of hr0,rfl,d,F,b,sl,pl,gd,cv,st,a,u,rfl,D,ha,hu,Ge ko λch ec hp hn ko=>?_⟩;intro H1 s1;have D1:=D.same s1;have hc:=D1.ch;rw[ec]at hc;obtain⟨x,pd,ad,vd,rfl,C,hpd,O⟩:=hc;obtain⟨dx,hx⟩:=C.ins;obtain⟨dd,hd⟩:=D1.ins;refine⟨_,rfl,d,c.CD,dd,_,_,rfl,hd,G.iX,G.eT,kK,x,c.CC,dx,_,_,rfl,hx,G.cX,G.gj,qc,?_⟩;refine⟨_,rfl,vd,rfl,.inl ⟨_,.inl C.J2⟩,_,rfl,_,ai (bH u),C.J2,rfl,?_⟩;have nxv:x≠vd:=cR hx C.J2 nofun;intro _ H2 hvd kp back;rw[MP]at hvd;have hlen:(ch.vetoes.filter λx=>!decide (x=u)).length<=8:=by
  have:=O.vl D.ok
  have:=cP (λx=>!decide (x=u)) ch.vetoes
  omega
 have hnot:¬u∈(ch.vetoes.filter λx=>!decide (x=u)):=λz=>by
  have:=(dh.mp z).2
  simp at this
 have hnd:(ch.vetoes.filter λx=>!decide (x=u)).Nodup:=O.vn.filter _;have hsub:∀n∈(ch.vetoes.filter λx=>!decide (x=u)),n∈st.who.people:=λn hn=>O.vv n (dh.mp hn).1;have ko:jw c E Q H d (st.set ⟨ch.author,ch.version,ch.paths,ch.approvals,(ch.vetoes.filter λx=>!decide (x=u))++[u]⟩ [ofNat ((ch.vetoes.filter λx=>!decide (x=u)).length+1)]):=ko;generalize(ch.vetoes.filter λx=>!decide (x=u))=vs' at hvd hlen hnot hnd hsub ko;refine⟨_,rfl,_,rfl,vd,_,rfl,Be.k (k:=ai (bH u)) hvd (by unfold nK;rw[aB];exact pG (by omega)),?_⟩;have hput:aCo (nK vs') (ai (bH u)) (V.bl true)=nK (vs'++[u]):=by
  have hv:gU (nK vs') (ai (bH u))=none:=by
   have:(gU (nK vs') (ai (bH u))).isSome=false:=by rw[Q8];simpa using hnot
   cases e:gU (nK vs') (ai (bH u))with
   |none=>rfl
   |some v=>rw[e]at this;cases this
  rw[R3 _ hv];unfold nK;rw[aw];rfl
 rw[hput];refine⟨_,rfl,vd,_,rfl,aC,kh,λq hq=>?_⟩;have hpd3:aCc H2 vd (.dK (nK (vs'++[u]))) pd=some (.dK (vK ch.paths)):=by rw[aJ C.n2];exact kp _ _ hpd (iw <| C.n2)
 have C3:oI c (aCc H2 vd (.dK (nK (vs'++[u])))) x pd ad vd gd ⟨ch.author,ch.version,ch.paths,ch.approvals,vs'++[u]⟩:=
  ⟨⟨dx,by rw[aJ nxv];exact kp _ _ hx (iw <| nxv)⟩,.inl hpd3,by rw[aJ C.n3];exact kp _ _ C.app (iw <| C.n3),aC,C.n1,C.n2,C.n3,C.n4,C.n5,C.n6⟩
 have T:=D1.turn C hpd (λy o e n=>by
  simp only[af,cC,or_false,not_or]at n;rw[aJ n.2.2.2]
  exact kp _ _ e (iw <| n.2.2.2)) C3 hpd3 ⟨O.au,O.pn,O.pl,O.ps,O.an,O.av,(by
   show(vs'++[u]).Nodup;rw[lC];refine⟨hnd,by simp,λa ha b hb=>?_⟩;rw[aQ]at hb;rw[hb];exact λz=>hnot (by rw[<-z];exact ha)),λn hn=>by
    rcases bZ.mp hn with z|z
    ·exact hsub n z
    ·rw[aQ]at z;rw[z];simpa using hp⟩
 refine ko q _ (aCf s1 (back _ (kC hq))) ?_ (by show 1<=35000;decide) (T.1.same (aCb hq)) (((Ls.of s1).trans T.2).trans (Ls.of (aCb hq)));rw[aC];unfold nK;rw[aB,aN];rfl
theorem xk(G:aCe c):i7 c "call_withdraw" 14 ["desk","rows"] (gg c (oU .withdraw)):=by
 refine G.rM.gG (N:=["desk","rows","person"]) (k:=13) (λH vs Q E nd hr h=>?_);obtain⟨d,r,st,a,u,rfl,⟨F,b,sl,pl,gd,cv,D⟩,hr0,ha,hu,ko⟩:=vT h;refine⟨_,aD (bb (i:=2) nd (az (mM G) hr ae (aA (pv 0) (aA (fE du (pv 1) bB (λ_ _=>rfl)) aH)))) (aD (ax (G1 (ag (ag (pv 0) rfl) rfl) (pv 2) uP ⟨rfl,rfl,rfl,rfl⟩ (Cr (Cr uJ)) uJ UN)) (aD (ax (G1 (ag (ag (pv 0) rfl) rfl) (pv 2) uP ⟨rfl,rfl,rfl,rfl⟩ (Cr (Cr uJ)) uJ UN)) (aL (bE (cp (aA bB aH)))))),?_⟩;refine⟨_,rfl,_,rfl,r,_,0,_,rfl,rfl,bf.of hr0,rfl,d,F,b,sl,pl,gd,cv,st,a,u,rfl,D,ha,hu,Ge ko λch ec hp hn ko=>?_⟩;intro H1 s1;have D1:=D.same s1;have hc:=D1.ch;rw[ec]at hc;obtain⟨x,pd,ad,vd,rfl,C,hpd,O⟩:=hc;obtain⟨dx,hx⟩:=C.ins;obtain⟨dd,hd⟩:=D1.ins;refine⟨_,rfl,d,c.CD,dd,_,_,rfl,hd,G.iX,G.eT,kK,x,c.CC,dx,_,_,rfl,hx,G.cX,G.dv,jH,ad,rfl,.inl ⟨_,.inl C.app⟩,_,rfl,_,ai (bH u),C.app,rfl,?_⟩;intro _ H2 had kp back;rw[Mh]at had;have nxa:x≠ad:=cR hx C.app nofun;have nxv:x≠vd:=cR hx C.J2 nofun;have nda:d≠ad:=cR hd C.app nofun;have hd2:=kp _ _ hd (iw <| nda);have hx2:=kp _ _ hx (iw <| nxa);have hv2:=kp _ _ C.J2 (iw <| C.n3.symm);refine⟨_,rfl,d,c.CD,dd,_,_,rfl,hd2,G.iX,G.eT,kK,x,c.CC,dx,_,_,rfl,hx2,G.cX,G.gj,qc,vd,rfl,.inl ⟨_,.inl hv2⟩,_,rfl,_,ai (bH u),hv2,rfl,?_⟩;intro _ H3 hvd kp3 back3;rw[MP]at hvd;refine⟨kh,λq hq=>?_⟩;have hpd3:H3 pd=some (.dK (vK ch.paths)):=kp3 _ _ (kp _ _ hpd (iw <| C.n1)) (iw <| C.n2);have C3:oI c H3 x pd ad vd gd ⟨ch.author,ch.version,ch.paths,fu u ch.approvals,ch.vetoes.filter λx=>!decide (x=u)⟩:=
  ⟨⟨dx,kp3 _ _ hx2 (iw <| nxv)⟩,.inl hpd3,kp3 _ _ had (iw <| C.n3),hvd,C.n1,C.n2,C.n3,C.n4,C.n5,C.n6⟩
 have T:=D1.turn C hpd (λy o e n=>by
  simp only[af,cC,or_false,not_or]at n;exact kp3 _ _ (kp _ _ e (iw <| n.2.2.1)) (iw <| n.2.2.2)) C3 hpd3 ⟨O.au,O.pn,O.pl,O.ps,HA (HB _ Ms) O.an,λa ha=>O.av a (dh.mp ha).1,O.vn.filter _,λn hn=>O.vv n (dh.mp hn).1⟩
 exact ko q _ (aCf s1 (back _ (back3 _ hq))) aC (by show 1<=35000;decide) (T.1.same (aCb hq)) (((Ls.of s1).trans T.2).trans (Ls.of (aCb hq)))
end
end Rv
namespace Rv
open Vamrqe (Who ofNat)
def F1(ch:c6):List Int:=([1]++dz ch.author)++[ofNat ch.version]
def Dq(l:List (aM×Nat)):List Int:=ofNat l.length::l.flatMap u0
theorem OI(ch:c6):pM ch=((F1 ch++Dq ch.paths)++Dq ch.approvals)++l6 ch.vetoes:=by unfold pM F1 Dq;simp only[bV,mE,jL];rfl
theorem M7(h:∀n∈l,n.1.length<=40)(h8:l.length<=8):(Dq l).length<=400:=by
 have:=Dd l h
 unfold Dq;rw[aG];omega
theorem Co(h:∀n∈l,n.length<=40)(h8:l.length<=8):(l6 l).length<=400:=by
 have:=yf l h
 unfold l6;rw[aG];omega
theorem UQ(l:List aM):(nK l).map (λkv=>kV kv.1)=l.map vS:=by unfold nK;rw[bN];rfl
theorem tQ:∀{k:Nat}{l m:List aM},m∈di k l->m.length=k/\∀x∈m,x∈l
 |0,l,m,h=>by rw[di,aQ]at h;rw[h];simp
 |k+1,[],m,h=>by rw[di]at h;cases h
 |k+1,y::r,m,h=>by
  rw[di]at h;rcases bZ.mp h with z|z
  ·obtain⟨m',hm',rfl⟩:=iJ.mp z;have ih:=tQ hm';refine⟨by rw[aG,ih.1],λx hx=>?_⟩;rcases af.mp hx with e|e
   ·rw[e];simp
   ·exact aq _ (ih.2 x e)
  ·have ih:=tQ z;exact⟨ih.1,λx hx=>aq _ (ih.2 x hx)⟩
theorem Q3(ok:eZ w)(h:j3 l w ch=some m):m.length<=8/\∀n∈m,n.length<=40:=by
 rw[MO]at h;have h:=Fg h;unfold Lk at h;obtain⟨k,hk,hm⟩:=List.mem_flatMap.mp h;have hk:=vP.mp hk;obtain⟨h1,h2⟩:=tQ hm
 have:=cP (λn=>!decide (n=ch.author)) w.people
 have:=ok.pl
 refine⟨by omega,λn hn=>?_⟩
 have:=ok.sh n (dh.mp (h2 n hn)).1
 omega
section
variable{c:Cn}
theorem BC(G:aCe c):i7 c "call_status" 14 ["desk","rows"] (gg c (EO .status)):=by
 refine G.vX.gG (N:=["desk","rows","change","told"]) (k:=13) (λH vs Q E nd hr h=>?_);obtain⟨d,r,st,rfl,⟨F,b,sl,pl,gd,cv,D⟩,ko⟩:=Lp h;refine⟨_,aD (bb (i:=2) nd (ag (pv 0) rfl)) (aD (cf (zf (Kl (pv 2))) (aL (bE (cp (aA bB aH)))) b8) (aD (bb (i:=3) nd (eM wo (eM wo (cp (aA bB aH)) (az (gu G) hr ae (aA (ag (pv 2) rfl) aH))) (cp (aA (ag (pv 2) rfl) aH)))) (aD (ax (fZ aR cU cV iY (pv 3) (aA (az (l8 G) hr ae (aA (ag (pv 2) rfl) aH)) aH))) (aD (ax (fZ aR cU cV iY (pv 3) (aA (az (l8 G) hr ae (aA (ag (pv 2) rfl) aH)) aH))) (aD (ax (fZ aR cU cV iY (pv 3) (aA (az (k7 G) hr ae (aA (lN (KC rfl) (by rfl) G.Br BV (aA (ag (pv 2) rfl) aH)) aH)) aH))) (aL (bE (pv 3)))))))),?_⟩
 have ko:jw c E Q H d (dA (match st.change with
  |none=>.ok [0]
  |some c=>.ok (pM c)) λl=>.ok (st,l)):=ko
 have hc:=D.ch;obtain⟨dd,hd⟩:=D.ins;refine⟨_,rfl,d,c.CD,dd,_,_,rfl,hd,G.iX,G.eT,kK,?_⟩;refine⟨_,rfl,_,rfl,?_⟩;cases ec:st.change with
 |none=>rw[ec]at ko hc;have hc:cv=.fB:=hc;exact aDx hc ⟨kh,λq hq=>jo ⟨F,b,sl,pl,gd,cv,D⟩ ko (by decide) hq aC (aCb hq)⟩
 |some ch=>
  rw[ec]at ko hc;obtain⟨x,pd,ad,vd,rfl,C,hpd,O⟩:=hc;obtain⟨dx,hx⟩:=C.ins;have ko:jw c E Q H d (.ok (st,pM ch)):=ko;rw[OI]at ko;have a12:=D.ok.sh _ O.au;have hp40:∀n∈ch.paths,n.1.length<=40:=λn hn=>wc (O.ps n hn).1;have ha40:∀n∈ch.approvals,n.1.length<=40:=λn hn=>by
   have:=D.ok.sh _ (O.av n hn).1
   omega
  have hv40:∀n∈ch.vetoes,n.length<=40:=λn hn=>by
   have:=D.ok.sh _ (O.vv n hn)
   omega
  have l1:(F1 ch).length<=20:=by unfold F1;rw[aN,aN,um];show 1+(ch.author.length+1)+1<=20;omega
  have l2:=M7 hp40 O.pl;have l3:=M7 ha40 (O.al D.ok);have l4:=Co hv40 (O.vl D.ok);refine aDw nofun ⟨kh,λp0 n0=>?_⟩;have s0:=aCb (o:=.lst [V.int 1]) n0;refine⟨_,rfl,x,c.CC,dx,_,_,rfl,s0 _ _ hx,G.cX,G.gi,q5,ch.author,rfl,by omega,λp1 H1 n1 h1 s1=>?_⟩;have s01:bA H H1:=λy o z=>s1 _ _ (s0 _ _ z);refine⟨p0,p1,_,_,rfl,rfl,s1 _ _ aC,h1,by rw[aB];exact Rv.sl (by show 1+(ch.author.length+1)<=100000;omega),λp2 n2=>?_⟩;rw[sv];have s2:=aCb (o:=.lst ([V.int 1]++(dz ch.author).map V.int)) n2;refine⟨_,rfl,x,c.CC,dx,_,_,rfl,s2 _ _ (s01 _ _ hx),G.cX,G.eh,kQ,kh,λp3 n3=>?_⟩;have s3:=aCb (o:=.lst [V.int (ch.version:Int)]) n3;refine⟨p2,p3,_,_,rfl,rfl,s3 _ _ aC,aC,by rw[aN,aB,um];exact Rv.sl (by show 1+_+1<=100000;omega),λt nt=>?_⟩;rw[show[V.int 1]++(dz ch.author).map V.int++[V.int (ch.version:Int)]=(F1 ch).map V.int from by unfold F1;rw[aw,aw];rfl];have s4:=aCb (o:=.lst ((F1 ch).map V.int)) nt;have s04:bA H _:=λy o z=>s4 _ _ (s3 _ _ (s2 _ _ (s01 _ _ z)));have ht:aCc _ t (.lst ((F1 ch).map V.int)) t=some (.lst ((F1 ch).map V.int)):=aC (H:=aCc (aCc H1 p2 (.lst ([V.int 1]++(dz ch.author).map V.int))) p3 (.lst [V.int (ch.version:Int)]));have nt0:H t=none:=aCf s01 (aCf s2 (aCf s3 nt));generalize aCc (aCc (aCc H1 p2 (.lst ([V.int 1]++(dz ch.author).map V.int))) p3 (.lst [V.int (ch.version:Int)])) t (.lst ((F1 ch).map V.int))=H4 at s04 ht;refine⟨_,rfl,.inl ⟨rfl,_,bf.of ht⟩,_,rfl,x,c.CC,dx,_,_,rfl,s04 _ _ hx,G.cX,G.eS,kP,pd,ch.paths,rfl,s04 _ _ hpd,O.pn,O.pl,hp40,λe1 H5 _ h5 s5=>?_⟩;refine⟨t,e1,_,_,rfl,rfl,s5 _ _ ht,h5,by rw[aB,aB];exact Rv.sl (by show _+(Dq ch.paths).length<=100000;omega),?_⟩;rw[<-aw];have s06:bA H (aCc H5 t (.lst ((F1 ch++Dq ch.paths).map V.int))):=λy o z=>by rw[aJ (aK z nt0)];exact s5 _ _ (s04 _ _ z)
  have ht6:aCc H5 t (.lst ((F1 ch++Dq ch.paths).map V.int)) t=some (.lst ((F1 ch++Dq ch.paths).map V.int)):=aC;show Sa _ _ _ _ (aCc H5 t (.lst ((F1 ch++Dq ch.paths).map V.int)));generalize aCc H5 t (.lst ((F1 ch++Dq ch.paths).map V.int))=H6 at s06 ht6;refine⟨_,rfl,.inl ⟨rfl,_,bf.of ht6⟩,_,rfl,x,c.CC,dx,_,_,rfl,s06 _ _ hx,G.cX,G.dv,jH,ad,ch.approvals,rfl,s06 _ _ C.app,O.an,O.al D.ok,ha40,λe2 H7 _ h7 s7=>?_⟩;refine⟨t,e2,_,_,rfl,rfl,s7 _ _ ht6,h7,by rw[aB,aB,aN];exact Rv.sl (by show _+(Dq ch.approvals).length<=100000;omega),?_⟩;rw[<-aw];have s08:bA H (aCc H7 t (.lst (((F1 ch++Dq ch.paths)++Dq ch.approvals).map V.int))):=λy o z=>by rw[aJ (aK z nt0)];exact s7 _ _ (s06 _ _ z)
  have ht8:aCc H7 t (.lst (((F1 ch++Dq ch.paths)++Dq ch.approvals).map V.int)) t=some (.lst (((F1 ch++Dq ch.paths)++Dq ch.approvals).map V.int)):=aC;show Sa _ _ _ _ (aCc H7 t (.lst (((F1 ch++Dq ch.paths)++Dq ch.approvals).map V.int)));generalize aCc H7 t (.lst (((F1 ch++Dq ch.paths)++Dq ch.approvals).map V.int))=H8 at s08 ht8;refine⟨_,rfl,.inl ⟨rfl,_,bf.of ht8⟩,_,rfl,x,c.CC,dx,_,_,rfl,s08 _ _ hx,G.cX,G.gj,qc,vd,_,rfl,.inl (s08 _ _ C.J2),λv nv=>?_⟩;rw[UQ];refine⟨v,ch.vetoes,rfl,aC,O.vl D.ok,hv40,λe3 H9 _ h9 s9=>?_⟩;refine⟨t,e3,_,_,rfl,rfl,s9 _ _ (aCb nv _ _ ht8),h9,by rw[aB,aB,aN,aN];exact Rv.sl (by omega),_,rfl,?_⟩;refine jo ⟨F,b,sl,pl,gd,.ref x,D⟩ ko ?_ nt0 (by rw[aC,<-aw]) λy o z=>?_
  ·rw[aN,aN,aN];omega
  ·rw[aJ (aK z nt0)];exact s9 _ _ (aCb nv _ _ (s08 _ _ z))
def Zx(k:ua):List Int:=[ofNat k.path,ofNat k.stmt,ofNat k.how]
theorem K6:∀l:List ua,(l.flatMap Zx).length=3*l.length
 |[]=>rfl
 |a::r=>by rw[gE,aN,K6 r,aG];show 3+_=_;omega
inductive aEq(d:aF)(r:aF)(ka:aF)(H1:Hp)(ks:List ua)(t:aF)(i:Nat)(σ:L2.St)(H':Hp):Prop
 |mk:∀(v4:Option V),σ=[some (.ref d),some (.ref r),some (.ref ka),some (.ref t),v4]->bA H1 H'->H' t=some (.lst ((0::ofNat ks.length::(ks.take i).flatMap Zx).map V.int))->aEq d r ka H1 ks t i σ H'
theorem zI(G:aCe c):i7 c "call_verdict" 14 ["desk","rows"] (gg c (EO .verdict)):=by
 refine G.tZ.gG (N:=["desk","rows","kept","told","thing"]) (k:=13) (λH vs Q E nd hr h=>?_);obtain⟨d,r,st,rfl,⟨F,b,sl,pl,gd,cv,D⟩,ko⟩:=Lp h;refine⟨_,aD (bb (i:=2) nd (az (EI G) hr ae (aA (ag (pv 0) rfl) (aA (az (ir G) hr ae (aA (pv 0) aH)) aH)))) (aD (cf (uR (ck (pv 2) (λ_=>rfl))) (aL (bE (cp (aA bB aH)))) b8) (aD (bb (i:=3) nd (cp (aA bB (aA (cF dC (by rfl) G.gR bP (aA (pv 2) aH)) aH)))) (aD (fW jC rfl (dQ (pv 2)) (d7 (i:=4) nd) (aL (ax (fZ aR cU cV iY (pv 3) (aA (lN qZ (by rfl) G.Br BV (aA (pv 4) aH)) aH))))) (aL (bE (pv 3)))))),?_⟩;have ko:jw c E Q H d (dA (dA st.here λc=>.ok (xK (j5 st.rules st.who c))) λl=>.ok (st,l)):=ko;unfold Du at ko;have hc:=D.ch;obtain⟨dd,hd⟩:=D.ins;refine⟨_,rfl,d,c.CD,dd,_,_,rfl,hd,G.iX,G.gQ,nS,_,rfl,d,F,b,sl,pl,gd,cv,st,rfl,D,?_⟩;cases ec:st.change with
 |none=>rw[ec]at ko;exact ko
 |some ch=>
  rw[ec]at ko hc;obtain⟨x,pd,ad,vd,rfl,C,hpd,O⟩:=hc;have ko:jw c E Q H d (.ok (st,xK (j5 st.rules st.who ch))):=ko;dsimp only;refine⟨b,sl,pl,gd,st.rules,st.who,F,x,pd,ad,vd,ch,rfl,D.bk,D.ok,D.ln,C,hpd,O,λka H1 hK s1=>?_⟩;have vl:(j5 st.rules st.who ch).length<=600:=by
   rw[So D.ok]
   have:=LN st.who ch D.ln ch.paths.length (a9 _)
   have:=O.pl
   omega
  generalize j5 st.rules st.who ch=ks at ko hK vl;obtain⟨as,hka,al⟩:=hK;have hlen:=al.len;refine⟨_,rfl,_,.inl ⟨_,bf.of hka,rfl⟩,?_⟩;show(if(!(!(as.map V.ref).isEmpty))=true then _ else _);unfold xK at ko;cases ks with
  |nil=>
   cases as with
   |cons _ _=>cases hlen
   |nil=>exact bq ⟨kh,λq hq=>jo ⟨F,b,sl,pl,gd,.ref x,D⟩ ko (by show 1<=35000;decide) (aCf s1 hq) aC λy o z=>aCb hq _ _ (s1 _ _ z)⟩
  |cons k0 kr=>
   cases as with
   |nil=>cases hlen
   |cons a0 ar=>
    have ko:jw c E Q H d (.ok (st,0::ofNat (k0::kr).length::(k0::kr).flatMap Zx)):=ko;generalize k0::kr=ks at ko al hlen vl;rw[show(!(!((a0::ar).map V.ref).isEmpty))=false from rfl];generalize a0::ar=as at hka al hlen;refine bW ⟨_,rfl,ka,_,rfl,.inl (bf.of hka),yh,λt nt=>?_⟩;have nt0:=aCf s1 nt;have st1:=aCb (o:=.lst [V.int 0,V.int ((as.map V.ref).length:Nat)]) nt;have s01:bA H _:=λy o z=>st1 _ _ (s1 _ _ z);refine⟨_,rfl,ka,rfl,⟨_,bf.of (st1 _ _ hka)⟩,fH (xs:=as.map V.ref) (aEq d r ka H1 ks t) ⟨none,rfl,st1,by rw[aC,aB,hlen];rfl⟩ ?_ ?_ ?_⟩
    ·rintro i σ H' hi ⟨_,_,sm,_⟩;exact bf.of (sm _ _ hka)
    ·rintro i y σ H2 hy ⟨v4,rfl,sm,ht2⟩;rw[aP]at hy;cases hq:as[i]? with
     |none=>rw[hq]at hy;cases hy
     |some ta=>
      rw[hq]at hy;have e:y=V.ref ta:=(aV hy).symm;subst e;obtain⟨kp,hkp,hT⟩:=al.at' hq;have hT:H1 ta=some (.tup [iV kp.path,iV kp.stmt,iV kp.how]):=hT;have kl:=K6 (ks.take i);rw[cB]at kl;refine⟨_,rfl,.inl ⟨rfl,_,bf.of ht2⟩,_,rfl,ta,_,rfl,.inr (qU.of (sm _ _ hT)),λe ne=>?_⟩;refine⟨t,e,_,_,rfl,rfl,aCb ne _ _ ht2,aC,?_,_,rfl,λy o z=>?_,?_⟩
      ·rw[aB,aG,aG];exact Rv.sl (by show _+3<=100000;omega)
      ·rw[aJ (aK z nt)];exact aCb ne _ _ (sm _ _ z)
      ·rw[aC,cy hkp,eN];simp[Zx];exact⟨rfl,rfl,rfl⟩
    ·rintro σ H2 ⟨v4,rfl,sm,ht2⟩;rw[aB,hlen,cD]at ht2;refine⟨_,rfl,jo ⟨F,b,sl,pl,gd,.ref x,D⟩ ko ?_ nt0 ht2 λy o z=>sm _ _ (s1 _ _ z)⟩;rw[aG,aG,K6];omega
theorem zH(G:aCe c):i7 c "call_missing" 14 ["desk","rows"] (gg c (EO .missing)):=by
 refine G.tY.gG (N:=["desk","rows","people"]) (k:=13) (λH vs Q E nd hr h=>?_);obtain⟨d,r,st,rfl,⟨F,b,sl,pl,gd,cv,D⟩,ko⟩:=Lp h;refine⟨_,aD (bb (i:=2) nd (az (wY G) hr ae (aA (ag (pv 0) rfl) (aA (az (ir G) hr ae (aA (pv 0) aH)) aH)))) (aD (cf (zf (Kl (pv 2))) (aL (bE (cp (aA bB aH)))) b8) (aL (bE (eM wo (cp (aA bB aH)) (az (k7 G) hr ae (aA (pv 2) aH)))))),?_⟩;have ko:jw c E Q H d (dA (dA st.here λc=>.ok (Lj (j3 st.rules st.who c))) λl=>.ok (st,l)):=ko;unfold Du at ko;have hc:=D.ch;obtain⟨dd,hd⟩:=D.ins;refine⟨_,rfl,d,c.CD,dd,_,_,rfl,hd,G.iX,G.gQ,nS,_,rfl,d,F,b,sl,pl,gd,cv,st,rfl,D,?_⟩;cases ec:st.change with
 |none=>rw[ec]at ko;exact ko
 |some ch=>
  rw[ec]at ko hc;obtain⟨x,pd,ad,vd,rfl,C,hpd,O⟩:=hc;have ko:jw c E Q H d (.ok (st,Lj (j3 st.rules st.who ch))):=ko;dsimp only;refine⟨b,sl,pl,gd,st.rules,st.who,F,x,pd,ad,vd,ch,rfl,D.bk,D.ok,D.ln,C,hpd,O,λem H1 s1=>?_,λm em a H1 h1 s1=>?_⟩
  ·rw[em]at ko;exact⟨_,rfl,_,rfl,bq ⟨kh,λq hq=>jo ⟨F,b,sl,pl,gd,.ref x,D⟩ ko (by show 1<=35000;decide) (aCf s1 hq) aC λy o z=>aCb hq _ _ (s1 _ _ z)⟩⟩
  ·rw[em]at ko;obtain⟨m8,m40⟩:=Q3 D.ok em;refine⟨_,rfl,_,rfl,bW ⟨kh,λp0 n0=>⟨_,rfl,a,m,rfl,aCb n0 _ _ h1,m8,m40,λp1 H2 n1 h2 s2=>?_⟩⟩⟩;have ll:=Co m40 m8;refine⟨p0,p1,_,_,rfl,rfl,s2 _ _ aC,h2,by rw[aB];exact Rv.sl (by show 1+_<=100000;omega),λq hq=>?_⟩;refine jo ⟨F,b,sl,pl,gd,.ref x,D⟩ ko ?_ (aCf s1 (kC (aCf s2 hq))) (by rw[aC];rfl) λy o z=>aCb hq _ _ (s2 _ _ (aCb n0 _ _ (s1 _ _ z)));show(1::l6 m).length<=35000;rw[aG];omega
def aAe(p:Nat×Nat):List Int:=[ofNat p.1,ofNat p.2]
theorem LG:∀l:List (Nat×Nat),(l.flatMap aAe).length=2*l.length
 |[]=>rfl
 |a::r=>by rw[gE,aN,LG r,aG];show 2+_=_;omega
inductive aEr(d:aF)(r:aF)(ka:aF)(H1:Hp)(ks:List (Nat×Nat))(t:aF)(i:Nat)(σ:L2.St)(H':Hp):Prop
 |mk:∀(v4:Option V),σ=[some (.ref d),some (.ref r),some (.ref ka),some (.ref t),v4]->bA H1 H'->H' t=some (.lst ((ofNat ks.length::(ks.take i).flatMap aAe).map V.int))->aEr d r ka H1 ks t i σ H'
theorem EE(G:aCe c):i7 c "call_told" 14 ["desk","rows"] (gg c (oU .told)):=by
 refine G.AM.gG (N:=["desk","rows","pairs","told","pair"]) (k:=13) (λH vs Q E nd hr h=>?_);obtain⟨d,r,st,a,u,rfl,⟨F,b,sl,pl,gd,cv,D⟩,hr0,ha,hu,ko⟩:=vT h;refine⟨_,aD (bb (i:=2) nd (az (tK G) hr ae (aA (ag (ag (pv 0) rfl) rfl) (aA (az (tG G) hr ae (aA (fE du (pv 1) bB (λ_ _=>rfl)) aH)) aH)))) (aD (bb (i:=3) nd (cp (aA (cF dC (by rfl) G.gR bP (aA (pv 2) aH)) aH))) (aD (fW jC rfl (dQ (pv 2)) (d7 (i:=4) nd) (aL (ax (fZ aR cU cV iY (pv 3) (aA (lN qZ (by rfl) G.Br BV (aA (pv 4) aH)) aH))))) (aL (bE (pv 3))))),?_⟩;have ko:jw c E Q H d (dA (if d6 u=false then .error (-11)else .ok (sD st.rules u)) λl=>.ok (st,l)):=ko;obtain⟨dd,hd⟩:=D.ins;obtain⟨db,hb⟩:=D.bk.ins;refine⟨_,rfl,d,c.CD,dd,_,_,rfl,hd,G.iX,G.gQ,nS,b,c.CB,db,_,_,rfl,hb,G.eV,G.dH,fG,_,rfl,r,_,0,_,rfl,rfl,bf.of hr0,rfl,a,u,rfl,ha,hu,?_⟩;cases q:d6 u with
 |false=>rw[iP q]at ko;exact ko 0
 |true=>
  rw[iN (by rw[q];simp)]at ko;have ko:jw c E Q H d (.ok (st,sD st.rules u)):=ko;rw[N9]at ko;intro H0 s0;refine⟨sl,st.rules,F,u,rfl,D.bk.ET.same s0,D.ln,hu,λka H1 hK s1'=>?_⟩;have s1:bA H H1:=λy o z=>s1' _ _ (s0 _ _ z);have vl:=mz st.rules u;have ln:=D.ln;have ko:jw c E Q H d (.ok (st,ofNat (ij st.rules u).length::(ij st.rules u).flatMap aAe)):=ko;generalize ij st.rules u=ks at ko hK vl;obtain⟨as,hka,al⟩:=hK;have hlen:=al.len;refine⟨_,rfl,ka,_,rfl,.inl (bf.of hka),kh,λt nt=>?_⟩;have nt0:=aCf s1 nt;have st1:=aCb (o:=.lst [V.int ((as.map V.ref).length:Nat)]) nt;refine⟨_,rfl,ka,rfl,⟨_,bf.of (st1 _ _ hka)⟩,fH (xs:=as.map V.ref) (aEr d r ka H1 ks t) ⟨none,rfl,st1,by rw[aC,aB,hlen];rfl⟩ ?_ ?_ ?_⟩
  ·rintro i σ H' hi ⟨_,_,sm,_⟩;exact bf.of (sm _ _ hka)
  ·rintro i y σ H2 hy ⟨v4,rfl,sm,ht2⟩;rw[aP]at hy;cases hq:as[i]? with
   |none=>rw[hq]at hy;cases hy
   |some ta=>
    rw[hq]at hy;have e:y=V.ref ta:=(aV hy).symm;subst e;obtain⟨kp,hkp,hT⟩:=al.at' hq;have hT:H1 ta=some (.tup [iV kp.1,iV kp.2]):=hT;have kl:=LG (ks.take i);rw[cB]at kl;refine⟨_,rfl,.inl ⟨rfl,_,bf.of ht2⟩,_,rfl,ta,_,rfl,.inr (qU.of (sm _ _ hT)),λe ne=>?_⟩;refine⟨t,e,_,_,rfl,rfl,aCb ne _ _ ht2,aC,?_,_,rfl,λy o z=>?_,?_⟩
    ·rw[aB,aG];exact Rv.sl (by show _+2<=100000;omega)
    ·rw[aJ (aK z nt)];exact aCb ne _ _ (sm _ _ z)
    ·rw[aC,cy hkp,eN];simp[aAe];exact⟨rfl,rfl⟩
  ·rintro σ H2 ⟨v4,rfl,sm,ht2⟩;rw[aB,hlen,cD]at ht2;refine⟨_,rfl,jo ⟨F,b,sl,pl,gd,cv,D⟩ ko ?_ nt0 ht2 λy o z=>sm _ _ (s1 _ _ z)⟩;rw[aG,LG];omega
end
end Rv
namespace Rv
open Vamrqe (State)
def Xs(n:Int):List aM->Option hU:=
 if n=0 then oU .rules else if n=1 then oU .fault else if n=2 then EO .show else if n=3 then oU .form else if n=4 then Ng .same else if n=5 then oU .members else if n=6 then Ng .matches_ else if n=7 then oU .begin
 else if n=8 then oU .edit else if n=9 then oU .approve else if n=10 then oU .veto else if n=11 then oU .withdraw else if n=12 then EO .status else if n=13 then EO .verdict else if n=14 then EO .missing else if n=15 then oU .told else λ_=>none
section
variable{c:Cn}
theorem NI(G:aCe c)(h:Xs n us=some k):∃x,x9 n=some x/\i7 c x 14 ["desk","rows"] (gg c (Xs n)):=by
 by_cases q:n=0
 ·subst q;exact⟨_,rfl,Bw G⟩
 by_cases q:n=1
 ·subst q;exact⟨_,rfl,Bv G⟩
 by_cases q:n=2
 ·subst q;exact⟨_,rfl,ED G⟩
 by_cases q:n=3
 ·subst q;exact⟨_,rfl,EB G⟩
 by_cases q:n=4
 ·subst q;exact⟨_,rfl,EC G⟩
 by_cases q:n=5
 ·subst q;exact⟨_,rfl,zG G⟩
 by_cases q:n=6
 ·subst q;exact⟨_,rfl,zF G⟩
 by_cases q:n=7
 ·subst q;exact⟨_,rfl,Bu G⟩
 by_cases q:n=8
 ·subst q;exact⟨_,rfl,EA G⟩
 by_cases q:n=9
 ·subst q;exact⟨_,rfl,zE G⟩
 by_cases q:n=10
 ·subst q;exact⟨_,rfl,EF G⟩
 by_cases q:n=11
 ·subst q;exact⟨_,rfl,xk G⟩
 by_cases q:n=12
 ·subst q;exact⟨_,rfl,BC G⟩
 by_cases q:n=13
 ·subst q;exact⟨_,rfl,zI G⟩
 by_cases q:n=14
 ·subst q;exact⟨_,rfl,zH G⟩
 by_cases q:n=15
 ·subst q;exact⟨_,rfl,EE G⟩
 exfalso;unfold Xs at h;simp_all
def Dy(s:State)(k:hU):List Int:=Y7 (mH s k).2
inductive XB(c:Cn)(vs:List V)(H:Hp)(Q:VK)(E_:XK):Prop
 |mk:∀d n r us s k,vs=[.ref d,.int n,.ref r]->Dk c H d s->Vw H r us->Xs n us=some k->(∀u∈us,u.length<=2000)->(∀a H',H a=none->H' a=some (.lst ((Dy s k).map V.int))->(Dy s k).length<=35000->Dk c H' d (mH s k).1->Ls H H'->Q (.ref a) H')->XB c vs H Q E_
theorem BB(G:aCe c):i7 c "answer_call" 15 ["desk","number","rows"] (XB c):=by
 obtain⟨_,_,_,atR,_,_,_,_,t1,t2,t3⟩:=G.base;obtain⟨ca,kvs,hm,T,tab⟩:=G.Mc;refine G.vW.gG (N:=["desk","number","rows","refusal"]) (k:=14) (λH vs Q E nd hr h=>?_);obtain⟨d,n,r,us,st,k,rfl,D,R,hcl,hl,ko⟩:=h;obtain⟨x,hx,g,fd,mgx,kp,bd,ok⟩:=NI G hcl;obtain⟨g',hlook,mgx'⟩:=tab n x hx;have eg:g'=g:=by rw[mgx]at mgx';injection mgx' with mgx';injection mgx' with mgx';exact mgx'.symm
 subst eg
 refine⟨_,aL (R1 (i:=3) (E':=λv o H'=>∃C dx z p,v=.ref C/\o=some dx/\Xl c C/\H' dx=some (.xd (nf z p))/\bA H H'/\j4 st k=.error (-z)) qY nd rfl rfl (by rfl) atR t1 t2 t3 (λC o H' ⟨C',dx,_,_,e1,e2,rf,_⟩=>⟨C',dx,e1,e2,rf.sub⟩) (λpn xe hp=>aL (bE (RO (CX:=xQ c.P c.w) (k:=14) (spOf:=λy=>if y=g' then some (gg c (Xs n))else none) (MX (by rfl) hm T (pv 1) (λ_ _=>rfl)) (λy sp e=>by
    by_cases q:y=g'
    ·subst q;rw[iP rfl]at e;cases e;exact⟨kp,fd,_,ok,bd⟩
    ·rw[iN q]at e;cases e) hr hp (aA (pv 0) (aA (pv 2) aH)))))
   (λa=>aL (bE (cp (aA (wG pT (RU (pv 3) rfl)) aH))))),?_⟩
 have hs:mH st k=match j4 st k with
  |.ok x=>(x.1,.told x.2)
  |.error n=>(st,.refused n):=rfl
 unfold Dy at ko;refine⟨⟨_,rfl,n,_,.ref g',rfl,hlook,rfl,g',_,rfl,iP rfl,_,rfl,_,rfl,d,r,us,st,k,rfl,D,R,hcl,hl,?_⟩,λC dx x tv H1 σ' hE nx hσ=>?_⟩
 ·cases eo:j4 st k with
  |ok x=>rw[eo]at hs;rw[hs]at ko;exact λa H' na e hl D' ls=>ko a H' na e hl D' ls
  |error e=>exact λp C dx H' rf hx kp=>⟨C,dx,_,_,rfl,rfl,rf,hx,kp.same,by rw[Int.neg_neg]⟩
 ·obtain⟨C',dx',z,p,e1,e2,rf,hx,s1,eo⟩:=hE;cases e1;cases e2;rw[eo]at hs;rw[hs]at ko
  match σ',hσ with
  |[x0,x1,x2,x3],_=>
   have hx2:(aCc H1 x (XO x C (some dx) tv)) dx=some (.xd (nf z p)):=by rw[aJ (aK hx nx)];exact hx
   have s2:bA H (aCc H1 x (XO x C (some dx) tv)):=λy o z=>aCb nx _ _ (s1 _ _ z);refine⟨_,rfl,x,C,dx,tv,_,_,rfl,aC,hx2,rf.cl,rf.n1,FI,_,rfl,kh,λq hq=>?_⟩;exact ko q _ (aCf s2 hq) (by rw[aC];rfl) (by show 1<=35000;decide) (D.same λy o z=>aCb hq _ _ (s2 _ _ z)) (Ls.of λy o z=>aCb hq _ _ (s2 _ _ z))
end
theorem aBc(h:(t.all λz=>gM z 8)=true):iL t=some (t.map Int.toNat)/\(t.map Int.toNat).map iV=t.map V.int:=by
 have hz:∀z∈t,0<=z/\z<256:=λz hz=>by
  have:=dZ.mp h z hz
  unfold gM at this;rw[bG]at this;have h1:=of_decide_eq_true this.1;have h2:=of_decide_eq_true this.2;exact⟨h1,h2⟩
 constructor
 ·unfold iL;rw[iP];unfold NeutralIO.bytes;rw[dZ];intro z q;obtain⟨h1,h2⟩:=hz z q;rw[bG];exact⟨dE h1,dE (by omega)⟩
 ·rw[bN];apply i9;intro z q;show V.int ((z.toNat:Nat):Int)=V.int z;rw[OY (hz z q).1]
def HZ(t:List Int)(u:aM):Prop:=u.map iV=t.map V.int/\u.length=t.length
theorem Rk(h:((t.all λz=>gM z 8)&&decide (t.length<=n))=true)(hn:n<=2000):∃u,iL t=some u/\HZ t u/\u.length<=2000:=by
 rw[bG]at h;obtain⟨h1,h2⟩:=aBc h.1
 have:=of_decide_eq_true h.2
 exact⟨_,h1,⟨h2,aB _⟩,by rw[aB];omega⟩
theorem aCv{α:Type}{P Q:Prop}[Decidable P]{a e x:α}(k:e=x->Q)(h:(if P then a else e)=x):P\/Q:=by
 by_cases q:P
 ·exact .inl q
 ·rw[iN q]at h;exact .inr (k h)
theorem aC2{α:Type}{P:Prop}[Decidable P]{a x:α}(h:(if P then some a else none)=some x):P:=by
 by_cases q:P
 ·exact q
 ·rw[iN q]at h;cases h
theorem aCy(h:dR p=some n):p=0\/p=1\/p=2\/p=3\/p=4\/p=5\/p=6\/p=7\/p=8\/p=9\/p=10\/p=11\/p=12\/p=13\/p=14\/p=15:=
 aCv (aCv (aCv (aCv (aCv (aCv (aCv (aCv (aCv (aCv (aCv (aCv (aCv (aCv (aCv aC2)))))))))))))) h
theorem Jx(hs:dR p=some n)(h:jB ([p]::ts)=true):∃us k,Al HZ ts us/\Xs p us=some k/\Bo ([p]::ts)=some k/\∀u∈us,u.length<=2000:=by
 have one:∀{t:List Int}{n:Nat}{f:aM->hU},((t.all λz=>gM z 8)&&decide (t.length<=n))=true->n<=2000->∃us k,Al HZ [t] us/\oU f us=some k/\(iL t).map f=some k/\∀u∈us,u.length<=2000:=λ{t n f} h hn=>by obtain⟨u,e,r,l⟩:=Rk h hn;exact⟨[u],f u,.cons r .nil,rfl,by rw[e];rfl,λx hx=>by rw[aQ]at hx;rw[hx];exact l⟩
 have two:∀{t t':List Int}{n:Nat}{f:aM->aM->hU},(((t.all λz=>gM z 8)&&decide (t.length<=n))&&((t'.all λz=>gM z 8)&&decide (t'.length<=n)))=true->n<=2000->∃us k,Al HZ [t,t'] us/\Ng f us=some k/\(match iL t,iL t' with
   |some x,some y=>some (f x y)
   |_,_=>none)=some k/\∀u∈us,u.length<=2000:=λ{t t' n f} h hn=>by
  rw[bG]at h;obtain⟨u,e,r,l⟩:=Rk h.1 hn;obtain⟨u',e',r',l'⟩:=Rk h.2 hn
  exact⟨[u,u'],f u u',.cons r (.cons r' .nil),rfl,by rw[e,e'],λx hx=>by
   simp only[af,cC,or_false]at hx;rcases hx with z|z
   ·rw[z];exact l
   ·rw[z];exact l'⟩
 have nul:∀{k:hU},∃us k',Al HZ [] us/\EO k us=some k'/\some k=some k'/\∀u∈us,u.length<=2000:=λ{k}=>⟨[],k,.nil,rfl,rfl,λu hu=>by cases hu⟩;rcases aCy hs with rfl|rfl|rfl|rfl|rfl|rfl|rfl|rfl|rfl|rfl|rfl|rfl|rfl|rfl|rfl|rfl
 all_goals
  rcases ts with _|⟨t,_|⟨u,_|⟨v,r⟩⟩⟩
  all_goals first|exact(bD h).elim|exact nul|exact one h (by decide)|exact two h (by decide)
end Rv
namespace Rv
open Vamrqe (State)
theorem ite_fst{P:Prop}[Decidable P]{k m n:Nat}{e:Option (Nat×Nat)}(hk:k<=2)(he:e=some (n,m)->n=0/\m<=2)(h:(if P then some (0,k)else e)=some (n,m)):n=0/\m<=2:=by
 by_cases q:P
 ·rw[iP q]at h;cases h;exact⟨rfl,hk⟩
 ·rw[iN q]at h;exact he h
theorem Rt(h:dR p=some (n,m)):n=0/\m<=2:=by
 unfold dR at h
 iterate 16
  revert h;refine ite_fst (by decide) λh=>?_
 cases h
theorem KG(h:fh dR f (p::r)=some cs):∃f' m ts t cs',dR p=some (0,m)/\kU m r=some (ts,t)/\fh dR f' t=some cs'/\cs=([p]::ts)::cs':=by
 cases f with
 |zero=>rw[fh]at h;cases h
 |succ f=>
  rw[fh,PyFlat.call]at h;cases es:dR p with
  |none=>rw[es]at h;cases h
  |some nm=>
   obtain⟨n,m⟩:=nm;have hn:=(Rt es).1;subst hn;rw[es]at h;dsimp only at h;rw[iN (by omega),vM,o8]at h;cases er:kU m r with
   |none=>rw[er]at h;cases h
   |some x=>
    obtain⟨ts,t⟩:=x;rw[er]at h;dsimp only at h;cases ec:fh dR f t with
    |none=>rw[ec]at h;cases h
    |some cs'=>rw[ec]at h;exact⟨f,m,ts,t,cs',rfl,er,ec,(aV h).symm⟩
theorem Ni(h:kU (k+1) r=some (ts,t)):∃(n:Nat)(r':List Int)(ts':List (List Int)),r=(n:Int)::r'/\n<=r'.length/\kU k (r'.drop n)=some (ts',t)/\ts=r'.take n::ts':=by
 rw[kU]at h;cases r with
 |nil=>rw[Xk]at h;cases h
 |cons z r'=>
  rw[Xk]at h;by_cases q:0<=z/\z.toNat<=r'.length
  ·rw[iP q]at h;dsimp only at h;cases er:kU k (r'.drop z.toNat)with
   |none=>rw[er]at h;cases h
   |some x=>obtain⟨ts',t'⟩:=x;rw[er]at h;have h:=aV h;injection h with h1 h2;subst h1 h2;exact⟨z.toNat,r',ts',by rw[OY q.1],q.2,er,rfl⟩
  ·rw[iN q]at h;cases h
theorem aC7(hs:dR p=some n):sO ([p]::ts)=[p]::ts:=by
 rcases aCy hs with rfl|rfl|rfl|rfl|rfl|rfl|rfl|rfl|rfl|rfl|rfl|rfl|rfl|rfl|rfl|rfl
 all_goals
  rcases ts with _|⟨t,_|⟨u,_|⟨v,r⟩⟩⟩
  all_goals rfl
theorem aCw:∀(cs:List (List (List Int)))(f:Nat)(l:List Int),fh dR f l=some cs->cs.map sO=cs
 |[],_,_,_=>rfl
 |c::cs,f,[],h=>by rw[fh]at h;cases h
 |c::cs,f,p::r,h=>by obtain⟨f',m,ts,t,cs',hs,_,hc,e⟩:=KG h;injection e with e1 e2;subst e1 e2;rw[bO,aC7 hs,aCw _ _ _ hc]
theorem NN(xs:List V)(h:b+n<=xs.length):CF xs (some (b:Int)) (some ((b+n:Nat):Int))=(xs.drop b).take n:=by unfold CF;rw[HT.qw,HT.qw,kX h,kX (show b<=xs.length by omega),rm]
theorem drop_cons{α:Type}{xs r:List α}{z:α}{i:Nat}(h:xs.drop i=z::r):i<xs.length/\xs[i]?=some z/\xs.drop (i+1)=r:=by
 have hi:i<xs.length:=by
  rcases Aq i xs.length with q|q
  ·exact q
  ·rw[jE q]at h;cases h
 rw[b3 hi]at h;injection h with h1 h2;exact⟨hi,by rw[aX hi,h1],h2⟩
section
variable{c:Cn}{F:aF->Prop}{H H':Hp}{d b sl pl gd t a:aF}{cv:V}{s:State}{o:Obj}{u ys:List V}
theorem Dk.free(D:Dk c H d s)(ht:H t=some (.k9 o (.lst u)))(k:Kp [t] H H'):Dk c H' d s:=by
 obtain⟨F,b,sl,pl,gd,cv,D⟩:=D;have ne:∀{y:aF}{v:HO},H y=some v->(∀o' u',v≠.k9 o' u')->y∉[t]:=λ{y v} hy n z=>by rw[aQ]at z;subst z;rw[hy]at ht;exact n _ _ (aV ht)
 obtain⟨dd,hd⟩:=D.ins;obtain⟨db,hb⟩:=D.bk.ins;obtain⟨kvs,hg,_⟩:=D.bk.GP;refine⟨F,b,sl,pl,gd,cv,⟨dd,k _ _ hd (ne hd (by intro _ _ z;cases z))⟩,D.bk.off k (λy hy=>?_) (ne hb (by intro _ _ z;cases z)) (ne hg (by intro _ _ z;cases z)),D.ok,D.nm,D.sz,D.ln,?_⟩
 ·rw[aQ]at hy;subst hy;exact⟨λxs z=>(by rw[ht]at z;cases z),λC d' fs z=>(by rw[ht]at z;cases z)⟩
 ·have hc:=D.ch;cases e:s.change with
  |none=>rw[e]at hc;exact hc
  |some ch=>rw[e]at hc;obtain⟨x,pd,ad,vd,e1,C,hpd,O⟩:=hc;obtain⟨dx,hx⟩:=C.ins;have np:=ne hpd (by intro _ _ z;cases z);exact⟨x,pd,ad,vd,e1,C.kp hpd k (ne hx (by intro _ _ z;cases z)) np (ne C.app (by intro _ _ z;cases z)) (ne C.J2 (by intro _ _ z;cases z)),k _ _ hpd np,O⟩
def Arg(c:Cn)(H:Hp)(a t:aF)(ys:List V):Prop:=(a≠t/\Rd H a (.lst ys))\/∀H',bf c.K H' a ys
theorem Arg.sq(h:Arg c H a t ys):bf c.K H a ys:=by
 rcases h with h|h
 ·exact .inl h.2
 ·exact h H
theorem Arg.kp(h:Arg c H a t ys)(k:Kp [t] H H'):Arg c H' a t ys:=by
 rcases h with⟨n,h|⟨o,h⟩⟩|h
 ·exact .inl ⟨n,.inl (k _ _ h (by simpa using n))⟩
 ·exact .inl ⟨n,.inr ⟨o,k _ _ h (by simpa using n)⟩⟩
 ·exact .inr h
theorem Arg.ls(h:Arg c H a t ys)(l:Ls H H'):Arg c H' a t ys:=by
 rcases h with⟨n,h|⟨o,h⟩⟩|h
 ·exact .inl ⟨n,.inl (l.1 _ _ h)⟩
 ·exact .inl ⟨n,.inr ⟨o,l.2 _ _ _ h⟩⟩
 ·exact .inr h
theorem Rp(s:bA H H'):bA (aCc H t v) (aCc H' t v):=λy o z=>by
 by_cases q:y=t
 ·subst q;rw[aC]at z ⊢;exact z
 ·rw[aJ q]at z ⊢;exact s _ _ z
theorem Al.comp{α β γ:Type}{R:α->β->Prop}{S:β->γ->Prop}{W:α->γ->Prop}(hw:∀a b g,R a b->S b g->W a g):∀{l:List α}{m:List β}{n:List γ},Al R l m->Al S m n->Al W l n
 |_,_,_,.nil,.nil=>.nil
 |_,_,_,.cons p q,.cons p' q'=>.cons (hw _ _ _ p p') (Al.comp hw q q')
end
end Rv
namespace Rv
open Vamrqe (State)
theorem aA2(h:n<=14500000):n<=aj:=by rw[ic];omega
theorem Ya(h:n<=14500000):n<aj:=by rw[ic];omega
def ye(s:State)(cs:List (List (List Int))):List Int:=Vu (Td sE s cs)
theorem Nd(h:Bo p=some k):ye s (p::cs)=((Dy s k).length:Int)::Dy s k++ye (mH s k).1 cs:=by
 have hs:sE s p=((mH s k).1,Dy s k):=by unfold sE Dy;rw[h]
 unfold ye;rw[Td,hs];unfold Vu;rw[gE]
section
variable{c:Cn}
inductive FZ(K:aU)(vs:List V)(H:Hp)(Q:VK)(E_:XK):Prop
 |mk:∀(a:aF)(xs:List Int)(f:Nat)(cs:List (List (List Int))),vs=[.ref a]->bf K H a (xs.map V.int)->xs.length<=87000->fh dR f xs=some cs->cs.all jB=true->cs.length<=400->(∀(H':Hp)(p:aF),H' p=some (.lst ((ye mq cs).map V.int))->Q (.ref p) H')->FZ K vs H Q E_
inductive IvW(c:Cn)(xs:List Int)(a d t:aF)(cs0:List (List (List Int)))(m:Nat)(σ:L2.St)(H':Hp):Prop
 |mk:∀(q:Nat)(v4 v5 v6 v7:Option V)(W:List Int)(s:State)(f:Nat)(cs:List (List (List Int)))(dn:Nat),m=xs.length - q->q<=xs.length->σ=[some (.ref a),some (.ref d),some (.ref t),some (.int (q:Nat)),v4,v5,v6,v7]->Arg c H' a t (xs.map V.int)->H' t=some (.lst (W.map V.int))->(∀o u,Dk c (aCc H' t (.k9 o (.lst u))) d s)->fh dR f (xs.drop q)=some cs->cs.all jB=true->dn+cs.length<=400->W.length<=35001*dn->W++ye s cs=ye mq cs0->IvW c xs a d t cs0 m σ H'
inductive IvN(c:Cn)(xs:List Int)(a d t:aF)(cs0:List (List (List Int)))(q:Nat)(n:Int)(f' dn:Nat)(cs':List (List (List Int)))(s:State)(σ':L2.St)(H':Hp):Prop
 |mk:∀(q':Nat)(v6 v7:Option V)(W':List Int)(rw_:aF),q<q'->q'<=xs.length->σ'=[some (.ref a),some (.ref d),some (.ref t),some (.int (q':Nat)),some (.int n),some (.ref rw_),v6,v7]->Arg c H' a t (xs.map V.int)->H' t=some (.lst (W'.map V.int))->(∀o u,Dk c (aCc H' t (.k9 o (.lst u))) d s)->fh dR f' (xs.drop q')=some cs'->W'.length<=35001*(dn+1)->W'++ye s cs'=ye mq cs0->IvN c xs a d t cs0 q n f' dn cs' s σ' H'
inductive IvR(xs tl:List Int)(ts:List (List Int))(a d t rw_:aF)(q:Nat)(n:Int)(mm:Nat)(v7:Option V)(H2:Hp)(m2:Nat)(σ:L2.St)(H':Hp):Prop
 |mk:∀(q':Nat)(v6:Option V)(done ts':List (List Int))(as:List aF),m2=mm - done.length->q<q'->q'<=xs.length->σ=[some (.ref a),some (.ref d),some (.ref t),some (.int (q':Nat)),some (.int n),some (.ref rw_),v6,v7]->bA H2 H'->H' rw_=some (.lst (as.map V.ref))->Al (λy z=>H' y=some (.lst (z.map V.int))/\y≠t/\y≠rw_) as done->done.length<=mm->kU (mm - done.length) (xs.drop q')=some (ts',tl)->done++ts'=ts->IvR xs tl ts a d t rw_ q n mm v7 H2 m2 σ H'
inductive IvY(a d t rw_:aF)(q':Nat)(n:Int)(l:Nat)(v7:Option V)(as:List aF)(r':List Int)(H3:Hp)(σ':L2.St)(H':Hp):Prop
 |mk:∀y:aF,y≠t->H3 y=none->σ'=[some (.ref a),some (.ref d),some (.ref t),some (.int ((q'+1+l:Nat):Int)),some (.int n),some (.ref rw_),some (.int ((q'+1:Nat):Int)),v7]->H'=aCc (aCc H3 y (.lst ((r'.take l).map V.int))) rw_ (.lst ((as++[y]).map V.ref))->IvY a d t rw_ q' n l v7 as r' H3 σ' H'
theorem Kj(G:aCe c)(FF:Gz c.K "answers" "answers" (top 165) fa fd):c.ok 16 fa fd ["calls"] (FZ c.K):=by
 obtain⟨ra,kvs,hm,T,tab⟩:=G.Sb;have S:kD ["calls","desk","told","place","number","rows","begin","answer"] ["calls"] (dS (top 165)):=⟨rfl,rfl,rfl,by trivial,rfl,by trivial,by trivial⟩;have nd:=S.nd;refine FF.Yu (k:=15) S (λ_ _ _ _ h=>by obtain⟨a,xs,f,cs,rfl,_⟩:=h;rfl) (λcdv A outer s H vs Q E hr h=>?_);obtain⟨a,xs,f0,cs0,rfl,ha,hxl,hcs0,has0,hcl0,kq⟩:=h;refine⟨_,aD (bb (i:=1) nd (DG (PY G) hr ae)) (aD (bb (i:=2) nd (cp aH)) (aD (bb (i:=3) nd bB) (aD (jY jC (bU Cz (pv 3) (cF dC (by rfl) G.gR bP (aA (pv 0) aH)) (bt _)) (aD (bb (i:=4) nd (fE du (pv 0) (pv 3) (λ_ _=>rfl))) (aD (DI (i:=3) nd rfl (zx rfl) bB Cd) (aD (bb (i:=5) nd (cp aH)) (aD (jY jC (bU Cz (cF dC (by rfl) G.gR bP (aA (pv 5) aH)) (MX (by rfl) hm T (pv 4) (λ_ _=>rfl)) (bt _)) (aD (bb (i:=6) nd (eM wm (pv 3) bB)) (aD (bb (i:=3) nd (eM wm (pv 6) (fE du (pv 0) (pv 3) (λ_ _=>rfl)))) (aL (ax (fZ aR ak ao dU (pv 5) (aA (ly B7 (pv 0) (jc (pv 6)) (jc (pv 3))) aH))))))) (aD (yd (bb (i:=7) nd (az (BB G) hr ae (aA (pv 1) (aA (pv 4) (aA (pv 5) aH)))))) (aD (ax (fZ aR ak ao dU (pv 2) (aA (cF dC (by rfl) G.gR bP (aA (pv 7) aH)) aH))) (aL (ax (fZ aR cU cV iY (pv 2) (aA (pv 7) aH))))))))))) (aL (bE (pv 2)))))),?_⟩;intro d dd nd0 ndd ne;refine⟨d,dd,rfl,aC,λb sl pl gd F H1 hd B kp1=>⟨rfl,?_⟩⟩;have s1:bA H H1:=λy o q=>kp1 y o (by rw[aJ (aK q nd0),aJ (aK q ndd)];exact q) (by simp[aK q nd0]);have D1:Dk c H1 d mq:=⟨F,b,sl,pl,gd,.fB,⟨dd,hd⟩,B,Ss,⟨(λn hn=>by cases hn),(λg hg=>by cases hg)⟩,by decide,by decide,rfl⟩;refine⟨bR _,λt nt=>?_⟩;have st:=aCb (o:=.lst []) nt;have arg:Arg c (aCc H1 t (.lst [])) a t (xs.map V.int):=by
  rcases ha with(h|⟨o,h⟩)|h
  ·exact .inl ⟨aK (s1 _ _ h) nt,.inl (st _ _ (s1 _ _ h))⟩
  ·exact .inl ⟨aK (s1 _ _ h) nt,.inr ⟨o,st _ _ (s1 _ _ h)⟩⟩
  ·exact .inr λH'=>.inr h
 refine⟨IvW c xs a d t cs0,⟨xs.length,0,none,none,none,none,[],mq,f0,cs0,0,rfl,bR _,rfl,arg,aC,λo u=>D1.same λy v z=>?_,hcs0,has0,by omega,by simp,rfl⟩,?_⟩
 ·rw[aJ (aK z nt),aJ (aK z nt)];exact z
 rintro m σ H2 ⟨q,v4,v5,v6,v7,W,st,f,cs,dn,rfl,hq,rfl,arg,hW,DL,hcs,has,hdn,hWl,hall⟩;refine⟨_,rfl,_,rfl,a,_,rfl,.inl arg.sq,_,_,rfl,rfl,_,rfl,?_⟩;rw[aB];rcases Aq q xs.length with lt|ge
 ·rw[dE (show(q:Int)<(xs.length:Int)by omega)];have hdr:=b3 lt;rw[hdr]at hcs;obtain⟨f',mm,ts,tl,cs',hsh,hrw,hcs',rfl⟩:=KG hcs;have hxq:(xs.map V.int)[q]?=some (V.int xs[q]):=by rw[aP,aX lt];rfl
  generalize xs[q]=n at hsh hxq hall has hdr;rw[g6,bG]at has;obtain⟨us,k,alr,hcl,hco,hus⟩:=Jx hsh has.1;obtain⟨uv,hlook,huv⟩:=tab n 0 mm hsh;refine bq ⟨IvN c xs a d t cs0 q n f' dn cs' (mH st k).1,?_,?_⟩
  ·rintro σ' H' ⟨q',v6,v7,W',rw_,h1,h2,rfl,h4,h5,h6,h7,h8,h9⟩;rw[aG]at hdn;exact⟨xs.length - q',by omega,q',_,_,v6,v7,W',_,f',cs',dn+1,rfl,h2,rfl,h4,h5,h6,h7,has.2,by omega,h8,h9⟩
  ·refine⟨_,rfl,_,rfl,a,_,_,_,rfl,rfl,arg.sq,eE hxq,?_⟩;refine⟨_,rfl,_,_,rfl,rfl,bR _,λrw_ nrw=>?_⟩;have srw:=aCb (o:=.lst []) nrw;have ntr:rw_≠t:=(aK hW nrw).symm;refine⟨IvR xs tl ts a d t rw_ q n mm v7 H2,⟨mm,q+1,v6,[],ts,[],rfl,by omega,by omega,rfl,srw,aC,.nil,bR _,?_,rfl⟩,?_⟩
   ·exact hrw
   ·rintro m2 σ H3 ⟨q',w6,done,ts',as,rfl,hqq,hq',rfl,s3,hr3,al3,K1,hrr,hdone⟩;have hal:=al3.len;refine⟨_,rfl,rw_,_,rfl,.inl (bf.of hr3),_,rfl,n,_,.int (mm:Nat),rfl,hlook,huv,_,_,rfl,rfl,_,rfl,?_⟩;rw[aB,hal];rcases Aq done.length mm with lt2|ge2
    ·rw[dE (show(done.length:Int)<(mm:Int)by omega)];obtain⟨j,hj⟩:∃j,mm - done.length=j+1:=⟨mm - done.length - 1,by omega⟩;rw[hj]at hrr;obtain⟨l,r',ts2,e1,hlr,hrr2,rfl⟩:=Ni hrr;obtain⟨lq,hxq',hdr'⟩:=drop_cons e1;have hxq2:(xs.map V.int)[q']?=some (V.int (l:Int)):=by rw[aP,hxq'];rfl
     have hrl:r'.length=xs.length - (q'+1):=by rw[<-hdr',ay]
     have arg3:=(arg.kp (bA.kp s3));refine bq ⟨IvY a d t rw_ q' n l v7 as r' H3,?_,?_⟩
     ·rintro σ' H' ⟨y,nyt,ny,rfl,rfl⟩;have sy:=aCb (o:=.lst ((r'.take l).map V.int)) ny;have nyr:y≠rw_:=(aK hr3 ny).symm;refine⟨mm - (done++[r'.take l]).length,by rw[aN,c4];omega,q'+1+l,_,done++[r'.take l],ts2,as++[y],rfl,by omega,by omega,rfl,λx o z=>?_,aC,Al.app (al3.mono λx z h=>⟨?_,h.2⟩) (Al.one ⟨?_,nyt,nyr⟩),by rw[aN,c4];omega,?_,by rw[bV];exact hdone⟩
      ·rw[aJ (aK z nrw)];exact sy _ _ (s3 _ _ z)
      ·rw[aJ h.2.2];exact sy _ _ h.1
      ·rw[aJ nyr,aC]
      ·rw[aN,c4,show mm - (done.length+1)=j by omega,<-hrr2,<-hdr',lA]
     ·refine⟨_,rfl,_,_,rfl,rfl,?_⟩;refine⟨_,rfl,_,rfl,_,rfl,a,_,_,_,rfl,rfl,arg3.sq,eE hxq2,_,_,rfl,rfl,?_⟩;have hcut:CF (xs.map V.int) (some ((q':Int)+1)) (some ((q':Int)+1+(l:Int)))=(r'.take l).map V.int:=by
       have:=NN (xs.map V.int) (b:=q'+1) (n:=l) (by rw[aB];omega)
       rw[<-xR,hdr',<-List.map_take]at this;exact this
      refine⟨_,rfl,.inl ⟨rfl,_,bf.of hr3⟩,_,rfl,_,rfl,_,rfl,_,rfl,_,rfl,a,_,rfl,arg3.sq,λy ny=>?_⟩;refine⟨rw_,_,_,rfl,rfl,aCb ny _ _ hr3,by rw[aB,hal];have:=(Rt hsh).2;exact Rv.pG (by omega),y,(aK (s3 _ _ hW) ny).symm,ny,rfl,?_⟩;rw[<-hcut,aw];rfl
    ·rw[dF (show ¬(done.length:Int)<(mm:Int)by omega)];have hz:mm - done.length=0:=by omega
     rw[hz,kU]at hrr;have hrr:=aV hrr;injection hrr with z1 z2;subst z1;rw[bg]at hdone;subst hdone;refine bW ?_;have hW3:=s3 _ _ hW;refine⟨t,_,hW3,trivial,λod=>?_⟩;have nrt:rw_≠t:=ntr;have Tr:Arg c (aCc H3 t (.k9 od (.lst (W.map V.int)))) a t (xs.map V.int):=(arg.kp (bA.kp s3)).kp (Kp.put (by simp));have DL3:Dk c (aCc H3 t (.k9 od (.lst (W.map V.int)))) d st:=(DL od _).same (Rp s3);have RL:Vw (aCc H3 t (.k9 od (.lst (W.map V.int)))) rw_ us:=⟨as,by rw[aJ nrt];exact hr3,Al.comp (λy z u h g=>by rw[aJ h.2.1,h.1,g.1]) al3 alr⟩;have htL:aCc H3 t (.k9 od (.lst (W.map V.int))) t=some (.k9 od (.lst (W.map V.int))):=aC;generalize aCc H3 t (.k9 od (.lst (W.map V.int)))=HL at Tr DL3 RL htL;refine⟨_,rfl,_,rfl,_,rfl,d,n,rw_,us,st,k,rfl,DL3,RL,hcl,hus,λp H4 np h4 h35 D4 ls=>?_⟩;have ht4:=ls.2 _ _ _ htL;have npt:p≠t:=(aK htL np).symm;rw[aG]at hdn;have dn4:dn<=399:=by omega
     refine⟨ht4,?_⟩;refine⟨_,rfl,.inl ⟨rfl,_,bf.of aC⟩,_,rfl,p,_,rfl,.inl (bf.of (by rw[aJ npt];exact h4)),?_⟩;rw[aB];refine⟨t,_,_,rfl,rfl,aC,by rw[aB];exact Ya (by omega),?_⟩;refine⟨_,rfl,.inl ⟨rfl,_,bf.of aC⟩,_,rfl,t,p,_,_,rfl,rfl,aC,by rw[aJ npt,aJ npt];exact h4,?_,?_⟩
     ·rw[aN,aB,aB,c4];exact aA2 (by omega)
     have kpf:∀{v:HO},Kp [t] H4 (aCc (aCc (aCc H4 t (.lst (W.map V.int))) t (.lst (W.map V.int++[V.int ((Dy st k).length:Int)]))) t v):=λ{v} y o z ny=>by
      have ny:y≠t:=by simpa using ny
      rw[aJ ny,aJ ny,aJ ny];exact z
     refine⟨q',w6,_,W++(((Dy st k).length:Int)::Dy st k),rw_,hqq,hq',rfl,(Tr.ls ls).kp kpf,?_,λo u=>D4.free ht4 ?_,?_,?_,?_⟩
     ·rw[aC,aw,bV];rfl
     ·exact λy o z ny=>by rw[aJ (by simpa using ny)];exact kpf _ _ z ny
     ·rw[z2];exact hcs'
     ·rw[aN,aG];omega
     ·rw[<-hall,Nd hco,bV]
 ·refine aDw (show ¬(q:Int)<(xs.length:Int)by omega) ⟨_,rfl,kq _ _ ?_⟩;rw[jE ge]at hcs
  have:cs=[]:=by
   cases f with
   |zero=>rw[fh]at hcs;exact(aV hcs).symm
   |succ f=>rw[fh]at hcs;exact(aV hcs).symm
  subst this;rw[<-hall];show _=some (HO.lst ((W++[]).map V.int));rw[bg];exact hW
end
end Rv
namespace Rv
open PySem.W (nsIn isFn codeIn fnOf makesIn plainGet plainOver mroIn specialIn readsIn findCls instIn clsIn Frag)
section
variable{K:Frag}{mg:Str->Option aE}{h:c9}{x q m s:Str}{i j:Nat}{ps:List Str}{f C R fR:aF}{oc kV doc pm cdv ct t:aE}{od an:Option aF}{osl:Array (Option aE)}{o:Obj}{z:Int}{tk:Nat}
def xO(x q:Str)(st:Stmt)(ps:List Str):Prop:=∀(kV doc pm:aE)(an:Option aF)(cdv ct:aE)(us:List aE),us.length=ps.length->bindArgs (fnOf x q (lT st) (jM st) (dS st) .none kV doc pm an cdv ct) ⟨us,[]⟩=pure (ps.zip us)
theorem aEs{α:Type}{us:List α}(h:us.length=1):∃a,us=[a]:=match us,h with
 |[_],_=>⟨_,rfl⟩
theorem aEt{α:Type}{us:List α}(h:us.length=2):∃a b,us=[a,b]:=match us,h with
 |[_,_],_=>⟨_,_,rfl⟩
theorem aEu{α:Type}{us:List α}(h:us.length=3):∃a b c,us=[a,b,c]:=match us,h with
 |[_,_,_],_=>⟨_,_,_,rfl⟩
theorem ul4{α:Type}{us:List α}(h:us.length=4):∃a b c d,us=[a,b,c,d]:=match us,h with
 |[_,_,_,_],_=>⟨_,_,_,_,rfl⟩
theorem ul5{α:Type}{us:List α}(h:us.length=5):∃a b c d e,us=[a,b,c,d,e]:=match us,h with
 |[_,_,_,_,_],_=>⟨_,_,_,_,_,rfl⟩
theorem CN(X:K.In h)(G:h.Ns cK mg)(a:nsIn K cK x=some (some (.ref f)))(l:K.lookup f=some ⟨oc,od,.func (fnOf x x (lT (top i)) (jM (top i)) (dS (top i)) .none kV doc pm an cdv ct),osl⟩)(c:codeIn K cdv x=true)(k:g8 K (.ref f)=true)(b:xO x x (top i) ps):
  ∃f fd,Gz K x x (top i) f fd/\mg x=some (.ref f)/\aCl K fd ps []:=⟨f,_,pO l c k,dM X G a,(pO l c k).binds b⟩
theorem Ki(X:K.In h)(G:h.Ns cK mg)(a:nsIn K cK x=some (some (.ref C)))(fi:c7 K (.ref C) "__init__"=some (some (.ref f)))(n:isFn K (.ref f)=true)
  (l:K.lookup f=some ⟨oc,od,.func (fnOf "__init__" q (lT (aCi (top i) 0)) (jM (aCi (top i) 0)) (dS (aCi (top i) 0)) .none kV doc pm an cdv ct),osl⟩) (c:codeIn K cdv q=true) (k:g8 K (.ref f)=true) (mk:makesIn K C=true) (kc:g8 K (.ref C)=true) (b:xO "__init__" q (aCi (top i) 0) ps):
  ∃f fd,Gz K "__init__" q (aCi (top i) 0) f fd/\mg x=some (.ref C)/\Mk K C f/\aCl K fd ps []:=⟨f,_,pO l c k,dM X G a,⟨mk,fi,n,kc⟩,(pO l c k).binds b⟩
theorem Ke(fi:c7 K (.ref C) m=some (some (.ref f)))(n:isFn K (.ref f)=true)(l:K.lookup f=some ⟨oc,od,.func (fnOf m q (lT (aCi (top i) j)) (jM (aCi (top i) j)) (dS (aCi (top i) j)) .none kV doc pm an cdv ct),osl⟩)
  (c:codeIn K cdv q=true) (k:g8 K (.ref f)=true) (b:xO m q (aCi (top i) j) ps):∃f fd,Gz K m q (aCi (top i) j) f fd/\Meth K C m f/\aCl K fd ps []:=⟨f,_,pO l c k,⟨fi,n,k⟩,(pO l c k).binds b⟩
theorem WO(pg:plainGet K C o9=true)(hd:kY K C=true)(po:plainOver K C=true)(sa:c7 K (.ref C) "__setattr__"=some (some (.builtin "object.__setattr__"))):Fe K C:=⟨pg,hd,po,sa⟩
theorem We(a:c7 K (.ref C) x=some none):dN K C x:=a
theorem str_mk(X:K.In h)(G:h.Ns cK mg)(a:nsIn K cK x=some (some (.str s tk))):∃u,mg x=some u/\aCg (.str s) u:=⟨_,dM X G a,tk,rfl⟩
theorem int_mk(X:K.In h)(G:h.Ns cK mg)(a:nsIn K cK x=some (some (.int z tk))):∃u,mg x=some u/\aCg (.int z) u:=⟨_,dM X G a,tk,rfl⟩
theorem Wy(X:K.In h)(G:h.Ns cK mg)(a:nsIn K cK x=some (some (.ref C))):∃u,mg x=some u/\aCg (.ref C) u:=⟨_,dM X G a,rfl⟩
theorem WH(X:K.In h)(G:h.Ns cK mg)(a:nsIn K cK "Refusal"=some (some (.ref R)))(fi:findCls K (.ref R) (.type "type") "__init__"=some (.val (.ref fR)))
  (l:K.lookup fR=some ⟨oc,od,.func (fnOf "__init__" "Refusal.__init__" (lT (aCi (top 1) 0)) (jM (aCi (top 1) 0)) (dS (aCi (top 1) 0)) .none kV doc pm an cdv ct),osl⟩) (c:codeIn K cdv "Refusal.__init__"=true) (k:g8 K (.ref fR)=true)
  (ga:specialIn K (.ref R) "__getattribute__"=some (some (.builtin "type.__getattribute__"))) (rd:readsIn K R (.type "type")=true) (t1:instIn K (.ref R) (.type "tuple")=some false) {cr:ClassData} (t2:clsIn K R=some cr) (t3:mroIn K R (.type "BaseException")=some true) (b:xO "__init__" "Refusal.__init__" (aCi (top 1) 0) ["self","number","place"]):
  ∃fR fdR,Gz K "__init__" "Refusal.__init__" (aCi (top 1) 0) fR fdR/\mg "Refusal"=some (.ref R)/\aCl K fdR ["self","number","place"] []/\specialIn K (.ref R) "__getattribute__"=some (some (.builtin "type.__getattribute__"))/\readsIn K R (.type "type")=true/\findCls K (.ref R) (.type "type") "__init__"=some (.val (.ref fR))/\
   instIn K (.ref R) (.type "tuple")=some false/\(clsIn K R).isSome=true/\mroIn K R (.type "BaseException")=some true:=⟨fR,_,pO l c k,dM X G a,(pO l c k).binds b,ga,rd,fi,t1,by rw[t2];rfl,t3⟩
theorem QC(eK:c.K=K)(em:c.mg=mg)(eR:c.R=R)(X:K.In h)(G:h.Ns cK mg)(a:nsIn K cK x=some (some (.ref C)))(lo:K.lookup C=some o)(xo:Sy C o=true)(fi:c7 K (.ref C) "__init__"=some (some (.ref f)))(n:isFn K (.ref f)=true)(kc:g8 K (.ref C)=true)
  (l:K.lookup f=some ⟨oc,od,.func (fnOf "__init__" q (lT (aCi (top i) 0)) (jM (aCi (top i) 0)) (dS (aCi (top i) 0)) .none kV doc pm an cdv ct),osl⟩) (cd:codeIn K cdv q=true) (k:g8 K (.ref f)=true)
  (sa:c7 K (.ref C) "__setattr__"=some (some (.builtin "object.__setattr__"))) (hd:kY K C=true) (ga:c7 K (.ref C) "__getattribute__"=some (some (.builtin "BaseException.__getattribute__"))) (gt:c7 K (.ref C) "__getattr__"=some none)
  (n1:c7 K (.ref C) "number"=some none) (n2:c7 K (.ref C) "place"=some none) (sub:mroIn K C (.ref R)=some true) (b:xO "__init__" q (aCi (top i) 0) ps):vL c x q i ps:=by
 subst eK em eR;exact⟨C,f,_,pO l cd k,Xc lo xo fi n kc,dM X G a,⟨Xa lo xo sa hd ga gt,n1,n2,sub⟩,(pO l cd k).binds b⟩
end
end Rv
namespace Rv
open PySem.W (nsIn Frag)
section
variable{K:Frag}{mg:Str->Option aE}{h:c9}{a:aF}{es:Array ei}{ep n:Nat}{its:Array aE}{sl:Array (Option aE)}{xs:List V}
theorem Sl(l:K.lookup a=some ⟨.type "tuple",od,.seq its n,sl⟩)(hz:its.size<=aj)(hv:aCh xs its.toList):∀H,qU K H a xs:=λH=>.inr ⟨_,its,n,l,rfl,rfl,hz,hv⟩
theorem Ib{kvs:List (Int×aE)}{k j:Int}{v:aE}(e:k=j):eB k ((j,v)::kvs)=some v:=by rw[cT,e,beq_self_eq_true]
theorem FC{kvs:List (Int×aE)}{k j:Int}{v:aE}(e:¬k=j):eB k ((j,v)::kvs)=eB k kvs:=by rw[cT,show(k==j)=false from beq_eq_false_iff_ne.mpr e]
def Tg(mg:Str->Option aE)(kvs:List (Int×aE))(F:Int->Option Str):Prop:=∀k x,F k=some x->∃f,kvs.lookup k=some (.ref f)/\mg x=some (.ref f)
theorem Sd:Tg mg [] λ_=>none:=λk x e=>nomatch e
theorem fJ{kvs:List (Int×aE)}{F:Int->Option Str}{j:Int}{x:Str}{f:aF}(hm:mg x=some (.ref f))(T:Tg mg kvs F):Tg mg ((j,.ref f)::kvs) λk=>if k=j then some x else F k:=λk y e=>by
 by_cases q:k=j
 ·have e:(if k=j then some x else F k)=some y:=e;rw[iP q]at e;cases e;exact⟨f,Ib q,hm⟩
 ·have e:(if k=j then some x else F k)=some y:=e;rw[iN q]at e;obtain⟨g,h1,h2⟩:=T k y e;exact⟨g,(FC q).trans h1,h2⟩
theorem PX(X:K.In h)(G:h.Ns cK mg)(e:nsIn K cK "CALLS"=some (some (.ref a)))(l:K.lookup a=some ⟨.type "dict",none,.dict es ep,#[]⟩)(hk:Ez es.toList=some kvs)(nd:(kvs.map (·.1)).Nodup)(T:Tg mg kvs x9):
  ∃a kvs,mg "CALLS"=some (.ref a)/\KTab K a kvs/\∀k x,x9 k=some x->∃f,kvs.lookup k=some (.ref f)/\mg x=some (.ref f):=⟨a,kvs,dM X G e,⟨es,ep,l,hk,nd⟩,T⟩
def Th(kvs:List (Int×aE))(F:Int->Option (Nat×Nat)):Prop:=∀k n m,F k=some (n,m)->∃u,kvs.lookup k=some u/\aCg (.int (m:Nat)) u
theorem Se:Th [] λ_=>none:=λk n m e=>nomatch e
theorem fK{kvs:List (Int×aE)}{F:Int->Option (Nat×Nat)}{j:Int}{n m t:Nat}{z:Int}(hz:z=(m:Int))(T:Th kvs F):Th ((j,.int z t)::kvs) λk=>if k=j then some (n,m)else F k:=λk n' m' e=>by
 by_cases q:k=j
 ·have e:(if k=j then some (n,m)else F k)=some (n',m'):=e;rw[iP q]at e;cases e;exact⟨_,Ib q,t,by rw[hz]⟩
 ·have e:(if k=j then some (n,m)else F k)=some (n',m'):=e;rw[iN q]at e;obtain⟨u,h1,h2⟩:=T k n' m' e;exact⟨u,(FC q).trans h1,h2⟩
theorem Rn(X:K.In h)(G:h.Ns cK mg)(e:nsIn K cK "ROWS"=some (some (.ref a)))(l:K.lookup a=some ⟨.type "dict",none,.dict es ep,#[]⟩)(hk:Ez es.toList=some kvs)(nd:(kvs.map (·.1)).Nodup)(T:Th kvs dR):
  ∃a kvs,mg "ROWS"=some (.ref a)/\KTab K a kvs/\∀k n m,dR k=some (n,m)->∃u,kvs.lookup k=some u/\aCg (.int (m:Nat)) u:=⟨a,kvs,dM X G e,⟨es,ep,l,hk,nd⟩,T⟩
inductive Vx(w:bu):List ei->List (Key×aE)->Prop
 |nil:Vx w [] []
 |cons {x:Str} {t:Nat} {v:aE} {es:List ei} {kvs:List (Key×aE)}:Vx w es kvs->Vx w (⟨PyData.keyHash w.params x,.str x t,v⟩::es) ((ai x,v)::kvs)
theorem Vx.pairs{P:bK}{w:bu}{es:List ei}{kvs:List (Key×aE)}(s:Vx w es kvs):(∀e∈es,∃k,(fA P w).is k e.key=true/\e.hash=(fA P w).hash k)/\Pairs (fA P w) es kvs:=by
 induction s with
 |nil=>exact⟨(λe h=>nomatch h),.nil⟩
 |cons s ih=>
  rename_i x t v es kvs;have hi:(fA P w).is (ai x) (.str x t)=true:=by show xJ x (.str x t)=true;simp[xJ]
  refine⟨λe he=>?_,.cons hi rfl ih.2⟩;rcases af.mp he with rfl|he2
  ·exact⟨ai x,hi,rfl⟩
  ·exact ih.1 e he2
theorem VI(l:K.lookup a=some ⟨.type "dict",none,.dict es ep,#[]⟩)(hs:(a==gD)=false)(s:Vx w es.toList kvs)(nd:(kvs.map (·.1)).Nodup):KD P w K a kvs:=by refine⟨hs,λh X=>?_⟩;obtain⟨i1,i2⟩:=Vx.pairs (P:=P) s;exact⟨_,es,ep,X _ _ l,⟨rfl,rfl,rfl⟩,rfl,λe he=>i1 e (uw.mpr he),i2,nd⟩
def Jk(P:bK)(w:bu)(K:Frag)(mg:Str->Option aE):Prop:=∃R CT CP CR CS CB CL CC CD JO KW WY:aF,∀base,aCe ⟨P,w,K,mg,base,R,CT,CP,CR,CS,CB,CL,CC,CD,JO,KW,WY⟩
theorem Yi{R CT CP CR CS CB CL CC CD JO KW WY:aF}(e:∀base,aCe ⟨P,w,K,mg,base,R,CT,CP,CR,CS,CB,CL,CC,CD,JO,KW,WY⟩):Jk P w K mg:=⟨R,CT,CP,CR,CS,CB,CL,CC,CD,JO,KW,WY,e⟩
theorem aA5(X:K.In h)(G:h.Ns cK mg)(e:Jk P w K mg):Jk P w K mg:=e
theorem UR(h:xQ P w [] H s (λ_ _ _=>False) e s'):False:=by obtain⟨_,_,_,_,_,_,_,_,_,_,_,_,_,_,_,_,_,z⟩:=h;exact z
theorem Ox(h:E8 l=true):∃cs,fh dR l.length l=some cs/\cs.all jB=true/\cs.length<=400/\Lh l=ye mq cs:=by
 unfold E8 O8 at h;unfold Lh O8;cases e:fh dR l.length l with
 |none=>rw[e]at h;cases h
 |some cs=>rw[e]at h;have hw:cs.map sO=cs:=aCw _ _ _ e;dsimp only at h ⊢;rw[hw]at h ⊢;rw[bG]at h;unfold Y6 at h;rw[bG]at h;exact⟨cs,rfl,h.2.1,of_decide_eq_true h.1,rfl⟩
end
end Rv
namespace L2
theorem LP{r:Tb}{k:Nat}{q:bK}{loose:List Str}{XP:(Str->Option aE)->c9->Prop}{YP:bu->c9->Prop}{d:DefRec}{K:Bh->aU}{ps:List Str}{sp:aU->Sp}
  (hwell:r.wellSaid=true) (hdf:d.params.defaults=[]) (hlen:r.args.length=ps.length) (hr:jS k callerA) (hY:∀(w:bu)(h:c9),YP w h->(K w.params).In h)
  (F:∀(w:bu)(mg:Str->Option aE)(fa:aF)(h:c9),YP w h->(K w.params).In h->h.Ns cK mg->mg d.name=some (.ref fa)-> ∃fd:gN,(∀(s:aO)(us:List aE),us.length=ps.length->Oh s fd ⟨us,[]⟩ (ps.zip us))/\∀base:c9,(K w.params).In base->base.Ns cK mg->sZ r.prog w (K w.params) mg base (xQ r.prog w) k fa fd ps (sp (K w.params)))
  (hsp:∀(K:aU)(H:Hp)(xs:List V)(a:sI r.args),TB r.args a=true->Am r.args r.asked a=true->rE K H xs (nA r.args a)->sp K xs H (λv H'=>Dw K H' v (r.ret.enc (Am r.args r.f a))) λ_ _ _=>False):
  Ou q loose XP YP r d [] (λf vs=>Y2 f vs):=
 OT (CX:=λw=>xQ r.prog w) (sp:=λw=>sp (K w.params)) hwell hdf hlen hr hY F (λw H xs a _ h2 h3 h4=>hsp (K w.params) H xs a h2 h3 h4) λ_ _ _ _ _ h=>Rv.UR h
end L2
end
open PySem PySem.Spec PyProof.Rows PySem.W
theorem PySem.Challenge.cw_reviewrules_s01_answers_holds : PySem.Challenge.rw_reviewrules_s01_answers.Holds := by
 refine Hq.hd ?_
 k_fillS
 refine L2.LP (r:=iA) (k:=16) (ps:=["calls"]) (sp:=Rv.FZ) (by trivial) rfl rfl ⟨rfl,by decide,by decide⟩ (λw h Y=>PySem.W.kIn_of Y) ?F ?S
 case F=>
  intro w mg fa h Y KX G hmg
  have ex:=Rv.aA5 (P:=iA.prog) (w:=w) KX G (by
   refine' Rv.Yi λbase=>?glob
   case' glob=>constructor
   case base=>
    refine' Rv.WH KX G ?a ?fi ?l ?cz ?k ?ga ?rd ?t1 ?t2 ?t3 ?b
    case a|fi|l|cz|k|ga|rd|t1|t2|t3=>(try dsimp only);k_is
    case b=>exact λ_ _ _ _ _ _ us hl=>by obtain⟨_,_,_,rfl⟩:=Rv.aEu hl;rfl
   case Q9|RA=>
    refine' Rv.Ki KX G ?a ?fi ?n ?l ?cz ?k ?mk ?kc ?b
    case a|fi|n|l|cz|k|mk|kc=>(try dsimp only);k_is
    case b=>exact λ_ _ _ _ _ _ us hl=>by obtain⟨_,rfl⟩:=Rv.aEs hl;rfl
   case Ik|A7|Ij=>
    refine' Rv.Ki KX G ?a ?fi ?n ?l ?cz ?k ?mk ?kc ?b
    case a|fi|n|l|cz|k|mk|kc=>(try dsimp only);k_is
    case b=>exact λ_ _ _ _ _ _ us hl=>by obtain⟨_,_,rfl⟩:=Rv.aEt hl;rfl
   case MR|RB|MQ=>
    refine' Rv.Ki KX G ?a ?fi ?n ?l ?cz ?k ?mk ?kc ?b
    case a|fi|n|l|cz|k|mk|kc=>(try dsimp only);k_is
    case b=>exact λ_ _ _ _ _ _ us hl=>by obtain⟨_,_,_,_,rfl⟩:=Rv.ul4 hl;rfl
   case ow|C9=>
    refine' Rv.Wy KX G ?a
    case a=>(try dsimp only);k_is
   case uI|n8|lG|lj|wB=>
    refine' Rv.Ke ?fi ?n ?l ?cz ?k ?b
    case fi|n|l|cz|k=>(try dsimp only);k_is
    case b=>exact λ_ _ _ _ _ _ us hl=>by obtain⟨_,rfl⟩:=Rv.aEs hl;rfl
   case r9|wC|qG|qF|lr|wD|oz=>
    refine' Rv.Ke ?fi ?n ?l ?cz ?k ?b
    case fi|n|l|cz|k=>(try dsimp only);k_is
    case b=>exact λ_ _ _ _ _ _ us hl=>by obtain⟨_,_,rfl⟩:=Rv.aEt hl;rfl
   case lH=>
    refine' Rv.Ke ?fi ?n ?l ?cz ?k ?b
    case fi|n|l|cz|k=>(try dsimp only);k_is
    case b=>exact λ_ _ _ _ _ _ us hl=>by obtain⟨_,_,_,rfl⟩:=Rv.aEu hl;rfl
   case vi|nV|IJ|CV|vg|AY=>
    refine' Rv.QC rfl rfl rfl KX G ?a ?lo ?xo ?fi ?n ?kc ?l ?cd ?k ?sa ?hd ?ga ?gt ?n1 ?n2 ?sub ?b
    case a|lo=>(try dsimp only);k_is
    case xo=>decide+kernel
    case fi|n|kc|l|cd|k|sa|hd|ga|gt|n1|n2|sub=>(try dsimp only);k_is
    case b=>exact λ_ _ _ _ _ _ us hl=>by obtain⟨_,rfl⟩:=Rv.aEs hl;rfl
   case vf|rX|nU|nW|vh|rV|yH|rT=>
    refine' Rv.QC rfl rfl rfl KX G ?a ?lo ?xo ?fi ?n ?kc ?l ?cd ?k ?sa ?hd ?ga ?gt ?n1 ?n2 ?sub ?b
    case a|lo=>(try dsimp only);k_is
    case xo=>decide+kernel
    case fi|n|kc|l|cd|k|sa|hd|ga|gt|n1|n2|sub=>(try dsimp only);k_is
    case b=>exact λ_ _ _ _ _ _ us hl=>by obtain⟨_,_,rfl⟩:=Rv.aEt hl;rfl
   case En|CG|rN|VZ|pq|CI|CH|qA|CK|t6|Ej|xx|AV|oq|px|v9|yA|yB|El|vb|tj|ou|qB|yD|AO|yC|xy|Ek|pk|rO|nR|Ei=>
    refine' Rv.CN KX G ?a ?l ?cz ?k ?b
    case a|l|cz|k=>(try dsimp only);k_is
    case b=>exact λ_ _ _ _ _ _ us hl=>by obtain⟨_,rfl⟩:=Rv.aEs hl;rfl
   case CM|rQ|v8|oo|rP|CJ|vZ|Eo|t8|t9|AR|qC|xw|xu|AL|AJ|AK|tX|tW|xt|AI|tV|AN|rM|vX|tZ|tY|AM|AU|vc=>
    refine' Rv.CN KX G ?a ?l ?cz ?k ?b
    case a|l|cz|k=>(try dsimp only);k_is
    case b=>exact λ_ _ _ _ _ _ us hl=>by obtain⟨_,_,rfl⟩:=Rv.aEt hl;rfl
   case Em|tm|IE|AX|Lq|t5|vY|lE|om|pz|tp|rR|t7|AQ|vW=>
    refine' Rv.CN KX G ?a ?l ?cz ?k ?b
    case a|l|cz|k=>(try dsimp only);k_is
    case b=>exact λ_ _ _ _ _ _ us hl=>by obtain⟨_,_,_,rfl⟩:=Rv.aEu hl;rfl
   case ve=>
    refine' Rv.CN KX G ?a ?l ?cz ?k ?b
    case a|l|cz|k=>(try dsimp only);k_is
    case b=>exact λ_ _ _ _ _ _ us hl=>by obtain⟨_,_,_,_,rfl⟩:=Rv.ul4 hl;rfl
   case AW=>
    refine' Rv.CN KX G ?a ?l ?cz ?k ?b
    case a|l|cz|k=>(try dsimp only);k_is
    case b=>exact λ_ _ _ _ _ _ us hl=>by obtain⟨_,_,_,_,_,rfl⟩:=Rv.ul5 hl;rfl
   case iQ|eW|bL|aZ|eV|gw|cX|iX=>
    refine' Rv.WO ?pg ?hd ?po ?sa
    case pg|hd|po|sa=>(try dsimp only);k_is
   case j9|gr|lR|dP|jx|fk|mK|oa|ah|de|eJ|c8|cE|dH|f9|iC|qV|nG|jy|kZ|gi|eh|eS|dv|gj|gQ|eT=>
    refine' Rv.We ?a
    case a=>(try dsimp only);k_is
   case gR|Hf|Oz|Br|VT|PB|VU|PD|og|Lm|VV=>
    refine' PySem.W.mg_none_of KX G ?a
    case a=>(try dsimp only);k_is
   case rZ|C8|yQ|yK|rY|vj|yO|KZ|yN|zS|QJ|V2|vq|vt|GN|wb|KU|ug|uA|AZ|UE|w9|jq|yP|BW|KY|GO|Ca|qD=>
    refine' Rv.str_mk KX G ?a
    case a=>(try dsimp only);k_is
   case uC|qE|vm|mU|nY|qj|uB|oy|yL|Et|vo|vk|zR|Es|A0|qi|uD|IT|uE|yM=>
    refine' Rv.int_mk KX G ?a
    case a=>(try dsimp only);k_is
   case pI=>
    refine' Rv.Sl ?l ?z ?v
    case l=>(try dsimp only);k_is
    case z=>decide
    case v=>exact .cons ⟨_,rfl⟩ (.cons ⟨_,rfl⟩ .nil)
   case D5=>
    refine' Rv.Sl ?l ?z ?v
    case l=>(try dsimp only);k_is
    case z=>decide
    case v=>exact .cons ⟨_,rfl⟩ (.cons ⟨_,rfl⟩ (.cons ⟨_,rfl⟩ (.cons ⟨_,rfl⟩ (.cons ⟨_,rfl⟩ (.cons ⟨_,rfl⟩ (.cons ⟨_,rfl⟩ (.cons ⟨_,rfl⟩ (.cons ⟨_,rfl⟩ (.cons ⟨_,rfl⟩ (.cons ⟨_,rfl⟩ .nil))))))))))
   case Mc=>
    refine' Rv.PX KX G ?a ?l ?k ?d ?t
    case a|l=>(try dsimp only);k_is
    case k=>rfl
    case d=>decide+kernel
    case t=>
     refine' Rv.fJ (dM KX G ?m0) (Rv.fJ (dM KX G ?m1) (Rv.fJ (dM KX G ?m2) (Rv.fJ (dM KX G ?m3) (Rv.fJ (dM KX G ?m4) (Rv.fJ (dM KX G ?m5) (Rv.fJ (dM KX G ?m6) (Rv.fJ (dM KX G ?m7) (Rv.fJ (dM KX G ?m8) (Rv.fJ (dM KX G ?m9) (Rv.fJ (dM KX G ?m10) (Rv.fJ (dM KX G ?m11) (Rv.fJ (dM KX G ?m12) (Rv.fJ (dM KX G ?m13) (Rv.fJ (dM KX G ?m14) (Rv.fJ (dM KX G ?m15) Rv.Sd)))))))))))))))
     case m0|m1|m2|m3|m4|m5|m6|m7|m8|m9|m10|m11|m12|m13|m14|m15=>(try dsimp only);k_is
   case Sb=>
    refine' Rv.Rn KX G ?a ?l ?k ?d ?t
    case a|l=>(try dsimp only);k_is
    case k=>rfl
    case d=>decide+kernel
    case t=>exact Rv.fK rfl (Rv.fK rfl (Rv.fK rfl (Rv.fK rfl (Rv.fK rfl (Rv.fK rfl (Rv.fK rfl (Rv.fK rfl (Rv.fK rfl (Rv.fK rfl (Rv.fK rfl (Rv.fK rfl (Rv.fK rfl (Rv.fK rfl (Rv.fK rfl (Rv.fK rfl Rv.Se)))))))))))))))
   case LF=>
    refine'⟨_,_,_,_,dM KX G ?a,Rv.VI ?l ?s ?e ?d,?r1,?r2,?r3,?r4⟩
    case a|l=>(try dsimp only);k_is
    case s=>(try dsimp only);decide+kernel
    case e=>exact .cons (.cons (.cons (.cons .nil)))
    case d=>(try dsimp only);decide+kernel
    case r1|r2|r3|r4=>exact⟨_,rfl⟩)
  obtain⟨R,CT,CP,CR,CS,CB,CL,CC,CD,JO,KW,WY,GL⟩:=ex
  obtain⟨f,fd,Fn,hm,_⟩:=(GL h).Ei
  have e:f=fa:=by
   have e:=hm.symm.trans hmg
   injection e with e
   injection e with e
  subst e
  refine⟨fd,?_,λbase _ _=>Rv.Kj (GL base) Fn⟩
  obtain⟨_,_,_,_,_,_,_,_,_,rfl,_,_⟩:=Fn.ex
  exact λs us hu=>by obtain⟨_,rfl⟩:=Rv.aEs hu;exact .of_eq rfl
 case S=>
  intro K H xs a hwi hask hx
  cases hx with
  |cons h1 h2=>
   cases h2
   cases h1 with
   |lst hs ha=>
    have e:=L2.MG a.1 _ ha
    subst e
    have q:((Codec.inLen 0 87000 a.1&&a.1.all (Codec.inInt 0 2000))&&true)=true:=hwi
    rw[bG,bG]at q
    obtain⟨cs,e1,e2,e3,e4⟩:=Rv.Ox (l:=a.1) hask
    refine⟨_,a.1,_,cs,rfl,hs,(Codec.inNat_iff.mp q.1.1).2,e1,e2,e3,λH' p hp=>?_⟩
    rw[<-e4]at hp
    exact .lst (L2.bf.of hp) (L2.Lz _)
