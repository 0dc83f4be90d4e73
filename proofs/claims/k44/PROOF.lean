import PyProof.Rows.All
import OpenK.KLine
import OpenK.KOwn
import KE.KNestM
import KE.KDictOf
import Wide.FinOn
import Lean
import PyProof.EqAt
import PyProof.EqKinds
import PyProof.TupleCall
import PyProof.NeKinds
import PyProof.NsDelKeeps
import KE.KTryMore
import PyProof.WalksMore
import PyProof.Rows.SetFrom
import KE.KEqDict
import PyProof.ToksMono
import PyProof.StrCalls6
import PyProof.StrBlock2
import PyProof.SliceStr2
import PyProof.StrLawsTight
import PyProof.InstStoreFacts
import PyProof.Rows.FStr
import PyProof.FactsAll.set
import KE.KDictLaws
import KE.KIntText
import PyProof.Rows.StrWeight2
import PyProof.StrWalks
import PyProof.StrBlockH
import PyProof.WalksEnum
import PyProof.ZipIter
import PyProof.EnumMake
import PyProof.FitsReplace
import PyProof.StrLawsIn
import PyProof.Rows.SortWalk
import PyProof.DictUpdate
import KE.KDictList
import KE.KDictSum
import KE.KPairComp
import PyProof.FactsAll.dict
import KE.KMinKey
import KE.KLam
import PyProof.DictWalks
import PyProof.DictValues
import PySem.Challenge.RW_sidebook_k44_whole_no_letter_takes_worth
set_option Elab.async false
set_option linter.all false
set_option maxRecDepth 100000
namespace PySem.W.Fast
def tw9639816642515372906:=0
def tw13835070369596199290:=0
def tw13505361881074083946:=0
def tw861502493610598483:=0
def tw18124581676290672360:=0
def tw329941283463616030:=0
def tw4338949390525040424:=0
def tw7774113678449685934:=0
def tw13406242734642179557:=0
def tw1880724286552185429:=0
def tw8549567097830819671:=0
def tw11736338228926984083:=0
def tw16008359073273489704:=0
def tw6871868339806680968:=0
def tw10784835557568832518:=0
def tw10619231889807973815:=0
def tw5486008376365147428:=0
def tw13606521132961772581:=0
def tw1968430746851473036:=0
def tw16060203290454839817:=0
def tw12550775161083096063:=0
def tw12717557048674177747:=0
def tw2576523973992343609:=0
def tw12894966596032860446:=0
def tw10903146660539688938:=0
def tw5872530126848033075:=0
def tw16899829786455025840:=0
def tw13160504802963445071:=0
def tw591959016527307005:=0
def tw977512076041815475:=0
def tw12147665669636231765:=0
def tw36298284907231195:=0
def tw12843764043397292189:=0
def tw13462424878891718212:=0
def tw9678289623588505577:=0
def tw12396662096508845406:=0
def tw11326235942716756430:=0
def tw4002271763688809667:=0
def tw4684226298888400098:=0
def tw4817042036850715440:=0
def tw15062127977220616739:=0
def tw11843415546741370313:=0
def tw2773992215795510196:=0
def tw7873748247521183178:=0
def tw16902085369446701243:=0
def tw4524658085876675188:=0
def tw15743010393045028110:=0
def tw13757698761724263525:=0
def tw12058884036946728934:=0
def tw8997383693586321770:=0
def tw10958628066121416707:=0
def tw17862349074038704544:=0
def tw2046362190076281809:=0
def tw3436067635600285980:=0
def tw10539347186207431242:=0
def tw17823556299335049440:=0
def tw8865387616306378214:=0
def tw6124413428159637790:=0
def tw16315454978102356719:=0
def tw15621116118777243554:=0
def tw8331849164307833061:=0
def tw6327569006664949090:=0
def tw2358075552688931204:=0
def tw7363655315013122544:=0
def tw11566098044289413073:=0
def tw9456574344343218679:=0
def tw17155049476370652306:=0
def tw17678831435119133177:=0
def tw13032259773685033708:=0
def tw12382822922155266910:=0
def tw7485256538410118956:=0
def tw10310341975313369176:=0
def tw6259241058660970061:=0
def tw6194202620331982285:=0
def tw8274446707539698164:=0
def tw2466311954974566718:=0
def tw10295913840692754127:=0
def tw5805800948307579973:=0
def tw12125097214300078407:=0
def tw5832146486336120021:=0
def tw2424988045566436242:=0
def tw14731159723063609737:=0
def tw6472337539984862722:=0
def tw2868442198168577507:=0
def tw8498532028676091811:=0
def tw18248855084332350957:=0
def tw14935156969734317764:=0
def tw2768188642542392010:=0
def tw11368310244458860372:=0
def tw9461873434466728008:=0
def tw7151132215420815488:=0
def tw18328257000508772394:=0
def tw3303267245142563540:=0
def tw4772062507164038959:=0
def tw11267315532378154396:=0
def tw18400553757987027518:=0
def tw8115137120850386438:=0
def tw14398111036562950334:=0
def tw15433366417846715934:=0
def tw13394580363473044415:=0
def tw5467331546851215429:=0
def tw15402603294489630176:=0
def tw6798380500665416597:=0
def tw9972681490609642005:=0
def tw6084841979344569690:=0
def tw16860917588515726111:=0
def tw17883462748017686043:=0
def tw15541240446876304647:=0
def tw11033627544408312984:=0
def tw10519837036962490867:=0
def tw18031968618487185184:=0
def tw1840220198017710270:=0
def tw5289818103960998278:=0
def tw7322748291113730364:=0
def tw15685335758407661847:=0
def tw7212858340449540239:=0
def tw11489344026974618541:=0
def tw10911716485165742097:=0
def tw7592715696027808041:=0
def tw14538725608371270373:=0
def tw7873786274422454737:=0
def tw3592811809046731828:=0
def tw13034982811429478159:=0
def tw6690350156832105676:=0
def tw13385558918117058561:=0
def tw12099505692703838030:=0
def tw15771247859494662083:=0
def tw11824586356888161845:=0
def tw17937168697417666835:=0
def tw7050804516273991350:=0
def tw17163426234232328066:=0
def tw211337195705725219:=0
def tw7921390202802761869:=0
def tw14061609134260724683:=0
def tw14172470266813156586:=0
def tw5341297951324810720:=0
def tw384561282630992784:=0
def tw16005714805435085966:=0
def tw13343918040275786880:=0
def tw16109456028575089023:=0
def tw615563214671542189:=0
def tw13831308528885131752:=0
def tw11153475782318119604:=0
def tw14760874974797668852:=0
def tw14833712730911297017:=0
def tw2144661209622563809:=0
def tw5537553045615171315:=0
def tw15499940227032437249:=0
def tw2708214617527550399:=0
def tw17518593693041627797:=0
def tw13705283562680751584:=0
def tw354308444213283272:=0
def tw890339118813698166:=0
def tw17360015989920007124:=0
def tw14782954611325821827:=0
def tw12768989823518198380:=0
def tw15504105790966721872:=0
def tw3099597729799864441:=0
def tw16003985067176294414:=0
def tw8995945545434573385:=0
def tw9113380124883318265:=0
def tw11266997524610791606:=0
def tw16217903435359918192:=0
def tw9530734954097333506:=0
def tw4906484309439969231:=0
def tw13631397514672939371:=0
def tw3831019782443316194:=0
def tw3520257249291928256:=0
def tw12798174099139212305:=0
def tw5459702643516471331:=0
def tw4971374062829452455:=0
def tw3919386906821981792:=0
def tw13851971633180934007:=0
def tw14819390147424179368:=0
def tw9197174079833555027:=0
def tw7374399212775623666:=0
def tw5274481202262711730:=0
def tw13813548295540068894:=0
def tw17592209452093105858:=0
def tw4545961482378311905:=0
def tw2080317491765294665:=0
def tw17613222154834848340:=0
def tw1835071406663858368:=0
def tw727553628536289456:=0
def tw539538531456391632:=0
def tw9399754086935153974:=0
def tw5072417060200589145:=0
def tw2931988195819169919:=0
def tw12887044766017154078:=0
def tw1708089923452030704:=0
def tw4096438862311573950:=0
def tw6880980288501444468:=0
def tw14938211915633500526:=0
def tw4171853373547519906:=0
def tw8212203176049278890:=0
def tw4884199854448574:=0
def tw1000662321505670351:=0
def tw16298917771340976007:=0
def tw7480016910919988345:=0
def tw6046103115902281144:=0
def tw2228412568605170491:=0
def tw5217270863462422736:=0
def tw8006371003960147343:=0
def tw12461081396071149458:=0
def tw11434409910335936926:=0
def tw12738610918357793766:=0
def tw2597523674469684444:=0
def tw14404928986312190071:=0
def tw866652123128751154:=0
def tw10551173667578312727:=0
def tw15565715512253457277:=0
def tw8737599933303070863:=0
def tw15254633091992210921:=0
def tw17483705464198625004:=0
def tw4015202173357781934:=0
def tw13855379610559885079:=0
def tw6148498323302512570:=0
def tw2314633323536394700:=0
def tw12954591660760965231:=0
def tw16108870410212019532:=0
def tw16279288168775177219:=0
def tw12770481643036789091:=0
def tw5665240888008139550:=0
def tw9860861378791804195:=0
def tw8278001386518606062:=0
def tw14842496431369740429:=0
def tw2480015634913765671:=0
def tw3198059409981156222:=0
def tw9784134513789038367:=0
def tw14594842627406614536:=0
def tw11766667032028208565:=0
def tw2950685276103557050:=0
def tw11401859456886640639:=0
def tw172746767574481773:=0
def tw4449297822257671152:=0
def tw15173544498738437827:=0
def tw12138319994727072339:=0
def tw987426779421491659:=0
def tw8428246938381088814:=0
def tw1342123614928995077:=0
def tw10792498714594961201:=0
def tw991626836265849350:=0
def tw2595585439558603231:=0
def tw9223045988441327695:=0
def tw306047672372848657:=0
def tw11317637306720784765:=0
def tw2694234056635809718:=0
def tw18183970276198133131:=0
def tw11502921971960690029:=0
def tw11513857634932158529:=0
def tw7476452910721959123:=0
def tw10576836333797772347:=0
def tw4408816720484365081:=0
def tw17510684818845775701:=0
def tw443766864951011646:=0
def tw16086907953836968628:=0
def tw694261584828832409:=0
def tw5694767641087392711:=0
def tw1986786360949550309:=0
def tw16873086082458093902:=0
def tw609457278022895560:=0
def tw4026147355466621588:=0
def tw6188973233030003785:=0
def tw4860023922305330110:=0
def tw14689541978594310382:=0
def tw14170518179582410385:=0
def tw17817366049700826239:=0
def tw5890639436620234070:=0
def tw2259672571474061568:=0
def tw5702276774652866934:=0
def tw15127105006835628225:=0
def tw4321966507151631593:=0
def tw9584292182412213727:=0
def tw15593559885672580101:=0
def tw3641951560692057861:=0
def tw16140922888777852060:=0
def tw2789304352393801511:=0
def tw2403389108928632939:=0
def tw17292613610259460706:=0
def tw8949853181751564097:=0
def tw8899516883271353254:=0
def tw6631347999910079877:=0
def tw699815216081779126:=0
def tw4075453323654395381:=0
def tw12298192366917762067:=0
def tw9320515035125037321:=0
def tw6056707288978253535:=0
def tw16723463757517087524:=0
def tw446995266069924076:=0
def tw10510056951384868246:=0
def tw17890440400047909864:=0
def tw16422413458241162112:=0
def tw14904681115217272601:=0
def tw18157406047293677543:=0
def tw10258873121960336067:=0
def tw13135312941875745310:=0
def tw12459912946257978736:=0
def tw17260811203177919210:=0
def tw8972062959192195235:=0
def tw1495895850433845275:=0
def tw16864618592142003386:=0
def tw13439652990877377571:=0
def tw13348088958985639553:=0
def tw11095110211248682772:=0
def tw651700358538967526:=0
def tw6329614223026926184:=0
def tw17590876675597686902:=0
def tw5010956058597451964:=0
def tw14479964200598819128:=0
def tw1293241653719404408:=0
def tw15764947353670896545:=0
def tw258204147387103276:=0
def tw3671519592330383864:=0
def tw12960429369202013873:=0
def tw3985964047577975286:=0
def tw3300257896294614128:=0
def tw2392593158011319353:=0
def tw17334828202450815106:=0
def tw11524815483048965402:=0
def tw12921946191010883867:=0
def tw3233987462203235646:=0
def tw16226643914720891334:=0
def tw7837367980739423823:=0
def tw7249310025045793396:=0
def tw6651725471809605288:=0
def tw8908233856664302321:=0
def tw3049343062529576306:=0
def tw14617222483516278133:=0
def tw18384110700954362821:=0
def tw10282777137419654623:=0
def tw11180800956215176064:=0
def tw1956260828630720203:=0
def tw3778530596728393105:=0
def tw5037459499596335280:=0
def tw5404398260228975080:=0
def tw5395340147747708899:=0
def tw12826555694032677247:=0
def tw11308061921803828041:=0
def tw6278996535519779258:=0
def tw14537775516033599862:=0
def tw13073492499399858440:=0
def tw7181997581385953548:=0
def tw14135006944967825841:=0
def tw17680797132471856694:=0
def tw12930229547647579594:=0
def tw18367749455379333440:=0
def tw12901003280762261817:=0
def tw3238445694619138142:=0
def tw5008593111378822452:=0
def tw15475723433398761304:=0
def tw14553807712399142462:=0
def tw4341293187932698999:=0
def tw786537726763496527:=0
def tw7943549864190904611:=0
def tw9744259246892133002:=0
def tw6145912378217320015:=0
def tw2172276787581067923:=0
def tw3801850119919557013:=0
def tw12884060626414724322:=0
def tw14785633479632635281:=0
def tw5725222548895626118:=0
def tw11853640710764476214:=0
def tw10470340158578859262:=0
def tw12542895121996172375:=0
def tw18124618509676941091:=0
def tw6128145076113358165:=0
def tw14607143338591219252:=0
def tw13459084325293418506:=0
def tw819570635367399668:=0
def tw6060609690816243450:=0
def tw2827255003249426055:=0
def tw9510108024173832781:=0
def tw12747814925858328940:=0
def tw4323258101793500111:=0
def tw17659185236578331656:=0
def tw17188069144378779261:=0
def tw287299124023874762:=0
def tw11823594873375168262:=0
def tw11212356425047092601:=0
def tw4436474186459923750:=0
def tw10953238642706405951:=0
def tw9317495090193701157:=0
def tw18105302477358141223:=0
def tw11738243743197964597:=0
def tw3992765435912101610:=0
def tw3042748168174471775:=0
def tw6945566481307383155:=0
def tw7867829370405329436:=0
def tw18441984877410159329:=0
def tw2400638427578300857:=0
def tw5002640475654186023:=0
def tw17312402878845073609:=0
def tw5994696166404524948:=0
def tw4102176305081739490:=0
def tw9919008367099125623:=0
def tw6248682570935725439:=0
def tw13367274342830030513:=0
def tw13053770412826190925:=0
def tw1998347030407657756:=0
def tw8757050672659960515:=0
def tw2483420100392427323:=0
def tw18418582437962087742:=0
def tw5667099127317398114:=0
def tw1979317910248211280:=0
def tw6229817132586351632:=0
def tw9402243437249704421:=0
def tw7933485763601977624:=0
def tw11962351593759143498:=0
def tw8374155422468719031:=0
def tw6607644564249050058:=0
def tw8924819469995637033:=0
def tw16753820520455620202:=0
def tw5498123283257192965:=0
def tw14577027041581768965:=0
def tw12549542988036985293:=0
def tw18146532975450069615:=0
def tw14958820412457663293:=0
def tw5239429619861171699:=0
def tw7538781388859322016:=0
def tw15577281813014381367:=0
def tw6851275008772768644:=0
def tw3365755272349913518:=0
def tw11907897558876765624:=0
def tw18383651708701053236:=0
def tw4562827626845409882:=0
def tw9977182230042388008:=0
def tw506581581156960101:=0
def tw12528533614272120300:=0
def tw13953587524928339648:=0
def tw11564986514327137767:=0
def tw12903330217458380548:=0
def tw6125853113672642322:=0
def tw17267597263503486738:=0
def tw8186657734068701312:=0
def tw13567515925198824819:=0
def tw866717566613908145:=0
def tw16902440903046159558:=0
def tw4538635040379822027:=0
def tw8912161614967838395:=0
def tw5920806927976990809:=0
def tw12250869413391326473:=0
def tw18003772858949239459:=0
def tw16053306600634468012:=0
def tw9646623106273453227:=0
def tw18095796173783872564:=0
def tw1142673529048489019:=0
def tw140236481695663071:=0
def tw14564479935002850509:=0
def tw4849480874435393781:=0
def tw6575520176995025181:=0
def tw5000232492035539693:=0
def tw7424060955962978353:=0
def tw14341141199694864594:=0
def tw2692750590507578028:=0
def tw8535803893964050539:=0
def tw13674586047789940208:=0
def tw11662115353561507501:=0
def tw8739830900816887780:=0
def tw2107523057676978006:=0
def tw10698057553749749337:=0
def tw5306753302271460952:=0
def tw4859391219904099992:=0
def tw1599053048872161195:=0
def tw140001813534094272:=0
def tw561727478393794602:=0
def tw9806118890596472461:=0
def tw2810200551564342888:=0
def tw6828597562223498359:=0
def tw12188032599808994241:=0
def tw13303234937177203706:=0
def tw4946147512530127568:=0
def tw6542358382571353910:=0
def tw1467881925912835984:=0
def tw523537741815420091:=0
def tw6858818405166986180:=0
def tw18101783494082082527:=0
def tw9630203353718772412:=0
def tw7091221385724896812:=0
def tw938635154573522699:=0
def tw4607425872040536859:=0
def tw13946496683202179788:=0
def tw5610444585433571239:=0
def tw13557862171009465336:=0
def tw3335794202401238526:=0
def tw14202271707224943307:=0
def tw6420159726195949164:=0
def tw14520296925931582552:=0
def tw5221592684559293012:=0
def tw6968137755033780318:=0
def tw11384182702204212275:=0
def tw1205274952441263945:=0
def tw10624116801336726872:=0
def tw15214748959534726111:=0
def tw14592624751514493413:=0
def tw17691633702590694504:=0
def tw15870398105094248349:=0
def tw3374319085511977134:=0
def tw13669536469129627823:=0
def tw15576859146164187699:=0
def tw14845619989558847073:=0
def tw16728255500844073214:=0
def tw6170744672141170255:=0
def tw18293242582946804979:=0
def tw14727194681476072466:=0
def tw17658959251048325594:=0
def tw16260866306193365299:=0
def tw11024694936033576346:=0
def tw15831126876759372255:=0
def tw10988764466652934233:=0
def tw896239598344801917:=0
def tw1158361714356455011:=0
def tw8378776812214338976:=0
def tw4290864757253303354:=0
def tw9768418358887946270:=0
def tw7220529860990300233:=0
def tw8752102160057688731:=0
def tw1972164579936704799:=0
def tw4734895289157585001:=0
def tw3300454383303005205:=0
def tw11429584451438056573:=0
def tw4804111812005502284:=0
def tw17351735930882485243:=0
def tw3235425350174046738:=0
def tw13956191218907399338:=0
def tw9388066449989048879:=0
def tw10236332898609347644:=0
def tw8185220541750880888:=0
def tw7231845647793152400:=0
def tw17986951261819808105:=0
def tw643336161829623379:=0
def tw10374632558016547081:=0
def tw2455152089536381482:=0
def tw726351398001015727:=0
def tw5444512763150141072:=0
def tw3543459598558145280:=0
def tw3475869608268796686:=0
def tw2261719852989239553:=0
def tw13769103115541136327:=0
def tw14664691819916384248:=0
def tw10910644110388302437:=0
def tw15621415185263527259:=0
def tw16409965706819354750:=0
def tw6105849179199505303:=0
def tw6549852094080907030:=0
def tw14424681132571578402:=0
def tw8159993647027272844:=0
def tw1070438729232803039:=0
def tw12715800853834201459:=0
def tw16766484511958638138:=0
def tw14611616552423853409:=0
def tw8166255043249204926:=0
def tw9201617497623189827:=0
def tw8996207646774452837:=0
def tw4189273013823423559:=0
def tw5649666937502919571:=0
def tw12132732476715806282:=0
def tw16378183091871739711:=0
def tw2132029292895624192:=0
def tw11402884983299125971:=0
def tw8297923619242306668:=0
def tw9947508896943372755:=0
def tw5522115075389312692:=0
def tw10861573186032746274:=0
def tw628631919661052299:=0
def tw11205608169257636508:=0
def tw16101134707931498060:=0
def tw3419001889969749887:=0
def tw6953138203311097117:=0
def tw7086961617601330827:=0
def tw15240619367488684849:=0
def tw8285278889055680438:=0
def tw4313010194945074917:=0
def tw6548459193220583526:=0
def tw2187251505897268136:=0
def tw9757595895972200118:=0
def tw11063759124802658401:=0
def tw6162269159774324313:=0
def tw16955839230299176341:=0
def tw1922157984580058403:=0
def tw8222940686941784037:=0
def tw13622603851894308203:=0
def tw12369848792361866835:=0
def tw3382625519597670723:=0
def tw18073898193381586223:=0
def tw7046044490832178742:=0
def tw17339309145561079191:=0
def tw13437419889732721216:=0
def tw4953865588907285216:=0
def tw9116068151291705539:=0
def tw10294118229990073760:=0
end PySem.W.Fast
section
open PySem PySem.W PyProof.Rows
set_option maxHeartbeats 0
open_top hd for PySem.Challenge.rw_sidebook_k44_whole_no_letter_takes_worth
end
def Ye:=@beq_eq_false_iff_ne
def Dh:=@beq_iff_eq
def Dc:=@congrArg
def Oa:=@decide_eq_false
def nb:=@decide_eq_true
def Fc:=@decide_eq_true_eq
def Rr:=@if_false
def ra:=@if_neg
def ma:=@if_pos
def Yh:=@if_true
def Qo:=@or_false
open Array renaming append_assoc->Sl,getElem?_eq_getElem->Fi,getElem?_eq_some_iff->Zd,getElem?_extract->Xs,getElem?_push->Ru,getElem?_toList->yt,length_toList->Wh,toArray_toList->nu
open Bool renaming and_assoc->Xz,and_eq_true->Na,and_false->Oq,false_and->Nq,false_eq_true->ew,false_ne_true->Eb,false_or->yB,or_eq_true->fg
open Classical renaming choose_spec->zaB
open Int renaming emod_lt_of_pos->Hi,emod_nonneg->ii,fdiv_eq_ediv_of_nonneg->xr,le_refl->Dv,toNat_of_nonneg->gw
open List renaming all_cons->jg,all_eq_true->Pb,all_map->fD,any_cons->zf,any_eq_false->Si,any_eq_true->Oe,any_map->Bt,append_assoc->Xi,append_nil->Xh,cons_append->ky,drop_eq_getElem_cons->Ig,drop_eq_nil_of_le->At,drop_succ_cons->Fv,filterMap_cons->di,filter_cons->Ud,filter_eq_self->rl,find?_cons->Ae,find?_eq_none->om,find?_some->Up,flatMap_cons->oh,foldl_append->wx,foldl_cons->Xg,getD_eq_getElem?_getD->yi,getElem?_append_left->zb,getElem?_append_right->Bd,getElem?_cons_zero->sj,getElem?_eq_getElem->Pd,getElem?_eq_none_iff->Mb,getElem?_eq_some_iff->aa,getElem?_map->Ta,getElem?_of_mem->Pu,getElem?_replicate->Ws,getElem?_set->qd,getElem?_set_ne->Kh,getElem?_set_self->pc,getElem?_take_of_lt->Qr,getElem?_toArray->ku,getElem_inj->dy,getElem_mem->Ro,getElem_of_mem->Bv,length_append->Xc,length_cons->ub,length_drop->gy,length_filter_le->ng,length_map->Sa,length_nil->Yg,length_set->Vy,length_take->Mf,lookup_cons->Hb,map_append->Rb,map_congr_left->Kb,map_cons->Ga,map_map->Va,map_nil->kn,mem_append->Wb,mem_append_left->Bb,mem_append_right->xb,mem_cons->Ma,mem_cons_of_mem->Aa,mem_cons_self->Ha,mem_filter->rf,mem_filterMap->jm,mem_flatMap->jy,mem_map->va,mem_map_of_mem->Gd,mem_of_find?_eq_some->Lg,mem_of_getElem?->La,mem_range->Uz,mem_singleton->yb,nil_append->Zy,nodup_append->Od,nodup_cons->ze,not_mem_nil->Me,of_mem_zip->Rp,range_succ_eq_map->zt,set_append_left->Su,set_append_right->Te,set_cons_succ->Yf,set_cons_zero->zi,size_toArray->Da,sum_append->Xy,sum_cons->cj,take_append_drop->wu,take_length->gd,zip_cons_cons->fw
open List.Perm renaming cons_inv->zaE
open List.Sublist renaming append->pK,refl->qK
open List.cons renaming injEq->Qu
open Nat renaming le_of_eq->oG,le_of_lt->Zf,le_refl->Ea,le_succ->Sk,le_trans->Fb,lt_irrefl->qe,lt_of_le_of_lt->mx,lt_of_lt_of_le->gb,lt_succ_of_lt->bj,lt_succ_self->Vd,lt_trans->mu,mul_assoc->Zs,ne_of_gt->vh,ne_of_lt->Wa,not_lt->px,one_mul->oK,one_ne_zero->Yz,sub_self->uG,succ_le_succ->Wy,zero_add->sG,zero_le->uv
open Ne renaming symm->yf
open Option renaming bind_eq_some_iff->aj,getD_none->dw,isSome_iff_exists->xf,isSome_map->lm,map_eq_some_iff->Ra,map_some->Po
open Option.some renaming inj->Yb,injEq->qk
open Prod renaming ext->pY
open Prod.mk renaming inj->dt
open PyProof.Rows renaming AllBare->Yi,IntsAre->zq,IsTup->iw,callWith_builtin1->iK,callWith_type1->re,iadd_int->gK,slot_tuple_getitem->md,Subscript_->vB,args_tuple_getitem->uB,boot_list->Ar,boot_min->vu,boot_sum->uu,boot_tuple->gi,entry_tuple_getitem->Wz,envOfC->Og,get?_update_seq->lK,seqObj->Sm,slicePart_none->YO,subscriptTail->GY,subscriptTail_builtinR->jx,tupleItemsOf_->qY
open PyProof.Rows.IsTup renaming new->cx
open PySem renaming Around->Za,BindsTo->Fh,Builtin->yx,CmpOp->Vr,Drawn->az,Env->zh,ExceptHandler->Dg,Expr->Ya,FuncData->Kf,GenState->Nm,IsPair->fP,IsPart->Rm,Keyword->Wk,Model->Om,NameKind->bg,Obj->Ad,Operator->Qm,OsState->zx,PassesOwn->Cr,PlainAttrs->Np,Pos->Re,Program->Ia,boot_len->Nb,mem_of_lookup->Gf,Result->CB,Sem->Qq,SetTable->Gh,Shared->ba,World->qb,assign->Pm,assignEach->sf,atKey->yu,attributeBase->ye,backTo->Cd,backToKw->sk,behindInMarks->Ze,behindIsImport->dP,binaryOp->uf,bindC->cz,bindL->bz,bindSpecialIfBound?->bA,callSpecialIfBound?->aA,callWith->dz,call_list_seq->EY,call_meets->wB,call_meetsIn->yq,callerA->Aq,cellsFrom->yG,checkBuiltinCall->CG,cmpInfo_Eq->AB,codeAny_builtin->Gi,codeAny_call_builtin->Yy,codeAny_handlers_suite->ux,codeAny_handlers_test->Tl,codeAny_mono->Tk,compareOp->gc,concat_meets->ax,eval->Ec,foldedSetIterable->Eh,getItem->Gj,getMethod->on,handleBy->eP,holding->Zg,inplaceOp->wG,intBits_le_64->oY,isTrue->BB,keywordEach->Ah,noFill_tuple_add->yr,noteFrame->Bh,oneThing_ref->vx,plainId_quiet->Sj,rawInt->Tf,richCompare->Um,seqIndex?->jw,seqIndex_neg->fx,seqIndex_of->Uy,seq_tuple_add->vv,setFlight->uk,setItem->xx,sliceBounds->qi,slot_list_getitem->eD,standAt->Vk,starEach->ya,storeName->vG,subscripted->Wr,swappedStores->To,swapsWith->dj,swapsWithSole->So,sysModules->wh,tryCompare->zu,tupleKind->Br,tupleKind_room_in1->lj,typeOf->Dr,valueAt->wn,wpAny_Call_Name_kw->wg,wpAny_Call_method_late->lx,wpAny_Name->rB,wpAny_askSetting->rG,wpAny_assign_Name->aD,wpAny_bind->ga,wpAny_cRoomFor->su,wpAny_call->Lp,wpAny_callSpecial?_slot->bw,wpAny_call_entry->zr,wpAny_comprehension_free->Cv,wpAny_execs_cons->nG,wpAny_execs_nil->ql,wpAny_field->Jm,wpAny_handleBy_cons->yo,wpAny_holding->ge,wpAny_isSame_ref_other->Uk,wpAny_isTrue_Compare1->fy,wpAny_items_cons->pG,wpAny_letGo->Tr,wpAny_load->sB,wpAny_loadName_cell->Vz,wpAny_loadName_local->Sy,wpAny_loadPart_at->Ie,wpAny_mono->Pc,wpAny_newFunctionEnv->Mm,wpAny_newList->FY,wpAny_newObj_type->Jf,wpAny_passesOwn->Di,wpAny_pure->za,wpAny_pyIter_enum->iD,wpAny_pyIter_list->wq,wpAny_pyIter_tuple->xB,wpAny_pyIter_zip->qG,wpAny_seqItems->qu,wpAny_sequenceKey->bD,wpAny_standAt->sv,wpAny_truthy_bool->ie,wpAny_tryCatch->ag,wpAny_typeOf->bx,wpAny_updateSeq->Ys,wp_field_iff->sx,wp_setField_iff->jK
open PySem.Around renaming frames_deeper->xt
open PySem.Bind renaming checkArgs->ph
open PySem.BindsTo renaming of_defaults->Lh
open PySem.Builtin renaming bitAnd->ji
open PySem.Builtin.List renaming listTooLong->vn
open PySem.Builtin.Range renaming rangeSize->xG
open PySem.Builtin.Slice renaming sliceAdjust->qm,sliceApplied->AG,slicePartIndex->zG,slicePlaces->gg
open PySem.Builtin.Tuple renaming tupleExact->xg,tupleHashOf->BG,tupleItemsOf->Vl
open PySem.Calls renaming Name_function_global->vq,callWith_builtin->zj,evalArgs_plain->pk
open PySem.CmpOp renaming In->cP,NotIn->kD
open PySem.DictEntry renaming refKey->zaF
open PySem.EntryCells renaming newEntry->Er
open PySem.F renaming cmpArgs_eq->aP,cmpEntry_eq->mK,cmpKind_eq->bP,cmpSplit_eq->nK,cmp_object->Mp,args_tuple_add_2->Ei,entry_min_loop->mj,entry_tuple_add->Ui,excBase_ValueError->vd,plainAttrs_dict->Vg,plainAttrs_list->se,plain_min_loop->Sf,slot_dict_delitem->Tp,slot_dict_items->Vi,slot_dict_pop->Sr,slot_dict_setdefault->zo,slot_list_append->Jg,slot_tuple_add->kj,type_dict_items->Pq,type_list_append->Kg
open PySem.Heap renaming FlyingW->lD,HeldW->Rq,SameBut->Gg,get?_eq_some->qx,get?_push_of_some->ua,get?_push_size->Db,get?_update_other->Fj,get?_update_self->ju,lt_size->Fa,size_push->nh
open PySem.Heap.DictOf renaming new->ZO
open PySem.Heap.IsSliceOf renaming new->dD
open PySem.Heap.IsTuple renaming push->kK
open PySem.Heap.SameBut renaming update->tj
open PySem.Heap.UpToSlots renaming of_keeps->hD
open PySem.IsL renaming update->zaA
open PySem.Manifest renaming signature?->Hh
open PySem.NameKind renaming cell->Jd,free->Vb
open PySem.Obj renaming data_mapFields->Km,mapFields->nj,mapSeq->eh
open PySem.PassesOwn renaming leaving->zaC,looking->zaD
open PySem.Sem renaming wp_bind'->xo,wp_mono->Av
open PySem.SeqAt renaming EqAt->ke,RcAt->ri,RcNeAt->ki,in_listAt->iy,in_tupleAt->kx,notIn_listAt->wv,notIn_tupleAt->Ou
open PySem.SeqAt.EqAt renaming bool_bool->vY,bool_int->wY,bool_none->uY,bool_str->xY,int_bool->zY,int_int->AY,int_none->yY,int_str->Nr,none_bool->rY,none_int->sY,none_str->tY,same->km,str_bool->CY,str_int->Pr,str_none->BY,str_str->DY
open PySem.SetTable renaming below->lw,fresh->nw,has->ly,insertAt->ul
open PySem.SetTable.below renaming go->Bq
open PySem.Str renaming ofString->xu
open PySem.Value renaming bool->Ul,int->Ck,isInt->jD,isStrOf->Zz,none->Wc,ref->jc,str->Ur
open PySem.W.WData renaming int->rK
open PySem.Walks renaming list->xq
open PySem.WalksT renaming zip2->zB
open PySem.Within renaming cons->fK
open PySem PyProof.Rows
noncomputable section
namespace L2
open Spec
abbrev Nd:=Sum Int Str
noncomputable def OB:Nd->Value->Bool
 | .inl k,v=>jD k v
 | .inr x,v=>Zz x v
noncomputable def Ĥ(w:qb):Nd->Int
 | .inl k=>hashInt k
 | .inr x=>hashStr w x
theorem Kw:∀ {k:Nd} {v:Value},OB k v=true->(∃ i t,k=Sum.inl i/\v=Ck i t)\/(∃ x t,k=Sum.inr x/\v=Ur x t)
 | .inl i,v,h=>by
  obtain⟨t,e⟩:=Value.isInt_shape h;exact .inl ⟨i,t,rfl,e⟩
 | .inr x,v,h=>by
  obtain⟨t,e⟩:=Value.isStrOf_shape h;exact .inr ⟨x,t,rfl,e⟩
def K9(i:Int)(t:Tok):OB (.inl i) (.int i t)=true:=by simp[OB,jD]
def MZ(x:Str)(t:Tok):OB (.inr x) (.str x t)=true:=by simp[OB,Zz]
def Ĵ(a b:Int):decide ((Sum.inl a:Nd)=Sum.inl b)=(a == b):=by
 by_cases e:a=b
 ·subst e;simp
 ·have h:¬ (Sum.inl a:Nd)=Sum.inl b:=λq=>e (Sum.inl.inj q);rw[Oa h];exact(Ye.mpr e).symm
def lZ(a b:Str):decide ((Sum.inr a:Nd)=Sum.inr b)=decide (a=b):=by
 by_cases e:a=b
 ·subst e;simp
 ·have h:¬ (Sum.inr a:Nd)=Sum.inr b:=λq=>e (Sum.inr.inj q);rw[Oa h,Oa e]
def Ć(a:Int)(b:Str):decide ((Sum.inl a:Nd)=Sum.inr b)=false:=Oa (λq=>nomatch q)
def Ë(a:Str)(b:Int):decide ((Sum.inr a:Nd)=Sum.inl b)=false:=Oa (λq=>nomatch q)
def jn(c:Ia)(w:qb):PySem.KeyKind c w Nd where
 is:=OB
 hash:=Ĥ w
 inj:=λv a b g f=>by
  rcases Kw g with⟨i,t,rfl,rfl⟩|⟨x,t,rfl,rfl⟩
  ·rcases Kw f with⟨j,u,rfl,e⟩|⟨y,u,rfl,e⟩
   ·injection e with e1 _;rw[e1]
   ·exact nomatch e
  ·rcases Kw f with⟨j,u,rfl,e⟩|⟨y,u,rfl,e⟩
   ·exact nomatch e
   ·injection e with e1 _;rw[e1]
 byValue:=λk v h=>by
  rcases Kw h with⟨i,t,rfl,rfl⟩|⟨x,t,rfl,rfl⟩<;>rfl
 pyHash:=λd h=>by
  rcases Kw d with⟨i,t,rfl,rfl⟩|⟨x,t,rfl,rfl⟩
  ·exact wpAny_pyHash_int h
  ·exact wpAny_pyHash_str h
 eqBool:=λl d h=>by
  rcases Kw l with⟨i,t,rfl,rfl⟩|⟨x,t,rfl,rfl⟩
  ·rcases Kw d with⟨j,u,rfl,rfl⟩|⟨y,u,rfl,rfl⟩
   ·rw[Ĵ]at h;exact wpAny_eqBool_int h
   ·rw[Ć]at h;exact Nr i t y u _ _ _ _ h
  ·rcases Kw d with⟨j,u,rfl,rfl⟩|⟨y,u,rfl,rfl⟩
   ·rw[Ë]at h;exact Pr x t j u _ _ _ _ h
   ·rw[lZ]at h;exact wpAny_eqBool_str h
 «strs»:=λk x t v h=>by
  rcases Kw h with⟨i,u,rfl,e⟩|⟨y,u,rfl,e⟩
  ·exact nomatch e
  ·injection e with e1 _;subst e1;cases v<;>rfl
def Ç(a:Ia)(w:qb)(i:Int)(t:Tok):(jn a w).is (.inl i) (.int i t)=true:=K9 i t
def k8(a:Ia)(w:qb)(x:Str)(t:Tok):(jn a w).is (.inr x) (.str x t)=true:=MZ x t
inductive V where
 |Rc|bl (b:Bool)|int (i:Int)|str (x:Str)|ZJ (b:Array UInt8)|HA (b:UInt64)|ref (a:Addr)|ty (n:String)
 deriving DecidableEq
def de:V->Value->Prop
 | .Rc,u=>u=Wc
 | .bl b,u=>u=Ul b
 | .int i,u=>∃ t,u=Ck i t
 | .str x,u=>∃ t,u=Ur x t
 | .ZJ b,u=>∃ t,u=Value.bytes b t
 | .HA b,u=>∃ t,u=Value.float b t
 | .ref a,u=>u=jc a
 | .ty n,u=>u=Value.type n
abbrev Pe:List V->List Value->Prop:=Paired de
def Pe.length(r:Pe xs a):xs.length=a.length:=Paired.length r
theorem Pe.get:∀ {xs:List V} {us:List Value} {i:Nat} {x:V},Pe xs us->xs[i]?=some x->∃ u,us[i]?=some u/\de x u
 |_,_,_,_,.nil,e=>by simp at e
 |_,_,0,_,.cons r _,e=>by simp at e;subst e;exact⟨_,rfl,r⟩
 |_,_,i+1,x,.cons _ t,e=>by
  obtain⟨u,a,b⟩:=Pe.get t (by simpa using e);exact⟨u,by simpa using a,b⟩
theorem Pe.set(r:de x u):∀ {xs:List V} {us:List Value} (i:Nat),Pe xs us->Pe (xs.set i x) (us.set i u)
 |_,_,_,.nil=>.nil
 |_,_,0,.cons _ t=>.cons r t
 |_,_,i+1,.cons q t=>.cons q (Pe.set r i t)
theorem Pe.append:∀ {xs a:List V} {us ws:List Value},Pe xs us->Pe a ws->Pe (xs++a) (us++ws)
 |_,_,_,_,.nil,s=>s
 |_,_,_,_,.cons r t,s=>.cons r (Pe.append t s)
theorem Pe.take:∀ {xs:List V} {us:List Value} (n:Nat),Pe xs us->Pe (xs.take n) (us.take n)
 |_,_,0,_=>.nil
 |_,_,_+1,.nil=>.nil
 |_,_,n+1,.cons r t=>.cons r (Pe.take n t)
theorem Pe.drop:∀ {xs:List V} {us:List Value} (n:Nat),Pe xs us->Pe (xs.drop n) (us.drop n)
 |_,_,0,r=>r
 |_,_,_+1,.nil=>.nil
 |_,_,n+1,.cons _ t=>Pe.drop n t
def Pe.none_of:∀ {xs:List V} {us:List Value} {i:Nat},Pe xs us->xs[i]?=none->us[i]?=none:=fun {xs us i} r e=>by
 have a:=r.length;have b:=Mb.mp e;exact Mb.mpr (by omega)
def uq:Option V->Option Value->Prop
 |some v,some u=>de v u
 |none,none=>True
 |_,_=>False
def KV{a:Type}:List (a × V)->List (a × Value)->Prop:=Paired λ(p:a × V) (q:a × Value)=>p.1=q.1/\de p.2 q.2
noncomputable def kV:Nd->V
 | .inl i=>.int i
 | .inr x=>.str x
inductive HO where
 |wa (xs:List V)
 |Xa (xs:List V)
 |dK (kvs:List (Nd × V))|dT (kvs:List (List Nd × V))
 |set (S:Int->Bool) (n:Nat)
 |yc (C dx:Addr) (fs:List (Str × V))
 |own (x:Addr)
 |xd (fs:List (Str × V))
 |met (f x:Addr)
 |lI (lo hi:Int)
 |Qc (o:Ad) (u:HO)
 |mo (ps:Array Value)
 |ext (φ:Heap->Prop)
abbrev Hp:=Addr->Option HO
noncomputable def Nc(H:Hp)(a:Addr)(o:HO):Hp:=λb=>if b=a then some o else H b
def Ih:Nc H a o a=some o:=by unfold Nc;rw[ma rfl]
def we(h:b≠a):Nc H a o b=H b:=by unfold Nc;rw[ra h]
def BL{H:Hp}(h:H a=some o)(c:H b=some u)(d:o≠u):a≠b:=by
 intro e;subst e;rw[h]at c;exact d (Yb c)
def ur{H:Hp}(h:H a=some o)(c:H b=none):a≠b:=by
 intro e;subst e;rw[h]at c;cases c
section
variable(P:Ia)(w:qb)
def fm(H:Hp)(h:Heap)(a:Addr):HO->Prop
 | .wa xs=>xs.length<=sizeLine/\∃ (b:List Value) (n:Nat),Pe xs b/\h.get? a=some { cls:=.type "list",data:=.seq b.toArray n }
 | .Xa xs=>xs.length<=sizeLine/\∃ b:List Value,Pe xs b/\iw h a b.toArray
 | .dK c=>c.length<=sizeLine/\(a == wh)=false/\∃ l,KV c l/\h.DictOf (jn P w) a l
 | .dT c=>c.length<=sizeLine/\(a == wh)=false/\∃ xs:List (List Nd × Addr × Value),
   Paired (λ(p:List Nd × V) (q:List Nd × Addr × Value)=>p.1=q.1/\H q.2.1=some (.Xa (p.1.map kV))/\de p.2 q.2.2) c xs/\
   ∃ o i m,h.get? a=some o/\o.ExactDict/\o.data=.dict i m/\i.toList=xs.map (entryOfKey (Br (jn P w)))/\(xs.map (·.1)).Nodup
 | .set S n=>h.SetOf (intKind P w) a S n
 | .yc C g e=>H g=some (.own a)/\e.length<=1000/\g≠a/\h.get? a=some (W.instObj C g)/\
   ∃ d,h.Ns1 g d/\(∀ f,uq (e.lookup f) (d f))/\PySem.Within d (e.map (·.1))
 | .own _=>∃ o,h.get? a=some o
 | .xd e=>∃ d,h.Ns1 a d/\∀ f,uq (e.lookup f) (d f)
 | .lI lo r=>∃ t u v,h.get? a=some { cls:=.type "range",data:=.fields #[.int lo t,.int r u,.int 1 v] }
 | .Qc o u=>h.get? a=some o/\fm H h a u
 | .mo ps=>h.get? a=some { cls:=.none,data:=.fields ps }
 | .met f x=>h.get? a=some (W.methodObj (.ref f) (.ref x))
 | .ext φ=>φ h/\(∃ o,h.get? a=some o)/\∀ j k:Heap,φ j->(∀ o,j.get? a=some o->k.get? a=some o)->φ k
def xj(H:Hp)(h:Heap):Prop:=∀ a o,H a=some o->fm P w H h a o
end
section
variable{P:Ia}{w:qb}{H H':Hp}{h h':Heap}{a:Addr}{o:HO}
def fm.lt(x:fm P w H h a o):a<h.objs.size:=by
 cases o with
 |wa xs=>obtain⟨_,_,_,_,e⟩:=x;exact Fa e
 |Xa xs=>obtain⟨_,_,_,p⟩:=x;exact p.lt
 |dK b=>obtain⟨_,_,_,_,o,_,_,e,_⟩:=x;exact Fa e
 |dT b=>obtain⟨_,_,_,_,o,_,_,e,_⟩:=x;exact Fa e
 |set S n=>obtain⟨o,_,_,_,e,_⟩:=x;exact Fa e
 |yc C d c=>obtain⟨_,_,_,e,_⟩:=x;exact Fa e
 |own y=>obtain⟨_,e⟩:=x;exact Fa e
 |xd c=>obtain⟨_,⟨_,_,_,e,_⟩,_⟩:=x;exact Fa e
 |lI lo g=>obtain⟨_,_,_,e⟩:=x;exact Fa e
 |Qc i u=>obtain⟨e,_⟩:=x;exact Fa e
 |mo ps=>exact Fa (x)
 |met f y=>exact Fa (x)
 |ext j=>obtain⟨_,⟨_,e⟩,_⟩:=x;exact Fa e
theorem Paired.Ms:∀ {c:List e} {d:List g},Paired F c d->(∀ a b,F a b->G a b)->Paired G c d
 |_,_,.nil,_=>.nil
 |_,_,.cons r t,f=>.cons (f _ _ r) (Paired.Ms t f)
def fm.Rl(x:fm P w H h a o)(k:∀ b u,(b=a\/H b=some (.own a))->h.get? b=some u->h'.get? b=some u)
  (E:∀ b,H b=some (.own a)->H' b=some (.own a)) (F:∀ b xs,H b=some (.Xa xs)->H' b=some (.Xa xs)):fm P w H' h' a o:=by
 induction o with
 |wa xs=>obtain⟨z,j,n,r,e⟩:=x;exact⟨z,j,n,r,k _ _ (.inl rfl) e⟩
 |Xa xs=>obtain⟨z,j,r,ob,e,c⟩:=x;exact⟨z,j,r,ob,k _ _ (.inl rfl) e,c⟩
 |dK l=>obtain⟨z,y,J,r,ob,i,g,e,c⟩:=x;exact⟨z,y,J,r,ob,i,g,k _ _ (.inl rfl) e,c⟩
 |dT l=>
  obtain⟨z,y,xs,r,ob,i,g,e,c⟩:=x;exact⟨z,y,xs,Paired.Ms r λp q z=>⟨z.1,F _ _ z.2.1,z.2.2⟩,ob,i,g,k _ _ (.inl rfl) e,c⟩
 |set S n=>obtain⟨ob,i,g,t,e,c⟩:=x;exact⟨ob,i,g,t,k _ _ (.inl rfl) e,c⟩
 |yc C K D=>
  obtain⟨d,z,I,e,m,⟨s,i,g,B,c⟩,r⟩:=x;exact⟨E _ d,z,I,k _ _ (.inl rfl) e,m,⟨s,i,g,k _ _ (.inr d) B,c⟩,r⟩
 |own y=>obtain⟨ob,e⟩:=x;exact⟨ob,k _ _ (.inl rfl) e⟩
 |xd D=>obtain⟨m,⟨s,i,g,e,c⟩,r⟩:=x;exact⟨m,⟨s,i,g,k _ _ (.inl rfl) e,c⟩,r⟩
 |lI lo L=>obtain⟨t,u,v,e⟩:=x;exact⟨t,u,v,k _ _ (.inl rfl) e⟩
 |Qc ob u G=>obtain⟨e,q⟩:=x;exact⟨k _ _ (.inl rfl) e,G q⟩
 |mo ps=>
  have e:=x;exact k a _ (.inl rfl) e
 |met f y=>
  have e:=x;exact k a _ (.inl rfl) e
 |ext M=>obtain⟨p,⟨o,e⟩,A⟩:=x;exact⟨A _ _ p λo q=>k _ _ (.inl rfl) q,⟨o,k _ _ (.inl rfl) e⟩,A⟩
def xj.lt(x:xj P w H h)(e:H a=some o):a<h.objs.size:=(x a o e).lt
def xj.fresh(x:xj P w H h)(e:h.objs.size<=a):H a=none:=by
 cases q:H a with
 |none=>rfl
 |some u=>exact absurd (gb (x.lt q) e) (qe _)
def xj.kept(x:xj P w H h)(k:∀ b u,h.get? b=some u->h'.get? b=some u):xj P w H h':=λa o e=>
 (x a o e).Rl (λb u _ q=>k b u q) (λ_ q=>q) λ_ _ q=>q
def xj.laid(x:xj P w H h)(k:∀ b u,h.get? b=some u->h'.get? b=some u)(i:h.objs.size<=a)(d:fm P w (Nc H a o) h' a o):xj P w (Nc H a o) h':=λb u e=>by
 have g:=x.fresh i;by_cases f:b=a
 ·subst f;rw[Ih]at e;cases e;exact d
 ·rw[we f]at e;exact(x b u e).Rl (λc v _ q=>k c v q) (λc q=>by rw[we (ur q g)];exact q) λc xs q=>by rw[we (ur q g)];exact q
end
def Rd(H:Hp)(a:Addr)(u:HO):Prop:=H a=some u\/∃ o,H a=some (.Qc o u)
def Rd.of(h:H a=some u):Rd H a u:=.inl h
def Rd.ok(r:Rd H a u)(x:xj P w H h):fm P w H h a u:=by
 rcases r with r|⟨o,r⟩
 ·exact x a u r
 ·obtain⟨_,q⟩:=x a _ r;exact q
def jF:Option HO->Prop
 |some (.wa _)=>True
 |some (.dK _)=>True
 |some (.dT _)=>True
 |some (.set _ _)=>True
 |some (.yc _ _ _)=>True
 |some (.ext _)=>True
 |_=>False
section
variable{P:Ia}{w:qb}{H:Hp}{h h':Heap}{x e:Addr}{o':HO}
theorem xj.write(ok:xj P w H h)(j:jF (H x))(n:e=x\/H e=some (.own x))(k:∀ b u,b≠e->h.get? b=some u->h'.get? b=some u)(l:∃ u,h'.get? e=some u)
  (m:fm P w (Nc H x o') h' x o'):xj P w (Nc H x o') h':=λb u q=>by
 have d:∀ c y,H c=some (.own y)->c≠x:=λc y r z=>by subst z;rw[r]at j;exact j
 have f:∀ c xs,H c=some (.Xa xs)->c≠x:=λc xs r z=>by subst z;rw[r]at j;exact j
 by_cases g:b=x
 ·subst g;rw[Ih]at q;cases q;exact m
 ·rw[we g]at q;by_cases a:b=e
  ·have o:H b=some (.own x):=by
    rcases n with z|z
    ·exact absurd (a.trans z) g
    ·rw[a];exact z
   rw[q]at o;cases o;obtain⟨v,p⟩:=l;exact⟨v,by rw[a];exact p⟩
  ·refine(ok b u q).Rl (λc v i r=>k c v ?_ r) (λc r=>by rw[we (d c b r)];exact r) λc xs r=>by rw[we (f c xs r)];exact r
   rcases i with rfl|i
   ·exact a
   ·rintro rfl;rcases n with z|z
    ·exact d c b i z
    ·rw[i]at z;cases z;exact g rfl
end
structure Un(fs ex:List Addr)(H H':Hp)(h h':Heap):Prop where
 keep:∀ b o,h.get? b=some o->H b=none->b ∉ fs->b ∉ ex->h'.get? b=some o
 slot:∀ b o,h.get? b=some o->H b=none->b∈fs->b ∉ ex->∃ sl,h'.get? b=some { o with slots:=sl }
 free:∀ b o,h.get? b=some o->H b=none->b ∉ ex->H' b=none
 there:∀ b o,h.get? b=some o->b ∉ ex->∃ o',h'.get? b=some o'
 Mj:∀ b xs,H b=some (.Xa xs)->H' b=some (.Xa xs)
 Ki:∀ b o u,H b=some (.Qc o u)->H' b=some (.Qc o u)
 uj:∀ b ps,H b=some (.mo ps)->∃ more,H' b=some (.mo (ps++more))
section
variable{fs fs' ex ex':List Addr}{H H1 H2:Hp}{h h1 h2 h':Heap}{a x e:Addr}{o:HO}
def Un.any(u:Un fs ex H H1 h h1){a:Ad}(q:h.get? b=some a)(n:H b=none)(d:b ∉ ex):∃ e,h1.get? b=some { a with slots:=e }:=by
 by_cases c:b∈fs
 ·exact u.slot b a q n c d
 ·exact⟨a.slots,u.keep b a q n c d⟩
def Un.trans(a:Un fs ex H H1 h h1)(b:Un fs ex H1 H2 h1 h2):Un fs ex H H2 h h2 where
 keep:=λc e q n g d=>b.keep c e (a.keep c e q n g d) (a.free c e q n d) g d
 slot:=λc e q n g d=>by
  obtain⟨p,f⟩:=a.slot c e q n g d;obtain⟨k,i⟩:=b.slot c _ f (a.free c e q n d) g d;exact⟨k,i⟩
 free:=λc e q n d=>by
  obtain⟨j,f⟩:=a.there c e q d;exact b.free c j f (a.free c e q n d) d
 there:=λc e q d=>by
  obtain⟨j,f⟩:=a.there c e q d;exact b.there c j f d
 Mj:=λc xs q=>b.Mj c xs (a.Mj c xs q)
 Ki:=λc e xs q=>b.Ki c e xs (a.Ki c e xs q)
 uj:=λc o q=>by
  obtain⟨l,f⟩:=a.uj c o q;obtain⟨m,i⟩:=b.uj c _ f;exact⟨l++m,by rw[i,Sl]⟩
def Un.kept(k:∀ b u,h.get? b=some u->h'.get? b=some u):Un fs ex H H h h':=
 ⟨λb a q _ _ _=>k b a q,λb a q _ _ _=>⟨a.slots,k b a q⟩,λ_ _ _ n _=>n,λb a q _=>⟨a,k b a q⟩,λ_ _ q=>q,λ_ _ _ q=>q,λ_ ps q=>⟨#[],by rw[q];simp⟩⟩
def Un.refl:Un fs ex H H h h:=Un.kept λ_ _ q=>q
def Un.laid(k:∀ b u,h.get? b=some u->h'.get? b=some u)(d:h.objs.size<=a)(c:H a=none):Un fs ex H (Nc H a o) h h' where
 keep:=λb u q _ _ _=>k b u q
 slot:=λb u q _ _ _=>⟨u.slots,k b u q⟩
 free:=λb u q n _=>by rw[we (Wa (gb (Fa q) d))];exact n
 there:=λb u q _=>⟨u,k b u q⟩
 Mj:=λb xs q=>by rw[we (ur q c)];exact q
 Ki:=λb u xs q=>by rw[we (ur q c)];exact q
 uj:=λb ps q=>⟨#[],by rw[we (ur q c),q];simp⟩
def Un.write(c:jF (H x))(j:e=x\/H e=some (.own x))(k:∀ b u,b≠e->h.get? b=some u->h'.get? b=some u)(d:∃ u,h'.get? e=some u):Un fs ex H (Nc H x o) h h':=by
 have i:∀ b,H b=none->b≠x:=λb n z=>by subst z;rw[n]at c;exact c
 have g:∀ b,H b=none->b≠e:=λb n z=>by
  subst z;rcases j with r|r
  ·exact i b n r
  ·rw[n]at r;cases r
 have f:∀ b u,H b=some u->¬ jF (some u)->b≠x:=λb u q l z=>by subst z;rw[q]at c;exact l c
 refine⟨λb u q n _ _=>k b u (g b n) q,λb u q n _ _=>⟨u.slots,k b u (g b n) q⟩,λb u q n _=>by rw[we (i b n)];exact n,λb u q _=>?_,
  λb xs q=>by rw[we (f b _ q λz=>z)];exact q,λb u xs q=>by rw[we (f b _ q λz=>z)];exact q,λb ps q=>⟨#[],by rw[we (f b _ q λz=>z),q];simp⟩⟩
 by_cases a:b=e
 ·subst a;exact d
 ·exact⟨u,k b u a q⟩
def Un.mono(u:Un fs ex H H1 h h1)(f:∀ b∈fs,b∈fs')(d:∀ b∈ex,b∈ex'):Un fs' ex' H H1 h h1:=
 ⟨λb c q n e a=>u.keep b c q n (λz=>e (f b z)) λz=>a (d b z),λ_ _ q n _ a=>u.any q n λz=>a (d _ z),λb c q n a=>u.free b c q n λz=>a (d b z),λb c q a=>u.there b c q λz=>a (d b z),u.Mj,u.Ki,u.uj⟩
end
noncomputable def HI(h:Heap)(H:Hp):List Addr:=(List.range h.objs.size).filter λa=>(H a).isSome
def kz(h:Heap)(H:Hp):Heap:=W.hideAll h (HI h H)
def R4(h:Heap)(H:Hp):(kz h H).objs.size=h.objs.size:=W.hideAll_size _ _
def zs2(e:h.get? b=some o)(n:H b=none):(kz h H).get? b=some o:=
 W.hideAll_get _ e λa=>by
  have q:=(rf.mp a).2;rw[n]at q;simp at q
def j0(e:(kz h H).get? b=some o):h.get? b=some o/\H b=none:=by
 have a:=W.of_hideAll (HI h H) e;refine⟨a,?_⟩;cases q:H b with
 |none=>rfl
 |some x=>
  have c:b∈HI h H:=rf.mpr ⟨Uz.mpr (Fa a),by simp[q]⟩;have z:(kz h H).get? b=none:=W.hideAll_none (HI h H) c;rw[z]at e;cases e
noncomputable def O1(g h:Heap)(L:Addr):List (Addr × Ad):=(List.range h.objs.size).filterMap λa=>if a=L\/(g.get? a).isSome=true then none else (h.get? a).map λo=>(a,o)
def rest(g h:Heap)(L d:Addr):List (Addr × Ad):=(O1 g h L).filter λp=>decide (p.1≠d)
structure Mod(K:W.Frag)(mg:Str->Option Value)(base:Heap):Prop where
 Cz:K.In base
 glob:base.Ns mainGlobals mg
 blt:∃ mb,base.Ns builtinsNs mb/\∀ x:Str,x ≠ "__name__"->mb x=bootBuiltins x
 nolimit:base.NoLimit
structure Cx where
 prog:Ia
 w:qb
 K:W.Frag
 mg:Str->Option Value
 base:Heap
 A:Za
 N:List Str
 s₀:ba
 H₀:Hp
 env:zh
 outer:List zh
 stack:List zh
 ex:List Addr
 fn:Str->Bool
 Lc:Bool
 pn:List (Addr × Ad)
 xe:Value->ba->Prop
noncomputable def Hk(l:List zh):List Addr:=l.filterMap (·.frame)
abbrev Cx.fs(X:Cx):List Addr:=Hk X.outer
def kE(sc:Scope)(x:Str):Prop:=sc.names.lookup x=some .local\/sc.names.lookup x=some .cell\/sc.names.lookup x=some .free
def Loc(sc:Scope)(x:Str):Prop:=sc.names.lookup x=some .local\/sc.names.lookup x=some .cell
def yw5(a:zh)(h:Heap)(m:Str->Option Value)(x:Str)(u:Value):Prop:=
 (a.kindOf x=some .local/\m x=some u)\/((a.kindOf x=some .cell\/a.kindOf x=some .free)/\∃ c,a.cells.lookup x=some c/\h.IsCell c (some u))
structure Cx.Ok(X:Cx):Prop where
 mod:Mod X.K X.mg X.base
 kind:X.env.scope.kind=.function
 glob:X.env.globals=mainGlobals
 blt:X.env.builtins=builtinsNs
 above:X.s₀.heap.objs.size<=X.env.locals
 inj:∀ x y c,X.env.cells.lookup x=some c->X.env.cells.lookup y=some c->x=y
 has:∀ x,(X.env.kindOf x=some .cell\/X.env.kindOf x=some .free)->∃ c,X.env.cells.lookup x=some c
 Lz:∀ x c,X.fn x=true->X.env.cells.lookup x=some c->X.s₀.heap.objs.size<=c
 hd:X.Lc=true->X.A.handled=none
 frames:X.A.frames=some X.stack
 En:X.stack=X.outer\/(X.stack=X.env::X.outer/\X.env.frame=some X.env.locals)
 eB:∀ b∈X.ex,b≠X.env.locals/\∀ x c,X.env.cells.lookup x=some c->c≠b
 bs:∀ b o,X.base.get? b=some o->X.s₀.heap.get? b=some o/\X.H₀ b=none
 Pt:X.base.objs.size<=X.s₀.heap.objs.size
 Qs:∀ b o,X.base.get? b=some o->b ∉ X.ex
 Cs:∀ b∈X.ex,b ∉ X.fs
 ik:X.s₀.heap.FunFrames X.base X.outer
 Iw:∀ b∈X.fs,X.H₀ b=none
structure Ab(X:Cx)(pins:List (Addr × Ad))(σ:List (Option V))(H:Hp)(s:ba):Prop where
 ok:X.Ok
 os:s.os=X.s₀.os
 bare:Yi s.gens
 base:Un X.fs X.ex X.H₀ H X.s₀.heap s.heap
 loc:∃ m,s.heap.Ns X.env.locals m/\∀ (i:Nat) (x:Str) (v:V),X.N[i]?=some x->σ[i]?=some (some v)->kE X.env.scope x->∃ u,de v u/\yw5 X.env s.heap m x u
 cell:∀ x c,X.env.cells.lookup x=some c->∃ v,s.heap.IsCell c v
 free:H X.env.locals=none
 lh:∀ x c,X.env.cells.lookup x=some c->H c=none
 pin:∀ p∈X.pn++pins,s.heap.get? p.1=some p.2/\H p.1=none/\p.1≠X.env.locals/\p.1 ∉ X.fs/\∀ v,p.2.data≠.cell v
 Qd:xj X.prog X.w H s.heap
 len:σ.length=X.N.length
section
variable{X:Cx}{pins:List (Addr × Ad)}{σ:List (Option V)}{H H':Hp}{s:ba}{h':Heap}
def Cx.Ok.BN(ok:X.Ok)(e:X.base.get? b=some o):b ∉ X.fs:=λa=>by
 have:=(ok.ik.mem a).1;rw[e]at this;cases this
def Ab.bs(I:Ab X pins σ H s):∀ b o,X.base.get? b=some o->s.heap.get? b=some o/\H b=none:=λb o e=>
 ⟨I.base.keep b o (I.ok.bs b o e).1 (I.ok.bs b o e).2 (I.ok.BN e) (I.ok.Qs b o e),I.base.free b o (I.ok.bs b o e).1 (I.ok.bs b o e).2 (I.ok.Qs b o e)⟩
def Ab.bk(I:Ab X pins σ H s):∀ b o,X.base.get? b=some o->s.heap.get? b=some o:=λb o e=>(I.bs b o e).1
def Ab.mod(I:Ab X pins σ H s):Mod X.K X.mg X.base:=I.ok.mod
def Ab.Ak(I:Ab X pins σ H s):X.K.In s.heap:=I.ok.mod.Cz.keeps I.bk
def Ab.nolimit(I:Ab X pins σ H s):s.heap.NoLimit:=I.ok.mod.nolimit.keeps I.bk
def Ab.fr(I:Ab X pins σ H s):∃ m,Fr X.base X.env.locals s.heap m:=
 let ⟨m,a,_⟩:=I.loc
 ⟨m,a,I.bk,Fb I.ok.Pt I.ok.above⟩
def Ab.lt(I:Ab X pins σ H s):X.env.locals<s.heap.objs.size:=let ⟨_,a,_⟩:=I.loc;a.lt
def Ab.sz(I:Ab X pins σ H s):X.s₀.heap.objs.size<=s.heap.objs.size:=Fb I.ok.above (Zf I.lt)
def Ab.JD(I:Ab X pins σ H s)(h:s.heap.objs.size<=a):a ∉ X.fs:=λb=>by
 obtain⟨_,o,c,_⟩:=I.ok.ik.mem b;exact absurd (gb (Fa c) (Fb I.sz h)) (qe _)
def Ab.aG(I:Ab X pins σ H s):∀ x c,X.env.cells.lookup x=some c->c≠X.env.locals:=λx c e z=>by
 obtain⟨v,o,f,d⟩:=I.cell x c e;obtain⟨m,⟨i,h,g,b,a,_⟩,_⟩:=I.loc;rw[z,b]at f;cases f;rw[a]at d;cases d
def Ab.ik(I:Ab X pins σ H s):s.heap.FunFrames X.base X.outer:=by
 have a:∀ l,(∀ b∈Hk l,b∈X.fs)->X.s₀.heap.FunFrames X.base l->s.heap.FunFrames X.base l:=by
  intro l;induction l with
  |nil=>intro _ _;trivial
  |cons env r p=>
   intro g j;obtain⟨i,⟨L,o,f,k,m,h⟩,n⟩:=j;have c:=g L (by unfold Hk;rw[di,f];exact Ha);obtain⟨q,e⟩:=I.base.slot L o m (I.ok.Iw L c) c λz=>I.ok.Cs L z c;exact⟨i,⟨L,_,f,k,e,h⟩,p (λb d=>g b (by unfold Hk;rw[di,f];exact Aa _ d)) n⟩
 exact a X.outer (λ_ d=>d) I.ok.ik
def Ab.stack(I:Ab X pins σ H s):s.heap.FunFrames X.base X.stack:=by
 rcases I.ok.En with e|⟨e,a⟩
 ·rw[e];exact I.ik
 ·rw[e];obtain⟨m,b,_⟩:=I.loc;refine .cons (by rw[I.ok.kind];decide) a b ?_ I.ik;exact Heap.get?_none_of_le (Fb I.ok.Pt I.ok.above)
def Ab.fu(I:Ab X pins σ H s):∀ b∈Hk X.stack,b∈X.env.locals::X.fs:=λb a=>by
 rcases I.ok.En with e|⟨e,c⟩
 ·rw[e]at a;exact Aa _ a
 ·rw[e]at a;unfold Hk at a;rw[di,c]at a;exact a
def Ab.Hl(I:Ab X pins σ H s):∀ b∈Hk X.stack,H b=none:=λb a=>by
 rcases Ma.mp (I.fu b a)with e|a
 ·rw[e];exact I.free
 ·obtain⟨_,o,c,_⟩:=I.ok.ik.mem a;exact I.base.free b o c (I.ok.Iw b a) λz=>I.ok.Cs b z a
def Ab.step{ch:List Addr}(I:Ab X pins σ H s)
  (h:∀ b∈ch,(b∈X.ex\/X.s₀.heap.objs.size<=b)/\b≠X.env.locals/\(∀ x c,X.env.cells.lookup x=some c->c≠b)/\∀ p∈X.pn++pins,p.1≠b)
  (j:∀ b o,b≠X.env.locals->b ∉ X.fs->b ∉ ch->s.heap.get? b=some o->H b=none->h'.get? b=some o)
  (B:∀ b o,b≠X.env.locals->b∈X.fs->b ∉ ch->s.heap.get? b=some o->H b=none->∃ Q,h'.get? b=some { o with slots:=Q }) (f:∀ b o,b ∉ ch->s.heap.get? b=some o->H b=none->H' b=none)
  (D:∀ b o,b ∉ ch->s.heap.get? b=some o->∃ L,h'.get? b=some L)
  (N:∀ b xs,H b=some (.Xa xs)->H' b=some (.Xa xs)) (G:∀ b o u,H b=some (.Qc o u)->H' b=some (.Qc o u)) (M:∀ b ps,H b=some (.mo ps)->∃ J,H' b=some (.mo (ps++J)))
  (ns:∀ m,s.heap.Ns X.env.locals m->h'.Ns X.env.locals m) (P:xj X.prog X.w H' h') (hg:Yi S) :
  Ab X pins σ H' { s with heap:=h',gens:=S,drawn:=ϋ,toks:=t' }:=by
 have K:∀ b o,X.s₀.heap.get? b=some o->b≠X.env.locals:=λb o e=>Wa (gb (Fa e) I.ok.above);have A:∀ b o,X.s₀.heap.get? b=some o->b ∉ X.ex->b ∉ ch:=λb o e a C=>by
  rcases(h b C).1 with z|z
  ·exact a z
  ·exact absurd (gb (Fa e) z) (qe _)
 have g:∀ x c,X.env.cells.lookup x=some c->∀ v,s.heap.IsCell c v->h'.IsCell c v:=λx c e v ⟨o,E,ώ⟩=>by
  have t:=λz=>(h c z).2.2.1 x c e rfl;by_cases T:c∈X.fs
  ·obtain⟨Q,q⟩:=B c o (I.aG x c e) T t E (I.lh x c e);exact⟨_,q,ώ⟩
  ·exact⟨o,j c o (I.aG x c e) T t E (I.lh x c e),ώ⟩
 refine⟨I.ok,I.os,hg,⟨λb o e n C a=>?_,λb o e n C a=>?_,λb o e n a=>?_,λb o e a=>?_,λb xs e=>N b xs (I.base.Mj b xs e),λb o xs e=>G b o xs (I.base.Ki b o xs e),λb ps e=>?_⟩,?_,λx c e=>?_,?_,λx c e=>?_,λp ό=>?_,P,I.len⟩
 ·exact j b o (K b o e) C (A b o e a) (I.base.keep b o e n C a) (I.base.free b o e n a)
 ·obtain⟨Q,y⟩:=I.base.slot b o e n C a;obtain⟨R,F⟩:=B b _ (K b o e) C (A b o e a) y (I.base.free b o e n a);exact⟨R,F⟩
 ·obtain⟨L,y⟩:=I.base.there b o e a;exact f b L (A b o e a) y (I.base.free b o e n a)
 ·obtain⟨L,y⟩:=I.base.there b o e a;exact D b L (A b o e a) y
 ·obtain⟨m1,y⟩:=I.base.uj b ps e;obtain⟨m2,F⟩:=M b _ y;exact⟨m1++m2,by rw[F,Sl]⟩
 ·obtain⟨m,hn,hl⟩:=I.loc;refine⟨m,ns m hn,λi x v y F ϊ=>?_⟩;obtain⟨u,r,l⟩:=hl i x v y F ϊ;refine⟨u,r,?_⟩;rcases l with l|⟨k,c,e,z⟩
  ·exact .inl l
  ·exact .inr ⟨k,c,e,g x c e _ z⟩
 ·obtain⟨v,z⟩:=I.cell x c e;exact⟨v,g x c e v z⟩
 ·obtain⟨m,⟨o,_,_,E,_⟩,_⟩:=I.loc;exact f _ o (λz=>(h _ z).2.1 rfl) E I.free
 ·obtain⟨v,o,E,ώ⟩:=I.cell x c e;exact f c o (λz=>(h c z).2.2.1 x c e rfl) E (I.lh x c e)
 ·obtain⟨e,n,V,W,d⟩:=I.pin p ό;have t:=λz=>(h p.1 z).2.2.2 p ό rfl;exact⟨j p.1 p.2 V W t e n,f p.1 p.2 t e n,V,W,d⟩
def Ab.un(I:Ab X pins σ H s)(u:Un X.fs [] H H' s.heap h')(g:xj X.prog X.w H' h'):Ab X pins σ H' { s with heap:=h',toks:=t' }:=by
 obtain⟨m,⟨o,p,l,h,r⟩,_⟩:=id I.loc;obtain⟨v,i⟩:=u.any h I.free (by simp);exact I.step (ch:=[]) (λ_ z=>nomatch z) (λb o _ f _ e n=>u.keep b o e n f (by simp)) (λb o _ f _ e n=>u.slot b o e n f (by simp)) (λb o _ e n=>u.free b o e n (by simp)) (λb o _ e=>u.there b o e (by simp)) u.Mj u.Ki u.uj (λq j=>by
  obtain⟨t,d,c,a,k⟩:=j;rw[h]at a;cases a;exact⟨_,d,c,i,k⟩) g I.bare
def Ab.call(I:Ab X pins σ H s)(u:Un (Hk X.stack) ch H H' s.heap h')(j:xj X.prog X.w H' h')(v:Yi k)
  (d:∀ b∈ch,(b∈X.ex\/X.s₀.heap.objs.size<=b)/\b≠X.env.locals/\(∀ x c,X.env.cells.lookup x=some c->c≠b)/\∀ p∈X.pn++pins,p.1≠b) :
  Ab X pins σ H' { s with heap:=h',gens:=k,drawn:=q,toks:=t' }:=by
 obtain⟨m,⟨o,C,B,l,r⟩,_⟩:=id I.loc;obtain⟨F,i⟩:=u.any l I.free λz=>(d _ z).2.1 rfl;exact I.step d (λb o i t a e n=>u.keep b o e n (λz=>(Ma.mp (I.fu b z)).elim i t) a) (λb o _ _ a e n=>u.any e n a) (λb o a e n=>u.free b o e n a) (λb o a e=>u.there b o e a) u.Mj u.Ki u.uj (λD y=>by
  obtain⟨E,h,g,f,A⟩:=y;rw[l]at f;cases f;exact⟨_,h,g,i,A⟩) j v
def Ab.turned(I:Ab X pins σ H s)(k:∀ b o,b≠it->s.heap.get? b=some o->h'.get? b=some o)(y:H it=none)(f:it≠X.env.locals)
  (i:it∈X.ex\/X.s₀.heap.objs.size<=it) (j:∀ x c,X.env.cells.lookup x=some c->c≠it) (l:∀ p∈X.pn++pins,p.1≠it):Ab X pins σ H { s with heap:=h',toks:=t' }:=by
 have d:∀ b u,H b=some u->b≠it:=λb u e z=>by rw[z,y]at e;cases e
 refine I.step (ch:=[it]) (λb t=>?_) (λb o _ _ a e _=>k b o (λz=>a (by simp[z])) e) (λb o _ _ a e _=>⟨o.slots,k b o (λz=>a (by simp[z])) e⟩) (λ_ _ _ _ n=>n)
  (λb o a e=>⟨o,k b o (λz=>a (by simp[z])) e⟩) (λ_ _ e=>e) (λ_ _ _ e=>e) (λb ps e=>⟨#[],by rw[e];simp⟩) (λm w=>?_) (λb u e=>?_) I.bare
 ·have e:b=it:=by simpa using t
  subst e;exact⟨i,f,j,l⟩
 ·obtain⟨o,h,g,A,r⟩:=w;exact⟨o,h,g,k _ o (yf f) A,r⟩
 ·refine(I.Qd b u e).Rl (λc v a q=>k c v ?_ q) (λ_ q=>q) λ_ _ q=>q;rcases a with z|z
  ·rw[z];exact d b u e
  ·exact d c _ z
def Ab.tok(I:Ab X pins σ H s)(t:Nat):Ab X pins σ H { s with toks:=t }:=I.un Un.refl I.Qd
def Ab.kept(I:Ab X pins σ H s)(k:∀ b u,s.heap.get? b=some u->h'.get? b=some u):Ab X pins σ H { s with heap:=h',toks:=t' }:=I.un (Un.kept k) (I.Qd.kept k)
def Ab.laid(I:Ab X pins σ H s)(k:∀ b u,s.heap.get? b=some u->h'.get? b=some u)(c:s.heap.objs.size<=a)(d:fm X.prog X.w (Nc H a o) h' a o) :
  Ab X pins σ (Nc H a o) { s with heap:=h',toks:=t' }:=I.un (Un.laid k c (I.Qd.fresh c)) (I.Qd.laid k c d)
def Ab.write(I:Ab X pins σ H s)(f:jF (H x))(d:e=x\/H e=some (.own x))(k:∀ b u,b≠e->s.heap.get? b=some u->h'.get? b=some u)(a:∃ u,h'.get? e=some u)
  (c:fm X.prog X.w (Nc H x o) h' x o):Ab X pins σ (Nc H x o) { s with heap:=h',toks:=t' }:=I.un (Un.write f d k a) (I.Qd.write f d k a c)
def Ab.Wj(I:Ab X pins σ H s)(h:∀ p∈a,s.heap.get? p.1=some p.2/\H p.1=none/\p.1≠X.env.locals/\p.1 ∉ X.fs/\∀ v,p.2.data≠.cell v):Ab X a σ H s:=
 ⟨I.ok,I.os,I.bare,I.base,I.loc,I.cell,I.free,I.lh,λp b=>(Wb.mp b).elim (λz=>I.pin p (Bb _ z)) (h p),I.Qd,I.len⟩
def xN{N:List Str}(e:N.Nodup){i j:Nat}(a:N[i]?=some x)(b:N[j]?=some x):i=j:=by
 obtain⟨f,c⟩:=aa.mp a;obtain⟨g,d⟩:=aa.mp b;exact(dy e).mp (c.trans d.symm)
def iR(I:Ab X pins σ H s)(hN:X.N.Nodup)(T:X.N[i]?=some x)(B:Loc X.env.scope x)(r:de v u)
  (h:∀ s',Ab X pins (σ.set i (some v)) H s'->(∃ a,Gg a s.heap s'.heap/\(a=X.env.locals\/X.env.cells.lookup x=some a))->Q () s') (hf:X.fn x=true\/X.env.scope.names.lookup x=some .local:=by first|exact .inl rfl|exact .inr rfl|assumption):wpAny M A (vG X.env x u) Q E s:=by
 obtain⟨m,hn,hl⟩:=id I.loc;have S:(X.env.scope.kind == .class || (X.env.scope.kind == .module && X.env.locals != X.env.globals))=false:=by rw[I.ok.kind];rfl
 have F:i<σ.length:=by rw[I.len];exact(aa.mp T).1
 have J:=I.aG;have l:∀ {a:Addr} {h':Heap},(∃ o,s.heap.get? a=some o/\H a=none)->Gg a s.heap h'->xj X.prog X.w H h':=fun {a h'} ha f b ob e=>by
  obtain⟨_,_,C⟩:=ha;refine(I.Qd b ob e).Rl (λc w' t q=>(f.2 c ?_).trans q) (λ_ q=>q) λ_ _ q=>q;rintro rfl;rcases t with rfl|t
  ·rw[C]at e;cases e
  ·rw[C]at t;cases t
 rcases B with G|G
 ·refine wpAny_storeName_local G hn (λh' a0 f=>?_) S;obtain⟨oL,_,_,a1,_⟩:=id hn;refine h _ ⟨I.ok,I.os,I.bare,⟨λb o e n K B=>?_,λb o e n K B=>?_,I.base.free,λb o e B=>?_,I.base.Mj,I.base.Ki,I.base.uj⟩,⟨_,a0,λj y v' g D e3=>?_⟩,λy c e=>?_,I.free,I.lh,λp hp=>?_,l ⟨oL,a1,I.free⟩ f,by simpa using I.len⟩ ⟨_,f,.inl rfl⟩
  ·exact(f.2 b (Wa (gb (Fa e) I.ok.above))).trans (I.base.keep b o e n K B)
  ·obtain⟨sl,g⟩:=I.base.slot b o e n K B;exact⟨sl,(f.2 b (Wa (gb (Fa e) I.ok.above))).trans g⟩
  ·obtain⟨o',g⟩:=I.base.there b o e B;exact⟨o',(f.2 b (Wa (gb (Fa e) I.ok.above))).trans g⟩
  ·by_cases ώ:j=i
   ·subst ώ;rw[T]at g;cases g;rw[pc F]at D;cases D;exact⟨u,r,.inl ⟨G,by simp⟩⟩
   ·rw[Kh (yf ώ)]at D;obtain⟨u',r',q⟩:=hl j y v' g D e3;refine⟨u',r',?_⟩;rcases q with⟨k,e⟩|⟨k,c,e,z⟩
    ·refine .inl ⟨k,?_⟩;have:y≠x:=λe=>ώ (xN hN g (e ▸ T));simp[this,e]
    ·exact .inr ⟨k,c,e,z.sameBut f (J y c e)⟩
  ·obtain⟨w',z⟩:=I.cell y c e;exact⟨w',z.sameBut f (J y c e)⟩
  ·obtain⟨e,n,ϊ,nf,d⟩:=I.pin p hp;exact⟨(f.2 p.1 ϊ).trans e,n,ϊ,nf,d⟩
 ·have L:X.fn x=true:=by
   rcases hf with z|z
   ·exact z
   ·rw[z]at G;cases G
  obtain⟨c,t⟩:=I.ok.has x (.inl G);obtain⟨w',z⟩:=I.cell x c t;refine wpAny_storeName_cell I.ok.kind G t z (λh' P f=>?_);obtain⟨oc,ό,W⟩:=id z;refine h { s with heap:=h' } ⟨I.ok,I.os,I.bare,⟨λb o e n K B=>?_,λb o e n K B=>?_,I.base.free,λb o e B=>?_,I.base.Mj,I.base.Ki,I.base.uj⟩,⟨m,hn.sameBut f (yf (J x c t)),λj y v' g D e3=>?_⟩,λy ϋ e=>?_,I.free,I.lh,λp hp=>?_,l ⟨oc,ό,I.lh x c t⟩ f,by simpa using I.len⟩ ⟨c,f,.inr t⟩
  ·exact(f.2 b (Wa (gb (Fa e) (I.ok.Lz x c L t)))).trans (I.base.keep b o e n K B)
  ·obtain⟨sl,g⟩:=I.base.slot b o e n K B;exact⟨sl,(f.2 b (Wa (gb (Fa e) (I.ok.Lz x c L t)))).trans g⟩
  ·obtain⟨o',g⟩:=I.base.there b o e B;exact⟨o',(f.2 b (Wa (gb (Fa e) (I.ok.Lz x c L t)))).trans g⟩
  ·by_cases ώ:j=i
   ·subst ώ;rw[T]at g;cases g;rw[pc F]at D;cases D;exact⟨u,r,.inr ⟨.inl G,c,t,P⟩⟩
   ·rw[Kh (yf ώ)]at D;obtain⟨u',r',q⟩:=hl j y v' g D e3;refine⟨u',r',?_⟩;rcases q with q|⟨k,ϋ,e,z'⟩
    ·exact .inl q
    ·refine .inr ⟨k,ϋ,e,z'.sameBut f ?_⟩;rintro rfl;exact ώ (xN hN g (I.ok.inj _ _ _ e t ▸ T))
  ·by_cases R:ϋ=c
   ·subst R;exact⟨_,P⟩
   ·obtain⟨w2,z2⟩:=I.cell y ϋ e;exact⟨w2,z2.sameBut f R⟩
  ·obtain⟨e,n,ϊ,nf,d⟩:=I.pin p hp;refine⟨(f.2 p.1 ?_).trans e,n,ϊ,nf,d⟩;intro q;rw[q,ό]at e;have q':=Yb e;exact d w' (by rw[<-q'];exact W)
def oH(I:Ab X pins σ H s)(c:X.N.Nodup)(e:X.N[i]?=some x)(f:Loc X.env.scope x)(r:de v u)
  (h:∀ a,Ab X pins (σ.set i (some v)) H a->Q () a) (d:X.fn x=true\/X.env.scope.names.lookup x=some .local:=by first|exact .inl rfl|exact .inr rfl|assumption):wpAny M A (vG X.env x u) Q E s:=
 iR I c e f r (λa b _=>h a b) d
def Ab.Aw(I:Ab X pins σ H s)(g:s'.os=s.os)(u:Un (Hk X.stack) ch H H' s.heap s'.heap)(d:xj X.prog X.w H' s'.heap)(f:Yi s'.gens)
  (a:∀ b∈ch,(b∈X.ex\/X.s₀.heap.objs.size<=b)/\b≠X.env.locals/\(∀ x c,X.env.cells.lookup x=some c->c≠b)/\∀ p∈X.pn++pins,p.1≠b):Ab X pins σ H' s':=by
 obtain⟨h',i,h,t',j⟩:=s';have e:=g;subst e;exact I.call u d f a
end
abbrev XK:=Value->Option Addr->Hp->Prop
abbrev St:=List (Option V)
abbrev VK:=V->Hp->Prop
abbrev TE:=St->Hp->VK->Prop
abbrev TT:=St->Hp->(Bool->Hp->Prop)->Prop
abbrev TA:=St->Hp->(List V->Hp->Prop)->Prop
structure Al where
 nx:St->Hp->Prop
 rt:VK
 bk:St->Hp->Prop:=λ_ _=>False
 ct:St->Hp->Prop:=λ_ _=>False
abbrev TS:=Al->St->Hp->Prop
def EP(X:Cx)(a:List (Addr × Ad))(d:St)(Q:VK)(u:Value)(c:ba):Prop:=∃ v b,Ab X a d b c/\de v u/\Q v b
def TP(X:Cx)(a:List (Addr × Ad))(e:St)(Q:Bool->Hp->Prop)(b:Bool)(d:ba):Prop:=∃ c,Ab X a e c d/\Q b c
def AP(X:Cx)(a:List (Addr × Ad))(f:St)(Q:List V->Hp->Prop)(e:List Value)(d:ba):Prop:=∃ c b,Ab X a f b d/\Pe c e/\Q c b
def SP(X:Cx)(b:List (Addr × Ad))(D:Al)(f:Flow)(d:ba):Prop:=
 match f with
 | .next=>∃ a c,Ab X b a c d/\D.nx a c
 | .brk=>∃ a c,Ab X b a c d/\D.bk a c
 | .cont=>∃ a c,Ab X b a c d/\D.ct a c
 | .ret u=>∃ v a c,Ab X b a c d/\de v u/\D.rt v c
def PE(X:Cx)(e:Ya)(t:TE):Prop:=
 ∀ (a:List (Addr × Ad)) (s:ba) (σ:St) (H:Hp) (Q:VK),Ab X a σ H s->t σ H Q->wpAny (model X.prog X.w) X.A (Ec e X.env) (EP X a σ Q) X.xe s
def PT(X:Cx)(e:Ya)(t:TT):Prop:=
 ∀ (a:List (Addr × Ad)) (s:ba) (σ:St) (H:Hp) (Q:Bool->Hp->Prop),Ab X a σ H s->t σ H Q->wpAny (model X.prog X.w) X.A (BB e X.env (Ec e X.env)) (TP X a σ Q) X.xe s
def PW(X:Cx)(e:Ya)(t:TT):Prop:=
 ∀ (a:Qq Value) (pins:List (Addr × Ad)) (s:ba) (σ:St) (H:Hp) (Q:Bool->Hp->Prop),Ab X pins σ H s->t σ H Q->wpAny (model X.prog X.w) X.A (BB e X.env a) (TP X pins σ Q) X.xe s
def PW.pt(h:PW X e t):PT X e t:=h _
def PA(X:Cx)(b:List Ya)(t:TA):Prop:=
 ∀ (a:Re) (pins:List (Addr × Ad)) (s:ba) (σ:St) (H:Hp) (Q:List V->Hp->Prop),Ab X pins σ H s->t σ H Q->wpAny (model X.prog X.w) X.A (spliced (Cd a (ya b X.env))) (AP X pins σ Q) X.xe s
def PS(X:Cx)(b:Stmt)(t:TS):Prop:=
 ∀ (a:List (Addr × Ad)) (s:ba) (σ:St) (H:Hp) (D:Al),Ab X a σ H s->t D σ H->wpAny (model X.prog X.w) X.A (exec b X.env) (SP X a D) X.xe s
def Ku(X:Cx)(b:List Stmt)(t:TS):Prop:=
 ∀ (a:List (Addr × Ad)) (s:ba) (σ:St) (H:Hp) (D:Al),Ab X a σ H s->t D σ H->wpAny (model X.prog X.w) X.A (execs b X.env) (SP X a D) X.xe s
def Le{t:Qq c}{Q b:c->ba->Prop}(h:wpAny M A t Q E s)(d:∀ a s,Q a s->b a s):wpAny M A t b E s:=Pc h d λ_ _ x=>x
section
variable{X:Cx}
def bin(o:PE X a j)(p:PE X b k){R:V->V->Hp->Prop}(I:Ab X c σ H s)(h:j σ H λx i=>k σ i λy d=>R x y d) {Q:l->ba->Prop} {f:Value->Value->Qq l}
  (q:∀ v u s2 x y d,Ab X c σ d s2->de x v->de y u->R x y d->wpAny (model X.prog X.w) X.A (f v u) Q X.xe s2) :
  wpAny (model X.prog X.w) X.A (Ec a X.env) (λv e=>wpAny (model X.prog X.w) X.A (Ec b X.env) (λu g=>wpAny (model X.prog X.w) X.A (f v u) Q X.xe g) X.xe e) X.xe s:=by
 refine Le (o c s σ H _ I h) λv s1 ſ=>?_;obtain⟨x,i,m,z,r⟩:=ſ;refine Le (p c s1 σ i _ m r) λu s2 ſ=>?_;obtain⟨y,d,n,B,t⟩:=ſ;exact q v u s2 x y d n z B t
noncomputable def rP(i:Nat):TE:=λa H Q=>∃ v,a[i]?=some (some v)/\Q v H
noncomputable def tC(v:V):TE:=λ_ H Q=>Q v H
def zR(n:X.N[i]?=some x)(t:kE X.env.scope x)(g:(x == ("__debug__" : Str))=false:=by decide)(f:(x == ("__classdict__" : Str))=false:=by decide):PE X (.Name x j) (rP i):=by
 intro d s w H Q I h;obtain⟨v,e,h⟩:=h;obtain⟨m,q,o⟩:=I.loc;obtain⟨u,r,l⟩:=o i x v n e t;have Uh:EP X d w Q u s:=⟨v,H,I,r,h⟩
 rcases l with⟨b,p⟩|⟨b,c,k,a⟩
 ·exact rB (Sy I.ok.kind b q p Uh) g
 ·rcases b with b|b
  ·exact rB (Vz I.ok.kind b k a Uh) g
  ·exact rB (wpAny_loadName_free I.ok.kind b k a Uh f) g
def ū{i j pos}:PE X (.Constant (.int i) j pos) (tC (.int i)):=λ_ _ _ H _ I h=>wpAny_Constant_int ⟨.int i,H,I.tok _,⟨_,rfl⟩,h⟩
def ó{b j pos}:PE X (.Constant (.bool b) j pos) (tC (.bl b)):=λ_ _ _ H _ I h=>Constant_bool ⟨.bl b,H,I,rfl,h⟩
def ynl{j pos}:PE X (.Constant .none j pos) (tC .Rc):=λ_ _ _ H _ I h=>Constant_none ⟨.Rc,H,I,rfl,h⟩
def R1{x j pos}:PE X (.Constant (.str x) j pos) (tC (.str x)):=λ_ _ _ H _ I h=>Calls.Constant_str ⟨.str x,H,I.tok _,⟨_,rfl⟩,h⟩
def Gl(X:Cx)(x:Str):Prop:=X.env.kindOf x=some .globalImplicit
def pC(I:Ab X a f H s)(d:Gl X x)(e:X.mg x=some u)(h:Q u s)
  (c:(x == ("__debug__" : Str))=false:=by decide):wpAny (model X.prog X.w) X.A (Ec (.Name x b) X.env) Q E s:=
 vq I.ok.kind d (Calls.loadGlobal_global (by rw[I.ok.glob];exact I.mod.glob.keeps I.bk) e h) c
def Ny(I:Ab X a k H s)(f:Gl X x)(g:X.mg x=none)(j:bootBuiltins x=some u)(h:Q u s)
  (i:x ≠ "__name__":=by decide) (e:(x == ("__debug__" : Str))=false:=by decide):wpAny (model X.prog X.w) X.A (Ec (.Name x b) X.env) Q E s:=by
 obtain⟨l,c,d⟩:=I.mod.blt;exact vq I.ok.kind f (Calls.loadGlobal_builtin (by rw[I.ok.glob];exact I.mod.glob.keeps I.bk) g (by rw[I.ok.blt];exact c.keeps I.bk) ((d x i).trans j) h) e
def UM(c:Gl X x)(d:X.mg x=some u)(r:de v u)(b:(x == ("__debug__" : Str))=false:=by decide):PE X (.Name x a) (tC v):=
 λ_ _ _ H _ I h=>pC I c d ⟨v,H,I,r,h⟩ b
def B6(c:Gl X x)(d:X.mg x=none)(f:bootBuiltins x=some u)(r:de v u)(e:x ≠ "__name__":=by decide)(b:(x == ("__debug__" : Str))=false:=by decide):PE X (.Name x a) (tC v):=
 λ_ _ _ H _ I h=>Ny I c d f ⟨v,H,I,r,h⟩ e b
variable{a b:Ya}{ta tb:TE}{pos:Re}
def PC(X:Cx)(f:Vr)(a b:Ya)(t:TE):Prop:=
 ∀ (c:List (Addr × Ad)) (s:ba) (σ:St) (H:Hp) (Q:VK),Ab X c σ H s->t σ H Q->
  wpAny (model X.prog X.w) X.A (Ec a X.env) (λv d=>wpAny (model X.prog X.w) X.A (Ec b X.env) (λu e=>wpAny (model X.prog X.w) X.A (gc f v u) (EP X c σ Q) X.xe e) X.xe d) X.xe s
def E2(b:Ya){a:Vr}(h:a≠.In)(e:a≠.NotIn):Ze a b=false:=by
 have c:(a == cP)=false:=by cases a<;>first|rfl|exact absurd rfl h
 have d:(a == kD)=false:=by cases a<;>first|rfl|exact absurd rfl e
 cases b<;>simp[Ze,c,d]
noncomputable def tB(t:TE):TT:=λb H Q=>t b H λx a=>∃ c,x=.bl c/\Q c a
def yn8(h:PC X g a b t)(f:Ze g b=false:=by first|exact E2 _ (by decide) (by decide)|rfl):PT X (.Compare a [g] [b] pos) (tB t):=by
 intro e s n H Q I k;refine fy (Le (h e s n H _ I k) λv s1 f=>Le f λu s2 j=>Le j λc s3 ſ=>?_) f;obtain⟨x,H1,i,m,l⟩:=ſ;obtain⟨d,rfl,q⟩:=l;cases m;exact ie ⟨H1,i,q⟩
def tZ(h:PE X e t)(f:∀ a,BB e X.env a=(do let v <-a;Vk e.pos;Zg [v] (truthy v)):=by intro _;rfl):PT X e (tB t):=by
 intro b s σ H Q I g;refine isTrue_plain (Le (h b s σ H _ I g) λv s1 ⟨x,H1,c,j,i⟩=>?_) (f _);obtain⟨d,rfl,q⟩:=i;cases j;exact ie ⟨H1,c,q⟩
variable{tA tB':TT}{rest:List Ya}
noncomputable def L9(t u:TT):TT:=λb H Q=>t b H λc a=>if c=true then u b a Q else Q false a
noncomputable def Q8(t u:TT):TT:=λb H Q=>t b H λc a=>if c=true then Q true a else u b a Q
noncomputable def ĳ(t:TT):TT:=λb H Q=>t b H λc a=>Q (!c) a
def U3(d:PT X a tA):PW X (.BoolOp .And [a] pos) tA:=by
 intro g b s f H Q I h;refine isTrue_and (Le (d b s f H Q I h) λc s1 e=>?_);cases c with
 |true=>exact isTrue_and_nil e
 |false=>exact e
def RZ(d:PT X a tA):PW X (.BoolOp .Or [a] pos) tA:=by
 intro g b s f H Q I h;refine isTrue_or (Le (d b s f H Q I h) λc s1 e=>?_);cases c with
 |false=>exact isTrue_or_nil e
 |true=>exact e
def Ä(i:PT X a tA)(j:PW X (.BoolOp .And (b::rest) pos) tB'):PW X (.BoolOp .And (a::b::rest) pos) (L9 tA tB'):=by
 intro k d s g H Q I h;refine isTrue_and (Le (i d s g H _ I h) λc s1 ſ=>?_);obtain⟨H1,e,f⟩:=ſ;cases c with
 |true=>exact j k d s1 g H1 Q e f
 |false=>exact⟨H1,e,f⟩
def gZ(i:PT X a tA)(j:PW X (.BoolOp .Or (b::rest) pos) tB'):PW X (.BoolOp .Or (a::b::rest) pos) (Q8 tA tB'):=by
 intro k d s g H Q I h;refine isTrue_or (Le (i d s g H _ I h) λc s1 ſ=>?_);obtain⟨H1,e,f⟩:=ſ;cases c with
 |true=>exact⟨H1,e,f⟩
 |false=>exact j k d s1 g H1 Q e f
def M3(e:PT X a tA):PT X (.UnaryOp .Not a pos) (ĳ tA):=by
 intro b s f H Q I h;exact isTrue_not (e b s f H (λc d=>Q (!c) d) I h)
noncomputable def yv6(ta tb:TE):TE:=λb H Q=>ta b H λx a=>∃ c,x=.bl c/\if c=true then tb b a Q else Q (.bl false) a
noncomputable def Ġ(ta tb:TE):TE:=λb H Q=>ta b H λx a=>∃ c,x=.bl c/\if c=true then Q (.bl true) a else tb b a Q
noncomputable def L3(ta:TE):TE:=λb H Q=>ta b H λx a=>∃ c,x=.bl c/\Q (.bl (!c)) a
def Z5{op}(h:PE X a t):PE X (.BoolOp op [a] pos) t:=λb s d H Q I c=>BoolOp_one (h b s d H Q I c)
def F5(i:PE X a ta)(j:PE X (.BoolOp .And (b::rest) pos) tb):PE X (.BoolOp .And (a::b::rest) pos) (yv6 ta tb):=by
 intro d s g H Q I h;refine BoolOp_and (Le (i d s g H _ I h) λv s1 ſ=>?_);obtain⟨x,H1,f,k,e⟩:=ſ;obtain⟨c,rfl,e⟩:=e;cases k;refine ie ?_;cases c with
 |true=>exact j d s1 g H1 Q f e
 |false=>exact⟨.bl false,H1,f,rfl,e⟩
def yuq(i:PE X a ta)(j:PE X (.BoolOp .Or (b::rest) pos) tb):PE X (.BoolOp .Or (a::b::rest) pos) (Ġ ta tb):=by
 intro d s g H Q I h;refine BoolOp_or (Le (i d s g H _ I h) λv s1 ſ=>?_);obtain⟨x,H1,f,k,e⟩:=ſ;obtain⟨c,rfl,e⟩:=e;cases k;refine ie ?_;cases c with
 |false=>exact j d s1 g H1 Q f e
 |true=>exact⟨.bl true,H1,f,rfl,e⟩
def T6(f:PE X a ta):PE X (.UnaryOp .Not a pos) (L3 ta):=by
 intro b s i H Q I h;refine UnaryOp_ (Le (f b s i H _ I h) λv s1 ſ=>?_);obtain⟨x,H1,e,g,d⟩:=ſ;obtain⟨c,rfl,d⟩:=d;cases g;exact not_of (ie ⟨.bl (!c),H1,e,rfl,d⟩)
noncomputable def Ν(t:TT)(ta tb:TE):TE:=λa H Q=>t a H λc b=>if c=true then ta a b Q else tb a b Q
def l7(l:PT X c tA)(j:PE X a ta)(k:PE X b tb):PE X (.IfExp c a b pos) (Ν tA ta tb):=by
 intro e s f H Q I h;refine wpAny_IfExp (Le (l e s f H _ I h) λd s1 ſ=>?_);obtain⟨H1,g,i⟩:=ſ;cases d with
 |true=>exact j e s1 f H1 Q g i
 |false=>exact k e s1 f H1 Q g i
end
def ug(K:W.Frag)(H:Hp)(a:Addr)(xs:List V):Prop:=
 Rd H a (.wa xs)\/
  ∃ (o:Ad) (b:Array Value) (n:Nat),K.lookup a=some o/\o.cls=.type "list"/\o.dict=none/\o.data=.seq b n/\b.size<=sizeLine/\Pe xs b.toList
def ui(K:W.Frag)(H:Hp)(a:Addr)(xs:List V):Prop:=
 Rd H a (.Xa xs)\/
  ∃ (o:Ad) (b:Array Value) (n:Nat),K.lookup a=some o/\o.cls=.type "tuple"/\o.data=.seq b n/\b.size<=sizeLine/\Pe xs b.toList
noncomputable def B8:Value->Option V
 | .none=>some .Rc
 | .bool b=>some (.bl b)
 | .int i _=>some (.int i)
 | .str x _=>some (.str x)
 | .bytes b _=>some (.ZJ b)
 | .float b _=>some (.HA b)
 | .ref a=>some (.ref a)
 | .type n=>some (.ty n)
 |_=>none
theorem de.abs(r:de x u):B8 u=some x:=by
 cases x with
 |Rc=>cases r;rfl
 |bl _=>cases r;rfl
 |int _=>obtain⟨t,rfl⟩:=r;rfl
 |str _=>obtain⟨t,rfl⟩:=r;rfl
 |ZJ _=>obtain⟨t,rfl⟩:=r;rfl
 |HA _=>obtain⟨t,rfl⟩:=r;rfl
 |ref _=>cases r;rfl
 |ty _=>cases r;rfl
def de.inj(r:de x u)(q:de y u):x=y:=Yb (r.abs.symm.trans q.abs)
theorem Pe.inj:∀ {xs a:List V} {us:List Value},Pe xs us->Pe a us->xs=a
 |_,_,_,.nil,.nil=>rfl
 |_,_,_,.cons r t,.cons b c=>by rw[r.inj b,Pe.inj t c]
section
variable{X:Cx}{pins:List (Addr × Ad)}{σ:St}{H:Hp}{s:ba}{a:Addr}{xs ys:List V}
def ug.of{K:W.Frag}(h:H a=some (.wa xs)):ug K H a xs:=.inl (.inl h)
def ui.of{K:W.Frag}(h:H a=some (.Xa xs)):ui K H a xs:=.inl (.inl h)
def Ab.list(I:Ab X pins σ H s)(h:ug X.K H a xs):∃ its:List Value,Pe xs its/\PlainL s.heap a its.toArray/\xs.length<=sizeLine:=by
 rcases h with h|⟨o,its,n,d,b,c,f,g,r⟩
 ·obtain⟨z,its,n,r,e⟩:=h.ok I.Qd;exact⟨its,r,⟨_,n,e,rfl,rfl,rfl⟩,z⟩
 ·refine⟨its.toList,r,⟨o,n,I.Ak a o d,b,c,by simpa using f⟩,?_⟩;have e:=r.length;simp only[Wh]at e;omega
def Ab.tuple(I:Ab X pins σ H s)(h:ui X.K H a xs):∃ its:List Value,Pe xs its/\iw s.heap a its.toArray/\xs.length<=sizeLine:=by
 rcases h with h|⟨o,its,n,c,b,d,f,r⟩
 ·obtain⟨z,its,r,p⟩:=h.ok I.Qd;exact⟨its,r,p,z⟩
 ·refine⟨its.toList,r,⟨o,I.Ak a o c,b,n,by simpa using d⟩,?_⟩;have e:=r.length;simp only[Wh]at e;omega
def Ab.Pl(I:Ab X pins σ H s)(h:ug X.K H a xs)(h':ug X.K H a ys):xs=ys:=by
 obtain⟨its,r,⟨o,n,e,_,_,d⟩,_⟩:=I.list h;obtain⟨b,g,⟨j,i,f,_,_,c⟩,_⟩:=I.list h';rw[e]at f;cases f;rw[d]at c;injection c with d1 _;have:its=b:=by simpa using Dc Array.toList d1
 subst this;exact r.inj g
def Ab.nv(I:Ab X pins σ H s)(h:ui X.K H a xs)(h':ui X.K H a ys):xs=ys:=by
 obtain⟨its,r,⟨o,e,_,n,d⟩,_⟩:=I.tuple h;obtain⟨b,g,⟨j,f,_,i,c⟩,_⟩:=I.tuple h';rw[e]at f;cases f;rw[d]at c;injection c with d1 _;have:its=b:=by simpa using Dc Array.toList d1
 subst this;exact r.inj g
end
abbrev Cx.Mn(X:Cx)(E:Value->ba->Prop):Cx:={ X with xe:=E }
noncomputable abbrev Cx.Yp(X:Cx):Cx:=X.Mn λ_ _=>False
def Cx.Ok.Mn{X:Cx}(ok:X.Ok)(E:Value->ba->Prop):(X.Mn E).Ok:=
 ⟨ok.mod,ok.kind,ok.glob,ok.blt,ok.above,ok.inj,ok.has,ok.Lz,ok.hd,ok.frames,ok.En,ok.eB,ok.bs,ok.Pt,ok.Qs,ok.Cs,ok.ik,ok.Iw⟩
def Cx.Ok.Ci{X:Cx}(ok:(X.Mn E).Ok):X.Ok:=
 ⟨ok.mod,ok.kind,ok.glob,ok.blt,ok.above,ok.inj,ok.has,ok.Lz,ok.hd,ok.frames,ok.En,ok.eB,ok.bs,ok.Pt,ok.Qs,ok.Cs,ok.ik,ok.Iw⟩
section
variable{X:Cx}{pins:List (Addr × Ad)}{σ:St}{H:Hp}{s:ba}{E:Value->ba->Prop}
def Ab.Mn(I:Ab X pins σ H s)(E:Value->ba->Prop):Ab (X.Mn E) pins σ H s:=⟨I.ok.Mn E,I.os,I.bare,I.base,I.loc,I.cell,I.free,I.lh,I.pin,I.Qd,I.len⟩
def Ab.Ci(I:Ab (X.Mn E) pins σ H s):Ab X pins σ H s:=⟨I.ok.Ci,I.os,I.bare,I.base,I.loc,I.cell,I.free,I.lh,I.pin,I.Qd,I.len⟩
def SP.Ci(h:SP (X.Mn E) pins D f c):SP X pins D f c:=by
 cases f with
 |next=>obtain⟨a,b,I,q⟩:=h;exact⟨a,b,I.Ci,q⟩
 |brk=>obtain⟨a,b,I,q⟩:=h;exact⟨a,b,I.Ci,q⟩
 |cont=>obtain⟨a,b,I,q⟩:=h;exact⟨a,b,I.Ci,q⟩
 |ret u=>obtain⟨v,a,b,I,r,q⟩:=h;exact⟨v,a,b,I.Ci,r,q⟩
def PE.Yp(h:PE X.Yp e t):PE X e t:=λpins s σ H Q I c=>
 Pc (h pins s σ H Q (I.Mn _) c) (λ_ _ ⟨v,a,b,r,q⟩=>⟨v,a,b.Ci,r,q⟩) λ_ _ z=>False.elim z
def PT.Yp(h:PT X.Yp e t):PT X e t:=λpins s σ H Q I c=>
 Pc (h pins s σ H Q (I.Mn _) c) (λ_ _ ⟨a,b,q⟩=>⟨a,b.Ci,q⟩) λ_ _ z=>False.elim z
def Ku.Yp(h:Ku X.Yp a t):Ku X a t:=λpins s σ H D I b=>
 Pc (h pins s σ H D (I.Mn _) b) (λ_ _ q=>q.Ci) λ_ _ z=>False.elim z
end
section
variable{X:Cx}{st:Stmt}{rest:List Stmt}{t u:TS}{e:Ya}{te:TE}{pos:Re}
noncomputable def ywa:TS:=λD a H=>D.nx a H
noncomputable def m7(t u:TS):TS:=λD a H=>t { D with nx:=u D } a H
def ZP:Ku X [] ywa:=λ_ _ a H _ I h=>ql ⟨a,H,I,h⟩
def tQ(e:PS X st t)(g:Ku X rest u):Ku X (st::rest) (m7 t u):=by
 intro a s i H D I h;refine nG (Le (e a s i H { D with nx:=u D } I h) λf s1 q=>?_);cases f with
 |next=>
  obtain⟨b,c,d,q⟩:=q;exact g a s1 b c D d q
 |ret v=>exact q
 |brk=>exact q
 |cont=>exact q
def yep(b:PS X st t):Ku X [st] t:=by
 intro a s c H D I h;refine nG (Le (b a s c H D I h) λf s1 q=>?_);cases f with
 |next=>exact ql q
 |ret v=>exact q
 |brk=>exact q
 |cont=>exact q
def Ab.quiet(I:Ab X a b H s):interactive X.env=false:=by simp[interactive,I.ok.kind]
noncomputable def E5(te:TE):TS:=λD a H=>te a H λ_ b=>D.nx a b
def W1(c:PE X e te)(d:dj e none pos.line X.env=pure false:=by rfl):PS X (.Expr e pos) (E5 te):=by
 intro a s σ H D I h;exact wpAny_Expr_any (Le (c a s σ H _ I h) λv s1 ⟨x,H1,b,g,f⟩=>⟨σ,H1,b,f⟩) I.quiet d
noncomputable def xcf(te:TE):TS:=λD a H=>te a H D.rt
def WY(c:PE X e te):PS X (.Return (some e) pos) (xcf te):=by
 intro a s σ H D I h;exact wpAny_Return_some (Le (c a s σ H _ I h) λv s1 ⟨x,H1,b,f,d⟩=>⟨x,σ,H1,b,f,d⟩)
noncomputable def n7(c:TT)(t u:TS):TS:=λD a H=>c a H λb d=>if b=true then t D a d else u D a d
def kY(l:PT X c i)(j:Ku X a t)(k:Ku X b u):PS X (.If c a b pos) (n7 i t u):=by
 intro e s σ H D I h;refine wpAny_If (Le (l e s σ H _ I h) λd s1 ſ=>?_);obtain⟨H1,f,g⟩:=ſ;cases d with
 |true=>exact j e s1 σ H1 D f g
 |false=>exact k e s1 σ H1 D f g
end
abbrev TG:=V->St->Hp->(St->Hp->Prop)->Prop
abbrev lz:=List V->St->Hp->(St->Hp->Prop)->Prop
def PG(X:Cx)(a:Ya)(t:TG):Prop:=
 ∀ (b:List (Addr × Ad)) (s:ba) (σ:St) (H:Hp) (v:V) (u:Value) (Q:St->Hp->Prop),Ab X b σ H s->de v u->t v σ H Q->
  wpAny (model X.prog X.w) X.A (Pm a X.env u) (λ_ e=>∃ c d,Ab X b c d e/\Q c d) X.xe s
def qF(X:Cx)(f:List Ya)(t:lz):Prop:=
 ∀ (a:List (Addr × Ad)) (s:ba) (σ:St) (H:Hp) (d:List V) (us:List Value) (Q:St->Hp->Prop),Ab X a σ H s->Pe d us->t d σ H Q->
  wpAny (model X.prog X.w) X.A (assignInOrder ((sf f X.env).map (·.2)) us) (λ_ e=>∃ b c,Ab X a b c e/\Q b c) X.xe s
abbrev YG:=V->V->V->Hp->(Hp->Prop)->Prop
def DO(X:Cx)(t:YG):Prop:=
 ∀ (a:List (Addr × Ad)) (s:ba) (σ:St) (H:Hp) (o i v:V) (d c u:Value) (Q:Hp->Prop),Ab X a σ H s->de o d->de i c->de v u->t o i v H Q->
  wpAny (model X.prog X.w) X.A (xx d c u) (λ_ e=>∃ b,Ab X a σ b e/\Q b) X.xe s
abbrev mH:=V->V->Hp->VK->Prop
def DN(X:Cx)(b:Qm)(t:mH):Prop:=
 ∀ (a:List (Addr × Ad)) (s:ba) (σ:St) (H:Hp) (x y:V) (v u:Value) (Q:VK),Ab X a σ H s->de x v->de y u->t x y H Q->
  wpAny (model X.prog X.w) X.A (wG b v u) (EP X a σ Q) X.xe s
section
variable{X:Cx}{pos:Re}
noncomputable def mR(i:Nat):TG:=λv a H Q=>Q (a.set i (some v)) H
def D5(c:X.N.Nodup)(e:X.N[i]?=some x)(f:Loc X.env.scope x)(d:X.fn x=true\/X.env.scope.names.lookup x=some .local:=by first|exact .inl rfl|exact .inr rfl|assumption):PG X (.Name x pos) (mR i):=by
 intro a s j H v u Q I r h;exact aD (oH I c e f r (λg b=>⟨_,H,b,h⟩) d)
noncomputable def P9:lz:=λa b H Q=>a=[]/\Q b H
noncomputable def n9(t:TG)(u:lz):lz:=λc d H Q=>∃ v r,c=v::r/\t v d H λa b=>u r a b Q
def ń:qF X [] P9:=by
 intro a s b H d c Q I r h;obtain⟨e,h⟩:=h;subst e;cases r;exact assignInOrder_nil ⟨b,H,I,h⟩
def G5(g:PG X e t)(i:qF X b u)
  (j:(sf (e::b) X.env).map (·.2)=Pm e X.env::(sf b X.env).map (·.2):=by rfl):qF X (e::b) (n9 t u):=by
 intro a s m H p n Q I r h;obtain⟨v,o,f,h⟩:=h;subst f;cases r with
 |cons r l=>
  rw[j];refine assignInOrder_cons (Le (g a s m H _ _ _ I r h) λ_ s1 ſ=>?_);obtain⟨c,H1,d,k⟩:=ſ;exact i a s1 c H1 _ _ Q d l k
noncomputable def N5(K:W.Frag)(n:Nat)(t:lz):TG:=λv σ H Q=>∃ a xs,v=.ref a/\ui K H a xs/\xs.length=n/\t xs σ H Q
def yns(m:X.Lc=true)(h:qF X d t)
  (q:(sf d X.env).length=n:=by rfl) (f:(sf d X.env).findIdx? (·.1)=none:=by rfl):PG X (.Tuple d k pos) (N5 X.K n t):=by
 intro c s σ H v u Q I r g;obtain⟨a,xs,l,w,p,g⟩:=g;subst l;cases r;obtain⟨its,i,x,z⟩:=I.tuple w;refine assign_Tuple_tuple (I.ok.hd m) x (by simp[q,<-p,i.length]) f λh' y=>?_;have j:Ab X c σ H { s with heap:=h' }:=I.kept λb o e=>y b o (Wa (Fa e)) e;exact h c _ σ H xs _ Q j (by simpa using i) g
noncomputable def Z2(f e:TE)(t:YG):TG:=λv a H Q=>f a H λo b=>e a b λi c=>t o i v c λd=>Q a d
def sQ(p:PE X o f)(n:PE X i e)(q:DO X t)
  (D:∀ v,Pm (.Subscript o i pos) X.env v=(do
   let b <-Zg [v] (Ec o X.env);let c <-Zg [v,b] (Ec i X.env)
   Vk pos
   Zg [v,b,c] (xx b c v)
   release [v,b,c] []):=by intro _;rfl):PG X (.Subscript o i pos) (Z2 f e t):=by
 intro a s d H v u Q I r h;refine ga (ge (Le (p a s d H _ I h) λb s1 ſ=>?_));obtain⟨x,H1,k,B,w⟩:=ſ;refine ga (ge (Le (n a s1 d H1 _ k w) λc s2 ſ=>?_));obtain⟨y,g,l,C,z⟩:=ſ;refine ga (sv (ga (ge (Le (q a s2 d g x y v b c u _ l B C r z) λ_ s3 ſ=>?_))));obtain⟨j,m,A⟩:=ſ;exact wpAny_release ⟨d,j,m,A⟩
noncomputable def HX(c:TE)(g:TG):TS:=λD a H=>c a H λx b=>g x a b D.nx
def SM(i:PE X e c)(j:PG X b g)(k:So [b] e pos.line X.env=pure false:=by rfl)(l:To [b] e X.env=pure none:=by rfl)
  (f:(sf [b] X.env).map (·.2)=[Pm b X.env]:=by rfl):PS X (.Assign [b] e pos) (HX c g):=by
 intro a s σ H D I h;refine wpAny_Assign_stores (Le (i a s σ H _ I h) λv s1 ſ=>?_) k l;obtain⟨x,H1,d,n,m⟩:=ſ;rw[f];exact Le (j a s1 σ H1 x v _ d n m) λ_ s2 q=>q
def aZ(g:X.N.Nodup)(l:X.N[i]?=some x)(n:Loc X.env.scope x)(j:PE X e c)(m:dj e (some (.Name x a)) pos.line X.env=pure false:=by rfl)(k:X.fn x=true\/X.env.scope.names.lookup x=some .local:=by first|exact .inl rfl|exact .inr rfl|assumption) :
  PS X (.Assign [.Name x a] e pos) (HX c (mR i)):=by
 intro b s σ H D I h;refine wpAny_Assign_Name (Le (j b s σ H _ I h) λv s1 ſ=>?_) m;obtain⟨y,H1,d,p,o⟩:=ſ;exact oH d g l n p (λs2 f=>⟨_,H1,f,o⟩) k
noncomputable def xb6(i:Nat)(d:TE)(e:mH):TS:=λD a H=>∃ x,a[i]?=some (some x)/\d a H λy b=>e x y b λz c=>D.nx (a.set i (some z)) c
def x9(L:X.N.Nodup)(t:X.N[i]?=some x)(n:Loc X.env.scope x)(ώ:PE X e B)(T:DN X o C)(P:X.fn x=true\/X.env.scope.names.lookup x=some .local:=by first|exact .inl rfl|exact .inr rfl|assumption) :
  PS X (.AugAssign (.Name x f) o e pos) (xb6 i B C):=by
 intro a s σ H D I h;obtain⟨v,K,h⟩:=h;obtain⟨m,S,Q⟩:=I.loc;have p:kE X.env.scope x:=by rcases n with k|k;exact .inl k;exact .inr (.inl k)
 obtain⟨u,r,l⟩:=Q i x v t K p;refine wpAny_AugAssign_Name ?_;have q:wpAny (model X.prog X.w) X.A (Ec e X.env) (λw g=>wpAny (model X.prog X.w) X.A (wG o u w) (λr j=>wpAny (model X.prog X.w) X.A (vG X.env x r) (λ_=>SP X a D .next) X.xe j) X.xe g) X.xe s:=by
  refine Le (ώ a s σ H _ I h) λw s1 ſ=>?_;obtain⟨y,H1,F,W,ό⟩:=ſ;refine Le (T a s1 σ H1 v y u w _ F r W ό) λz s2 ſ=>?_;obtain⟨zv,E,G,ϋ,V⟩:=ſ;exact oH G L t n ϋ (λϊ J=>⟨_,E,J,V⟩) P
 rcases l with⟨b,R⟩|⟨b,c,M,d⟩
 ·exact Sy I.ok.kind b S R q
 ·rcases b with b|b
  ·exact Vz I.ok.kind b M d q
  ·rcases n with k|k
   ·have:X.env.scope.names.lookup x=some .free:=b;rw[k]at this;cases this
   ·have:X.env.scope.names.lookup x=some .free:=b;rw[k]at this;cases this
noncomputable def kQ(f:Int->Int->Int):mH:=λx y H Q=>∃ i j,x=.int i/\y=.int j/\Q (.int (f i j)) H
def AU:DN X .Add (kQ λi j=>i+j):=by
 intro a s f H x y v u Q I d e h;obtain⟨i,j,b,c,q⟩:=h;subst b;subst c;obtain⟨t,rfl⟩:=d;obtain⟨t',rfl⟩:=e;exact iadd_int ⟨.int _,H,I.tok _,⟨_,rfl⟩,q⟩
end
structure It where
 go:Nat->Hp->Prop
 MB:Nat->Hp->V->Hp->Prop
 stop:Nat->Hp->Prop
def Kn(X:Cx)(a:List (Addr × Ad))(H:Hp)(b:Addr):Prop:=
 H b=none/\b≠X.env.locals/\b ∉ X.fs/\(b∈X.ex\/X.s₀.heap.objs.size<=b)/\(∀ x c,X.env.cells.lookup x=some c->c≠b)/\∀ p∈X.pn++a,p.1≠b
def Ab.Yr(I:Ab X a i H s)(d:s.heap.objs.size<=b)(g:f b=none):Kn X a f b:=by
 refine⟨g,vh (gb I.lt d),I.JD d,.inr (Fb I.sz d),λx c e z=>?_,λp h z=>?_⟩
 ·obtain⟨v,q⟩:=I.cell x c e;exact absurd (gb q.lt (by rw[z];exact d)) (qe _)
 ·exact absurd (gb (Fa (I.pin p h).1) (by rw[z];exact d)) (qe _)
structure Ss(P:Ia)(w:qb)(K:W.Frag)(tg:Ya)(J:It)(fp:List Addr)(it:Addr)(tn:Nat->Heap->Prop):Prop where
 mem:it∈fp
 obj:∀ i h,tn i h->∀ b∈fp,∃ o,h.get? b=some o/\∀ v,o.data≠.cell v
 keep:∀ i h h',tn i h->(∀ b∈fp,∀ o,h.get? b=some o->h'.get? b=some o)->tn i h'
 item:∀ (X:Cx),X.prog=P->X.w=w->X.K=K->X.Lc=true->∀ (i:Nat) (pins:List (Addr × Ad)) (s:ba) (σ:St) (H:Hp) (E:Value->ba->Prop),Ab X pins σ H s->(∀ b∈fp,Kn X pins H b)->tn i s.heap->J.go i H->
  wpAny (model P w) X.A (pyNext (.ref it)) (λr s1=>∃ u,r=some u/\
   wpAny (model P w) X.A (letOwnedTupleGo tg (.ref it) u) (λ_ s2=>∃ x H',Ab X pins σ H' s2/\de x u/\J.MB i H x H'/\tn (i+1) s2.heap/\∀ b∈fp,H' b=none) E s1) E s
 done:∀ (X:Cx),X.prog=P->X.w=w->X.K=K->X.Lc=true->∀ (i:Nat) (pins:List (Addr × Ad)) (s:ba) (σ:St) (H:Hp) (E:Value->ba->Prop),Ab X pins σ H s->(∀ b∈fp,Kn X pins H b)->tn i s.heap->J.stop i H->
  wpAny (model P w) X.A (pyNext (.ref it)) (λr s1=>r=none/\Ab X pins σ H s1) E s
 self:∀ (A:Za) (i:Nat) (s:ba) (Q:Value->ba->Prop) (E:Value->ba->Prop),tn i s.heap->Q (.ref it) s->wpAny (model P w) A (pyIter (.ref it)) Q E s
abbrev TI:=St->Hp->(It->Hp->Prop)->Prop
def MR(X:Cx)(a:List (Addr × Ad))(i:St)(h:Ya)(R:It->Hp->Prop)(d:Value)(s2:ba):Prop:=
 ∃ (f:Addr) (e:List Addr) (g:Nat->Heap->Prop) (J:It) (c:Hp),d=.ref f/\Ab X a i c s2/\Ss X.prog X.w X.K h J e f g/\g 0 s2.heap/\(∀ b∈e,Kn X a c b)/\R J c
def PI(X:Cx)(c b:Ya)(d:TI):Prop:=
 ∀ (a:List (Addr × Ad)) (s:ba) (σ:St) (H:Hp) (R:It->Hp->Prop),Ab X a σ H s->d σ H R->
  wpAny (model X.prog X.w) X.A (Ec b X.env) (λv s1=>wpAny (model X.prog X.w) X.A (pyIter v) (MR X a σ c R) X.xe s1) X.xe s
def aL (i : s.heap.get? b = some o) (e : o.cls = .type n) (f : o.data = .fields d)
    (g : ["enumerate","zip","dict_itemiterator","dict_reverseitemiterator","odict_iterator","itertools.zip_longest","itertools.pairwise"].contains n = false) (a : Q () s) : wpAny M A (letOwnedTupleGo c (.ref b) u) Q E s := by
  cases c <;> first
    | exact za a
    | (cases u <;> first
        | exact za a
        | (refine ga (sB i ?_)
           rw [e, f];show wpAny M A (if (["enumerate","zip","dict_itemiterator","dict_reverseitemiterator","odict_iterator","itertools.zip_longest","itertools.pairwise"].contains n && d[0]? == some (Tf _)) = true then _ else _) Q E s;rw [ra (by intro h; rw [g, Nq] at h; cases h)];exact za a))
noncomputable def RN(K:W.Frag)(a:Addr):It:=
 ⟨λi H=>∃ xs x,ug K H a xs/\xs[i]?=some x,λi H x b=>b=H/\∀ xs,ug K H a xs->xs[i]?=some x,λi H=>∃ xs,ug K H a xs/\xs.length<=i⟩
noncomputable def oM(K:W.Frag)(a:Addr):It:=
 ⟨λi H=>∃ xs x,ui K H a xs/\xs[i]?=some x,λi H x b=>b=H/\∀ xs,ui K H a xs->xs[i]?=some x,λi H=>∃ xs,ui K H a xs/\xs.length<=i⟩
noncomputable def LH(lo:Int)(n:Nat):It:=⟨λi _=>i<n,λi H x a=>a=H/\x=.int (lo+i),λi _=>n<=i⟩
def j6{P:Ia}{w:qb}{K:W.Frag}{V:Ya}(a l:Addr):Ss P w K V (RN K a) [l] l (λi h=>h.IsListIter l a i) where
 mem:=by simp
 obj:=λi h f b j=>by
  have e:b=l:=by simpa using j
  subst e;obtain⟨o,e,c,d⟩:=f;exact⟨o,e,λv z=>by rw[d]at z;cases z⟩
 keep:=λi h h' f k=>f.at λo e=>k l (by simp) o e
 item:=by
  intro X D G C M i g s σ H E I n f F;subst D G C;obtain⟨xs,x,q,J⟩:=F;obtain⟨its,L,p,T⟩:=I.list q;obtain⟨u,R,ό⟩:=L.get J;obtain⟨r,t,Q,y,A,B⟩:=n l (by simp);refine wpAny_pyNext_list_item f p.isList (by simpa using R) λh' m sb=>?_;have N:Ab X g σ H { s with heap:=h' }:=I.turned (λb o j e=>(sb.2 b j).trans e) r t y A B;obtain⟨o,e,c,d⟩:=id m;exact⟨u,rfl,aL e c d (by decide) ⟨x,H,N,ό,⟨rfl,λϊ S=>by rw[I.Pl S q];exact J⟩,m,λb j=>(n b j).1⟩⟩
 done:=by
  intro X D G C M i g s σ H E I n f F;subst D G C;obtain⟨xs,q,J⟩:=F;obtain⟨its,L,p,T⟩:=I.list q;obtain⟨r,t,Q,y,A,B⟩:=n l (by simp);have ϋ:=L.length;exact wpAny_pyNext_list_end (I.ok.hd M) f p.isList (by simp;omega) λh' ώ=>⟨rfl,I.turned (λb o j e=>ώ b o j e) r t y A B⟩
 self:=λ_ _ _ _ _ f h=>wpAny_pyIter_listiter f h
def L0{P:Ia}{w:qb}{K:W.Frag}{V:Ya}(a l:Addr):Ss P w K V (oM K a) [l] l (λi h=>h.IsTupleIter l a i) where
 mem:=by simp
 obj:=λi h f b j=>by
  have e:b=l:=by simpa using j
  subst e;obtain⟨o,e,c,d⟩:=f;exact⟨o,e,λv z=>by rw[d]at z;cases z⟩
 keep:=λi h h' f k=>f.at λo e=>k l (by simp) o e
 item:=by
  intro X D G C M i g s σ H E I n f F;subst D G C;obtain⟨xs,x,q,J⟩:=F;obtain⟨its,L,p,T⟩:=I.tuple q;obtain⟨u,R,ό⟩:=L.get J;obtain⟨r,t,Q,y,A,B⟩:=n l (by simp);refine wpAny_pyNext_tuple_item f (p) (by simpa using R) λh' m sb=>?_;have N:Ab X g σ H { s with heap:=h' }:=I.turned (λb o j e=>(sb.2 b j).trans e) r t y A B;obtain⟨o,e,c,d⟩:=id m;exact⟨u,rfl,aL e c d (by decide) ⟨x,H,N,ό,⟨rfl,λϊ S=>by rw[I.nv S q];exact J⟩,m,λb j=>(n b j).1⟩⟩
 done:=by
  intro X D G C M i g s σ H E I n f F;subst D G C;obtain⟨xs,q,J⟩:=F;obtain⟨its,L,p,T⟩:=I.tuple q;obtain⟨r,t,Q,y,A,B⟩:=n l (by simp);have ϋ:=L.length;exact wpAny_pyNext_tuple_end (I.ok.hd M) f (p) (by simp;omega) λh' ώ=>⟨rfl,I.turned (λb o j e=>ώ b o j e) r t y A B⟩
 self:=λ_ _ _ _ _ f h=>wpAny_pyIter_tupleiter f h
def ø{P:Ia}{w:qb}{K:PySem.W.Frag}{L:Ya}(c:Addr)(lo:Int)(n:Nat):Ss P w K L (LH lo n) [c] c (λi h=>IsRangeIter h c (lo+(i:Nat) * 1) ((n:Int) - (i:Nat)) 1) where
 mem:=by simp
 obj:=λi h a b f=>by
  have e:b=c:=by simpa using f
  subst e;exact⟨_,a,λv z=>by
   have N:=z;cases N⟩
 keep:=λi h h' a k=>k c (by simp) _ a
 item:=by
  intro X x B u y i d s σ H E I j a A;subst x B u;obtain⟨l,m,F,p,q,r⟩:=j c (by simp);have W:=Walks.range (prog:=X.prog) (w:=X.w) (I.ok.hd y) c lo 1 n;refine W.item i s _ _ A a λv h' M G g J=>?_;obtain⟨t,rfl⟩:=G;have C:Ab X d σ H { s with heap:=h',toks:=M }:=I.turned (λb o f e=>J b o (by simpa using f) e) l m p q r;refine⟨_,rfl,aL g rfl rfl (by decide) ⟨.int (lo+i),H,C,⟨t,?_⟩,⟨rfl,rfl⟩,g,λb f=>(j b f).1⟩⟩;rw[Int.mul_one]
 done:=by
  intro X x B u y i d s σ H E I j a A;subst x B u;obtain⟨l,m,F,p,q,r⟩:=j c (by simp);exact wpAny_pyNext_range_end (I.ok.hd y) a (by have:n<=i:=A;omega) λh' D=>⟨rfl,I.turned (λb o f e=>D b o f e) l m p q r⟩
 self:=λ_ _ _ _ _ a h=>wpAny_pyIter_rangeiter a h
section
variable{X:Cx}{tg:Ya}
def fQ{lo a:Int}(I:Ab X c f H s)(j:-(2 ^ 62)<=lo)(k:lo<2 ^ 62)(l:-(2 ^ 62)<=a)(m:a<2 ^ 62)
  (q:R (LH lo (a - lo).toNat) H):wpAny (model X.prog X.w) X.A (pyIter (.ref s.heap.objs.size)) (MR X c f tg R) E { s with heap:=s.heap.push { cls:=.type "range",data:=.fields #[.int lo t,.int a u,.int 1 v] },toks:=g }:=by
 refine wpAny_pyIter_range (IsRange.new ..) (small_one j k l m) ?_;have d:Ab X c f H { s with heap:=s.heap.push { cls:=.type "range",data:=.fields #[.int lo t,.int a u,.int 1 v] },toks:=g }:=I.kept λb o e=>ua _ e;refine⟨(s.heap.push { cls:=.type "range",data:=.fields #[.int lo t,.int a u,.int 1 v] }).objs.size,[(s.heap.push { cls:=.type "range",data:=.fields #[.int lo t,.int a u,.int 1 v] }).objs.size],_,_,H,rfl,
  d.kept λb o e=>ua _ e,ø _ lo (a - lo).toNat,?_,λb n=>?_,q⟩
 ·have h:lo+(0:Nat) * 1=lo:=by simp
  have i:((a - lo).toNat) - (0:Nat)=xG lo a 1:=by rw[rangeSize_one];split<;>omega
  rw[h,i];exact Db _ rfl
 ·have e:b=(s.heap.push { cls:=.type "range",data:=.fields #[.int lo t,.int a u,.int 1 v] }).objs.size:=by simpa using n
  subst e;exact d.Yr (Ea _) (d.Qd.fresh (Ea _))
def A7(b:TA):TI:=λd H R=>b d H λc a=>∃ j:Int,c=[.int j]/\-(2 ^ 62)<=j/\j<2 ^ 62/\R (LH 0 j.toNat) a
def ysv(b:TA):TI:=λd H R=>b d H λc a=>∃ i j:Int,c=[.int i,.int j]/\(-(2 ^ 62)<=i/\i<2 ^ 62/\-(2 ^ 62)<=j/\j<2 ^ 62)/\R (LH i (j - i).toNat) a
def r8(k:Gl X "range")(l:X.mg "range" = none)(i:PA X [a] f)(m:ya [a] X.env=[(false,Ec a X.env)]:=by rfl):PI X tg (.Call (.Name "range" p) [a] [] c) (A7 f):=by
 intro b s σ H R I h;refine Call_ (Ny I k l boot_range (re (Le (i c b s σ H _ I h) λus s1 ſ=>?_) m rfl));obtain⟨v,H1,g,o,d⟩:=ſ;obtain⟨j,e,d,n,q⟩:=d;subst e;cases o with
 |cons r u=>
  cases u;obtain⟨t,rfl⟩:=r;exact call_range_1 (fQ g (by omega) (by omega) d n (by simpa using q))
def zov(o:Gl X "range")(u:X.mg "range" = none)(n:PA X [a,b] l)(v:ya [a,b] X.env=[(false,Ec a X.env),(false,Ec b X.env)]:=by rfl)(c:ya [b] X.env=[(false,Ec b X.env)]:=by rfl) :
  PI X tg (.Call (.Name "range" p) [a,b] [] f) (ysv l):=by
 intro d s σ H R I h;refine Call_ (Ny I o u boot_range (re (Le (n f d s σ H _ I h) λus s1 ⟨B,H1,m,A,g⟩=>?_) (by rw[v,c]) (by rw[c];rfl)));obtain⟨i,j,e,⟨g,w,x,y⟩,q⟩:=g;subst e;cases A with
 |cons r k=>
  cases k with
  |cons z k=>
   cases k;obtain⟨t,rfl⟩:=r;obtain⟨t',rfl⟩:=z;exact call_range_2 (fQ m g w x y q)
noncomputable def E4(k:TI)(g:TG)(j:TS):TS:=λD a H=>k a H λJ f=>∃ W:Nat->Nat->St->Hp->Prop,(∃ m,W 0 m a f)/\∀ i m a H,W i m a H->
 (J.stop i H/\D.nx a H)\/(J.go i H/\∃ N:St->Hp->Prop,(∀ c b,N c b->∃ e,e<m/\W (i+1) e c b)/\∀ x b,J.MB i H x b->g x a b λd h=>j { D with nx:=N,ct:=N,bk:=D.nx } d h)
noncomputable def GE(a:List Addr)(h:Heap):List (Addr × Ad):=a.filterMap λb=>(h.get? b).map λo=>(b,o)
def WJ(c:b∈a)(e:h.get? b=some o):(b,o)∈GE a h:=jm.mpr ⟨b,c,by rw[e];rfl⟩
def p7(f:p∈GE a h):p.1∈a/\h.get? p.1=some p.2:=by
 obtain⟨b,d,e⟩:=jm.mp f;cases q:h.get? b with
 |none=>rw[q]at e;cases e
 |some o=>
  rw[q]at e;have c:=Yb e;subst c;exact⟨d,q⟩
def Ab.pinned(I:Ab X a h H s)(l:∀ b∈c,Kn X a H b)(m:∀ b∈c,∃ o,s.heap.get? b=some o/\∀ v,o.data≠.cell v):Ab X (a++GE c s.heap) h H s:=
 I.Wj λp n=>(Wb.mp n).elim (λz=>I.pin p (xb _ z)) λz=>by
  obtain⟨g,e⟩:=p7 z;obtain⟨i,j,k,_⟩:=l p.1 g;obtain⟨o,f,d⟩:=m p.1 g;rw[e]at f;cases f;exact⟨e,i,j,k,d⟩
def Ab.Ml(I:Ab X (a++pl) b H s):Ab X a b H s:=I.Wj λp c=>I.pin p (xb _ (Bb _ c))
def XU(L:Cr (model X.prog X.w) X.A X.env X.xe)(hc:X.Lc=true)(hi:PI X tg q wi)(hg:PG X tg g)(p:Ku X C tb)
  (hs:∀ x,Eh q X.env x=pure x:=by intro _;rfl):PS X (.For tg q C [] ϋ) (E4 wi g tb):=by
 intro a s σ H D I h;refine wpAny_For (Le (hi a s σ H _ I h) λv s1 h1=>Le h1 λa2 s2 h2=>?_) hs;obtain⟨it,G,tn,J,H2,e,I2,T,a0,f2,W,⟨m0,w0⟩,Qj⟩:=h2;subst e;have t:∀ {B:Hp},(∀ b∈G,B b=none)->∀ b∈G,Kn X a B b:=λhn b p=>⟨hn b p,(f2 b p).2⟩
 refine codeAny_forLoop_any (λn s'=>∃ i y B,Ab X a y B s'/\tn i s'.heap/\(∀ b∈G,B b=none)/\W i n y B) ?_ m0 ⟨0,σ,H2,I2,a0,λb p=>(f2 b p).1,w0⟩;rintro n s3 ⟨i,z,R,I3,ώ,K,w3⟩;rcases Qj i n z R w3 with⟨Q,qn⟩|⟨go,N,hN,P⟩
 ·refine Di L (Le (T.done X rfl rfl rfl hc i a s3 z R X.xe I3 (t K) ώ Q) λr s4 ⟨V,I4⟩=>?_);subst V;exact ql ⟨z,R,I4,qn⟩
 ·refine Di L (Le (T.item X rfl rfl rfl hc i a s3 z R X.xe I3 (t K) ώ go) λr s4 ſ=>?_);obtain⟨u,V,h4⟩:=ſ;subst V;refine Di L (Le h4 λ_ s5 ſ=>?_);obtain⟨x,H5,I5,r5,y5,F,ό⟩:=ſ;have S:=I5.pinned (t ό) (T.obj _ _ F);refine Di L (Le (hg _ s5 z H5 x u _ S r5 (P x H5 y5)) λ_ s6 ſ=>?_);obtain⟨a1,H6,I6,q6⟩:=ſ;refine Di L (Le (p _ s6 a1 H6 _ I6 q6) λf ϊ E=>?_);have l:∀ {c:St} {j:Hp},Ab X (a++GE G s5.heap) c j ϊ->N c j->∃ m,m<n/\∃ i y B,Ab X a y B ϊ/\tn i ϊ.heap/\(∀ b∈G,B b=none)/\W i m y B:=fun {c j} k M=>by
   obtain⟨m',hm,w7⟩:=hN c j M;refine⟨m',hm,i+1,c,j,k.Ml,T.keep _ _ _ F λb p o e=>(k.pin (b,o) (xb _ (xb _ (WJ p e)))).1,λb p=>?_,w7⟩;obtain⟨o,e,d⟩:=T.obj _ _ F b p;exact(k.pin (b,o) (xb _ (xb _ (WJ p e)))).2.1
  cases f with
  |next=>obtain⟨c,j,k,M⟩:=E;exact l k M
  |cont=>obtain⟨c,j,k,M⟩:=E;exact l k M
  |brk=>obtain⟨c,j,k,E⟩:=E;exact⟨c,j,k.Ml,E⟩
  |ret v=>obtain⟨x7,c,j,k,r7,E⟩:=E;exact⟨x7,c,j,k.Ml,r7,E⟩
end
abbrev R2:=V->V->Hp->VK->Prop
def ni(X:Cx)(f:Value->Value->Qq Value)(r:R2):Prop:=
 ∀ (a:List (Addr × Ad)) (s:ba) (σ:St) (H:Hp) (x y:V) (v u:Value) (Q:VK),Ab X a σ H s->de x v->de y u->r x y H Q->
  wpAny (model X.prog X.w) X.A (f v u) (EP X a σ Q) X.xe s
def dI(X:Cx)(f:Value->Qq Value)(r:V->Hp->VK->Prop):Prop:=
 ∀ (a:List (Addr × Ad)) (s:ba) (σ:St) (H:Hp) (x:V) (v:Value) (Q:VK),Ab X a σ H s->de x v->r x H Q->
  wpAny (model X.prog X.w) X.A (f v) (EP X a σ Q) X.xe s
def Gp(X:Cx)(f:Value)(r:List V->Hp->VK->Prop):Prop:=
 ∀ (a:List (Addr × Ad)) (s:ba) (σ:St) (H:Hp) (xs:List V) (us:List Value) (Q:VK),Ab X a σ H s->Pe xs us->r xs H Q->
  wpAny (model X.prog X.w) X.A (call f us) (EP X a σ Q) X.xe s
noncomputable def QB(r:R2)(d e:TE):TE:=λa H Q=>d a H λx b=>e a b λy c=>r x y c Q
def t6(r:V->Hp->VK->Prop)(b:TE):TE:=λc H Q=>b c H λx a=>r x a Q
def rI(C:Int->Int->Prop)(g:Int->Int->V):R2:=λx y H Q=>∃ i j,x=.int i/\y=.int j/\C i j/\Q (g i j) H
noncomputable def Es(g:Int->Int->V):R2:=λx y H Q=>∃ i j,x=.int i/\y=.int j/\Q (g i j) H
def rU(g:Int->V):V->Hp->VK->Prop:=λx H Q=>∃ i,x=.int i/\Q (g i) H
section
variable{X:Cx}{a b c:Ya}{ta tb tc:TE}{pos:Re}
def NK(m:PE X a ta)(n:PE X b tb){c:List (Addr × Ad)}{R:V->V->Hp->Prop}(I:Ab X c e H s)
  (h:ta e H λx j=>tb e j λy d=>R x y d) {f:Value->Value->Qq Value}
  (o:∀ v u s2 x y d,Ab X c e d s2->de x v->de y u->R x y d->wpAny (model X.prog X.w) X.A (f v u) Q X.xe s2) :
  wpAny (model X.prog X.w) X.A (Ec a X.env) (λv g=>wpAny (model X.prog X.w) X.A (Ec b X.env) (λu i=>wpAny (model X.prog X.w) X.A (f v u) Q X.xe i) X.xe g) X.xe s:=by
 refine Le (m c s e H _ I h) λv s1 ſ=>?_;obtain⟨x,j,k,r,p⟩:=ſ;refine Le (n c s1 e j _ k p) λu s2 ſ=>?_;obtain⟨y,d,l,t,q⟩:=ſ;exact o v u s2 x y d l r t q
def ģ(j:ni X (uf d) r)(g:PE X a ta)(i:PE X b tb):PE X (.BinOp a d b pos) (QB r ta tb):=by
 intro c s m H Q I h;exact wpAny_BinOp (NK g i I h λv u s2 x y e f k l q=>j c s2 m e x y v u Q f k l q)
def E6{c:UnaryOp}(g:dI X (unaryOp c) r)(f:PE X a ta):PE X (.UnaryOp c a pos) (t6 r ta):=by
 intro b s d H Q I h;exact UnaryOp_ (Le (f b s d H _ I h) λv s1 ⟨x,H1,e,j,i⟩=>g b s1 d H1 x v Q e j i)
def KF{g:Int->Int->Int}
  (a:∀ (i j:Int) (t u:Tok) (s:ba) (Q:Value->ba->Prop) (E:Value->ba->Prop),C i j->Q (.int (g i j) s.toks) { s with toks:=s.toks+1 }->wpAny (model X.prog X.w) X.A (f (.int i t) (.int j u)) Q E s) :
  ni X f (rI C λi j=>.int (g i j)):=by
 intro b s k H x y v u Q I d e h;obtain⟨i,j,rfl,rfl,c,q⟩:=h;obtain⟨t,rfl⟩:=d;obtain⟨t',rfl⟩:=e;exact a i j t t' s _ _ c ⟨.int (g i j),H,I.tok _,⟨_,rfl⟩,q⟩
def GM{g:Int->Int->Int}
  (a:∀ (i j:Int) (t u:Tok) (s:ba) (Q:Value->ba->Prop) (E:Value->ba->Prop),Q (.int (g i j) s.toks) { s with toks:=s.toks+1 }->wpAny (model X.prog X.w) X.A (f (.int i t) (.int j u)) Q E s) :
  ni X f (Es λi j=>.int (g i j)):=by
 intro b s e H x y v u Q I c d h;obtain⟨i,j,rfl,rfl,q⟩:=h;obtain⟨t,rfl⟩:=c;obtain⟨t',rfl⟩:=d;exact a i j t t' s _ _ ⟨.int (g i j),H,I.tok _,⟨_,rfl⟩,q⟩
def GG{g:Int->Int->Bool}
  (a:∀ (i j:Int) (t u:Tok) (s:ba) (Q:Value->ba->Prop) (E:Value->ba->Prop),Q (.bool (g i j)) s->wpAny (model X.prog X.w) X.A (f (.int i t) (.int j u)) Q E s) :
  ni X f (Es λi j=>.bl (g i j)):=by
 intro b s e H x y v u Q I c d h;obtain⟨i,j,rfl,rfl,q⟩:=h;obtain⟨t,rfl⟩:=c;obtain⟨t',rfl⟩:=d;exact a i j t t' s _ _ ⟨.bl (g i j),H,I,rfl,q⟩
def XR(i j:Int):Prop:=0<j/\j<1073741824
def FP(i j:Int):Prop:=0<=j/\j<=1000000/\i.natAbs<2 ^ 64
def UG(i j:Int):Prop:=(-(2 ^ 64)<i/\i<2 ^ 64)\/(-(2 ^ 64)<j/\j<2 ^ 64)
def UG.ok(h:UG i j):IntMulOk i j:=by
 rcases h with⟨a,b⟩|⟨a,b⟩
 ·exact .of_left (oY a b)
 ·exact .of_right (oY a b)
def g5(k:Nat):(0:Int)<=2 ^ k:=by
 exact Int.natCast_nonneg _
def ymz:ni X (uf .Add) (Es λi j=>.int (i+j)):=GM λ_ _ _ _ _ _ _ q=>add_int q
def UA:ni X (uf .Sub) (Es λi j=>.int (i - j)):=GM λ_ _ _ _ _ _ _ q=>sub_int q
def fE:ni X (uf .Mult) (rI UG λi j=>.int (i * j)):=KF λ_ _ _ _ _ _ _ a q=>mul_int q a.ok
def Eo:ni X (uf .FloorDiv) (rI XR λi j=>.int (i / j)):=KF λi j _ _ _ _ _ a q=>by
 have b:=a.1;have c:=a.2;exact floordiv_int (by omega) (by rw[xr i (by omega)];exact q) (.inl (PyProof.noPylong_small (by omega)))
def gk:ni X (uf .Mod) (rI (λ_ j=>0<j) λi j=>.int (i % j)):=KF λi j _ _ _ _ _ a q=>by
 exact mod_int' (by omega) (by rw[Int.fmod_eq_emod_of_nonneg i (by omega)];exact q)
def dA:ni X (uf .Pow) (rI FP λi j=>.int (i ^ j.toNat)):=KF λ_ _ _ _ _ _ _ a q=>pow_int_small a.1 a.2.1 a.2.2 q
def Ŝ:ni X (uf .RShift) (rI (λ_ j=>0<=j) λi j=>.int (i / 2 ^ j.toNat)):=KF λi j _ _ _ _ _ a q=>
 rshift_int a (by rw[xr i (g5 _)];exact q)
def M5:ni X (uf .BitAnd) (Es λi j=>.int (ji i j)):=GM λ_ _ _ _ _ _ _ q=>and_int q
def unI{g:Int->Int}
  (a:∀ (i:Int) (t:Tok) (s:ba) (Q:Value->ba->Prop) (E:Value->ba->Prop),Q (.int (g i) s.toks) { s with toks:=s.toks+1 }->wpAny (model X.prog X.w) X.A (f (.int i t)) Q E s) :
  dI X f (rU λi=>.int (g i)):=by
 intro b s d H x v Q I c h;obtain⟨i,rfl,q⟩:=h;obtain⟨t,rfl⟩:=c;exact a i t s _ _ ⟨.int (g i),H,I.tok _,⟨_,rfl⟩,q⟩
def RE:dI X (unaryOp .USub) (rU λi=>.int (-i)):=unI λ_ _ _ _ _ q=>neg_int q
end
section
variable{X:Cx}{a b c:Ya}{ta tb tc:TE}{pos:Re}
def PR{a:List (Addr × Ad)}{c:St}{k b:Bool}(I:Ab X a c H s)(q:Q (.bl k) H)(e:k=b):EP X a c Q (.bool b) s:=by
 subst e;exact⟨.bl k,H,I,rfl,q⟩
def Zv:ni X (gc .Lt) (Es λi j=>.bl (decide (i<j))):=GG λ_ _ _ _ _ _ _ q=>lt_int q
def xQ:ni X (gc .LtE) (Es λi j=>.bl (decide (i<=j))):=GG λ_ _ _ _ _ _ _ q=>le_int q
def bI:ni X (gc .Gt) (Es λi j=>.bl (decide (j<i))):=GG λ_ _ _ _ _ _ _ q=>gt_int q
def MI:ni X (gc .GtE) (Es λi j=>.bl (decide (j<=i))):=GG λ_ _ _ _ _ _ _ q=>ge_int q
theorem gF:ni X (gc .Is) (λx y H Q=>y=.Rc/\Q (.bl (decide (x=.Rc))) H):=by
 intro a s d H x y v u Q I b c h;obtain⟨rfl,q⟩:=h;cases c;refine is_none_gen (PR I q ?_);cases x<;>first
  |(cases b;rfl)
  |(obtain⟨t,rfl⟩:=b;rfl)
theorem DT:ni X (gc .IsNot) (λx y H Q=>y=.Rc/\Q (.bl (!decide (x=.Rc))) H):=by
 intro a s d H x y v u Q I b c h;obtain⟨rfl,q⟩:=h;cases c;refine isnot_none_gen (PR I q ?_);cases x<;>first
  |(cases b;rfl)
  |(obtain⟨t,rfl⟩:=b;rfl)
def ni.or{r b:R2}(h:ni X f r)(h':ni X f b):ni X f (λx y H Q=>r x y H Q\/b x y H Q):=by
 intro a s e H x y v u Q I c d q;rcases q with q|q
 ·exact h a s e H x y v u Q I c d q
 ·exact h' a s e H x y v u Q I c d q
def Hf(b:Ya){a:Vr}(h:a≠.In:=by decide)(e:a≠.NotIn:=by decide):Ze a b=false:=by
 have c:(a == cP)=false:=by cases a<;>first|rfl|exact absurd rfl h
 have d:(a == kD)=false:=by cases a<;>first|rfl|exact absurd rfl e
 cases b<;>simp[Ze,c,d]
def TZ(k:ni X (gc d) r)(g:PE X a ta)(i:PE X b tb)(j:Ze d b=false):PE X (.Compare a [d] [b] pos) (QB r ta tb):=by
 intro c s n H Q I h;exact wpAny_Compare1 (NK g i I h λv u s2 x y e f l m q=>k c s2 n e x y v u Q f l m q) j
noncomputable def Ĩ(t:TE):TT:=λb H Q=>t b H λx a=>∃ k,x=.bl k/\Q k a
def gM(t:ni X (gc f) r)(o:PE X a ta)(p:PE X b tb)(q:Ze f b=false):PT X (.Compare a [f] [b] pos) (Ĩ (QB r ta tb)):=by
 intro d s g H Q I h;refine fy (Le (o d s g H _ I h) λv s1 ⟨x,H1,l,C,w⟩=>Le (p d s1 g H1 _ l w) λu s2 ⟨y,i,m,D,A⟩=>
  Le (t d s2 g i x y v u _ m C D A) λc s3 ⟨z,j,n,E,k,e,B⟩=>?_) q
 subst e;cases E;exact ie ⟨j,n,B⟩
noncomputable def HZ(r f:R2)(ta tb tc:TE):TE:=λa H Q=>ta a H λx c=>tb a c λy d=>r x y d λz b=>∃ k,z=.bl k/\
 (if k=true then tc a b λg e=>f y g e Q else Q (.bl false) b)
def É(J:ni X (gc l) r)(j:ni X (gc g) p)(D:PE X a ta)(E:PE X b tb)(F:PE X c tc)
  (G:lastMarks [l,g] [b,c]=false:=by with_unfolding_all rfl):PE X (.Compare a [l,g] [b,c] pos) (HZ r p ta tb tc):=by
 intro f s i H Q I h;refine Compare_chain (Le (D f s i H _ I h) λv s1 ⟨x,H1,A,N,K⟩=>chain_link (Le (E f s1 i H1 _ A K) λu s2 ⟨y,t,B,q,L⟩=>
  Le (J f s2 i t x y v u _ B N q L) λd s3 ⟨z,m,n,ώ,k,e,o⟩=>?_)) G
 subst e;cases ώ;refine ie ?_;cases k with
 |false=>exact ite_ff ⟨.bl false,m,n,rfl,o⟩
 |true=>exact ite_tt (chain_last (Le (F f s3 i m _ n o) λR s4 ⟨S,w,C,P,M⟩=>j f s4 i w y S u R Q C q P M))
def lJ:(sizeLine:Nat)<2 ^ 63:=by rw[sizeLine_eq];decide
def ġ:ni X (uf .Add) (λx y H Q=>∃ i j,x=.str i/\y=.str j/\i.length+j.length<=sizeLine/\Q (.str (i++j)) H):=by
 intro a s f H x y v u Q I c d h;obtain⟨i,j,rfl,rfl,b,q⟩:=h;obtain⟨t,rfl⟩:=c;obtain⟨t',rfl⟩:=d;exact add_str (λt' e=>⟨.str (i++j),H,I.tok _,⟨_,rfl⟩,q⟩) b
def Yv{a:List Value}(r:Pe [x] a):∃ u,a=[u]/\de x u:=by
 cases r with
 |cons b c=>cases c;exact⟨_,rfl,b⟩
def GN{a:List Value}(r:Pe [x,y] a):∃ u b,a=[u,b]/\de x u/\de y b:=by
 cases r with
 |cons c d=>
  cases d with
  |cons e f=>cases f;exact⟨_,_,rfl,c,e⟩
def gW(c:X.Lc=true):Gp X (.builtin "max") (λxs H Q=>∃ i j,xs=[.int i,.int j]/\Q (.int (if j > i then j else i)) H):=by
 intro b s g H xs e Q I r h;obtain⟨i,j,rfl,q⟩:=h;obtain⟨u,f,rfl,⟨t,rfl⟩,⟨t',rfl⟩⟩:=GN r;refine max_two_ints (I.ok.hd c) λh' d k=>⟨_,H,I.kept k,?_,q⟩
 by_cases a:j > i
 ·rw[ma a,ma a];exact⟨_,rfl⟩
 ·rw[ra a,ra a];exact⟨_,rfl⟩
def tE(c:X.Lc=true):Gp X (.builtin "min") (λxs H Q=>∃ i j,xs=[.int i,.int j]/\Q (.int (if j<i then j else i)) H):=by
 intro b s g H xs e Q I r h;obtain⟨i,j,rfl,q⟩:=h;obtain⟨u,f,rfl,⟨t,rfl⟩,⟨t',rfl⟩⟩:=GN r;refine min_two_ints (I.ok.hd c) λh' d k=>⟨_,H,I.kept k,?_,q⟩
 by_cases a:j<i
 ·rw[ma a,ma a];exact⟨_,rfl⟩
 ·rw[ra a,ra a];exact⟨_,rfl⟩
def zl6:Gp X (.type "int") (λxs H Q=>(∃ i,xs=[.int i]/\Q (.int i) H)\/∃ k,xs=[.bl k]/\Q (.int (if k then 1 else 0)) H):=by
 intro a s d H xs c Q I r h;rcases h with⟨i,rfl,q⟩|⟨k,rfl,q⟩
 ·obtain⟨u,rfl,t,rfl⟩:=Yv r;exact call_int_int ⟨.int i,H,I,⟨_,rfl⟩,q⟩
 ·obtain⟨u,rfl,b⟩:=Yv r;cases b;exact call_int_bool ⟨.int (if k then 1 else 0),H,I.tok _,⟨_,rfl⟩,q⟩
end
structure Ht(h:Heap)(x dx C:Addr)(mA:Str->Option Value):Prop where
 obj:h.get? x=some (W.instObj C dx)
 ns:h.Ns1 dx mA
 ne:dx≠x
def znr{h:Heap}(n:h.Ns1 d g):∃ i,h.get? d=some i/\∀ b,W.lookIn b i=some (g b):=by
 obtain⟨o,f,r,m,j,k,_,l⟩:=n;refine⟨o,m,λb=>?_⟩;have e:=l b;unfold nsFind findBy at e;rw[<-Array.find?_toList]at e;unfold W.lookIn;rw[j];dsimp only;split
 ·rename_i y q
  rw[q]at e;exact Dc some e
 ·rename_i q
  rw[q]at e;have a:f.toList.any (·.refKey)=false:=by
   rw[Si];intro y p;obtain⟨z,t,c⟩:=k y (Array.mem_toList_iff.mp p);simp[zaF,c]
  have a':¬ f.toList.any (·.refKey)=true:=by rw[a];exact Eb
  rw[ra a'];exact Dc some e
def Ht.look(I:Ht h x c C d):∃ b,W.InstAt h x (W.instObj C c) C (some b)/\∀ a,W.lookIn a b=some (d a):=
 let ⟨b,f,e⟩:=znr I.ns
 ⟨b,⟨I.obj,rfl,rfl,f⟩,e⟩
section
variable{prog:Ia}{w:qb}{A:Za}{E:Value->ba->Prop}{s:ba}{K:W.Frag}{x dx C f:Addr}{mA:Str->Option Value}{name:Str}{v:Value}
def ybm(X:K.In s.heap)(I:Ht s.heap x dx C mA)(d:W.plainGet K C name=true)(e:W.hasDictIn K C=true)
  (c:W.findIn K (.ref C) name=some none) (g:mA name=some v) (b:W.handedIn v=true) (h:Q v { s with toks:=s.toks+1 }) :
  wpAny (model prog w) A (getAttr (.ref x) name a) Q E s:=by
 obtain⟨i,J,f⟩:=I.look;exact W.get_value X J (W.plainGet_of d).1 (W.findObj_own e c rfl (by rw[f,g])) b h
def x5(X:K.In s.heap)(I:Ht s.heap x dx C mA)(a:W.plainGet K C name=true)
  (b:W.findIn K (.ref C) name=some (some (.ref f))) (d:W.isFn K (.ref f)=true) (e:mA name=none) (h:Q (.ref f,[.ref x]) s) :
  wpAny (model prog w) A (on (.ref x) name pl) Q E s:=by
 obtain⟨g,J,c⟩:=I.look;exact W.method_fn X J (W.plainGet_of a).1 (W.plainGet_of a).2 b (Dh.mp d) (by show (W.lookIn name g).map (·.isSome)=some false;rw[c,e];rfl) h
def v7(X:K.In s.heap)(I:Ht s.heap x dx C mA)
  (o:W.findIn K (.ref C) "__setattr__" = some (some (.builtin "object.__setattr__"))) (n:W.plainOver K C=true) (q:W.takerIn K C name=some none) (m:W.hasDictIn K C=true)
  (r:PySem.Within mA i) (p:i.length<=sizeLine)
  (h:∀ h',Ht h' x dx C (λy=>if y=name then some v else mA y)->Gg dx s.heap h'->Q () { s with heap:=h',toks:=s.toks+2 }) :
  wpAny (model prog w) A (setAttr (.ref x) name v) Q E s:=by
 obtain⟨B,J,z⟩:=I.look;refine W.set_plain X J o (W.osa_open X J n q λb=>?_);obtain⟨u,l,e⟩:=W.any_some m;have t:=I.obj;refine ga (za (ga (ga (wpAny_loadPart t (ga (W.Looks.here (W.looks_clsIn X l) ?_))))));rw[e];refine za (ga (za (ga ?_)));refine wpAny_nsSet1 I.ns λh' a c=>?_;obtain⟨oD,k,j,g,f,d⟩:=a.count (fK name v r);refine ga (wpAny_lookBehind g (by rw[f];exact pastItsLine_dict (Fb d (by rw[ub];omega))) ?_);exact za (h _ ⟨(c.2 _ (yf I.ne)).trans I.obj,a,I.ne⟩ c)
def U0(X:K.In s.heap)(j:W.makesIn K C=true)
  (i:W.findIn K (.ref C) "__init__" = some (some (.ref f))) (e:W.typeIn K (.ref f)=some (.type "function"))
  (h:codeAny (model prog w) (A.under (.builtin "type.__call__" ⟨.ref C::c,b⟩)) (.call (.ref f) ⟨.ref (s.heap.objs.size+1)::c,b⟩) (W.InitBack (s.heap.objs.size+1) R)
   { s with heap:=(s.heap.push W.emptyDict).push (W.instObj C s.heap.objs.size) }) :
  codeAny (model prog w) A (.call (.ref C) ⟨c,b⟩) R s:=by
 obtain⟨k,g,d,t,l⟩:=s;exact W.make_core (W.makes_of X j) (W.looks_findIn X i) (λa=>W.bind_fn X a e) (.inl rfl) h
end
noncomputable def Vp(f:Str)(v:V):List (Str × V)->List (Str × V)
 |[]=>[(f,v)]
 |(g,x)::r=>if g=f then (g,v)::r else (g,x)::Vp f v r
theorem UR(f g:Str)(v:V):∀ c:List (Str × V),(Vp f v c).lookup g=if g=f then some v else c.lookup g
 |[]=>by
  show List.lookup g [(f,v)]=_;by_cases h:g=f
  ·have a:=Dh.mpr h;simp only[List.lookup,a,ma h]
  ·have a:(g == f)=false:=Ye.mpr h;simp only[List.lookup,a,ra h]
 |(k,x)::r=>by
  have d:=UR f g v r;rw[show Vp f v ((k,x)::r)=(if k=f then (k,v)::r else (k,x)::Vp f v r)from rfl];by_cases b:k=f
  ·rw[ma b];by_cases h:g=k
   ·have a:(g == k)=true:=Dh.mpr h;simp only[List.lookup,a,ma (h.trans b)]
   ·have a:(g == k)=false:=Ye.mpr h;simp only[List.lookup,a,ra (λe:g=f=>h (e.trans b.symm))]
  ·rw[ra b];by_cases h:g=k
   ·have a:(g == k)=true:=Dh.mpr h;simp only[List.lookup,a,ra (λe:g=f=>b (h.symm.trans e))]
   ·have a:(g == k)=false:=Ye.mpr h;simp only[List.lookup,a];exact d
theorem BO(f:Str)(v:V):∀ a:List (Str × V),f∈(Vp f v a).map (·.1)/\∀ g,g∈a.map (·.1)->g∈(Vp f v a).map (·.1)
 |[]=>⟨by simp[Vp],λg h=>by simp at h⟩
 |(k,x)::r=>by
  obtain⟨c,d⟩:=BO f v r;rw[show Vp f v ((k,x)::r)=(if k=f then (k,v)::r else (k,x)::Vp f v r)from rfl];by_cases b:k=f
  ·rw[ma b];subst b;exact⟨by simp,λg h=>by simpa using h⟩
  ·rw[ra b];refine⟨?_,λg h=>?_⟩
   ·rw[Ga];exact Aa _ c
   ·rw[Ga]at h ⊢;rcases Ma.mp h with e|e
    ·exact Ma.mpr (.inl e)
    ·exact Aa _ (d g e)
theorem HP(f:Str)(v:V):∀ a:List (Str × V),(Vp f v a).length<=a.length+1
 |[]=>by simp[Vp]
 |(k,x)::r=>by
  have c:=HP f v r;rw[show Vp f v ((k,x)::r)=(if k=f then (k,v)::r else (k,x)::Vp f v r)from rfl];by_cases b:k=f
  ·rw[ma b,ub,ub];omega
  ·rw[ra b,ub,ub];omega
def uq.some_of(r:uq (some v) o):∃ u,o=some u/\de v u:=by
 cases o with
 |none=>exact(r).elim
 |some u=>exact⟨u,rfl,r⟩
def uq.none_of(r:uq none o):o=none:=by
 cases o with
 |none=>rfl
 |some u=>exact(r).elim
theorem j4(r:de v u):W.handedIn u=true:=by
 cases v with
 |Rc=>cases (r);rfl
 |bl b=>cases (r);rfl
 |int i=>obtain⟨t,e⟩:=(r);cases e;rfl
 |str x=>obtain⟨t,e⟩:=(r);cases e;rfl
 |ZJ b=>obtain⟨t,e⟩:=(r);cases e;rfl
 |HA b=>obtain⟨t,e⟩:=(r);cases e;rfl
 |ref a=>cases (r);rfl
 |ty n=>cases (r);rfl
section
variable{P:Ia}{w:qb}{H H':Hp}{h h':Heap}{a C dx:Addr}{fs fs':List (Str × V)}
def AH(c:xj P w H h)(e:H a=some (.yc C dx fs)):∃ b,Ht h a dx C b/\(∀ f,uq (fs.lookup f) (b f))/\PySem.Within b (fs.map (·.1))/\fs.length<=1000/\H dx=some (.own a):=by
 obtain⟨d,z,g,ob,b,n,r,q⟩:=(c a _ e)
 exact⟨b,⟨ob,n,g⟩,r,q,z,d⟩
end
structure qq(K:W.Frag)(C:Addr):Prop where
 pg:W.plainGet K C Str.empty=true
 hd:W.hasDictIn K C=true
 po:W.plainOver K C=true
 sa:W.findIn K (.ref C) "__setattr__" = some (some (.builtin "object.__setattr__"))
def qq.get{K:W.Frag}(c:qq K C)(f:Str):W.plainGet K C f=true:=c.pg
def bi(K:W.Frag)(C:Addr)(f:Str):Prop:=W.findIn K (.ref C) f=some none
theorem bi.ED{K:W.Frag}(n:bi K C f):W.takerIn K C f=some none:=by
 unfold W.takerIn;rw[n];rfl
structure Con(K:W.Frag)(C:Addr)(f:Str)(v:V)(u:Value):Prop where
 at_:W.findIn K (.ref C) f=some (some u)
 rel:de v u
 get:W.specialIn K u "__get__" = some none
 cp:W.copiedNames.contains f=false
structure Eg(K:W.Frag)(C:Addr)(m:Str)(f:Addr):Prop where
 at_:W.findIn K (.ref C) m=some (some (.ref f))
 fn:W.isFn K (.ref f)=true
 kp:W.keepIn K (.ref f)=true
section
variable{X:Cx}{pins:List (Addr × Ad)}{σ:St}{H:Hp}{s:ba}{a C dx:Addr}{fs:List (Str × V)}{f:Str}{v:V}{A:Za}{E:Value->ba->Prop}
def jX(I:Ab X pins σ H s)(e:H a=some (.yc C dx fs))(c:qq X.K C)(n:bi X.K C f)(l:fs.lookup f=some v)
  (h:∀ u g,Ab X pins σ H g->de v u->Q u g):wpAny (model X.prog X.w) A (getAttr (.ref a) f b) Q E s:=by
 obtain⟨j,ώ,r,_,_,_⟩:=AH I.Qd e;obtain⟨u,i,d⟩:=uq.some_of (by rw[<-l];exact r f);exact ybm I.Ak ώ (c.get f) c.hd n i (j4 d) (h u _ (I.tok _) d)
def eW(I:Ab X pins σ H s)(e:H a=some (.yc C dx fs))(c:qq X.K C)(k:Eg X.K C m g)(l:fs.lookup m=none)
  (h:Q (.ref g,[.ref a]) s):wpAny (model X.prog X.w) A (on (.ref a) m pl) Q E s:=by
 obtain⟨d,ώ,r,_,_,_⟩:=AH I.Qd e;have b:=uq.none_of (by rw[<-l];exact r m);exact x5 I.Ak ώ (c.get m) k.at_ k.fn b h
def WQ(I:Ab X pins σ H s)(e:H a=some (.yc C dx fs))(c:qq X.K C)(n:bi X.K C f)(D:fs.length<1000)(B:de y u)
  (h:∀ k,Ab X pins σ (Nc H a (.yc C dx (Vp f y fs))) k->Q () k):wpAny (model X.prog X.w) A (setAttr (.ref a) f u) Q E s:=by
 obtain⟨j,ώ,r,l,_,i⟩:=AH I.Qd e;have x:(fs.map (·.1)).length<=sizeLine:=by rw[Sa,sizeLine_eq];omega
 refine v7 I.Ak ώ c.sa c.po n.ED c.hd l x λh' d sb=>h _ ?_;have t:∃ o,h'.get? dx=some o:=let ⟨o,_,_,m,_⟩:=d.ns;⟨o,m⟩;refine I.write (by rw[e];exact True.intro) (.inr i) (λb q p z=>(sb.2 b p).trans z) t ?_;refine⟨by rw[we ώ.ne];exact i,?_,ώ.ne,d.obj,_,d.ns,λg=>?_,λg v=>?_⟩
 ·have:=HP f y fs;omega
 ·show uq ((Vp f y fs).lookup g) (if g=f then some u else j g);rw[UR];by_cases q:g=f
  ·rw[ma q,ma q];exact B
  ·rw[ra q,ra q];exact r g
 ·by_cases q:g=f
  ·rw[q];exact(BO f y fs).1
  ·refine(BO f y fs).2 g (l g λz=>v ?_);show (if g=f then some u else j g)=none;rw[ra q];exact z
def Ab.made(I:Ab X pins σ H s):Ab X pins σ (Nc (Nc H s.heap.objs.size (.own (s.heap.objs.size+1))) (s.heap.objs.size+1) (.yc C s.heap.objs.size []))
  { s with heap:=(s.heap.push W.emptyDict).push (W.instObj C s.heap.objs.size) }:=by
 have a:(s.heap.push W.emptyDict).get? s.heap.objs.size=some W.emptyDict:=Db s.heap rfl;have f:((s.heap.push W.emptyDict).push (W.instObj C s.heap.objs.size)).get? (s.heap.objs.size+1)=some (W.instObj C s.heap.objs.size):=by
  have:=Db (s.heap.push W.emptyDict) (o:=W.instObj C s.heap.objs.size) rfl
  rwa [nh]at this
 have g:(s.heap.push W.emptyDict).Ns s.heap.objs.size (λ_=>none):=⟨W.emptyDict,#[],_,a,rfl,(λe h=>absurd h (by simp)),λ_=>rfl⟩
 have d:=I.laid (o:=.own (s.heap.objs.size+1)) (t':=s.toks) (λb u q=>ua _ q) (Ea _) ⟨_,a⟩;refine d.laid (λb u q=>ua _ q) (oG (nh _ _)) ?_;have c:s.heap.objs.size≠s.heap.objs.size+1:=Wa (Vd _);refine⟨by rw[we c,Ih],uv _,c,f,λ_=>none,(Heap.Ns1.of_empty g).at λo q=>ua _ q,λ_=>True.intro,λy i=>absurd rfl i⟩
def A6{a:zh}(g:ye e f a (Ec e a)=Ec e a)
  (h:wpAny (model b w) A (Ec e a) (λo c=>wpAny (model b w) A (getAttr o f true) Q E c) E s):wpAny (model b w) A (Ec (.Attribute e f d) a) Q E s:=
 Attribute_any_ h (by rw[arm_eval_Attribute,g])
end
def G0(K:W.Frag)(e:TE)(f:Str):TE:=λσ H Q=>e σ H λx b=>∃ a C d c v,x=.ref a/\b a=some (.yc C d c)/\qq K C/\bi K C f/\c.lookup f=some v/\Q v b
def Υ(K:W.Frag)(g tv:TE)(f:Str):TS:=λD σ H=>tv σ H λy e=>g σ e λx c=>∃ a C d b,x=.ref a/\c a=some (.yc C d b)/\qq K C/\bi K C f/\b.length<1000/\
 D.nx σ (Nc c a (.yc C d (Vp f y b)))
def ET(X:Cx)(b:Qm)(rd:V->V->Hp->VK->Prop):Prop:=
 ∀ (a:List (Addr × Ad)) (s:ba) (σ:St) (H:Hp) (x y:V) (u v:Value) (Q:VK),Ab X a σ H s->de x u->de y v->rd x y H Q->wpAny (model X.prog X.w) X.A (wG b u v) (EP X a σ Q) X.xe s
def Y5(K:W.Frag)(j tv:TE)(rd:V->V->Hp->VK->Prop)(f:Str):TS:=λD σ H=>j σ H λx d=>∃ a C i g v,x=.ref a/\d a=some (.yc C i g)/\qq K C/\bi K C f/\g.lookup f=some v/\
 tv σ d λy h=>rd v y h λz e=>∃ c b,e a=some (.yc C c b)/\b.length<1000/\D.nx σ (Nc e a (.yc C c (Vp f z b)))
section
variable{X:Cx}{o e value:Ya}{f:Str}{pos pos' tpos:Re}{ta tv:TE}
def İ(k:PE X e ta)(j:ye e f X.env (Ec e X.env)=Ec e X.env):PE X (.Attribute e f pos) (G0 X.K ta f):=by
 intro b s σ H Q I h;refine A6 j (Le (k b s σ H _ I h) λu s1 ſ=>?_);obtain⟨x,H1,d,o,a,C,p,r,v,ex,i,c,n,l,q⟩:=ſ;subst ex;obtain rfl:u=jc a:=o;exact jX d i c n l λt s2 g m=>⟨v,H1,g,m,q⟩
def Q4(k:PE X o ta)(p:PE X value tv)(m:dj value (some (.Attribute o f pos')) pos.line X.env=pure false):PS X (.Assign [.Attribute o f pos'] value pos) (Υ X.K ta tv f):=by
 intro b s d H D I h;refine plainObj_wpAny_Assign_Attribute (Le (p b s d H _ I h) λu s1 ⟨y,H1,e,w,q⟩=>Le (k b s1 d H1 _ e q) λr s2 ⟨x,z,g,v,a,C,A,B,ex,j,c,n,l,t⟩=>?_) m;subst ex;obtain rfl:r=jc a:=v;exact WQ g j c n l w λE i=>⟨d,_,i,t⟩
def sZ(E:PE X o ta)(F:PE X value tv)(g:ET X i rd):PS X (.AugAssign (.Attribute o f tpos) i value pos) (Y5 X.K ta tv rd f):=by
 intro b s d H D I h;refine wpAny_AugAssign_AttributeAny (Le (E b s d H _ I h) λJ s1 ſ=>?_);obtain⟨x,H1,k,ώ,a,C,T,ό,v,ex,A,c,n,l,q⟩:=ſ;subst ex;obtain rfl:J=jc a:=ώ;refine jX k A c n l λu s2 m N=>Le (F b s2 d H1 _ m q) λR s3 ⟨y,j,p,P,L⟩=>Le (g b s3 d j v y u R _ p N P L) λϋ s4 ⟨z,S,r,Q,w,B,e,G,M⟩=>?_;exact WQ r e c n G Q λW t=>⟨d,_,t,M⟩
def Η:V->V->Hp->VK->Prop:=λx y H Q=>∃ i j,x=.int i/\y=.int j/\Q (.int (i+j)) H
def E9:ET X .Add Η:=by
 rintro a s d H x y u v Q I b c ⟨i,j,rfl,rfl,q⟩;obtain⟨t,rfl⟩:=(b)
 obtain⟨t',rfl⟩:=(c)
 exact gK ⟨.int (i+j),H,I.tok _,⟨_,rfl⟩,q⟩
end
section
variable{X:Cx}{pins:List (Addr × Ad)}{σ:St}{H:Hp}{s:ba}{A:Za}{E:Value->ba->Prop}{Q:Value->ba->Prop}{c:Value}{b:Bool}
inductive Em(K:W.Frag)(H:Hp):V->Value->Prop where
 |Rc:Em K H .Rc (.type "NoneType")
 |bl (x:Bool):Em K H (.bl x) (.type "bool")
 |int (i:Int):Em K H (.int i) (.type "int")
 |str (x:Str):Em K H (.str x) (.type "str")
 |HA (x:UInt64):Em K H (.HA x) (.type "float")
 |wa {a:Addr} {xs:List V} (e:H a=some (.wa xs)):Em K H (.ref a) (.type "list")
 |Qc {a:Addr} {o:Ad} {xs:List V} (e:H a=some (.Qc o (.wa xs))):Em K H (.ref a) (.type "list")
 |Xa {a:Addr} {xs:List V} (e:H a=some (.Xa xs)):Em K H (.ref a) (.type "tuple")
 |dK {a:Addr} {kvs:List (Nd × V)} (e:H a=some (.dK kvs)):Em K H (.ref a) (.type "dict")
 |dT {a:Addr} {kvs:List (List Nd × V)} (e:H a=some (.dT kvs)):Em K H (.ref a) (.type "dict")
 |yc {a C dx:Addr} {fs:List (Str × V)} (e:H a=some (.yc C dx fs)) (cl:qq K C) (ha:W.findIn K (.ref C) "__class__" = some (some (.builtin "object.__class__")))
   (hn:W.specialIn K (.builtin "object.__class__") "__get__" = some (some (.builtin "getset_descriptor.__get__"))) (htk:W.takesIn K (.builtin "object.__class__")=some true)
   (hm:W.mroIn K C (.type "object")=some true):Em K H (.ref a) (.ref C)
def Ŀ(I:Ab X pins σ H s)(f:de x u)(ty:Em X.K H x t)(e:W.kitOne X.K t c=some b)(h:∀ D,Q (.bool b) { s with toks:=D }) :
  wpAny (model X.prog X.w) A (call (.builtin "isinstance") [u,c]) Q E s:=by
 cases ty with
 |Rc=>cases (f);exact W.kia_one W.kitx_none I.Ak True.intro e (λz=>nomatch z) h
 |bl y=>cases (f);exact W.kia_one W.kitx_bool I.Ak True.intro e (λz=>nomatch z) h
 |int i=>obtain⟨t,q⟩:=(f);cases q;exact W.kia_one W.kitx_int I.Ak True.intro e (λz=>nomatch z) h
 |str y=>obtain⟨t,q⟩:=(f);cases q;exact W.kia_one W.kitx_str I.Ak True.intro e (λz=>nomatch z) h
 |HA y=>obtain⟨t,q⟩:=(f);cases q;exact W.kia_one W.kitx_float I.Ak True.intro e (λz=>nomatch z) h
 |@wa a xs d=>
  cases (f);obtain⟨_,_,n,_,g⟩:=(I.Qd a _ d)
  exact W.kia_one W.kitx_list I.Ak ⟨_,g,rfl⟩ e (λz=>nomatch z) h
 |@Qc a M xs d=>
  cases (f);obtain⟨_,_,_,n,_,g⟩:=(I.Qd a _ d)
  exact W.kia_one W.kitx_list I.Ak ⟨_,g,rfl⟩ e (λz=>nomatch z) h
 |@Xa a xs d=>
  cases (f);obtain⟨_,_,_,p⟩:=(I.Qd a _ d)
  obtain⟨o,g,j,_⟩:=p;exact W.kia_one W.kitx_tuple I.Ak ⟨o,g,j⟩ e (λz=>nomatch z) h
 |@dK a l d=>
  cases (f);obtain⟨_,_,P,_,p⟩:=(I.Qd a _ d)
  obtain⟨o,r,m,g,j,_⟩:=p;exact W.kia_one W.kitx_dict I.Ak ⟨o,g,j.1⟩ e (λz=>nomatch z) h
 |@dT a l d=>
  cases (f);obtain⟨_,_,xs,_,o,r,m,g,j,_⟩:=(I.Qd a _ d)
  exact W.kia_one W.kitx_dict I.Ak ⟨o,g,j.1⟩ e (λz=>nomatch z) h
 |@yc a C F G d cl v B k hm=>
  cases (f);obtain⟨L,ώ,_⟩:=AH I.Qd d;obtain⟨N,J,_⟩:=ώ.look;exact W.kia_one (W.kitx_own (cl.get _) cl.hd v B k hm) I.Ak J e (λz=>nomatch z) h
end
structure pe(k:Nat)(A:Za):Prop where
 hd:A.handled=none
 dp:A.depth+3 * k+5<recursionLimit
 un:A.units+16 * k+200<cLine
def pe.mono(r:pe k A)(h:j<=k):pe j A:=⟨r.hd,by have:=r.dp;omega,by have:=r.un;omega⟩
def pe.deeper(r:pe (k+1) A)(a:zh):pe k (A.deeper a):=
 ⟨r.hd,by have:=r.dp;show A.depth+1+3 * k+5<_;omega,by have:=r.un;show A.units+3+16 * k+200<_;omega⟩
def pe.in1(r:pe (k+1) A):pe k A.in1:=
 ⟨r.hd,by have:=r.dp;show A.depth+3 * k+5<_;omega,by have:=r.un;show A.units+1+16 * k+200<_;omega⟩
def ī{A:Za}:(A.under (.builtin "type.__call__" ⟨.ref C::b,a⟩)).depth=A.depth+1:=by
 first|rfl|simp
def Τ{A:Za}:(A.under (.builtin "type.__call__" ⟨.ref C::b,a⟩)).units=A.units+1:=by
 first|rfl|simp
def pe.make(r:pe (k+1) A)(C:Addr)(b:List Value)(a:List (Str × Value)):pe k (A.under (.builtin "type.__call__" ⟨.ref C::b,a⟩)):=
 ⟨r.hd,by have:=r.dp;rw[ī];omega,by have:=r.un;rw[Τ];omega⟩
def pe.depth(r:pe k A):A.depth<recursionLimit:=by have:=r.dp;omega
def pe.units(r:pe k A):A.units+64<cLine:=by have:=r.un;omega
noncomputable def ţ:TA:=λ_ H Q=>Q [] H
noncomputable def yv7(d:TE)(e:TA):TA:=λa H Q=>d a H λx b=>e a b λxs c=>Q (x::xs) c
section
variable{X:Cx}{e:Ya}{es:List Ya}{te:TE}{t:TA}{pos:Re}
def Qz:PA X [] ţ:=λ_ _ _ _ H Q I h=>Calls.spliced_nil ⟨[],H,I,.nil,h⟩
def Tw(g:PE X e te)(i:PA X es t)(j:ya (e::es) X.env=(false,Ec e X.env)::ya es X.env:=by rfl):PA X (e::es) (yv7 te t):=by
 intro pos a s b H Q I h;rw[j];refine Calls.spliced_cons (Le (g a s b H _ I h) λu s1 ſ=>?_);obtain⟨x,H1,d,m,k⟩:=ſ;exact Le (i pos a s1 b H1 _ d k) λus s2 ⟨xs,c,f,n,l⟩=>⟨x::xs,c,f,.cons m n,l⟩
def Ī(t:TA):TE:=λb H Q=>t b H λxs a=>xs.length<=sizeLine/\∀ p,a p=none->Q (.ref p) (Nc a p (.Xa xs))
def W4(t:TA):TE:=λb H Q=>t b H λxs a=>xs.length<=sizeLine/\∀ p,a p=none->Q (.ref p) (Nc a p (.wa xs))
def Ę{x1}(h:PA X es t):PE X (.Tuple es x1 pos) (Ī t):=by
 intro a s g H Q I f;refine wpAny_Tuple_spliced (Le (h pos a s g H _ I f) λus s1 ⟨xs,H1,c,r,z,q⟩=>⟨by rw[<-r.length];exact z,?_⟩);have d:=c.Qd.fresh (Ea _);refine⟨.ref s1.heap.objs.size,Nc H1 s1.heap.objs.size (.Xa xs),c.laid (λb u e=>ua _ e) (Ea _) ?_,rfl,q _ d⟩;exact⟨z,us,r,⟨_,Db _ rfl,rfl,_,rfl⟩⟩
def aW(h:PA X es t):PE X (.List es pos) (W4 t):=by
 intro a s g H Q I f;refine wpAny_List_spliced (Le (h pos a s g H _ I f) λus s1 ⟨xs,H1,c,r,z,q⟩=>⟨by rw[<-r.length];exact z,?_⟩);have d:=c.Qd.fresh (Ea _);refine⟨.ref s1.heap.objs.size,Nc H1 s1.heap.objs.size (.wa xs),c.laid (λb u e=>ua _ e) (Ea _) ?_,rfl,q _ d⟩;exact⟨z,us,0,r,Db _ rfl⟩
end
abbrev Sp:=List V->Hp->VK->XK->Prop
abbrev Lw:=List zh->Hp->ba->XK->Value->ba->Prop
structure Jp(P:Ia)(w:qb)(K:W.Frag)(mg:Str->Option Value)(base:Heap)(A:Za)(outer:List zh)(s:ba)(H:Hp):Prop where
 frames:A.frames=some outer
 mod:Mod K mg base
 bs:∀ b o,base.get? b=some o->s.heap.get? b=some o/\H b=none
 Pt:base.objs.size<=s.heap.objs.size
 ik:s.heap.FunFrames base outer
 Iw:∀ b∈Hk outer,H b=none
 Qd:xj P w H s.heap
 bare:Yi s.gens
def CE(a:List zh)(P:Ia)(w:qb)(H:Hp)(s:ba)(Q:VK)(u:Value)(b:ba):Prop:=
 ∃ v c,b.os=s.os/\Yi b.gens/\Un (Hk a) [] H c s.heap b.heap/\xj P w c b.heap/\de v u/\Q v c
def CR(c:Lw)(a:List zh)(P:Ia)(w:qb)(H:Hp)(s:ba)(Q:VK)(E:XK)(r:CB)(b:ba):Prop:=
 match r with
 | .ok (.ret u)=>CE a P w H s Q u b
 | .ok _=>False
 | .error e=>c a H s E e b
structure Ai(P:Ia)(w:qb)(K:W.Frag)(mg:Str->Option Value)(base:Heap)(CX:Lw)(k:Nat)(f:Addr)(fd:Kf)(ps:List Str)(sp:Sp):Prop where
 len:∀ vs H Q E,sp vs H Q E->vs.length=ps.length
 ae:∀ (A:Za) (outer:List zh) (s:ba) (H:Hp) (args:Args) (us:List Value) (vs:List V) (Q:VK) (E:XK),pe k A->Jp P w K mg base A outer s H->Fh s fd args (ps.zip us)->Pe vs us->sp vs H Q E->
  codeAny (model P w) A (.call (.ref f) args) (CR CX outer P w H s Q E) s
def Ai.mono{K:W.Frag}(F:Ai P w K g a d j f e i l)(h:j<=k) :
  Ai P w K g a d k f e i l:=⟨F.len,λA b s H c n o Q E m=>F.ae A b s H c n o Q E (m.mono h)⟩
def Ai.imp{K:W.Frag}(F:Ai P w K j a g k f i ps l)
  (h:∀ c H Q E,e c H Q E->l c H Q E):Ai P w K j a g k f i ps e:=
 ⟨λc H Q E q=>F.len c H Q E (h _ _ _ _ q),λA b s H d t c Q E o n m r p=>F.ae A b s H d t c Q E o n m r (h _ _ _ _ p)⟩
def Jp.make{K:W.Frag}(e:Jp P w K c b A a s H)(C:Addr)(f:List Value)(d:List (Str × Value)) :
  Jp P w K c b (A.under (.builtin "type.__call__" ⟨.ref C::f,d⟩)) a s H:=⟨by first|exact e.frames|(simpa using e.frames),e.mod,e.bs,e.Pt,e.ik,e.Iw,e.Qd,e.bare⟩
def Jp.in1{K:W.Frag}(e:Jp P w K c b A a s H) :
  Jp P w K c b A.in1 a s H:=⟨e.frames,e.mod,e.bs,e.Pt,e.ik,e.Iw,e.Qd,e.bare⟩
section
variable{X:Cx}{pins:List (Addr × Ad)}{σ:St}{H:Hp}{s s':ba}
def Ab.yF(I:Ab X pins σ H s):Jp X.prog X.w X.K X.mg X.base X.A X.stack s H:=
 ⟨I.ok.frames,I.ok.mod,I.bs,Fb I.ok.Pt I.sz,I.stack,I.Hl,I.Qd,I.bare⟩
def Ab.after(I:Ab X pins σ H s)(h:CE X.stack X.prog X.w H s Q u s'):EP X pins σ Q u s':=by
 obtain⟨v,f,i,a,j,c,r,q⟩:=h;obtain⟨k,g,d,t,e⟩:=s';obtain rfl:e=s.os:=i;exact⟨v,f,I.call j c a (λb z=>absurd z (by simp)),r,q⟩
end
def Ut(K:W.Frag)(c:Kf)(b:List Str)(a:List Value):Prop:=
 ∀ (s:ba) (us:List Value),K.In s.heap->(us++a).length=b.length->Fh s c ⟨us,[]⟩ (b.zip (us++a))
def Ut.all{K:W.Frag}(h:∀ a:List Value,a.length=ps.length->bindArgs b ⟨a,[]⟩=pure (ps.zip a)):Ut K b ps []:=λs a _ c=>by
 rw[Xh]at c ⊢;exact .of_eq (h a c)
section
variable{X:Cx}{CX:Lw}{k:Nat}{f C:Addr}{fd:Kf}{ps:List Str}{sp:Sp}{dvs:List V}{ds:List Value}{E:XK}{x m:Str}{p pos apos:Re}{e o:Ya}{es:List Ya}{ta:TE}{t:TA}
structure Mk(K:W.Frag)(C f:Addr):Prop where
 makes:W.makesIn K C=true
 init:W.findIn K (.ref C) "__init__" = some (some (.ref f))
 fn:W.isFn K (.ref f)=true
 kp:W.keepIn K (.ref C)=true
end
section
variable{X:Cx}{CX:Lw}{k:Nat}{f C:Addr}{fd:Kf}{ps ks:List Str}{sp:Sp}{E:XK}{x m:Str}{p pos apos kpos:Re}{e o:Ya}{es:List Ya}{kws:List Wk}{te ta:TE}{t tk:TA}{nm:Option Str}
structure FM(K:W.Frag)(fd:Kf)(ps ks:List Str)(g:List Value->List Value->List Value)(gV:List V->List V->List V):Prop where
 to:∀ (s:ba) (us ws:List Value),K.In s.heap->(g us ws).length=ps.length->Fh s fd ⟨us,ks.zip ws⟩ (ps.zip (g us ws))
 rel:∀ {vs:List V} {us:List Value} {zs:List V} {ws:List Value},Pe vs us->Pe zs ws->Pe (gV vs zs) (g us ws)
variable{g:List Value->List Value->List Value}{gV:List V->List V->List V}
end
structure Ba(N P:List Str)(sc:Scope):Prop where
 kind:sc.kind=.function
 co:sc.isCoroutine=false
 gen:sc.isGenerator=false
 nd:N.Nodup
 pre:N.take P.length=P
 par:∀ x∈P,sc.names.lookup x=some .local\/sc.names.lookup x=some .cell
 pB:∀ y∈sc.names,y.2≠.free
theorem zV{b:Str->Option bg}{x:Str}:∀ {a:List (Str × Value)} {m:Str->Option Value},(∀ v,(x,v) ∉ a)->bz b a m x=m x
 |[],_,_=>rfl
 |(n,v)::r,m,h=>by
  unfold bz;rw[zV λw c=>h w (Aa _ c)];split
  ·have:x≠n:=by rintro rfl;exact h v Ha
   simp[this]
  ·rfl
theorem NP{b:Str->Option bg}{x:Str}:∀ {a:List (Str × Value)} {m:Str->Option Value},(∀ v,(x,v) ∉ a)->cz b a m x=m x
 |[],_,_=>rfl
 |(n,v)::r,m,h=>by
  unfold cz;rw[NP λw c=>h w (Aa _ c)];split
  ·rfl
  ·have:x≠n:=by rintro rfl;exact h v Ha
   simp[this]
theorem JP{a:Str->Option bg}{x:Str}{v:Value}:∀ {P:List Str} {b:List Value} {i:Nat} {m:Str->Option Value},P.Nodup->P[i]?=some x->b[i]?=some v->a x=some .local->
  bz a (P.zip b) m x=some v
 |[],_,_,_,_,h,_,_=>by simp at h
 |_::_,[],_,_,_,_,h,_=>by simp at h
 |p::P,w::b,0,m,f,c,d,e=>by
  simp at c d;subst c;subst d;show bz a ((p,w)::P.zip b) m p=_;unfold bz;rw[zV λv g=>(ze.mp f).1 (Rp g).1,ma e];simp
 |p::P,w::b,i+1,m,f,c,d,e=>by
  show bz a ((p,w)::P.zip b) m x=_;exact JP (ze.mp f).2 (by simpa using c) (by simpa using d) e
theorem rV{a:Str->Option bg}{x:Str}{v:Value}:∀ {P:List Str} {b:List Value} {i:Nat} {m:Str->Option Value},P.Nodup->P[i]?=some x->b[i]?=some v->a x≠some .local->
  cz a (P.zip b) m x=some v
 |[],_,_,_,_,h,_,_=>by simp at h
 |_::_,[],_,_,_,_,h,_=>by simp at h
 |p::P,w::b,0,m,f,c,d,e=>by
  simp at c d;subst c;subst d;show cz a ((p,w)::P.zip b) m p=_;unfold cz;rw[NP λv g=>(ze.mp f).1 (Rp g).1,ra e];simp
 |p::P,w::b,i+1,m,f,c,d,e=>by
  show cz a ((p,w)::P.zip b) m x=_;exact rV (ze.mp f).2 (by simpa using c) (by simpa using d) e
noncomputable def Cw(N:List Str)(a:List V):St:=a.map some++List.replicate (N.length - a.length) none
noncomputable def Gq(g:Lw)(P:Ia)(w:qb)(K:W.Frag)(mg:Str->Option Value)(base:Heap)(N:List Str)(b:Str)(a:Scope)(f:Addr)(d:Value)(A:Za)(outer:List zh)(s:ba)(H:Hp)(E:XK):Cx where
 prog:=P
 w:=w
 K:=K
 mg:=mg
 base:=base
 A:=A.deeper (Og b a s.heap.objs.size f d)
 N:=N
 s₀:=s
 H₀:=H
 env:=Og b a s.heap.objs.size f d
 outer:=outer
 stack:=Og b a s.heap.objs.size f d::outer
 ex:=[]
 Lc:=true
 fn:=λ_=>true
 pn:=[]
 xe:=λe i=>wpAny (model P w) (A.deeper (Og b a s.heap.objs.size f d)) (leaving (Og b a s.heap.objs.size f d) e) (λ_ c=>g outer H s E e c) (λh c=>g outer H s E h c) i
def qP{sc:Scope}(h:sc.names.lookup x=some .cell):∃ c,(yG n sc.names []).lookup x=some c:=by
 have q:=W.cellsFrom_some sc.names n [] (.inl h);exact xf.mp q
def m3{K:W.Frag}
  (S:Ba N ps d) (T:A.handled=none) (n:Jp P w K J m A g s H) (ϊ:B.length=ps.length) (r:Pe B L)
  (x:InCallC s s.heap.objs.size (bz (Og j d s.heap.objs.size f F).kindOf (ps.zip L) λ_=>none) (yG (s.heap.objs.size+1) d.names []) (cz (Og j d s.heap.objs.size f F).kindOf (ps.zip L) λ_=>none) s1) :
  Ab (Gq M P w K J m N j d f F A g s H E) [] (Cw N B) H s1:=by
 have ό:ps.length<=N.length:=by have:=Dc List.length S.pre;rw[Mf]at this;omega
 obtain⟨G,tk,rfl,ώ⟩:=x.done;have t:∀ b:Addr,b ∉ (Gq M P w K J m N j d f F A g s H E).ex:=λb z=>absurd (show b∈[]from z) (by simp);refine⟨⟨n.mod,S.kind,rfl,rfl,Ea _,λy z c G l=>?_,λy o=>?_,λy c _ h=>?_,λ_=>T,xt n.frames,.inr ⟨rfl,rfl⟩,λb z=>absurd z (t b),n.bs,n.Pt,λb _ _=>t b,λb z=>absurd z (t b),n.ik,n.Iw⟩,
  rfl,n.bare,Un.kept ώ,⟨_,x.toInCall.ns,λi y v G l ϋ=>?_⟩,λy c h=>⟨_,x.cell y c h⟩,n.Qd.fresh (Ea _),λy c h=>?_,λp C=>absurd (show p∈[]from C) (by simp),n.Qd.kept ώ,?_⟩
 ·exact name_of_addr x.apart (Gf G) (Gf l)
 ·have o:=o;rcases o with o|o
  ·exact qP o
  ·exact absurd rfl (S.pB _ (Gf o))
 ·exact Zf (x.above y c (Gf h))
 ·have I:i<B.length:=by
   unfold Cw at l;by_cases I:i<B.length
   ·exact I
   ·rw[Bd (by simpa using I)]at l;rw[Ws]at l;split at l<;>cases l
  have R:B[i]?=some v:=by
   unfold Cw at l;rw[zb (by simpa using I),Ta]at l;cases e:B[i]? with
   |none=>rw[e]at l;cases l
   |some a=>rw[e]at l;cases l;rfl
  obtain⟨u,Q,X⟩:=r.get R;have C:ps[i]?=some y:=by
   rw[<-S.pre,Qr (by omega)];exact G
  have D:ps.Nodup:=by rw[<-S.pre];exact S.nd.sublist (List.take_sublist _ _)
  refine⟨u,X,?_⟩;rcases S.par y (La C)with k|k
  ·exact .inl ⟨k,JP D C Q k⟩
  ·obtain⟨c,e⟩:=qP k;refine .inr ⟨.inl k,c,e,?_⟩;have q:=x.cell y c e;rw[rV D C Q (by show d.names.lookup y≠_;rw[k];decide)]at q;exact q
 ·exact n.Qd.fresh (Zf (x.above y c (Gf h)))
 ·unfold Cw;show _=N.length;rw[Xc,Sa,List.length_replicate];omega
def kS{K:W.Frag}{dV kV F pm g ct oc:Value}{an od:Option Addr} (lk:K.lookup f=some ⟨oc,od,.func (W.fnOf z d i j a dV kV F pm an g ct),ϋ⟩) (T:W.codeIn K g d=true) (S:Ba N ps a)
  (M:∀ l H Q E,sp l H Q E->l.length=ps.length)
  (B:∀ (A:Za) (c:List zh) (s:ba) (H:Hp) (l:List V) (Q:VK) (E:XK),pe k (A.deeper (Og d a s.heap.objs.size f g))->sp l H Q E->
   ∃ t,Ku (Gq ώ P w K R h N d a f g A c s H E) j t/\t { nx:=λ_ p=>Q .Rc p,rt:=Q } (Cw N l) H) :
  Ai P w K R h ώ (k+1) f (W.fnOf z d i j a dV kV F pm an g ct) ps sp:=by
 refine⟨M,λA c s H a0 us l Q E ό G hb r L=>?_⟩;have hl:=M _ _ _ _ L;have KX:=G.mod.Cz.keeps λb o e=>(G.bs b o e).1;have X:=G.mod.nolimit.keeps λb o e=>(G.bs b o e).1;have C:∀ y∈ps.zip us,a.names.lookup y.1=some .local\/(a.names.lookup y.1=some .cell/\((yG (s.heap.objs.size+1) a.names []).lookup y.1).isSome=true):=λ⟨n,v⟩ hy=>by
  rcases S.par n (Rp hy).1 with q|q
  ·exact .inl q
  ·exact .inr ⟨q,W.cellsFrom_some _ _ _ (.inl q)⟩
 refine codeAny_call_function ό.depth (KX _ _ lk) rfl S.co S.gen rfl (W.codeRec_of KX T) (hb _ _ _ _ ?_);refine wpAny_newFunctionEnv_cells S.kind C λa1 he s1 x=>?_;subst he;refine⟨X.keeps x.toInCall.keep,codeAny_func ?_⟩;obtain⟨t,ht,hq⟩:=B A c s H l Q E (ό.deeper _) L;have I:Ab (Gq ώ P w K R h N d a f g A c s H E) [] (Cw N l) H s1:=m3 S ό.hd G hl r x;refine Pc (ht [] s1 (Cw N l) H _ I hq) (λfl s' D=>?_) λe s' D=>D;have Uh:∀ {m:St} {p:Hp} {v:V} {u:Value},Ab (Gq ώ P w K R h N d a f g A c s H E) [] m p s'->de v u->Q v p->CE c P w H s Q u s':=
  fun {m p v u} J ϊ q=>⟨v,p,J.os,J.bare,J.base,J.Qd,ϊ,q⟩
 cases fl with
 |ret u=>
  obtain⟨v,m,p,J,ϊ,q⟩:=D;exact Uh J ϊ q
 |next=>
  obtain⟨m,p,J,q⟩:=D;exact Uh (v:=V.Rc) J rfl q
 |brk=>
  obtain⟨_,_,_,q⟩:=D;exact False.elim q
 |cont=>
  obtain⟨_,_,_,q⟩:=D;exact False.elim q
section
variable{X:Cx}{x:Str}{p pos:Re}{e:Ya}{es:List Ya}{t:TA}{id T:String}{r:List V->Hp->VK->Prop}
def tK(r:List V->Hp->VK->Prop)(t:TA):TE:=λc H Q=>t c H λb a=>r b a Q
def HL(g:Gp X (.builtin id) r)(j:Gl X x)(k:X.mg x=none)(m:bootBuiltins x=some (.builtin id))(f:PA X (e::es) t)(l:x ≠ "__name__":=by decide)(b:(x == ("__debug__" : Str))=false:=by decide)
  (i:ya (e::es) X.env=(false,Ec e X.env)::ya es X.env:=by rfl) (c:(Cd pos (ya es X.env)).any (·.1)=false:=by rfl):PE X (.Call (.Name x p) (e::es) [] pos) (tK r t):=by
 intro a s σ H Q I h;refine wg (Ny I j k m ?_ l b);exact iK (Le (f pos a s σ H _ I h) λus s1 ⟨q,H1,d,o,n⟩=>g a s1 σ H1 q us Q d o n) i c
def OX(g:Gp X (.type T) r)(j:Gl X x)(k:X.mg x=none)(m:bootBuiltins x=some (.type T))(f:PA X (e::es) t)(l:x ≠ "__name__":=by decide)(b:(x == ("__debug__" : Str))=false:=by decide)
  (i:ya (e::es) X.env=(false,Ec e X.env)::ya es X.env:=by rfl) (c:(Cd pos (ya es X.env)).any (·.1)=false:=by rfl):PE X (.Call (.Name x p) (e::es) [] pos) (tK r t):=by
 intro a s σ H Q I h;refine wg (Ny I j k m ?_ l b);exact re (Le (f pos a s σ H _ I h) λus s1 ⟨q,H1,d,o,n⟩=>g a s1 σ H1 q us Q d o n) i c
end
end L2
namespace HT
section
open PySem.SeqAt
open PySem.AutoSeq1 (wpAny_loadPart')
open PySem.MeetsSeq PySem.MeetsSeq2 PySem.MeetsSeq3
end
section
variable{prog:Ia}{w:qb}{A:Za}{E:Value->ba->Prop}{s:ba}
def Dy(B:iw s.heap t c.toArray)(x:iw s.heap b ws.toArray)(p:c≠[])
  (u:ws=[]->Q (.ref t) s) (v:ws≠[]->Q (.ref s.heap.objs.size) { s with heap:=s.heap.push { cls:=.type "tuple",data:=.seq (c++ws).toArray } })
  (l:c.length+ws.length<=sizeLine):wpAny (model prog w) A (uf .Add (.ref t) (.ref b)) Q E s:=by
 obtain⟨⟨cls,o,data,r⟩,g,y,n,z⟩:=id B;obtain⟨⟨m,d,i,f⟩,a,j,q,k⟩:=id x;subst y z j k;have e:c.toArray++ws.toArray=(c++ws).toArray:=by simp
 by_cases h:ws=[]
 ·exact ax ⟨_,g,rfl⟩ ⟨_,a,rfl⟩ yr vv kj Ui (Ei _ _)
   (tuple_addW1 t b c.toArray ws.toArray n q o d r f (by simpa using p) (by simp[h])) ⟨g,a,u h⟩
 ·refine ax ⟨_,g,rfl⟩ ⟨_,a,rfl⟩ yr vv kj Ui (Ei _ _)
   (tuple_addW2 t b c.toArray ws.toArray n q o d r f (by simpa using p) (by simpa using h) (by rw[Da,Da];exact l)) ⟨g,a,?_⟩
  rw[e];exact v h
noncomputable def Fg(n d:Nat):Option Int->Nat
 |none=>d
 |some v=>if v<0 then (v+(n:Int)).toNat else min v.toNat n
def aQ(v:Int)(n d:Nat):(if v<0 then max (v+(n:Int)) 0 else min v (n:Int))=((Fg n d (some v):Nat):Int):=by
 show (if v<0 then max (v+n) 0 else min v n)=(if v<0 then (v+n).toNat else min v.toNat n);by_cases a:v<0
 ·simp only[ma a];omega
 ·simp only[ra a];omega
def T1(lo a:Option Int)(n:Nat):qm lo a 1 (n:Int)=(((Fg n 0 lo:Nat):Int),((Fg n n a:Nat):Int)):=by
 refine pY ?_ ?_
 ·cases lo with
  |none=>rfl
  |some v=>exact aQ v n 0
 ·cases a with
  |none=>rfl
  |some v=>exact aQ v n n
def ų(i j:Nat):gg (i:Int) (j:Int) 1=j - i:=by
 unfold gg;split<;>omega
def dW(p:Rm v o)(h:Q o s):wpAny (model prog w) A (zG v) Q E s:=by
 cases p with
 |none=>exact YO h
 |int i t=>exact slicePart_int h
def aU{lo b:Option Int}{n:Nat}(i:s.heap.IsSliceOf d e f .none)(pl:Rm e lo)(j:Rm f b)
  (h:Q (((Fg n 0 lo:Nat):Int),1,Fg n n b - Fg n 0 lo) s):wpAny (model prog w) A (AG (.ref d) (pure (n:Int))) Q E s:=by
 obtain⟨k,c,g,a⟩:=id i;refine ga (ga (Jm c a rfl (ga (Jm c a rfl (ga (Jm c a rfl (za ?_)))))));refine ga (YO ?_);refine ga (dW pl (ga (dW j (ga (za ?_)))));show wpAny _ _ (match qm lo b 1 n with|(lo,b)=>pure (lo,(1:Int),gg lo b 1)) _ _ s;rw[T1 lo b n];show wpAny _ _ (pure (((Fg n 0 lo):Int),1,gg (Fg n 0 lo) (Fg n n b:Nat) 1)) _ _ s;rw[ų];exact za h
def S8(xs:Array Value)(i k:Nat):((List.range k).filterMap λ(m:Nat)=>xs[((i:Int)+(m:Int) * 1).toNat]?).toArray=((xs.toList.drop i).take k).toArray:=by
 have e:(λ(m:Nat)=>xs[(i+(m:Int) * 1).toNat]?)=λm=>xs[i+m]?:=by
  funext m;have:(i+(m:Int) * 1).toNat=i+m:=by omega
  rw[this]
 rw[e];have:=pick_run xs i k;rw[List.filterMap_map]at this;have a:((λx=>xs[x]?) ∘ λx=>i+x)=λm=>xs[i+m]?:=rfl;rw[a]at this;rw[this]
def El{lo c:Option Int}(d:iw s.heap t a)(k:s.heap.IsSliceOf j l n .none)(pl:Rm l lo)(v:Rm n c)
  (r:¬ (Fg a.size 0 lo=0/\Fg a.size a.size c=a.size))
  (h:Q (.ref s.heap.objs.size) { s with heap:=s.heap.push { cls:=.type "tuple",data:=.seq ((a.toList.drop (Fg a.size 0 lo)).take (Fg a.size a.size c - Fg a.size 0 lo)).toArray } })
  (p:a.size<=sizeLine):wpAny (model prog w) A (Gj (.ref t) (.ref j)) Q E s:=by
 have b:sizeOk (.seq ((a.toList.drop (Fg a.size 0 lo)).take (Fg a.size a.size c - Fg a.size 0 lo)).toArray):=by
  show ((a.toList.drop (Fg a.size 0 lo)).take (Fg a.size a.size c - Fg a.size 0 lo)).toArray.size<=sizeLine;rw[Da,Mf,gy,Wh];omega
 obtain⟨u,i,f,o⟩:=id k;have e:s.TypeIs (.ref j) "slice":=⟨u,i,f⟩
 unfold Gj;try with_reducible refine ge ?_
 refine ga (bD d.typeIs (by decide) ?_);refine ga (bw d.typeIs md
  (zr md d.typeIs Wz ?_ (uB _ _)))
 show wpAny _ _ (Vl (.ref t) >>= _) _ _ s;refine ga (qY d ?_);refine ga (bx e ?_);refine ga (aU k pl v ?_);have g:¬ ((((Fg a.size 0 lo):Int) == 0 && (1:Int) == 1 && (Fg a.size a.size c - Fg a.size 0 lo) == a.size)=true):=by
  intro q;rw[Na,Na]at q;have x:((Fg a.size 0 lo:Nat):Int)=0:=eq_of_beq q.1.1;have y:Fg a.size a.size c - Fg a.size 0 lo=a.size:=eq_of_beq q.2;exact r ⟨by omega,by omega⟩
 show wpAny _ _ (if (((Fg a.size 0 lo:Nat):Int) == 0 && (1:Int) == 1 && (Fg a.size a.size c - Fg a.size 0 lo) == a.size)=true then _ else _) _ _ s;rw[ra g,S8];first
  |exact ga (m:=xg _) (Jf (za ⟨_,rfl,za h⟩) b)
  |exact ga (m:=xg _) (Jf (ga (za (za ⟨_,rfl,za h⟩))) b)
  |exact ga (ga (m:=xg _) (Jf (za (za ⟨_,rfl,za h⟩)) b))
  |exact ga (ga (m:=xg _) (Jf (za ⟨_,rfl,za h⟩) b))
end
end HT
namespace L2
open Spec
abbrev TO:=St->Hp->(Option Int->Hp->Prop)->Prop
def PO(X:Cx)(e:Option Ya)(t:TO):Prop:=
 ∀ (a:List (Addr × Ad)) (s:ba) (σ:St) (H:Hp) (Q:Option Int->Hp->Prop),Ab X a σ H s->t σ H Q->
  wpAny (model X.prog X.w) X.A (evalPart e X.env) (λu c=>∃ o b,Ab X a σ b c/\Rm u o/\Q o b) X.xe s
noncomputable def Α:TO:=λ_ H Q=>Q none H
noncomputable def æ(t:TE):TO:=λb H Q=>t b H λx a=>∃ i,x=.int i/\Q (some i) a
def bY:∀ {b:List Value},Pe (a.map V.int) b->zq b a:=by
 induction a with
 |nil=>intro b r;rw[kn]at r;cases r;exact .nil
 |cons n a c=>
  intro b r;cases r with
  |cons d f=>
   obtain⟨t,e⟩:=d;subst e;exact .cons n t (c f)
section
variable{X:Cx}{e:Ya}{te:TE}{lo hi:Option Ya}{tl th:TO}{pos p2:Re}
def Y4:PO X none Α:=by
 intro a s b H Q I h;exact za ⟨none,H,I,.none,h⟩
def l8(h:PE X e te):PO X (some e) (æ te):=by
 intro a s g H Q I c;refine Le (h a s g H _ I c) λu s1 ſ=>?_;obtain⟨x,H1,b,f,d⟩:=ſ;obtain⟨i,rfl,q⟩:=d;obtain⟨t,rfl⟩:=f;exact⟨some i,H1,b,.int i t,q⟩
def Ox(X:Cx)(r:V->Option Int->Option Int->Hp->VK->Prop):Prop:=
 ∀ (a:List (Addr × Ad)) (s:ba) (σ:St) (H:Hp) (x:V) (v c d:Value) (lo hi:Option Int) (b:Addr) (Q:VK),Ab X a σ H s->de x v->s.heap.IsSliceOf b c d .none->Rm c lo->Rm d hi->r x lo hi H Q->
  ∃ T e,typeLookup (.type T) "__getitem__" = pure (some (.builtin e))/\s.TypeIs v T/\wpAny (model X.prog X.w) X.A (Gj v (.ref b)) (EP X a σ Q) X.xe s
def Ox.or(h:Ox X r)(h':Ox X d):Ox X (λx lo hi H Q=>r x lo hi H Q\/d x lo hi H Q):=by
 intro a s j H x v g i lo hi f Q I e b pl c q;rcases q with q|q
 ·exact h a s j H x v g i lo hi f Q I e b pl c q
 ·exact h' a s j H x v g i lo hi f Q I e b pl c q
def Ú(r:V->Option Int->Option Int->Hp->VK->Prop)(te:TE)(tl th:TO):TE:=λa H Q=>te a H λx b=>tl a b λl c=>th a c λu d=>r x l u d Q
theorem ś(w:Ox X r)(o:PE X e te)(t:PO X lo tl)(z:PO X hi th):PE X (.Subscript e (.Slice lo hi none p2) pos) (Ú r te tl th):=by
 intro a s σ H Q I h;refine vB (Le (o a s σ H _ I h) λv s1 ſ=>?_);obtain⟨x,H1,i,D,A⟩:=ſ;refine wpAny_Slice (Le (t a s1 σ H1 _ i A) λc s2 ⟨l,g,j,pl,B⟩=>Le (z a s2 σ g _ j B) λd s3 ⟨u,f,k,pu,C⟩=>?_);refine za ?_;have m:Ab X a σ f { s3 with heap:=s3.heap.push { cls:=.type "slice",data:=.fields #[c,d,.none] } }:=k.kept λb ob q=>ua _ q;obtain⟨T,E,n,y,p⟩:=w a { s3 with heap:=s3.heap.push { cls:=.type "slice",data:=.fields #[c,d,.none] } } σ f x v c d l u s3.heap.objs.size Q m D (dD ..) pl pu C;exact tail_any y n p (by with_unfolding_all rfl)
def KB(xs:List V)(lo hi:Option Int):List V:=(xs.drop (HT.Fg xs.length 0 lo)).take (HT.Fg xs.length xs.length hi - HT.Fg xs.length 0 lo)
def HW(xs:List V)(lo hi:Option Int):(KB xs lo hi).length<=xs.length:=by
 unfold KB;rw[Mf,gy];omega
def eU(K:W.Frag):V->Option Int->Option Int->Hp->VK->Prop:=λx lo hi H Q=>∃ a xs,x=.ref a/\ui K H a xs/\
 ¬ (HT.Fg xs.length 0 lo=0/\HT.Fg xs.length xs.length hi=xs.length)/\∀ p,H p=none->Q (.ref p) (Nc H p (.Xa (KB xs lo hi)))
def Q7:Ox X (eU X.K):=by
 intro f s σ H x v n o lo hi m Q I l g pl k h;obtain⟨a,xs,rfl,j,i,q⟩:=h;cases l;obtain⟨its,r,d,e⟩:=I.tuple j;have c:its.toArray.size=xs.length:=by rw[Da];exact r.length.symm
 refine⟨"tuple",_,md.lookup,d.typeIs,?_⟩;refine HT.El d g pl k (by rw[c];exact i) ?_ (by rw[c];exact e);rw[c];refine⟨.ref s.heap.objs.size,_,I.laid (λb ob q=>ua _ q) (Ea _) ?_,rfl,q _ (I.Qd.fresh (Ea _))⟩;exact⟨Fb (HW xs lo hi) e,_,(r.drop (HT.Fg xs.length 0 lo)).take (HT.Fg xs.length xs.length hi - HT.Fg xs.length 0 lo),cx _ _⟩
def dZ(K:W.Frag):R2:=λx y H Q=>∃ a b xs c,x=.ref a/\y=.ref b/\ui K H a xs/\ui K H b c/\xs≠[]/\xs.length+c.length<=sizeLine/\
 (c=[]->Q (.ref a) H)/\(c≠[]->∀ p,H p=none->Q (.ref p) (Nc H p (.Xa (xs++c))))
def Pe.Wq(r:Pe xs a):a=[] ↔ xs=[]:=by
 cases r with
 |nil=>simp
 |cons _ _=>simp
def m5:ni X (uf .Add) (dZ X.K):=by
 intro g s σ H x y v u Q I o p h;obtain⟨a,b,xs,r,rfl,rfl,i,j,k,e,m,n⟩:=h;cases o;cases p;obtain⟨its,d,l,_⟩:=I.tuple i;obtain⟨f,c,p2,_⟩:=I.tuple j;refine HT.Dy l p2 (λz=>k (d.Wq.mp z)) (λz=>⟨.ref a,H,I,rfl,m (c.Wq.mp z)⟩) (λz=>?_) (by rw[<-d.length,<-c.length];exact e);refine⟨.ref s.heap.objs.size,_,I.laid (λb ob q=>ua _ q) (Ea _) ?_,rfl,n (λw=>z (c.Wq.mpr w)) _ (I.Qd.fresh (Ea _))⟩;exact⟨by rw[Xc];exact e,_,d.append c,cx _ _⟩
end
noncomputable def Kx(n:Nat)(i:Int):Option Nat:=if 0<=i then (if i<n then some i.toNat else none)else if -(n:Int)<=i then some (i+n).toNat else none
def dr{a:Type}(xs:List a)(i:Int):Option a:=(Kx xs.length i).bind λj=>xs[j]?
def cQ(h:Kx n i=some j):jw i n=some j/\j<n/\-(n:Int)<=i/\i<n:=by
 unfold Kx at h;by_cases b:0<=i
 ·rw[ma b]at h;by_cases a:i<n
  ·rw[ma a]at h;have e:=Yb h;exact⟨by rw[Uy b a,e],by omega,by omega,a⟩
  ·rw[ra a]at h;cases h
 ·rw[ra b]at h;by_cases a:-n<=i
  ·rw[ma a]at h;have e:=Yb h;exact⟨by rw[fx (by omega) a,e],by omega,a,by omega⟩
  ·rw[ra a]at h;cases h
def qQ{xs:List a}{v:a}(h:dr xs i=some v):∃ j,jw i xs.length=some j/\xs[j]?=some v/\j<xs.length/\-(xs.length:Int)<=i/\i<xs.length:=by
 unfold dr at h;cases e:Kx xs.length i with
 |none=>rw[e]at h;cases h
 |some j=>
  rw[e]at h;obtain⟨b,c,d,f⟩:=cQ e;exact⟨j,b,h,c,d,f⟩
def Gv{xs:List a}{j:Nat}{v:a}(h:xs[j]?=some v):dr xs (j:Int)=some v:=by
 have b:=(aa.mp h).1;have e:Kx xs.length j=some j:=by
  unfold Kx;rw[ma (by omega),ma (by omega)];simp
 unfold dr;rw[e];exact h
def RM(b:Ya):Prop:=∀ o i,Wr b false o i=operate [o,i] (Gj o i)
def Ry(X:Cx)(r:R2):Prop:=
 ∀ (b a:Ya) (pins:List (Addr × Ad)) (s:ba) (σ:St) (H:Hp) (x y:V) (v u:Value) (Q:VK),Ab X pins σ H s->de x v->de y u->r x y H Q->
  Wr a false v u=operate [v,u] (Gj v u)->wpAny (model X.prog X.w) X.A (GY b a v u) (EP X pins σ Q) X.xe s
def Tv(X:Cx)(b:String)(r:V->List V->Hp->VK->Prop):Prop:=
 ∀ (a:List (Addr × Ad)) (s:ba) (σ:St) (H:Hp) (x:V) (xs:List V) (v:Value) (us:List Value) (Q:VK),Ab X a σ H s->de x v->Pe xs us->r x xs H Q->
  wpAny (model X.prog X.w) X.A (call (.builtin b) (v::us)) (EP X a σ Q) X.xe s
section
variable{X:Cx}{a b:Ya}{ta tb:TE}{pos:Re}
def Ry.or(h:Ry X r)(h':Ry X e):Ry X (λx y H Q=>r x y H Q\/e x y H Q):=by
 intro b a c s i H x y v u Q I f g q d;rcases q with q|q
 ·exact h b a c s i H x y v u Q I f g q d
 ·exact h' b a c s i H x y v u Q I f g q d
def Tv.or{b:String}(h:Tv X b r)(h':Tv X b c):Tv X b (λx xs H Q=>r x xs H Q\/c x xs H Q):=by
 intro a s g H x xs v f Q I e d q;rcases q with q|q
 ·exact h a s g H x xs v f Q I e d q
 ·exact h' a s g H x xs v f Q I e d q
def Ó(i:Ry X r)(f:PE X a ta)(g:PE X b tb)(j:RM b):PE X (.Subscript a b pos) (QB r ta tb):=by
 intro c s m H Q I h;exact vB (NK f g I h λv u s2 x y d e k l q=>i a b c s2 m d x y v u Q e k l q (j _ _))
noncomputable def VM(K:W.Frag):R2:=λx y H Q=>∃ p xs i v,x=.ref p/\y=.int i/\ug K H p xs/\dr xs i=some v/\Q v H
noncomputable def JK(K:W.Frag):R2:=λx y H Q=>∃ p xs i v,x=.ref p/\y=.int i/\ui K H p xs/\dr xs i=some v/\Q v H
def E1:Ry X (VM X.K):=by
 intro f e a s σ H x y v u Q I D E h l;obtain⟨p,xs,i,z,rfl,rfl,C,A,q⟩:=h;cases D;obtain⟨t,rfl⟩:=E;obtain⟨its,r,pl,J⟩:=I.list C;obtain⟨j,b,m,F,n,o⟩:=qQ A;obtain⟨w,g,d⟩:=r.get m;have B:=r.length;have G:=lJ;have Uh:EP X a σ Q w s:=⟨z,H,I,d,q⟩
 by_cases k:0<=i
 ·have c:i.toNat=j:=by
   rw[Uy k o]at b;exact Yb b
  exact item_listR pl.isList k (by omega) (by rw[c];simpa using g) Uh l
 ·have c:(i+its.toArray.size).toNat=j:=by
   rw[fx (by omega) n]at b;rw[Da,<-B];exact Yb b
  exact jx pl.isList.typeIs eD.lookup
   (wpAny_getItem_list_neg pl.isList (by omega) (by rw[Da]<;>omega) (by omega) (by rw[c];simpa using g) ⟨rfl,Uh⟩) l
def Ĭ:Ry X (JK X.K):=by
 intro d c a s σ H x y v u Q I o A h n;obtain⟨p,xs,i,z,rfl,rfl,m,k,q⟩:=h;cases o;obtain⟨t,rfl⟩:=A;obtain⟨its,r,pl,F⟩:=I.tuple m;obtain⟨j,f,g,B,C,D⟩:=qQ k;obtain⟨w,e,b⟩:=r.get g;have l:=r.length;have E:=lJ;have Uh:EP X a σ Q w s:=⟨z,H,I,b,q⟩
 exact jx pl.typeIs slot_tuple_getitem.lookup
  (getItem_tuple pl (by omega) (by omega) (by rw[Da,<-l];exact f) (by simpa using e) ⟨rfl,Uh⟩) n
def D1(a:List Value)(n j:Nat)(u:Value):eh (·.setIfInBounds j u) { cls:=.type "list",data:=.seq a.toArray n }={ cls:=.type "list",data:=.seq (a.set j u).toArray n }:=by
 simp[eh]
def Ab.wa{a:List (Addr × Ad)}{b:St}{H:Hp}{s:ba}{p:Addr}{xs:List V}(I:Ab X a b H s)(h:H p=some (.wa xs)) :
  ∃ (its:List Value) (n:Nat),Pe xs its/\s.heap.get? p=some { cls:=.type "list",data:=.seq its.toArray n }/\xs.length<=sizeLine:=by
 obtain⟨z,its,n,r,e⟩:=I.Qd p _ h;exact⟨its,n,r,e,z⟩
def Ab.uA{its a:List Value}(I:Ab X c j H s)(h:H p=some (.wa xs))
  (l:s.heap.get? p=some { cls:=.type "list",data:=.seq its.toArray n }) (i:f { cls:=.type "list",data:=.seq its.toArray n }={ cls:=.type "list",data:=.seq a.toArray d }) (r:Pe g a) (m:g.length<=sizeLine) (t:Nat) :
  Ab X c j (Nc H p (.wa g)) { s with heap:=s.heap.update p f,toks:=t }:=by
 have e:(s.heap.update p f).get? p=some { cls:=.type "list",data:=.seq a.toArray d }:=by
  rw[ju f l (by rw[i]<;>rfl),i]
 refine I.write (by rw[h];trivial) (.inl rfl) (λb u k q=>(Fj _ _ (yf k)).trans q) ⟨_,e⟩ ?_;exact⟨m,a,d,r,e⟩
def Ŋ:V->V->V->Hp->(Hp->Prop)->Prop:=λo i v H Q=>∃ p xs k j,o=.ref p/\i=.int k/\H p=some (.wa xs)/\Kx xs.length k=some j/\Q (Nc H p (.wa (xs.set j v)))
def zwu:DO X Ŋ:=by
 intro w s G H o i v F E u Q I A z B h;obtain⟨p,xs,k,j,rfl,rfl,m,x,q⟩:=h;cases A;obtain⟨t,rfl⟩:=z;obtain⟨its,n,r,d,y⟩:=I.wa m;obtain⟨a,C,g,l⟩:=cQ x;have c:=r.length;have D:=lJ;have e:=
  I.uA m d (D1 its n j u) (r.set B j) (by rw[Vy];exact y) s.toks
 by_cases f:0<=k
 ·have b:k.toNat=j:=by
   rw[Uy f l]at a;exact Yb a
  exact W.ki_setAt d f (by omega) (by rw[Da,<-c];exact l) (by rw[b];exact⟨_,e,q⟩)
 ·have b:(k+its.toArray.size).toNat=j:=by
   rw[fx (by omega) g]at a;rw[Da,<-c];exact Yb a
  exact W.ki_setBack d (by omega) (by rw[Da,<-c];exact g) (by omega) (by rw[b];exact⟨_,e,q⟩)
def N0(lo a:Option Int)(n:Nat):(qi lo a none n).1=((HT.Fg n 0 lo:Nat):Int)/\(qi lo a none n).2.1=((HT.Fg n n a:Nat):Int)/\(qi lo a none n).2.2=1:=by
 refine⟨?_,?_,rfl⟩
 ·cases lo with
  |none=>simp[qi,HT.Fg]
  |some i=>
   simp only[qi,HT.Fg,dw];by_cases h:i<0
   ·simp only[h,Yh]<;>omega
   ·simp only[h,Rr]<;>omega
 ·cases a with
  |none=>simp[qi,HT.Fg]
  |some i=>
   simp only[qi,HT.Fg,dw];by_cases h:i<0
   ·simp only[h,Yh]<;>omega
   ·simp only[h,Rr]<;>omega
theorem G1(a:List Value)(lo b:Option Int):slicePick a.toArray lo b none=((a.drop (HT.Fg a.length 0 lo)).take (HT.Fg a.length a.length b - HT.Fg a.length 0 lo)).toArray:=by
 obtain⟨c,d,e⟩:=N0 lo b a.toArray.size;unfold slicePick;rw[c,d,e];simp only[sliceRange_one,pick_run]<;>rfl
def mT(K:W.Frag):V->Option Int->Option Int->Hp->VK->Prop:=λx lo b H Q=>∃ a xs,x=.ref a/\ug K H a xs/\∀ p,H p=none->Q (.ref p) (Nc H p (.wa (KB xs lo b)))
def ĕ:Ox X (mT X.K):=by
 intro f s σ H x v n o lo d m Q I l g pl k h;obtain⟨a,xs,rfl,i,q⟩:=h;cases l;obtain⟨its,r,e,j⟩:=I.list i;have c:=r.length;refine⟨"list",_,eD.lookup,e.isList.typeIs,?_⟩;refine wpAny_getItem_list_slice e.isList g pl k .none (by simp) ?_ (by rw[Da]<;>omega);rw[G1,<-c];refine⟨.ref s.heap.objs.size,_,I.laid (λb ob q=>ua _ q) (Ea _) ?_,rfl,q _ (I.Qd.fresh (Ea _))⟩;exact⟨Fb (HW xs lo d) j,_,0,(r.drop (HT.Fg xs.length 0 lo)).take (HT.Fg xs.length xs.length d - HT.Fg xs.length 0 lo),Db _ rfl⟩
noncomputable def Cj:V->Bool
 | .Rc=>true
 | .bl _=>true
 | .int _=>true
 | .str _=>true
 |_=>false
noncomputable def gm:V->V->Bool
 | .Rc,.Rc=>true
 | .bl a,.bl b=>a == b
 | .bl a,.int b=>(if a then 1 else 0) == b
 | .int a,.bl b=>a == (if b then 1 else 0)
 | .int a,.int b=>a == b
 | .str a,.str b=>a == b
 |_,_=>false
def eM(f:de y u)(c:de x v)(g:Cj y=true)(e:Cj x=true):ke A s u v (gm y x):=by
 cases y with
 |Rc=>
  cases f;cases x with
  |Rc=>cases c;exact km _
  |bl b=>cases c;exact rY b
  |int b=>obtain⟨t,rfl⟩:=c;exact sY b t
  |str b=>obtain⟨t,rfl⟩:=c;exact tY b t
  |_=>exact absurd (e) Eb
 |bl a=>
  cases f;cases x with
  |Rc=>cases c;exact uY a
  |bl b=>cases c;exact vY a b
  |int b=>obtain⟨t,rfl⟩:=c;exact wY a b t
  |str b=>obtain⟨t,rfl⟩:=c;exact xY a b t
  |_=>exact absurd (e) Eb
 |int a=>
  obtain⟨d,rfl⟩:=f;cases x with
  |Rc=>cases c;exact yY a d
  |bl b=>cases c;exact zY a d b
  |int b=>obtain⟨t,rfl⟩:=c;exact AY a d b t
  |str b=>obtain⟨t,rfl⟩:=c;exact Nr a d b t
  |_=>exact absurd (e) Eb
 |str a=>
  obtain⟨d,rfl⟩:=f;cases x with
  |Rc=>cases c;exact BY a d
  |bl b=>cases c;exact CY a d b
  |int b=>obtain⟨t,rfl⟩:=c;exact Pr a d b t
  |str b=>obtain⟨t,rfl⟩:=c;exact DY a d b t
  |_=>exact absurd (e) Eb
 |_=>exact absurd (g) Eb
def Zt(x:V)(u:Value):Bool:=match u with
 | .none=>gm .Rc x
 | .bool b=>gm (.bl b) x
 | .int i _=>gm (.int i) x
 | .str z _=>gm (.str z) x
 |_=>false
def GT(r:de y u)(f:Cj y=true):Zt x u=gm y x:=by
 cases y with
 |Rc=>cases r;rfl
 |bl b=>cases r;rfl
 |int i=>obtain⟨t,rfl⟩:=r;rfl
 |str z=>obtain⟨t,rfl⟩:=r;rfl
 |_=>exact absurd (f) Eb
theorem xD{x:V}:∀ {xs:List V} {us:List Value},Pe xs us->xs.all Cj=true->us.any (Zt x)=xs.any λy=>gm y x
 |_,_,.nil,_=>rfl
 |y::xs,u::us,.cons r t,f=>by
  rw[jg,Na]at f;rw[zf,zf,GT r f.1,xD t f.2]
theorem HF{A:Za}{s:ba}{x:V}{v:Value}(c:de x v)(b:Cj x=true):∀ {xs:List V} {us:List Value},Pe xs us->xs.all Cj=true->∀ u∈us,ke A s u v (Zt x u)
 |_,_,.nil,_=>λu a=>by cases a
 |y::xs,u::us,.cons r t,f=>λd a=>by
  rw[jg,Na]at f;rcases Ma.mp a with rfl|a
  ·rw[GT r f.1];exact eM r c f.1 b
  ·exact HF c b t f.2 d a
def HC(x:V)(xs:List V):Bool:=xs.any λy=>gm y x
def mJ(K:W.Frag)(a:Bool):R2:=λx y H Q=>∃ p xs,y=.ref p/\(ug K H p xs\/ui K H p xs)/\Cj x=true/\xs.all Cj=true/\Q (.bl (if a then !HC x xs else HC x xs)) H
def kO:ni X (gc .In) (mJ X.K false):=by
 intro e s σ H x y v u Q I f i h;obtain⟨p,xs,rfl,a,d,b,q⟩:=h;cases i;rcases a with a|a
 ·obtain⟨its,r,pl,g⟩:=I.list a;refine iy (Zt x) pl.isList (λw c=>HF f d r b w (by simpa using c)) ⟨.bl _,H,I,rfl,?_⟩;rw[show its.toArray.any (Zt x)=its.any (Zt x) by simp,xD r b];exact q
 ·obtain⟨its,r,pl,g⟩:=I.tuple a;refine kx (Zt x) pl (λw c=>HF f d r b w (by simpa using c)) ⟨.bl _,H,I,rfl,?_⟩;rw[show its.toArray.any (Zt x)=its.any (Zt x) by simp,xD r b];exact q
def BP:ni X (gc .NotIn) (mJ X.K true):=by
 intro e s σ H x y v u Q I f i h;obtain⟨p,xs,rfl,a,d,b,q⟩:=h;cases i;rcases a with a|a
 ·obtain⟨its,r,pl,g⟩:=I.list a;refine wv (Zt x) pl.isList (λw c=>HF f d r b w (by simpa using c)) ⟨.bl _,H,I,rfl,?_⟩;rw[show its.toArray.any (Zt x)=its.any (Zt x) by simp,xD r b];exact q
 ·obtain⟨its,r,pl,g⟩:=I.tuple a;refine Ou (Zt x) pl (λw c=>HF f d r b w (by simpa using c)) ⟨.bl _,H,I,rfl,?_⟩;rw[show its.toArray.any (Zt x)=its.any (Zt x) by simp,xD r b];exact q
def bq:Gp X (.builtin "len") (λxs H Q=>∃ p b,xs=[.ref p]/\(ug X.K H p b\/ui X.K H p b)/\Q (.int b.length) H):=by
 intro e s k H xs j Q I r h;obtain⟨p,b,rfl,c,q⟩:=h;obtain⟨u,rfl,g⟩:=Yv r;cases g;have i:=lJ;rcases c with c|c
 ·obtain⟨its,d,pl,f⟩:=I.list c;have a:=d.length;exact Calls.call_len_list pl.isList (by simp only[Da]<;>omega) ⟨.int b.length,H,I.tok _,⟨s.toks+1,by rw[Da,a]⟩,q⟩
 ·obtain⟨its,d,pl,f⟩:=I.tuple c;have a:=d.length;exact len_tuple pl (by simp only[Da]<;>omega) ⟨.int b.length,H,I.tok _,⟨s.toks+1,by rw[Da,a]⟩,q⟩
def Gp.or{r b:List V->Hp->VK->Prop}(h:Gp X f r)(h':Gp X f b):Gp X f (λxs H Q=>r xs H Q\/b xs H Q):=by
 intro a s e H xs d Q I c q;rcases q with q|q
 ·exact h a s e H xs d Q I c q
 ·exact h' a s e H xs d Q I c q
def BE:Gp X (.type "list") (λxs H Q=>∃ p d,xs=[.ref p]/\(ug X.K H p d\/ui X.K H p d)/\∀ l,H l=none->Q (.ref l) (Nc H l (.wa d))):=by
 intro k s z H xs A Q I r h;obtain⟨p,d,rfl,g,q⟩:=h;obtain⟨u,rfl,y⟩:=Yv r;cases y;have Uh:∀ its,Pe d its->d.length<=sizeLine->∀ h' a,(∀ b x,s.heap.get? b=some x->h'.get? b=some x)->
   h'.get? s.heap.objs.size=some { cls:=.type "list",dict:=none,data:=.seq its.toArray a,slots:=#[] }->EP X k z Q (.ref s.heap.objs.size) { s with heap:=h' }:=λits c i h' a j e=>
  ⟨.ref s.heap.objs.size,_,I.laid j (Ea _) (show fm X.prog X.w _ h' _ (.wa d)from⟨i,its,a,c,e⟩),rfl,q _ (I.Qd.fresh (Ea _))⟩
 rcases g with g|g
 ·obtain⟨its,c,pl,i⟩:=I.list g;have f:=c.length;obtain⟨o,v,m,n,t⟩:=pl.isList;exact EY p (.inl rfl) v m t (λh' a j e=>Uh its c i h' a j e) (by simp only[Da]<;>omega)
 ·obtain⟨its,c,pl,i⟩:=I.tuple g;have f:=c.length;obtain⟨o,v,m,n,t⟩:=pl;exact EY p (.inr rfl) v m t (λh' a j e=>Uh its c i h' a j e) (by simp only[Da]<;>omega)
def zev:Gp X (.type "tuple") (λxs H Q=>∃ p c,xs=[.ref p]/\((ug X.K H p c/\∀ l,H l=none->Q (.ref l) (Nc H l (.Xa c)))\/(ui X.K H p c/\Q (.ref p) H))):=by
 intro a s k H xs v Q I r h;obtain⟨p,c,rfl,h⟩:=h;obtain⟨u,rfl,t⟩:=Yv r;cases t;rcases h with⟨d,q⟩|⟨d,q⟩
 ·obtain⟨its,f,pl,j⟩:=I.list d;have i:=f.length;refine call_tuple_list pl.isList (λh' n=>?_) (by simp only[Da]<;>omega);have g:Ab X a k H { s with heap:=h' }:=I.kept n;have m:Ab X a k (Nc H h'.objs.size (.Xa c)) { s with heap:=h'.push { cls:=.type "tuple",data:=.seq its.toArray } }:=
   g.laid (λb o e=>ua _ e) (Ea _) (⟨j,its,f,cx _ _⟩)
  exact⟨.ref h'.objs.size,_,m,rfl,q _ (g.Qd.fresh (Ea _))⟩
 ·obtain⟨its,f,pl,j⟩:=I.tuple d;exact call_tuple_same pl ⟨.ref p,H,I,rfl,q⟩
def TX(K:W.Frag)(T:String)(x:V)(H:Hp):Prop:=match x with
 | .str _=>T = "str"
 | .int _=>T = "int"
 | .ref p=>(T = "list"/\∃ xs,ug K H p xs)\/(T = "tuple"/\∃ o,K.lookup p=some o/\o.cls=.type "tuple"/\o.dict=none)\/
   (T = "dict"/\((∃ a,H p=some (.dK a))\/∃ a,H p=some (.dT a)))\/(T = "set"/\∃ S n,H p=some (.set S n))
 |_=>False
def Ŗ(I:Ab X d σ H s)(r:de x v)(ty:TX X.K T x H) :
  s.TypeIs v T/\∀ a,v=.ref a->∃ ob,s.heap.get? a=some ob/\ob.dict=none:=by
 cases x with
 |str z=>
  obtain⟨t,rfl⟩:=r;cases (ty);exact⟨typeIs_str s z t,λ_ e=>nomatch e⟩
 |int i=>
  obtain⟨t,rfl⟩:=r;cases (ty);exact⟨typeIs_int s i t,λ_ e=>nomatch e⟩
 |ref p=>
  cases r;rcases ty with⟨rfl,xs,k⟩|⟨rfl,o,b,j,g⟩|⟨rfl,b⟩|⟨rfl,S,n,b⟩
  ·obtain⟨its,_,pl,_⟩:=I.list k;refine⟨pl.isList.typeIs,λa e=>?_⟩;cases e;obtain⟨o,n,e,c,g,_⟩:=pl;exact⟨o,e,g⟩
  ·refine⟨⟨o,I.Ak p o b,j⟩,λa e=>?_⟩;cases e;exact⟨o,I.Ak _ o b,g⟩
  ·have z:∃ o,s.heap.get? p=some o/\o.ExactDict:=by
    rcases b with⟨h,b⟩|⟨h,b⟩
    ·obtain⟨_,_,_,_,o,_,_,e,ex,_⟩:=I.Qd p _ b;exact⟨o,e,ex⟩
    ·obtain⟨_,_,_,_,o,_,_,e,ex,_⟩:=I.Qd p _ b;exact⟨o,e,ex⟩
   obtain⟨o,e,ex⟩:=z;refine⟨⟨o,e,ex.1⟩,λa f=>?_⟩;cases f;exact⟨o,e,ex.2.1⟩
  ·obtain⟨o,_,_,_,e,ex,_⟩:=I.Qd p _ b;refine⟨⟨o,e,ex.1⟩,λa f=>?_⟩;cases f;exact⟨o,e,ex.2.1⟩
 |_=>exact False.elim ty
def o9(K:W.Frag)(T:String)(r:V->List V->Hp->VK->Prop)(d:TE)(t:TA):TE:=λb H Q=>d b H λx a=>TX K T x a/\t b a λxs c=>r x xs c Q
variable{o e:Ya}{es:List Ya}{to:TE}{t:TA}{name:Str}{apos cpos:Re}{T id:String}{r:V->List V->Hp->VK->Prop}
def ő(B:Np T)(g:Slot T name id)(i:Dr (.builtin id)=pure (.type "method_descriptor"))(y:Tv X id r)(z:PE X o to)(w:PA X (e::es) t)
  (c:ye o name X.env (Ec o X.env)=Ec o X.env:=by rfl)
  (f:((Cd cpos (ya (e::es) X.env)).all (λx=>!x.1) && (sk cpos (Ah [] X.env)).all (λx=>x.1.isSome)
   && decide ((e::es).length+([]:List Wk).length+(if ([]:List Wk).isEmpty then 0 else 1)<30))=true:=by rfl)
  (d:(apos.endLine == cpos.line)=true:=by rfl) (A:ya (e::es) X.env=(false,Ec e X.env)::ya es X.env:=by rfl) (b:(Cd cpos (ya es X.env)).any (·.1)=false:=by rfl) :
  PE X (.Call (.Attribute o name apos) (e::es) [] cpos) (o9 X.K T r to t):=by
 intro a s j H Q I h;refine lx c f d rfl (Le (z a s j H _ I h) λv s1 ſ=>?_);obtain⟨x,H1,k,m,ty,C⟩:=ſ;obtain⟨q,u⟩:=Ŗ k m ty;refine⟨T,id,B,g,i,q,u,?_⟩;have l:=w cpos a s1 j H1 _ k C;rw[A]at l ⊢;refine zj (by show (false || (Cd cpos (ya es X.env)).any (·.1))=false;rw[b]<;>rfl) (pk ?_);exact Le l λus s2 ⟨F,n,p,E,D⟩=>y a s2 j n x F v us Q p m E D
end
def hO(X:Cx)(b:String)(r:V->List V->Hp->VK->Prop):Prop:=
 ∀ (a:List (Addr × Ad)) (s:ba) (σ:St) (H:Hp) (x:V) (xs:List V) (v:Value) (us:List Value) (Q:VK),Ab X a σ H s->de x v->Pe xs us->r x xs H Q->
  wpAny (model X.prog X.w) X.A (call (.builtin b) (v::us)) (EP X a σ Q) X.xe s
theorem Pe.one:∀ {x:V} {us:List Value},Pe [x] us->∃ u,us=[u]/\de x u
 |_,_,.cons r .nil=>⟨_,rfl,r⟩
theorem Pe.two:∀ {x y:V} {us:List Value},Pe [x,y] us->∃ u v,us=[u,v]/\de x u/\de y v
 |_,_,_,.cons r (.cons q .nil)=>⟨_,_,rfl,r,q⟩
theorem Pe.zero:∀ {a:List Value},Pe [] a->a=[]
 |_,.nil=>rfl
theorem Pe.eraseIdx:∀ {xs:List V} {us:List Value} (i:Nat),Pe xs us->Pe (xs.eraseIdx i) (us.eraseIdx i)
 |_,_,_,.nil=>.nil
 |_,_,0,.cons _ t=>t
 |_,_,i+1,.cons r t=>.cons r (Pe.eraseIdx i t)
theorem UW{a:Type}:∀ (l:List a) (i:Nat),(l.eraseIdx i).length<=l.length
 |[],_=>Ea _
 |_::_,0=>Sk _
 |_::r,i+1=>Wy (UW r i)
section
variable{X:Cx}{pins:List (Addr × Ad)}{σ:St}{H:Hp}{s:ba}{l b:Addr}{xs ys zs:List V}
def Ab.YA{its a:List Value}(I:Ab X pins σ H s)(b:H l=some (.wa xs))
  (e:s.heap.get? l=some { cls:=.type "list",data:=.seq its.toArray n }) (d:f its.toArray=a.toArray) (h:Pe ys a) (i:ys.length<=sizeLine) :
  Ab X pins σ (Nc H l (.wa ys)) { s with heap:=s.heap.update l (eh f),toks:=t' }:=by
 have q:=zaA e f;rw[d]at q;refine I.write (by rw[b];exact trivial) (.inl rfl) (λj u c g=>(Fj s.heap (eh f) (yf c)).trans g) ⟨_,q⟩ ?_;exact⟨i,a,_,h,q⟩
def Ab.nB(I:Ab X pins σ H s)(a:Pe ys its)(b:ys.length<=sizeLine) :
  Ab X pins σ (Nc H s.heap.objs.size (.wa ys)) { s with heap:=s.heap.push { cls:=.type "list",data:=.seq its.toArray },toks:=t' }:=
 I.laid (λ_ _ q=>ua _ q) (Ea _) ⟨b,its,0,a,Db _ rfl⟩
def Ab.fresh(I:Ab X pins σ H s):H s.heap.objs.size=none:=I.Qd.fresh (Ea _)
def Ab.Zu(I:Ab X pins σ H s)(a:H l=some (.wa xs)):xs.length<=sizeLine/\∃ (its:List Value) (n:Nat),Pe xs its/\xs.length=its.length/\s.heap.get? l=some { cls:=.type "list",data:=.seq its.toArray n }:=by
 obtain⟨z,its,n,r,e⟩:=I.Qd l _ a;exact⟨z,its,n,r,r.length,e⟩
def Ψ(h:n<=sizeLine):vn n=false:=by
 exact Oa (by omega)
end
section
variable{X:Cx}
def oO:V->List V->Hp->VK->Prop:=λx a H Q=>∃ l xs y,x=.ref l/\a=[y]/\H l=some (.wa xs)/\xs.length<sizeLine/\Q .Rc (Nc H l (.wa (xs++[y])))
def WE:hO X "list.append" oO:=by
 intro b s m H x k v j Q I f d h;obtain⟨l,xs,y,rfl,rfl,a,i,q⟩:=h;cases f;obtain⟨u,rfl,c⟩:=d.one;obtain⟨z,its,n,r,g,e⟩:=I.Zu a;refine wB F.slot_list_append ⟨_,e,rfl⟩ F.entry_list_append (F.args_list_append_2 _ _) (PySem.list_append l its.toArray n u (by rw[Da];omega)) ⟨e,?_⟩;refine⟨.Rc,_,I.YA a e (by simp) (r.append (.cons c .nil)) ?_,rfl,q⟩;rw[Xc,List.length_singleton];omega
def SW:V->List V->Hp->VK->Prop:=λx c H Q=>∃ l b xs a,x=.ref l/\c=[.ref b]/\H l=some (.wa xs)/\H b=some (.wa a)/\xs.length+a.length<=sizeLine/\Q .Rc (Nc H l (.wa (xs++a)))
def zoa:hO X "list.extend" SW:=by
 intro g s G H x C v B Q I w t h;obtain⟨l,b,xs,E,rfl,rfl,f,j,A,q⟩:=h;cases w;obtain⟨u,rfl,p⟩:=t.one;cases p;obtain⟨z,its,n,r,y,e⟩:=I.Zu f;obtain⟨D,a,m,o,k,i⟩:=I.Zu j;have d:its.toArray.size+a.toArray.size<=sizeLine:=by rw[Da,Da];omega
 have c:¬ (!its.toArray.isEmpty && vn (its.toArray.size+a.toArray.size))=true:=by
  rw[Ψ d,Oq];exact Eb
 refine wB F.slot_list_extend ⟨_,e,rfl⟩ F.entry_list_extend (F.args_list_extend_2 _ _)
  (AutoSeq1.list_extend_list_list_0 l its.toArray n b a.toArray m c (by rw[Da];omega) (by omega)) ⟨e,i,?_⟩
 refine⟨.Rc,_,I.YA f e (by simp) (r.append o) ?_,rfl,q⟩;rw[Xc];omega
def LS:V->List V->Hp->VK->Prop:=λx a H Q=>∃ l xs i k y,x=.ref l/\a=[.int i]/\H l=some (.wa xs)/\-(2 ^ 63)<=i/\i<2 ^ 63/\jw i xs.length=some k/\xs[k]?=some y/\Q y (Nc H l (.wa (xs.eraseIdx k)))
def L8:hO X "list.pop" LS:=by
 intro c s σ H x D v C Q I B A h;obtain⟨l,xs,i,k,y,rfl,rfl,b,d,f,g,o,q⟩:=h;cases B;obtain⟨u,rfl,p⟩:=A.one;obtain⟨t,rfl⟩:=p;obtain⟨z,its,n,r,j,e⟩:=I.Zu b;obtain⟨w,m,a⟩:=r.get o;refine wB F.slot_list_pop ⟨_,e,rfl⟩ F.entry_list_pop (F.args_list_pop_2 _ _)
  (MeetsSeq.list_pop_at l its.toArray n i t k w (fitsIndex_both d f) (by rw[Da,<-j];exact g) (by rw[<-yt];exact m) (by rw[Da];omega)) ⟨e,?_⟩
 refine⟨y,_,I.YA b e ?_ (r.eraseIdx k) ?_,a,q⟩
 ·show its.toArray.eraseIdxIfInBounds k=(its.eraseIdx k).toArray;rw[List.eraseIdxIfInBounds_toArray]
 ·have:=UW xs k;omega
def xax:R2:=λx y H Q=>∃ l b xs a,x=.ref l/\y=.ref b/\H l=some (.wa xs)/\H b=some (.wa a)/\xs.length+a.length<=sizeLine/\∀ p,H p=none->Q (.ref p) (Nc H p (.wa (xs++a)))
def U8:ni X (uf .Add) xax:=by
 intro c s C H x y v u Q I m o h;obtain⟨l,b,xs,B,rfl,rfl,i,g,t,q⟩:=h;cases m;cases o;obtain⟨z,its,n,r,p,e⟩:=I.Zu i;obtain⟨A,a,w,k,j,d⟩:=I.Zu g;refine PySem.P.add_list e d ?_ (by rw[Da,Da];omega);have f:its.toArray++a.toArray=(its++a).toArray:=by simp
 rw[f];exact⟨.ref _,_,I.nB (r.append k) (by rw[Xc];omega),rfl,q _ I.fresh⟩
end
section
variable{prog:Ia}{w:qb}{A:Za}{E:Value->ba->Prop}{s:ba}
set_option maxRecDepth 100000 in
end
end L2
namespace Att
open W Calls
def XY:∀ (c:List Int) (d:List Value),WellAll P h d (c.map rK)->zq d c:=by
 intro c;induction c with
 |nil=>
  intro d w;cases w;exact .nil
 |cons n c e=>
  intro d w;cases w with
  |cons a b=>
   cases a;exact .cons _ _ (e _ b)
def ŧ{l:OpenLaw}(v:l.most=some n)
  (b:l.row.toRowW.claim.pre args=true) (m:WellAll P h e args) :
  ∃ a o c,e=[jc a]/\args=[WData.list (c.map rK)]/\h.get? a=some { cls:=.type "list",data:=.seq o.toArray }/\zq o c/\c.length<=n:=by
 have k:=(pre_splitW b).1;have u:=(pre_splitW b).2;obtain⟨d,r,rfl,p,s⟩:=hasAllW_cons k;obtain rfl:=hasAllW_nil s;obtain⟨xs,rfl,t⟩:=hasW_list p;obtain⟨c,rfl⟩:=items_int t;have g:c.length<=n:=by
  have i:(WTm.not (.lt (.lit (.int n)) (.len (.arg 0)))).holds [] { args:=[.list (c.map .int)] }=true:=by
   have i:=(holds_andW u).1;rw[v]at i;exact i
  have j:=condW_of i (w_not (w_lt w_lit (w_len_list (w_arg rfl))));refine Nat.le_of_not_lt λq=>?_;first
   |(rw[nb q']at j;exact absurd j (by decide))
   |(simp at j;omega)
 cases m with
 |cons x y=>
  cases y;cases x with
  |list w f=>exact⟨_,_,c,rfl,rfl,w,XY c _ f,g⟩
theorem KZ(l:OpenLaw)(a:List WData):l.row.toRowW.claim.post a (.bool true) a=true:=
 postW_of
  (show WShape.has [] (.bool true) .bool=true by first|rfl|decide|simp)
  (w_eq_bool (w_res rfl) w_lit) rfl
def ms{l:OpenLaw}
  (S:l.most=some n) (y:d.params.defaults=[])
  (j:∀ (w:qb) (e b:ba) (t B:Str->Option Value) (fa:Addr) (o:Ad) (C s g:Value) (a:Addr) (i:List Value) (u:List Int),
   Ground q c [] D w e t B b.heap->E w b.heap->
   b.heap.get? fa=some o->o.data=.func (docDef d.name d.params d.body d.scope C s g)->b.heap.CodeRec s d.name->t d.name=some (.ref fa)->
   b.heap.get? a=some { cls:=.type "list",data:=.seq i.toArray }->zq i u->u.length<=n->b.gens=#[]->
   codeAny (model l.prog w) Aq (.call (.ref fa) ⟨[.ref a],[]⟩) (λr v=>r=.ok (.ret (.bool true))/\OldK b.heap v.heap/\v.os=b.os/\Yi v.gens) b) :
  WalkO q c D E l.row.toRowW d [] (λf i=>PySem.call f i):=by
 intro w e b t B G ϋ fa o C s g K kV T ώ x H z P F J W p I V A Q;obtain rfl:K=.none:=Dflts.none H y;obtain rfl:kV=.none:=Dflts.noKw H;obtain⟨a,i,u,rfl,rfl,m,h,k⟩:=ŧ S p A;refine enter_call (Tk (j w e b t B fa o C s g a i u G ϋ T (fd_plain ώ) x z m h k P) λr v ό=>?_);obtain⟨rfl,L,M,N⟩:=ό;exact⟨.inl ⟨.bool true,.bool true,[],rfl,λ_=>rfl,.bool true,KZ l _,λ_=>⟨List.Pairwise.nil,λ_ R=>(nomatch R)⟩⟩,L,M,N⟩
end Att
namespace L2
open Spec
theorem XJ:∀ {a:List Value} {ns:List Int},zq a ns->Pe (ns.map V.int) a
 |_,_,.nil=>.nil
 |_,_,.cons n t h=>.cons ⟨t,rfl⟩ (XJ h)
noncomputable abbrev Ji{K:W.Frag}{h:Heap}(_:K.In h):W.Frag:=K
noncomputable def aq(s:Stmt):Arguments:=match s with
 | .FunctionDef _ a _ _ _ _ _ _ _ _=>a
 |_=>{ posonlyargs:=[],args:=[],vararg:=none,kwonlyargs:=[],kw_defaults:=[],kwarg:=none,defaults:=[] }
noncomputable def Uj(s:Stmt):List Stmt:=match s with
 | .FunctionDef _ _ b _ _ _ _ _ _ _=>b
 |_=>[]
noncomputable def jd(s:Stmt):Scope:=match s with
 | .FunctionDef _ _ _ _ _ _ sc _ _ _=>sc
 |_=>{ kind:=.function,names:=[],isGenerator:=false,isCoroutine:=false }
noncomputable abbrev iU:Lw:=λ_ _ _ _ _ _=>False
noncomputable abbrev E0:XK:=λ_ _ _=>False
structure Pz(K:W.Frag)(x qual:Str)(st:Stmt)(f:Addr)(fd:Kf):Prop where
 ex:∃ (oc:Value) (od:Option Addr) (kV doc pm:Value) (an:Option Addr) (cdv ct:Value) (osl:Array (Option Value)),
  fd=W.fnOf x qual (aq st) (Uj st) (jd st) .none kV doc pm an cdv ct/\K.lookup f=some ⟨oc,od,.func fd,osl⟩/\W.codeIn K cdv qual=true
 kp:W.keepIn K (.ref f)=true
section
variable{P:Ia}{w:qb}{K:W.Frag}{mg:Str->Option Value}{base:Heap}
def Pz.ok(F:Pz K x b g f n)(S:Ba N ps (jd g))(l:∀ e H Q E,m e H Q E->e.length=ps.length)
  (d:∀ (c:Value) (A:Za) (a:List zh) (s:ba) (H:Hp) (e:List V) (Q:VK) (E:XK),pe k (A.deeper (Og b (jd g) s.heap.objs.size f c))->m e H Q E->
   ∃ t,Ku (Gq iU P w K mg base N b (jd g) f c A a s H E).Yp (Uj g) t/\t { nx:=λ_ o=>Q .Rc o,rt:=Q } (Cw N e) H):Ai P w K mg base iU (k+1) f n ps m:=by
 obtain⟨y,z,kV,p,B,v,c,ct,u,rfl,lk,i⟩:=F.ex;refine kS lk i S l λA a s H e Q E r j=>?_;obtain⟨t,h,q⟩:=d c A a s H e Q E r j;exact⟨t,h.Yp,q⟩
def Pz.binds(F:Pz K x a d f k)
  (h:∀ (kV c g:Value) (e:Option Addr) (b ct:Value) (j:List Value),j.length=i.length->bindArgs (W.fnOf x a (aq d) (Uj d) (jd d) .none kV c g e b ct) ⟨j,[]⟩=pure (i.zip j)):Ut K k i []:=by
 obtain⟨n,o,kV,c,g,e,b,ct,m,rfl,lk,l⟩:=F.ex;exact .all (h kV c g e b ct)
def EX{kV d i b ct:Value}(l:K.lookup f=some ⟨j,m,.func (W.fnOf x a (aq e) (Uj e) (jd e) .none kV d i h b ct),g⟩)
  (c:W.codeIn K b a=true) (k:W.keepIn K (.ref f)=true):Pz K x a e f (W.fnOf x a (aq e) (Uj e) (jd e) .none kV d i h b ct):=⟨⟨j,m,kV,d,i,h,b,ct,g,rfl,l,c⟩,k⟩
end
def bV(h:n<=1000):n<sizeLine:=mx h (by decide)
section
variable{X:Cx}
def pv(i:Nat)(c:X.N[i]?=some x:=by rfl)(e:kE X.env.scope x:=by first|exact Or.inl rfl|exact Or.inr (Or.inl rfl)|exact Or.inr (Or.inr rfl))(d:(x == ("__debug__" : Str))=false:=by decide)
  (a:(x == ("__classdict__" : Str))=false:=by decide):PE X (.Name x b) (rP i):=zR c e d a
end
def Sx(H a:Hp):Prop:=∀ b o,H b=some o->a b=some o
def Sx.refl(H:Hp):Sx H H:=λ_ _ h=>h
def Sx.trans(a:Sx H d)(b:Sx d e):Sx H e:=λc o h=>b c o (a c o h)
def Sx.free(e:Sx H a)(h:a l=Option.none):H l=Option.none:=by
 cases q:H l with
 |none=>rfl
 |some o=>
  rw[e l o q]at h;cases h
def Sx.seq{K:W.Frag}(e:Sx H b)(h:ug K H a xs):ug K b a xs:=by
 rcases h with(h|⟨o,h⟩)|h
 ·exact .inl (.inl (e _ _ h))
 ·exact .inl (.inr ⟨o,e _ _ h⟩)
 ·exact .inr h
end L2
namespace L4
open Spec L2
def xW(a:c):∃ b,b=a:=⟨a,rfl⟩
def Lb{b:Type}(a:b):b:=Classical.choose (xW a)
@[simp] theorem Ls(a:b):Lb a=a:=zaB (xW a)
inductive D where
 |Rc|bl (b:Bool)|int (i:Int)|str (x:Str)|Xa (xs:List D)|rj (ns:List Int)|ref (n:Nat)
 |wa (xs:List D)|Qb (ks:List Nd) (xs:List D)|obj (c:Nat) (ns:List Str) (xs:List D)|Du (c:Nat)|gt (ss:List Str)
inductive Ob where
 |wa (xs:List D)
 |Qb (kvs:List (Nd × D))
 |yc (c:Nat) (fs:List (Str × D))
 |ig (kvs:List (Nd × D))
 |Bl (ks:List (List Nd))
abbrev lb:=List Ob
abbrev St:=L2.St
abbrev Ev:=List (Option D)
structure Xn where
 cls:Nat
inductive Fm(α:Type) where
 |ok (a:α) (σ:lb)
 |ex (x:Xn) (σ:lb)
 |cc
abbrev M(a:Type):=lb->Fm a
def ret{b:Type}(a:b):M b:=λσ=>.ok a σ
def cc{a:Type}:M a:=λ_=>.cc
def Fm.bind{c d:Type}(o:Fm c)(k:c->M d):Fm d:=match o with
 | .ok a b=>k a b
 | .ex x b=>.ex x b
 | .cc=>.cc
def be{a b:Type}(m:M a)(k:a->M b):M b:=λc=>(m c).bind k
inductive Fl where
 |nx (ρ:Ev)|rt (d:D)|bk (ρ:Ev)|ct (ρ:Ev)|xc (ρ:Ev) (x:Xn)
structure Tab where
 P:Addr
 line:Int
 col:Int
 qual:Str
structure Tx where
 qr:List Tab
 bm:Addr
structure Tb where
 K:W.Frag
 ca:Nat->Addr
 tx:Tx
def Iv(q:Str)(c:Addr):Heap->Prop:=λh=>∃ o a t,h.get? c=some o/\o.data=.fields a/\a[1]?=some (.str q t)
def qH(a:Addr):Heap->Prop:=λh=>∃ o,h.get? a=some o/\o.cls=.type "module"/\o.dict=some builtinsNs/\o.data=.plain
def Mu(T:Tb)(b:List Addr)(H:Hp):Prop:=∀ t∈T.tx.qr,(T.tx.bm ∉ b/\∃ d,H T.tx.bm=some (.Qc d (.ext (qH T.tx.bm))))/\t.P ∉ b/\∃ a,H t.P=some (.mo a)/\(a=#[]\/∃ c,a=#[Tf t.line,Tf t.col,.ref c]/\c ∉ b/\H c=some (.ext (Iv t.qual c)))
def Mu.grow(h:Mu T d H)(k:∀ b u,H b=some u->a b=some u):Mu T d a:=λt m=>by
 obtain⟨⟨f,o,g⟩,i,p,j,l⟩:=h t m;exact⟨⟨f,o,k _ _ g⟩,i,p,k _ _ j,l.imp id λ⟨c,e,n,z⟩=>⟨c,e,n,k _ _ z⟩⟩
def Mu.sub(h:Mu T a H)(k:∀ b∈d,b∈a):Mu T d H:=λt m=>by
 obtain⟨⟨f,g⟩,i,o,j,l⟩:=h t m;exact⟨⟨λz=>f (k _ z),g⟩,λz=>i (k _ z),o,j,l.imp id λ⟨c,e,n,z⟩=>⟨c,e,λy=>n (k _ y),z⟩⟩
def Mu.more(h:Mu T a H)(l:H p=none):Mu T (a++[p]) H:=λt m=>by
 obtain⟨⟨i,o,f⟩,j,q,g,k⟩:=h t m;have d:∀ {b:Addr} {u:HO},H b=some u->b ∉ a->b ∉ a++[p]:=fun {b u} e n z=>(Wb.mp z).elim n λy=>by
  have r:b=p:=by simpa using y
  subst r;rw[l]at e;cases e
 exact⟨⟨d f i,o,f⟩,d g j,q,g,k.imp id λ⟨c,e,n,z⟩=>⟨c,e,d z n,z⟩⟩
def Mu.out(h:Mu T g H)(r:∀ b,b≠a->i b=H b)(q:a∈g\/∃ f,H a=some (.dK f)):Mu T g i:=λt s=>by
 obtain⟨⟨k,v,m⟩,l,ps,o,p⟩:=h t s;have j:∀ {b:Addr} {u:HO},H b=some u->b ∉ g->(∀ f,u≠.dK f)->i b=some u:=fun {b u} e n d=>by
  rw[r b (λz=>by
   subst z;rcases q with y|⟨f,y⟩
   ·exact n y
   ·rw[e]at y;cases y;exact d f rfl)]
  exact e
 exact⟨⟨k,v,j m k (λ_ z=>by cases z)⟩,l,ps,j o l (λ_ z=>by cases z),p.imp id λ⟨c,e,n,z⟩=>⟨c,e,n,j z n (λ_ y=>by cases y)⟩⟩
noncomputable def Tb.cv(T:Tb)(x:Xn):Value:=.ref (T.ca x.cls)
noncomputable def GC(c:Nat):Option Nat:=if c<100 then none else some (c / 100 - 1)
def ŗ(C a:Addr):Heap->Prop:=λh=>∃ o,h.get? a=some o/\o.cls=.ref C
def iz(C:Addr)(c:Option Addr)(a:Addr):Heap->Prop:=λh=>∃ o,h.get? a=some o/\o.cls=.ref C/\∀ b,c=some b->o.dict=some b/\∃ d,o.data=.fields d
def NJ(b:Addr)(n:Nat):Heap->Prop:=λh=>∃ o,h.get? b=some o/\∃ a c t,o.data=.dict a c/\StrKeys a/\nsFind a "pot" = some (.int n t)
def VH(K:W.Frag)(H:Hp)(a:Addr)(c:List Int):Prop:=
 (∃ o,H a=some (.Qc o (.wa (c.map V.int))))\/
  ∃ (o:Ad) (b:Array Value) (n:Nat),K.lookup a=some o/\o.cls=.type "list"/\o.dict=none/\o.data=.seq b n/\b.size<=sizeLine/\Pe (c.map V.int) b.toList
def VH.seq{K:W.Frag}(h:VH K H a b):ug K H a (b.map V.int):=by
 rcases h with⟨o,h⟩|h
 ·exact .inl (.inr ⟨o,h⟩)
 ·exact .inr h
def RB(K:W.Frag)(a:Addr)(c:List Str):Prop:=∃ (o:Ad) (b:Array Value) (n:Nat),K.lookup a=some o/\o.cls=.type "tuple"/\o.data=.seq b n/\b.size<=sizeLine/\Pe (c.map V.str) b.toList
mutual
def Ua(T:Tb)(d:List Addr)(H:Hp):D->V->Prop
 | .Rc,v=>v=.Rc
 | .bl b,v=>v=.bl b
 | .int i,v=>v=.int i
 | .str x,v=>v=.str x
 | .Xa ds,v=>∃ p f,v=.ref p/\H p=some (.Xa f)/\Ub T d H ds f
 | .rj ns,v=>∃ a,v=.ref a/\VH T.K H a ns
 | .ref n,v=>∃ a,v=.ref a/\d[n]?=some a
 | .wa ds,v=>∃ a f,v=.ref a/\a ∉ d/\H a=some (.wa f)/\Ub T d H ds f
 | .Qb ks ds,v=>∃ a e,v=.ref a/\a ∉ d/\Rd H a (.dK e)/\e.map (·.1)=ks/\Ub T d H ds (e.map (·.2))
 | .obj c ns ds,v=>∃ a k h,v=.ref a/\a ∉ d/\H a=some (.yc (T.ca c) k h)/\h.map (·.1)=ns/\Ub T d H ds (h.map (·.2))
 | .Du c,v=>∃ a j,v=.ref a/\a ∉ d/\H a=some (.ext (iz (T.ca c) j a))/\∀ n,GC c=some n->∃ g,j=some g/\g ∉ d/\H g=some (.ext (NJ g n))
 | .gt ss,v=>∃ a,v=.ref a/\RB T.K a ss
def Ub(T:Tb)(b:List Addr)(H:Hp):List D->List V->Prop
 |[],a=>a=[]
 |d::ds,a=>∃ v r,a=v::r/\Ua T b H d v/\Ub T b H ds r
end
def Kp(o b:HO):Prop:=b=o\/(∃ d a,o=.dK a/\b=.Qc d (.dK a))\/∃ e c,o=.mo e/\b=.mo c
def Kp.trans(x:Kp a b)(y:Kp b c):Kp a c:=by
 rcases x with rfl|⟨g,d,rfl,rfl⟩|⟨ps,e,rfl,rfl⟩
 ·exact y
 ·rcases y with rfl|⟨_,_,z,_⟩|⟨_,_,z,_⟩
  ·exact .inr (.inl ⟨g,d,rfl,rfl⟩)
  ·cases z
  ·cases z
 ·rcases y with rfl|⟨_,_,z,_⟩|⟨_,f,_,rfl⟩
  ·exact .inr (.inr ⟨ps,e,rfl,rfl⟩)
  ·cases z
  ·exact .inr (.inr ⟨ps,f,rfl,rfl⟩)
structure Ge(μ:List Addr)(H:Hp)(μ':List Addr)(H':Hp):Prop where
 pre:∃ r,μ'=μ++r
 Xa:∀ p xs,H p=some (.Xa xs)->H' p=some (.Xa xs)
 Qc:∀ p o u,H p=some (.Qc o u)->H' p=some (.Qc o u)
 keep:∀ p o,H p=some o->p ∉ μ->(∃ o',H' p=some o'/\Kp o o')/\p ∉ μ'
def Ge.refl(a:List Addr)(H:Hp):Ge a H a H:=⟨⟨[],by simp⟩,λ_ _ h=>h,λ_ _ _ h=>h,λ_ _ h n=>⟨⟨_,h,.inl rfl⟩,n⟩⟩
def Ge.trans(a:Ge g H c e)(b:Ge c e d f):Ge g H d f:=by
 obtain⟨⟨r,rfl⟩,A,k,s⟩:=a;obtain⟨⟨z,rfl⟩,B,l,t⟩:=b;exact⟨⟨r++z,by simp⟩,λp xs h=>B p xs (A p xs h),λp o u h=>l p o u (k p o u h),λp o h n=>let ⟨⟨x,m,i⟩,v⟩:=s p o h n;let ⟨⟨y,q,j⟩,w⟩:=t p x m v;⟨⟨y,q,i.trans j⟩,w⟩⟩
def Ge.pj(e:Ge g H b d)(p:Addr)(o:HO)(h:H p=some o)(n:p ∉ g)(f:(∀ a,o≠.dK a)/\∀ ps,o≠.mo ps:=by exact⟨(λ_ z=>by cases z),(λ_ z=>by cases z)⟩):d p=some o/\p ∉ b:=by
 obtain⟨⟨k,i,c⟩,j⟩:=e.keep p o h n;rcases c with rfl|⟨_,a,z,_⟩|⟨ps,_,z,_⟩
 ·exact⟨i,j⟩
 ·exact absurd z (f.1 a)
 ·exact absurd z (f.2 ps)
def Ge.rd(e:Ge k H b f)(p:Addr)(a:List (Nd × V))(h:Rd H p (.dK a))(n:p ∉ k):Rd f p (.dK a)/\p ∉ b:=by
 rcases h with h|⟨d,h⟩
 ·obtain⟨⟨l,g,c⟩,j⟩:=e.keep p _ h n;rcases c with rfl|⟨d,i,z,rfl⟩|⟨_,_,z,_⟩
  ·exact⟨.inl g,j⟩
  ·cases z;exact⟨.inr ⟨d,g⟩,j⟩
  ·cases z
 ·exact⟨.inr ⟨d,e.Qc _ _ _ h⟩,(e.keep p _ h n).2⟩
def Ge.get(e:Ge c H b d){n:Nat}(h:c[n]?=some a):b[n]?=some a:=by
 obtain⟨⟨r,rfl⟩,_,_⟩:=e;rw[zb (aa.mp h).1];exact h
mutual
theorem Ua.mono{T:Tb}{w m:List Addr}{H s:Hp}(e:Ge w H m s):∀ (d:D) (v:V),Ua T w H d v->Ua T m s d v
 | .Rc,v,h=>by simpa [Ua]using h
 | .bl b,v,h=>by simpa [Ua]using h
 | .int i,v,h=>by simpa [Ua]using h
 | .str x,v,h=>by simpa [Ua]using h
 | .Xa ds,v,h=>by
  rw[Ua]at h ⊢;obtain⟨p,k,g,f,j⟩:=h;exact⟨p,k,g,e.Xa _ _ f,Ub.mono e ds k j⟩
 | .rj ns,v,h=>by
  rw[Ua]at h ⊢;obtain⟨a,g,f⟩:=h;refine⟨a,g,?_⟩;rcases f with⟨o,f⟩|f
  ·exact .inl ⟨o,e.Qc _ _ _ f⟩
  ·exact .inr f
 | .ref n,v,h=>by
  rw[Ua]at h ⊢;obtain⟨a,g,f⟩:=h;exact⟨a,g,e.get f⟩
 | .wa ds,v,h=>by
  rw[Ua]at h ⊢;obtain⟨a,k,g,f,j,l⟩:=h;exact⟨a,k,g,(e.pj _ _ j f).2,(e.pj _ _ j f).1,Ub.mono e ds k l⟩
 | .Qb ks ds,v,h=>by
  rw[Ua]at h ⊢;obtain⟨a,k,g,f,j,r,l⟩:=h;exact⟨a,k,g,(e.rd _ _ j f).2,(e.rd _ _ j f).1,r,Ub.mono e ds _ l⟩
 | .obj c ns ds,v,h=>by
  rw[Ua]at h ⊢;obtain⟨a,A,k,g,f,j,r,l⟩:=h;exact⟨a,A,k,g,(e.pj _ _ j f).2,(e.pj _ _ j f).1,r,Ub.mono e ds _ l⟩
 | .Du c,v,h=>by
  rw[Ua]at h ⊢;obtain⟨a,z,g,f,j,l⟩:=h;exact⟨a,z,g,(e.pj _ _ j f).2,(e.pj _ _ j f).1,λn q=>let ⟨y,B,t,u⟩:=l n q;⟨y,B,(e.pj _ _ u t).2,(e.pj _ _ u t).1⟩⟩
 | .gt ss,v,h=>by rw[Ua]at h ⊢;exact h
theorem Ub.mono{T:Tb}{g a:List Addr}{H f:Hp}(e:Ge g H a f):∀ (b:List D) (c:List V),Ub T g H b c->Ub T a f b c
 |[],c,h=>by simpa [Ub]using h
 |d::b,c,h=>by
  rw[Ub]at h ⊢;obtain⟨v,r,i,j,k⟩:=h;exact⟨v,r,i,Ua.mono e d v j,Ub.mono e b r k⟩
end
def Ub.nil:Ub T a H [] []:=by rw[Ub]
def Ub.cons{T:Tb}{b:List Addr}{H:Hp}{d:D}{v:V}{c:List D}{a:List V}(e:Ua T b H d v)(f:Ub T b H c a):Ub T b H (d::c) (v::a):=by
 rw[Ub];exact⟨v,a,rfl,e,f⟩
theorem Ub.length:∀ {b:List D} {a:List V},Ub T e H b a->b.length=a.length
 |[],a,h=>by rw[Ub]at h;subst h;rfl
 |d::b,a,h=>by
  obtain⟨v,r,rfl,_,c⟩:=h;simp[Ub.length c]
theorem Ub.get:∀ {b:List D} {a:List V} {i:Nat} {d:D},Ub T g H b a->b[i]?=some d->∃ v,a[i]?=some v/\Ua T g H d v
 |[],a,i,d,h,e=>by simp at e
 |d::b,a,0,x,h,e=>by
  obtain⟨v,r,rfl,c,f⟩:=h;simp at e;subst e;exact⟨v,rfl,c⟩
 |d::b,a,i+1,x,h,e=>by
  obtain⟨v,r,rfl,c,f⟩:=h;simpa using Ub.get f (by simpa using e)
theorem Ub.append:∀ {e a:List D} {c b:List V},Ub T g H e c->Ub T g H a b->Ub T g H (e++a) (c++b)
 |[],a,c,b,h,f=>by rw[Ub]at h;subst h;simpa using f
 |d::e,a,c,b,h,f=>by
  obtain⟨v,r,rfl,i,j⟩:=h;exact Ub.cons i (Ub.append j f)
theorem Ub.set(g:Ua T e H d v):∀ {b:List D} {a:List V} (i:Nat),Ub T e H b a->Ub T e H (b.set i d) (a.set i v)
 |[],a,i,h=>by rw[Ub]at h;subst h;simpa using Ub.nil
 |x::b,a,0,h=>by
  obtain⟨w,r,rfl,f,c⟩:=h;exact Ub.cons g c
 |x::b,a,i+1,h=>by
  obtain⟨w,r,rfl,f,c⟩:=h;exact Ub.cons f (Ub.set g i c)
theorem Ub.drop:∀ {b:List D} {a:List V} (n:Nat),Ub T c H b a->Ub T c H (b.drop n) (a.drop n)
 |b,a,0,h=>by simpa using h
 |[],a,n+1,h=>by rw[Ub]at h;subst h;simpa using Ub.nil
 |x::b,a,n+1,h=>by
  obtain⟨w,r,rfl,e,d⟩:=h;simpa using Ub.drop n d
theorem Ub.take:∀ {b:List D} {a:List V} (n:Nat),Ub T c H b a->Ub T c H (b.take n) (a.take n)
 |b,a,0,h=>by simpa using Ub.nil
 |[],a,n+1,h=>by rw[Ub]at h;subst h;simpa using Ub.nil
 |x::b,a,n+1,h=>by
  obtain⟨w,r,rfl,d,e⟩:=h;exact Ub.cons d (Ub.take n e)
def fv(T:Tb)(a:List Addr)(H:Hp):List (Str × D)->List (Str × V)->Prop:=Paired λp q=>p.1=q.1/\Ua T a H p.2 q.2
def Xl(T:Tb)(a:List Addr)(H:Hp):List (Nd × D)->List (Nd × V)->Prop:=Paired λp q=>p.1=q.1/\Ua T a H p.2 q.2
def Sq(T:Tb)(e:List Addr)(H:Hp)(a:Addr):Ob->Prop
 | .wa ds=>∃ b,H a=some (.wa b)/\Ub T e H ds b
 | .Qb d=>∃ b,H a=some (.dK b)/\Xl T e H d b
 | .yc c g=>∃ f b,H a=some (.yc (T.ca c) f b)/\fv T e H g b
 | .ig d=>∃ h b,H a=some (.Qc h (.dK b))/\Xl T e H d b
 | .Bl ks=>∃ b,H a=some (.dT b)/\b.map (·.1)=ks
structure je(T:Tb)(μ:List Addr)(H:Hp)(σ:lb):Prop where
 len:μ.length=σ.length
 nd:μ.Nodup
 obs:∀ (n:Nat) (o:Ob),σ[n]?=some o->∃ a,μ[n]?=some a/\Sq T μ H a o
 tb:Mu T μ H
def pi(T:Tb)(c:List Addr)(H:Hp)(b:Ev)(a:St):Prop:=b.length=a.length/\∀ (i:Nat) (d:D),b[i]?=some (some d)->∃ v,a[i]?=some (some v)/\Ua T c H d v
def pi.mono(e:Ge f H a b)(h:pi T f H g c):pi T a b g c:=
 ⟨h.1,λi d q=>let ⟨v,j,k⟩:=h.2 i d q;⟨v,j,Ua.mono e d v k⟩⟩
def pi.set(h:pi T b H ρ c)(i:Nat)(r:Ua T b H d v):pi T b H (ρ.set i (some d)) (c.set i (some v)):=by
 refine⟨by simpa using h.1,λj x q=>?_⟩;rw[qd]at q;by_cases a:i=j
 ·subst a;rw[ma rfl]at q;split at q
  ·rename_i g
   cases q;exact⟨v,by rw[qd,ma rfl,ma (by rw[<-h.1];exact g)],r⟩
  ·cases q
 ·rw[ra a]at q;obtain⟨w,e,f⟩:=h.2 j x q;exact⟨w,by rw[qd,ra a];exact e,f⟩
def F6(e:Addr)(b d:Value)(h:Heap):Prop:=∃ c a,h.get? e=some c/\c.cls=b/\c.data=.fields a/\1<a.size/\a[0]?=some d/\a[1]?=some .none
def Mq(B:Heap)(l:List zh)(e:Addr)(a b:Value)(h:Heap):Prop:=B.StaysIn h/\B.get? e=none/\h.FunFrames B l/\((∃ c,h.TracedAtW B e a b c)\/F6 e a b h)
def Q1(o:Ad)(n:Nat):Prop:=∃ a b t,o.data=.dict a b/\StrKeys a/\nsFind a "pot" = some (.int n t)
def mG(d:Option Nat)(e:Addr)(B h f:Heap)(c:Hp):Prop:=∀ n,d=some n->∃ a oD b,h.get? e=some b/\b.dict=some a/\B.get? a=some oD/\Q1 oD n/\c a=none/\f.get? a=none
structure MA(P:Ia)(w:qb)(outer:List zh)(H:Hp)(s:ba)(cls:Value)(fd:Option Nat)(H':Hp)(e:Value)(s':ba):Prop where
 ex:∃ (ea:Addr) (a0:Value) (B:Heap),e=.ref ea/\Mq B outer ea cls a0 s'.heap/\H' ea=none/\s.heap.get? ea=none/\
  (∀ b o,H' b=some o->∃ ob,B.get? b=some ob)/\(∀ b o,s.heap.get? b=some o->H b=none->b ∉ Hk outer->B.get? b=some o)/\(∀ b o,s.heap.get? b=some o->b ∉ Hk outer->∃ o',B.get? b=some o')/\mG fd ea B s'.heap s.heap H'
 os:s'.os=s.os
 bare:Yi s'.gens
 un:Un (Hk outer) [] H H' s.heap s'.heap
 Qd:xj P w H' s'.heap
noncomputable def Yl(P:Ia)(w:qb):Lw:=λa H s E e f=>∃ b d c,MA P w a H s b d c e f/\E b d c
structure IC(X:Cx)(st:St)(cls:Value)(fd:Option Nat)(H':Hp):Prop where
 IJ:∀ (pins:List (Addr × Ad)) (H:Hp) (s:ba) (e:Value) (s':ba),Ab X pins st H s->MA X.prog X.w X.stack H s cls fd H' e s'->X.xe e s'
noncomputable abbrev XE(X:Cx)(d:St):XK:=λa c b=>IC X d a c b
def Jc{d e:Type}(T:Tb)(E:XK)(R:List Addr->Hp->d->e->Prop)(f:List Addr)(H:Hp)(o:Fm d)(Q:e->Hp->Prop):Prop:=match o with
 | .ok a σ=>∀ b g c,Ge f H b c->je T b c σ->R b c a g->Q g c
 | .ex x σ=>∀ b c,Ge f H b c->je T b c σ->E (T.cv x) (GC x.cls) c
 | .cc=>False
def Jc.mono{R:List Addr->Hp->j->k->Prop}{o:Fm j}{Q:k->Hp->Prop}(e:Ge l H c i)(h:Jc T E R l H o Q):Jc T E R c i o Q:=by
 cases o with
 |ok a σ=>exact λb g d f r q=>h b g d (e.trans f) r q
 |ex x σ=>exact λb d f r=>h b d (e.trans f) r
 |cc=>exact h
def Jc.imp{R:List Addr->Hp->e->f->Prop}{o:Fm e}{Q d:f->Hp->Prop}(h:Jc T E R i H o Q)(k:∀ g b,Q g b->d g b):Jc T E R i H o d:=by
 cases o with
 |ok a σ=>exact λc g b j r q=>k _ _ (h c g b j r q)
 |ex x σ=>exact h
 |cc=>exact h
def Jc.bind{R:List Addr->Hp->i->t->Prop}{o:List Addr->Hp->s->u->Prop}{m:M i}{k:i->M s}{Q:u->Hp->Prop}{n:t->Hp->Prop}
  (h:Jc T E o j H (be m k σ) Q) (f:∀ a b c g d,m σ=.ok a b->Ge j H c d->je T c d b->R c d a g->Jc T E o c d (k a b) Q->n g d):Jc T E R j H (m σ) n:=by
 unfold be at h;cases e:m σ with
 |ok a b=>
  rw[e]at h;exact λl g v p r q=>f a b l g v e p r q (h.mono p)
 |ex x b=>rw[e]at h;exact h
 |cc=>rw[e]at h;exact h
def Jc.here{R:List Addr->Hp->c->b->Prop}{d:c}{g:b}{Q:b->Hp->Prop}(h:Jc T E R a H (.ok d e) Q)(r:je T a H e)(p:R a H d g):Q g H:=h a g H (Ge.refl _ _) r p
section
variable(T:Tb)(X:Cx)
def tF(f:Ev->M D):TE:=λb H Q=>∃ a c d,pi T a H c b/\je T a H d/\Jc T (XE X b) (Ua T) a H (f c d) Q
def vL:List Addr->Hp->Bool->Bool->Prop:=λ_ _ a b=>b=a
def tT(f:Ev->M Bool):TT:=λb H Q=>∃ a c d,pi T a H c b/\je T a H d/\Jc T (XE X b) vL a H (f c d) Q
def tL(f:Ev->M (List D)):TA:=λb H Q=>∃ a c d,pi T a H c b/\je T a H d/\Jc T (XE X b) (Ub T) a H (f c d) Q
inductive wt where
 |nx (st:St)|rt (v:V)|bk (st:St)|ct (st:St)|xc (st:St) (cls:Value) (fd:Option Nat)
def Ko(T:Tb)(b:List Addr)(H:Hp):Fl->wt->Prop
 | .nx a,.nx st=>pi T b H a st
 | .rt d,.rt v=>Ua T b H d v
 | .bk a,.bk st=>pi T b H a st
 | .ct a,.ct st=>pi T b H a st
 | .xc a x,.xc st cls fd=>pi T b H a st/\cls=T.cv x/\fd=GC x.cls
 |_,_=>False
def zn(X:Cx)(D:Al):wt->Hp->Prop
 | .nx st,H=>D.nx st H
 | .rt v,H=>D.rt v H
 | .bk st,H=>D.bk st H
 | .ct st,H=>D.ct st H
 | .xc st cls fd,H=>IC X st cls fd H
noncomputable abbrev EN:XK:=λ_ _ _=>False
def tS(g:Ev->M Fl):TS:=λD d H=>∃ a b c,pi T a H b d/\je T a H c/\Jc T EN (Ko T) a H (g b c) (zn X D)
end
def xs{c:Type}(d:Ev)(m:M c)(k:c->M Fl):M Fl:=λe=>match m e with
 | .ok a b=>k a b
 | .ex x b=>.ok (.xc d x) b
 | .cc=>.cc
def Jc.xs{D:Al}{R:List Addr->Hp->p->t->Prop}{m:M p}{k:p->M Fl}{s:t->Hp->Prop}(u:pi T l H ρ o)
  (h:Jc T EN (Ko T) l H (L4.xs ρ m k σ) (zn X D)) (f:∀ a b c g i,m σ=.ok a b->Ge l H c i->je T c i b->R c i a g->Jc T EN (Ko T) c i (k a b) (zn X D)->s g i):Jc T (XE X o) R l H (m σ) s:=by
 unfold L4.xs at h;cases e:m σ with
 |ok a b=>
  rw[e]at h;exact λd g n j r q=>f a b d g n e j r q (h.mono j)
 |ex x b=>
  rw[e]at h;intro d n j r;exact h d (.xc o (T.cv x) (GC x.cls)) n j r ⟨u.mono j,rfl,rfl⟩
 |cc=>rw[e]at h;exact h
abbrev FE(T:Tb)(X:Cx)(e:Ya)(f:Ev->M D):Prop:=PE X e (tF T X f)
abbrev FT(T:Tb)(X:Cx)(e:Ya)(f:Ev->M Bool):Prop:=PT X e (tT T X f)
abbrev FW(T:Tb)(X:Cx)(e:Ya)(f:Ev->M Bool):Prop:=PW X e (tT T X f)
abbrev FA(T:Tb)(X:Cx)(a:List Ya)(f:Ev->M (List D)):Prop:=PA X a (tL T X f)
abbrev FS(T:Tb)(X:Cx)(a:Stmt)(g:Ev->M Fl):Prop:=PS X a (tS T X g)
abbrev um(T:Tb)(X:Cx)(a:List Stmt)(g:Ev->M Fl):Prop:=Ku X a (tS T X g)
noncomputable def Ni:Nat:=1000
def aB(h:n<=Ni):n<=sizeLine:=Zf (bV h)
def vT(h:n<Ni):n<sizeLine:=bV (Zf h)
def gO{l:List g}(h:l.Nodup){i j:Nat}{a:g}(k:l[i]?=some a)(m:l[j]?=some a):i=j:=by
 obtain⟨c,d⟩:=aa.mp k;obtain⟨e,f⟩:=aa.mp m;have b:=List.pairwise_iff_getElem.mp h;rcases Nat.lt_trichotomy i j with z|z|z
 ·exact absurd (d.trans f.symm) (b i j c e z)
 ·exact z
 ·exact absurd (f.trans d.symm) (b j i e c z)
section
variable{T:Tb}{μ μ':List Addr}{H H':Hp}{σ:lb}
def pM(e:Ge μ H μ' H'){xs:List (a × D)}{b:List (a × V)}(h:Paired (λ(p:a × D) (q:a × V)=>p.1=q.1/\Ua T μ H p.2 q.2) xs b) :
  Paired (λ(p:a × D) (q:a × V)=>p.1=q.1/\Ua T μ' H' p.2 q.2) xs b:=L2.Paired.Ms h λp q z=>⟨z.1,Ua.mono e _ _ z.2⟩
theorem Sq.mono(e:Ge μ H μ' H')(d:H' a=H a):∀ {o:Ob},Sq T μ H a o->Sq T μ' H' a o
 | .wa ds,⟨b,h,r⟩=>⟨b,d.trans h,Ub.mono e _ _ r⟩
 | .Qb f,⟨b,h,r⟩=>⟨b,d.trans h,pM e r⟩
 | .yc c j,⟨g,b,h,r⟩=>⟨g,b,d.trans h,pM e r⟩
 | .ig f,⟨i,b,h,r⟩=>⟨i,b,d.trans h,pM e r⟩
 | .Bl ks,⟨b,h,r⟩=>⟨b,d.trans h,r⟩
theorem Sq.some:∀ {o:Ob},Sq T μ H a o->∃ u,H a=Option.some u/\(∀ xs,u≠.Xa xs)
 | .wa ds,⟨b,h,r⟩=>⟨_,h,(λ_ z=>by cases z)⟩
 | .Qb d,⟨b,h,r⟩=>⟨_,h,(λ_ z=>by cases z)⟩
 | .yc c f,⟨e,b,h,r⟩=>⟨_,h,(λ_ z=>by cases z)⟩
 | .ig d,⟨g,b,h,r⟩=>⟨_,h,(λ_ z=>by cases z)⟩
 | .Bl ks,⟨b,h,r⟩=>⟨_,h,(λ_ z=>by cases z)⟩
theorem Sq.WF:∀ {o:Ob},(∀ b,o≠.ig b)->Sq T μ H a o->∃ u,H a=Option.some u/\(∀ xs,u≠.Xa xs)/\(∀ e w,u≠.Qc e w)
 | .wa ds,_,⟨d,h,r⟩=>⟨_,h,(λ_ z=>by cases z),(λ_ _ z=>by cases z)⟩
 | .Qb b,_,⟨d,h,r⟩=>⟨_,h,(λ_ z=>by cases z),(λ_ _ z=>by cases z)⟩
 | .yc c g,_,⟨f,d,h,r⟩=>⟨_,h,(λ_ z=>by cases z),(λ_ _ z=>by cases z)⟩
 | .ig b,n,_=>absurd rfl (n b)
 | .Bl ks,_,⟨d,h,r⟩=>⟨_,h,(λ_ z=>by cases z),(λ_ _ z=>by cases z)⟩
def je.keep(r:je T μ H σ)(e:Ge μ H μ H')(k:∀ a∈μ,H' a=H a)(t:Mu T μ H'):je T μ H' σ:=
 ⟨r.len,r.nd,λn o h=>let ⟨a,b,c⟩:=r.obs n o h;⟨a,b,c.mono e (k a (La b))⟩,t⟩
def je.mem(r:je T μ H σ)(h:a∈μ):∃ u,H a=some u/\(∀ xs,u≠.Xa xs):=by
 obtain⟨n,c⟩:=Pu h;have e:n<σ.length:=by rw[<-r.len];exact(aa.mp c).1
 obtain⟨a',b,d⟩:=r.obs n σ[n] (by simp);rw[c]at b;cases b;exact d.some
def Wm(a:H p=none):Ge μ H μ (Nc H p o):=
 ⟨⟨[],by simp⟩,λq xs h=>by rw[we (ur h a)];exact h,λq b u h=>by rw[we (ur h a)];exact h,λq b h n=>⟨⟨b,by rw[we (ur h a)];exact h,.inl rfl⟩,n⟩⟩
def je.fresh(r:je T μ H σ)(c:H p=none):je T μ (Nc H p o) σ:=
 r.keep (Wm c) (λa d=>by obtain⟨u,h,_⟩:=r.mem d;rw[we (ur h c)]) (r.tb.grow λb u h=>by rw[we (ur h c)];exact h)
def My(a:H p=none):Ge μ H (μ++[p]) (Nc H p o):=
 ⟨⟨[p],rfl⟩,(Wm (μ:=μ) a).Xa,(Wm (μ:=μ) a).Qc,λq b h n=>⟨((Wm a).keep q b h n).1,λz=>(Wb.mp z).elim n λz=>ur h a (by simpa using z)⟩⟩
def je.push(r:je T μ H σ)(c:H p=none)(q:Sq T (μ++[p]) (Nc H p o) p ob):je T (μ++[p]) (Nc H p o) (σ++[ob]):=by
 refine⟨by simp[r.len],?_,λn x h=>?_,(r.tb.more c).grow λb u h=>by rw[we (ur h c)];exact h⟩
 ·rw[Od];refine⟨r.nd,by simp,λa l b m e=>?_⟩;have i:b=p:=by simpa using m
  subst i;subst e;obtain⟨u,h,_⟩:=r.mem l;rw[c]at h;cases h
 ·by_cases f:n<σ.length
  ·rw[zb f]at h;obtain⟨a,k,d⟩:=r.obs n x h;obtain⟨u,s,_⟩:=d.some;exact⟨a,by rw[zb (by rw[r.len];exact f)];exact k,d.mono (My c) (we (ur s c))⟩
  ·rw[Bd (by omega)]at h;have g:n - σ.length=0:=by
    have:=(aa.mp h).1;simp at this;omega
   rw[g]at h;simp at h;subst h;have j:n=μ.length:=by rw[r.len];omega
   subst j;exact⟨p,by simp,q⟩
def xF(r:je T μ H σ):Ua T (μ++[p]) (Nc H p o) (.ref σ.length) (.ref p):=by
 rw[Ua];exact⟨p,rfl,by rw[<-r.len];simp⟩
def Jw(f:a∈μ)(c:H a=some u)(d:∀ xs,u≠.Xa xs)(e:∀ b w,u≠.Qc b w):Ge μ H μ (Nc H a o):=
 ⟨⟨[],by simp⟩,λq xs h=>by rw[we (BL h c (λz=>d xs z.symm))];exact h,λq b w h=>by rw[we (BL h c (λz=>e b w z.symm))];exact h,λq b h n=>⟨⟨b,by rw[we (λz=>n (by rw[z];exact f))];exact h,.inl rfl⟩,n⟩⟩
def je.write(r:je T μ H σ)(d:μ[n]?=some a)(q:Sq T μ (Nc H a o) a ob)(t:∀ c,σ[n]?≠some (.ig c):=by intro c z;simp_all [gh]):Ge μ H μ (Nc H a o)/\je T μ (Nc H a o) (σ.set n ob):=by
 obtain⟨u,s,f,g⟩:∃ u,H a=some u/\(∀ xs,u≠.Xa xs)/\(∀ ob w,u≠.Qc ob w):=by
  have p:n<σ.length:=by rw[<-r.len];exact(aa.mp d).1
  obtain⟨a',f,g⟩:=r.obs n σ[n] (by simp);rw[d]at f;cases f;exact g.WF λc z=>t c (by rw[Pd p,z])
 have e:Ge μ H μ (Nc H a o):=Jw (La d) s f g;refine⟨e,by simp[r.len],r.nd,λm x h=>?_,r.tb.out (λb l=>we l) (.inl (La d))⟩;rw[qd]at h;by_cases i:n=m
 ·subst i;rw[ma rfl]at h;split at h
  ·cases h;exact⟨a,d,q⟩
  ·cases h
 ·rw[ra i]at h;obtain⟨b,j,k⟩:=r.obs m x h;refine⟨b,j,k.mono e (we λz=>i ?_)⟩;subst z;exact gO r.nd d j
def je.at(r:je T μ H σ){n:Nat}{v:V}{o:Ob}(h:Ua T μ H (.ref n) v)(e:σ[n]?=some o):∃ a,v=.ref a/\μ[n]?=some a/\Sq T μ H a o:=by
 obtain⟨a,rfl,c⟩:=h;obtain⟨a',b,d⟩:=r.obs n o e;rw[c]at b;cases b;exact⟨a,rfl,c,d⟩
end
noncomputable def da(i:Nat):Ev->M D:=λa b=>match a[i]? with
 |some (some d)=>.ok d b
 |_=>.cc
noncomputable def eC(d:D):Ev->M D:=λ_=>ret d
noncomputable def QK(o:D->D->M D)(m:M D)(x:D):M D:=be m (o x)
def Ja(o:D->D->M D)(a b:Ev->M D):Ev->M D:=λρ=>be (a ρ) (QK o (b ρ))
noncomputable def Dd(o:D->M D)(a:Ev->M D):Ev->M D:=λρ=>be (a ρ) o
noncomputable def zC(d:D):M Bool:=match d with
 | .bl b=>ret b
 |_=>cc
def Ol{a:Type}(p q:M a)(c:Bool):M a:=if c=true then p else q
noncomputable def YM(c:Bool):M Bool:=ret (!c)
def xz{a:Type}(k:Bool->M a)(d:D):M a:=be (zC d) k
def eT(f:Ev->M D):Ev->M Bool:=λa=>be (f a) zC
noncomputable def gu(a b:Ev->M Bool):Ev->M Bool:=λρ=>be (a ρ) (Ol (b ρ) (ret false))
noncomputable def Zq(a b:Ev->M Bool):Ev->M Bool:=λρ=>be (a ρ) (Ol (ret true) (b ρ))
def Cm(a:Ev->M Bool):Ev->M Bool:=λρ=>be (a ρ) YM
noncomputable def gj(a b:Ev->M D):Ev->M D:=λρ=>be (a ρ) (xz (Ol (b ρ) (ret (.bl false))))
noncomputable def sI(a b:Ev->M D):Ev->M D:=λρ=>be (a ρ) (xz (Ol (ret (.bl true)) (b ρ)))
noncomputable def TM(c:Bool):M D:=ret (.bl (!c))
def rM(a:Ev->M D):Ev->M D:=λρ=>be (a ρ) (xz TM)
noncomputable def Bz(t:Ev->M Bool)(a b:Ev->M D):Ev->M D:=λρ=>be (t ρ) (Ol (a ρ) (b ρ))
noncomputable def Pa:Ev->M (List D):=λ_=>ret []
noncomputable def GL(x:D)(xs:List D):M (List D):=ret (x::xs)
def nM(m:M (List D))(x:D):M (List D):=be m (GL x)
def qa(e:Ev->M D)(r:Ev->M (List D)):Ev->M (List D):=λa=>be (e a) (nM (r a))
def Fx(a:List D):M D:=if a.length<=Ni then ret (.Xa a)else cc
def wf(a:Ev->M (List D)):Ev->M D:=λρ=>be (a ρ) Fx
noncomputable def iF(b:List D):M D:=λa=>.ok (.ref a.length) (a++[.wa b])
def AE(a:List D):M D:=if a.length<=Ni then iF a else cc
def VA(a:Ev->M (List D)):Ev->M D:=λρ=>be (a ρ) AE
def zy(a:List D):M D:=if a.length<=Ni then ret (.wa a)else cc
def Zh(a:Ev->M (List D)):Ev->M D:=λρ=>be (a ρ) zy
def im(T:Tb)(r:R2)(o:D->D->M D):Prop:=∀ (E:XK) a H b x y v u Q,je T a H b->Ua T a H x v->Ua T a H y u->Jc T E (Ua T) a H (o x y b) Q->r v u H Q
def GS(T:Tb)(r:V->Hp->VK->Prop)(o:D->M D):Prop:=∀ (E:XK) a H b x v Q,je T a H b->Ua T a H x v->Jc T E (Ua T) a H (o x b) Q->r v H Q
def jt(T:Tb)(r:List V->Hp->VK->Prop)(o:List D->M D):Prop:=∀ (E:XK) a H c xs b Q,je T a H c->Ub T a H xs b->Jc T E (Ua T) a H (o xs c) Q->r b H Q
end L4
open L4.D renaming int->Z,ref->U,str->ύ,wa->O,Xa->Ϗ,bl->ϐ,Rc->ϛ,Qb->Ϫ,rj->ϱ
open L4.Fm renaming ok->Y,cc->ϗ
open L4.Ob renaming Qb->ϑ,wa->ϔ,yc->Ϙ
open Or renaming inl->ϒ,inr->ϖ
open PySem.W renaming Frag->ϓ,fnOf->ϭ,kla_obj->ϳ,exmOne->ϴ,mroIn->Ϲ,keepIn->Ϻ
open L2.V renaming ref->ϕ,int->ϡ,bl->Ϭ
open PySem.Value renaming type->ϙ,builtin->ϝ
open L4.Fl renaming nx->Ϛ,rt->Ϯ
open L2.HO renaming dK->Ϝ,ext->ϧ,Qc->ϩ,wa->ϰ
open Sum renaming inl->Ϟ
open PySem.Expr renaming Name->ϟ,Attribute->Ϣ,Call->ϣ,Subscript->ϥ,Tuple->ϵ,BoolOp->Ϸ
open PySem.Paired renaming cons->Ϡ,nil->Ϥ
open PySem.ScopeKind renaming function->Ϧ
open PySem.Data renaming seq->Ϩ,fields->ϫ
open L4.Ge renaming refl->ϯ
open False renaming elim->ϲ
open L4.wt renaming nx->ϸ
open True renaming intro->ϻ
variable{T:L4.Tb}{X:L2.Cx}
namespace L4
open Spec L2
section
variable{a b c:Ya}{fa fb:Ev->M D}{ta tb:Ev->M Bool}{pos:Re}
def ja(i:Nat)(j:X.N[i]?=some x:=by rfl)(n:kE X.env.scope x:=by first|exact Or.inl rfl|exact Or.inr (Or.inl rfl)|exact Or.inr (Or.inr rfl))(k:(x == ("__debug__" : Str))=false:=by decide)
  (c:(x == ("__classdict__" : Str))=false:=by decide):FE T X (ϟ x pos) (da i):=by
 intro b s p H Q I h;obtain⟨q,ρ,σ,l,m,a⟩:=h;refine zR j n k c b s p H Q I ?_;unfold da at a;cases e:ρ[i]? with
 |none=>rw[e]at a;exact a.elim
 |some o=>
  cases o with
  |none=>rw[e]at a;exact a.elim
  |some d=>
   rw[e]at a;obtain⟨v,f,g⟩:=l.2 i d e;exact⟨v,f,a.here m g⟩
def FC(h:PE X e (tC v))(r:∀ b H,Ua T b H d v):FE T X e (eC d):=by
 intro a s i H Q I f;obtain⟨b,k,σ,j,g,c⟩:=f;exact h a s i H Q I (Jc.here c g (r _ _))
def Qa{j}:FE T X (.Constant (.int i) j pos) (eC (Z i)):=FC ū λ_ _=>by rw[Ua]
def Uq{j}:FE T X (.Constant (.bool i) j pos) (eC (ϐ i)):=FC ó λ_ _=>by rw[Ua]
def Yt{j}:FE T X (.Constant .none j pos) (eC ϛ):=FC ynl λ_ _=>by rw[Ua]
def lf{j}:FE T X (.Constant (.str i) j pos) (eC (ύ i)):=FC R1 λ_ _=>by rw[Ua]
def my(b:Gl X x)(c:X.mg x=some u)(r:de (ϡ i) u)(a:(x == ("__debug__" : Str))=false:=by decide):FE T X (ϟ x pos) (eC (Z i)):=FC (UM b c r a) λ_ _=>by rw[Ua]
def two(n:im T r o)(h:tF T X (Ja o fa fb) f H Q):QB r (tF T X fa) (tF T X fb) f H Q:=by
 obtain⟨A,g,σ,e,m,l⟩:=h;exact⟨A,g,σ,e,m,l.bind λx c a v B _ j w p s=>⟨a,g,c,e.mono j,w,s.bind λy d b u i _ k z q t=>n _ b i d x y v u Q z (Ua.mono k _ _ p) q t⟩⟩
def Of(g:ni X (uf d) r)(i:im T r o)(e:FE T X a fa)(f:FE T X b fb):FE T X (.BinOp a d b pos) (Ja o fa fb):=
 λc s j H Q I h=>ģ g e f c s j H Q I (two i h)
def Dw(i:ni X (gc d) r)(j:im T r o)(e:FE T X a fa)(f:FE T X b fb)(g:Ze d b=false):FE T X (.Compare a [d] [b] pos) (Ja o fa fb):=
 λc s k H Q I h=>TZ i e f g c s k H Q I (two j h)
def yr0(f:Ry X r)(i:im T r o)(d:FE T X a fa)(e:FE T X b fb)(g:RM b):FE T X (ϥ a b pos) (Ja o fa fb):=
 λc s j H Q I h=>Ó f d e g c s j H Q I (two i h)
def lG(j:dI X (unaryOp e) r)(m:GS T r o)(g:FE T X a fa):FE T X (.UnaryOp e a pos) (Dd o fa):=by
 intro b s t H Q I h;refine E6 j g b s t H Q I ?_;obtain⟨u,w,σ,i,l,k⟩:=h;exact⟨u,w,σ,i,l,k.bind λx d c v f _ y q n p=>m _ c f d x v Q q n p⟩
def UH{a:List Addr}{b:List Addr->Hp->e->f->Prop}{k:Bool->M e}{Q:f->Hp->Prop}(r:Ua T a H d v)(h:Jc T E b a H (be (zC d) k g) Q):∃ c,d=ϐ c/\v=Ϭ c/\Jc T E b a H (k c g) Q:=by
 cases d with
 |bl c=>rw[Ua]at r;exact⟨c,rfl,r,h⟩
 |_=>exact h.elim
def XN{b:lb}{a:List Addr}(r:Ua T a H d v)(h:Jc T E vL a H (zC d b) Q):∃ c,v=Ϭ c/\Jc T E vL a H (Y c b) Q:=by
 cases d with
 |bl c=>rw[Ua]at r;exact⟨c,r,h⟩
 |_=>exact h.elim
def Lf(m:ni X (gc e) r)(t:im T r o)(g:FE T X a fa)(i:FE T X b fb)(l:Ze e b=false):FT T X (.Compare a [e] [b] pos) (eT (Ja o fa fb)):=by
 intro c s y H Q I h;refine gM m g i l c s y H Q I ?_;refine two t ?_;obtain⟨z,B,σ,j,p,n⟩:=h;refine⟨z,B,σ,j,p,n.bind λd C A v E _ F x u w=>?_⟩;obtain⟨k,f,q⟩:=XN u w;exact⟨k,f,q.here x rfl⟩
def vk(h:FE T X e f)(i:∀ a,BB e X.env a=(do let v <-a;Vk e.pos;Zg [v] (truthy v)):=by intro _;rfl):FT T X e (eT f):=by
 intro b s r H Q I m;refine tZ h i b s r H Q I ?_;obtain⟨t,w,σ,g,l,j⟩:=m;refine⟨t,w,σ,g,l,j.bind λd x u v y _ z p n o=>?_⟩;obtain⟨k,c,q⟩:=XN n o;exact⟨k,c,q.here p rfl⟩
def bo(h:FT T X a ta):FT T X (.UnaryOp .Not a pos) (Cm ta):=by
 intro b s l H Q I g;refine M3 h b s l H Q I ?_;obtain⟨m,o,p,d,f,e⟩:=g;exact⟨m,o,p,d,f,e.bind λc q n v r _ t k i j=>by cases i;exact j.here k rfl⟩
variable{rest:List Ya}
def Ex(h:FT T X a ta):FW T X (Ϸ .And [a] pos) ta:=U3 h
def Iu(h:FT T X a ta):FW T X (Ϸ .Or [a] pos) ta:=RZ h
theorem Vu(h:FT T X a ta)(m:FW T X (Ϸ .And (b::rest) pos) tb):FW T X (Ϸ .And (a::b::rest) pos) (gu ta tb):=by
 intro t e s r H Q I p;refine Ä h m t e s r H Q I ?_;obtain⟨u,k,w,i,o,n⟩:=p;refine⟨u,k,w,i,o,n.bind λc g f v x _ l j q d=>?_⟩;cases q;cases c with
 |true=>unfold Ol at d;rw[ma rfl]at d ⊢;exact⟨f,k,g,i.mono l,j,d⟩
 |false=>unfold Ol at d;rw[ra Eb]at d ⊢;exact d.here j rfl
def Ks(h:FT T X a ta)(m:FW T X (Ϸ .Or (b::rest) pos) tb):FW T X (Ϸ .Or (a::b::rest) pos) (Zq ta tb):=by
 intro t e s r H Q I p;refine gZ h m t e s r H Q I ?_;obtain⟨u,k,w,i,o,n⟩:=p;refine⟨u,k,w,i,o,n.bind λc g f v x _ l j q d=>?_⟩;cases q;cases c with
 |true=>unfold Ol at d;rw[ma rfl]at d ⊢;exact d.here j rfl
 |false=>unfold Ol at d;rw[ra Eb]at d ⊢;exact⟨f,k,g,i.mono l,j,d⟩
def Zm{op}(h:FE T X a fa):FE T X (Ϸ op [a] pos) fa:=Z5 h
def wj(h:FE T X a fa)(n:FE T X (Ϸ .And (b::rest) pos) fb):FE T X (Ϸ .And (a::b::rest) pos) (gj fa fb):=by
 intro e s w H Q I r;refine F5 h n e s w H Q I ?_;obtain⟨x,k,y,i,p,o⟩:=r;refine⟨x,k,y,i,p,o.bind λd g f v z _ l j t u=>?_⟩;obtain⟨c,rfl,m,q⟩:=UH t u;refine⟨c,m,?_⟩;cases c with
 |true=>unfold Ol at q;rw[ma rfl]at q ⊢;exact⟨f,k,g,i.mono l,j,q⟩
 |false=>unfold Ol at q;rw[ra Eb]at q ⊢;exact Jc.here q j (by rw[Ua])
def EV(h:FE T X a fa)(n:FE T X (Ϸ .Or (b::rest) pos) fb):FE T X (Ϸ .Or (a::b::rest) pos) (sI fa fb):=by
 intro e s w H Q I r;refine yuq h n e s w H Q I ?_;obtain⟨x,k,y,i,p,o⟩:=r;refine⟨x,k,y,i,p,o.bind λd g f v z _ l j t u=>?_⟩;obtain⟨c,rfl,m,q⟩:=UH t u;refine⟨c,m,?_⟩;cases c with
 |true=>unfold Ol at q;rw[ma rfl]at q ⊢;exact Jc.here q j (by rw[Ua])
 |false=>unfold Ol at q;rw[ra Eb]at q ⊢;exact⟨f,k,g,i.mono l,j,q⟩
def LY(h:FE T X a fa):FE T X (.UnaryOp .Not a pos) (rM fa):=by
 intro b s n H Q I j;refine T6 h b s n H Q I ?_;obtain⟨o,r,t,f,i,g⟩:=j;refine⟨o,r,t,f,i,g.bind λd u p v w _ x m k l=>?_⟩;obtain⟨c,rfl,e,q⟩:=UH k l;exact⟨c,e,Jc.here q m (by rw[Ua])⟩
def cE(o:FT T X c ta)(m:FE T X a fa)(n:FE T X b fb):FE T X (.IfExp c a b pos) (Bz ta fa fb):=by
 intro f s u H Q I r;refine l7 o m n f s u H Q I ?_;obtain⟨w,j,x,i,q,p⟩:=r;refine⟨w,j,x,i,q,p.bind λd h g v y _ k l t e=>?_⟩;cases t;cases d with
 |true=>unfold Ol at e;rw[ma rfl]at e ⊢;exact⟨g,j,h,i.mono k,l,e⟩
 |false=>unfold Ol at e;rw[ra Eb]at e ⊢;exact⟨g,j,h,i.mono k,l,e⟩
variable{e:Ya}{es:List Ya}{fe:Ev->M D}{fs:Ev->M (List D)}
def ym:FA T X [] Pa:=by
 intro pos a s e H Q I d;refine Qz pos a s e H Q I ?_;obtain⟨g,h,i,f,c,b⟩:=d;exact Jc.here b c Ub.nil
def db(k:FE T X e fe)(b:FA T X es fs)(m:ya (e::es) X.env=(false,Ec e X.env)::ya es X.env:=by rfl):FA T X (e::es) (qa fe fs):=by
 intro pos a s w H Q I n;refine Tw k b m pos a s w H Q I ?_;obtain⟨x,h,z,g,b,l⟩:=n;exact⟨x,h,z,g,b,l.bind λd f c v B _ i t o q=>⟨c,h,f,g.mono i,t,q.bind λD A y E C _ j u p r=>Jc.here r u (Ub.cons (Ua.mono j _ _ o) p)⟩⟩
def NC{a:List Addr}{e:lb}{c:List V}(h:Jc T E (Ua T) a H (Y (Ϗ d) e) Q)(r:je T a H e)(q:Ub T a H d c)(b:H p=none):Q (ϕ p) (Nc H p (.Xa c)):=
 h a (ϕ p) _ (Wm b) (r.fresh b) (by rw[Ua];exact⟨p,c,rfl,Ih,Ub.mono (Wm b) _ _ q⟩)
def iJ{a:List Addr}{e:lb}{c:List V}(h:Jc T E (Ua T) a H (iF d e) Q)(r:je T a H e)(q:Ub T a H d c)(b:H p=none):Q (ϕ p) (Nc H p (ϰ c)):=
 h (a++[p]) (ϕ p) _ (My b) (r.push b ⟨c,Ih,Ub.mono (My b) _ _ q⟩) (xF r)
def Ff{x1}(h:FA T X es fs):FE T X (ϵ es x1 pos) (wf fs):=by
 intro a s l H Q I j;refine Ę h a s l H Q I ?_;obtain⟨m,o,q,g,i,d⟩:=j;refine⟨m,o,q,g,i,d.bind λf r n v t _ u k e b=>?_⟩;unfold Fx at b;by_cases c:f.length<=Ni
 ·rw[ma c]at b;exact⟨by rw[<-e.length];exact aB c,λp d=>NC b k e d⟩
 ·rw[ra c]at b;exact b.elim
def BF(h:FA T X es fs):FE T X (.List es pos) (VA fs):=by
 intro a s l H Q I j;refine aW h a s l H Q I ?_;obtain⟨m,o,q,g,i,d⟩:=j;refine⟨m,o,q,g,i,d.bind λf r n v t _ u k e b=>?_⟩;unfold AE at b;by_cases c:f.length<=Ni
 ·rw[ma c]at b;exact⟨by rw[<-e.length];exact aB c,λp d=>iJ b k e d⟩
 ·rw[ra c]at b;exact b.elim
def sJ{b:List Addr}{c:List V}(h:Jc T E (Ua T) b H (Y (O d) f) Q)(r:je T b H f)(q:Ub T b H d c)(a:H p=none):Q (ϕ p) (Nc H p (ϰ c)):=
 h b (ϕ p) _ (Wm a) (r.fresh a) (by rw[Ua];exact⟨p,c,rfl,λg=>(by obtain⟨u,e,_⟩:=r.mem g;rw[a]at e;cases e),Ih,Ub.mono (Wm a) _ _ q⟩)
def Zi(h:FA T X es fs):FE T X (.List es pos) (Zh fs):=by
 intro a s l H Q I j;refine aW h a s l H Q I ?_;obtain⟨m,o,q,g,i,d⟩:=j;refine⟨m,o,q,g,i,d.bind λf r n v t _ u k e b=>?_⟩;unfold zy at b;by_cases c:f.length<=Ni
 ·rw[ma c]at b;exact⟨by rw[<-e.length];exact aB c,λp d=>sJ b k e d⟩
 ·rw[ra c]at b;exact b.elim
end
noncomputable def oI(g:Int->Int->Int):D->D->M D
 | Z i,Z j=>ret (Z (g i j))
 |_,_=>cc
noncomputable def oB(g:Int->Int->Bool):D->D->M D
 | Z i,Z j=>ret (ϐ (g i j))
 |_,_=>cc
noncomputable def vy(C:Int->Int->Bool)(g:Int->Int->Int):D->D->M D
 | Z i,Z j=>if C i j=true then ret (Z (g i j))else cc
 |_,_=>cc
def Vw(i j:Int):Bool:=Lb ((decide (-(2 ^ 64)<i) && decide (i<2 ^ 64)) || (decide (-(2 ^ 64)<j) && decide (j<2 ^ 64)))
def kM(_ j:Int):Bool:=Lb (decide (0<j) && decide (j<1073741824))
def cM(_ j:Int):Bool:=Lb (decide (0<j))
def Bw(i j:Int):Bool:=Lb (decide (0<=j) && decide (j<=1000000) && decide (i.natAbs<2 ^ 64))
def HN(_ j:Int):Bool:=Lb (decide (0<=j))
abbrev gz:=oI (λi j=>i - j)
abbrev zA:=vy Vw (λi j=>i * j)
abbrev Zl:=vy kM (λi j=>i / j)
abbrev Qi:=vy cM (λi j=>i % j)
abbrev Hr:=vy Bw (λi j=>i ^ j.toNat)
abbrev JF:=vy HN (λi j=>i / 2 ^ j.toNat)
abbrev zJ:=oI (λi j=>ji i j)
abbrev oLt:=oB (λi j=>decide (i<j))
abbrev oLe:=oB (λi j=>decide (i<=j))
abbrev bE:=oB (λi j=>decide (j<i))
abbrev gG:=oB (λi j=>decide (j<=i))
noncomputable def Oy:D->M D
 | Z i=>ret (Z (-i))
 |_=>cc
noncomputable def rD(T:Tb)(o:D->D->M D):R2:=λv u H Q=>∃ (E:XK) (a:List Addr) (σ:lb) (x y:D),je T a H σ/\Ua T a H x v/\Ua T a H y u/\Jc T E (Ua T) a H (o x y σ) Q
def mh:im T (rD T o) o:=λE a H b x y v u Q r p q h=>⟨E,a,b,x,y,r,p,q,h⟩
def pr(h:Ua T a H (Z i) v):v=ϡ i:=by simpa [Ua]using h
def GW:im T (Es λi j=>ϡ (g i j)) (oI g):=by
 intro E a H b x y v u Q r p q h;cases x with
 |int i=>
  cases y with
  |int j=>exact⟨i,j,pr p,pr q,Jc.here h r (by rw[Ua])⟩
  |_=>exact h.elim
 |_=>exact h.elim
def TH:im T (Es λi j=>Ϭ (g i j)) (oB g):=by
 intro E a H b x y v u Q r p q h;cases x with
 |int i=>
  cases y with
  |int j=>exact⟨i,j,pr p,pr q,Jc.here h r (by rw[Ua])⟩
  |_=>exact h.elim
 |_=>exact h.elim
def LF(d:∀ i j,C i j=true->b i j):im T (rI b λi j=>ϡ (g i j)) (vy C g):=by
 intro E f H k x y v u Q r p q h;cases x with
 |int i=>
  cases y with
  |int j=>
   by_cases a:C i j=true
   ·have c:Jc T E (Ua T) f H (ret (Z (g i j)) k) Q:=by
     have e:vy C g (Z i) (Z j)=ret (Z (g i j)):=by show (if C i j=true then _ else _)=_;rw[ma a]
     rw[e]at h;exact h
    exact⟨i,j,pr p,pr q,d i j a,Jc.here c r (by rw[Ua])⟩
   ·have e:vy C g (Z i) (Z j)=cc:=by show (if C i j=true then _ else _)=_;rw[ra a]
    rw[e]at h;exact h.elim
  |_=>exact h.elim
 |_=>exact h.elim
def jB:im T (Es λi j=>ϡ (i - j)) gz:=GW
def iG:im T (rI UG λi j=>ϡ (i * j)) zA:=LF λi j h=>by
 simp only[Vw,Ls,fg,Na,Fc]at h;exact h
def Oo:im T (rI XR λi j=>ϡ (i / j)) Zl:=LF λi j h=>by
 simp only[kM,Ls,Na,Fc]at h;exact h
def fk:im T (rI (λ_ j=>0<j) λi j=>ϡ (i % j)) Qi:=LF λi j h=>by
 simp only[cM,Ls,Fc]at h;exact h
def JA:im T (rI FP λi j=>ϡ (i ^ j.toNat)) Hr:=LF λi j h=>by
 simp only[Bw,Ls,Na,Fc]at h;exact⟨h.1.1,h.1.2,h.2⟩
def T9:im T (rI (λ_ j=>0<=j) λi j=>ϡ (i / 2 ^ j.toNat)) JF:=LF λi j h=>by
 simp only[HN,Ls,Fc]at h;exact h
def V5:im T (Es λi j=>ϡ (ji i j)) zJ:=GW
def Mv:im T (Es λi j=>Ϭ (decide (i<j))) oLt:=TH
def JT:im T (Es λi j=>Ϭ (decide (i<=j))) oLe:=TH
def IH:im T (Es λi j=>Ϭ (decide (j<i))) bE:=TH
def aH:im T (Es λi j=>Ϭ (decide (j<=i))) gG:=TH
def zF:GS T (rU λi=>ϡ (-i)) Oy:=by
 intro E a H b x v Q r p h;cases x with
 |int i=>exact⟨i,pr p,Jc.here h r (by rw[Ua])⟩
 |_=>exact h.elim
noncomputable def sc:D->Option V
 | ϛ=>some .Rc
 | ϐ b=>some (Ϭ b)
 | Z i=>some (ϡ i)
 | ύ x=>some (.str x)
 |_=>none
noncomputable def gh(a:lb)(n:Nat):Option (List D):=match a[n]? with
 |some (ϔ xs)=>some xs
 |_=>none
theorem gH{xs:List D}(h:gh a n=some xs):a[n]?=some (ϔ xs):=by
 unfold gh at h;cases e:a[n]? with
 |none=>rw[e]at h;cases h
 |some o=>rw[e]at h;cases o<;>simp at h;subst h;rfl
inductive Kd where
 |s (v:V)|t (xs:List D)|l (xs:List D)|o
def kd(a:lb):D->Kd
 | ϛ=>.s .Rc
 | ϐ b=>.s (Ϭ b)
 | Z i=>.s (ϡ i)
 | ύ x=>.s (.str x)
 | Ϗ xs=>.t xs
 | O xs=>.l xs
 | U n=>match gh a n with
  |some xs=>.l xs
  |none=>.o
 |_=>.o
noncomputable def Qp(f:D->D->Option Bool):List D->List D->Option Bool
 |[],[]=>some true
 |[],_::_=>some false
 |_::_,[]=>some false
 |x::xs,y::a=>match f x y,Qp f xs a with
  |some b,some c=>some (b && c)
  |_,_=>none
def js(f:D->D->Option Bool):Kd->Kd->Option Bool
 | .s a,.s b=>some (gm a b)
 | .t xs,.t c=>Qp f xs c
 | .l xs,.l c=>Qp f xs c
 | .s _,.t _=>some false
 | .t _,.s _=>some false
 | .s _,.l _=>some false
 | .l _,.s _=>some false
 | .t _,.l _=>some false
 | .l _,.t _=>some false
 |_,_=>none
def Jk(a:lb):Nat->D->D->Option Bool
 |0,x,y=>js (λ_ _=>none) (kd a x) (kd a y)
 |n+1,x,y=>js (Jk a n) (kd a x) (kd a y)
noncomputable def av(f:D->D->Option Bool)(xs c:List D)(j:Nat):Bool:=match xs[j]?,c[j]? with
 |some a,some b=>(f a b).getD false
 |_,_=>false
theorem QR(f:D->D->Option Bool):∀ (xs d:List D) (b:Bool),Qp f xs d=some b->
  (∀ (j:Nat) (a c:D),xs[j]?=some a->d[j]?=some c->∃ k,f a c=some k)/\b=((List.range (min xs.length d.length)).all (av f xs d) && xs.length == d.length)
 |[],[],b,h=>by simp[Qp]at h;subst h;simp
 |[],y::d,b,h=>by simp[Qp]at h;subst h;simp
 |x::xs,[],b,h=>by simp[Qp]at h;subst h;simp
 |x::xs,y::d,b,h=>by
  unfold Qp at h;cases e:f x y with
  |none=>rw[e]at h;cases h
  |some m=>
   cases g:Qp f xs d with
   |none=>rw[e,g]at h;cases h
   |some n=>
    rw[e,g]at h;cases h;obtain⟨t,u⟩:=QR f xs d n g;refine⟨λj a c i l=>?_,?_⟩
    ·cases j with
     |zero=>simp at i l;subst i;subst l;exact⟨m,e⟩
     |succ j=>exact t j a c (by simpa using i) (by simpa using l)
    ·have o:min (x::xs).length (y::d).length=min xs.length d.length+1:=by simp
     have p:∀ j,av f (x::xs) (y::d) (j+1)=av f xs d j:=λj=>by simp[av]
     have q:av f (x::xs) (y::d) 0=m:=by simp[av,e]
     rw[o,zt,jg,fD,q,u];have r:(av f (x::xs) (y::d) ∘ Nat.succ)=av f xs d:=funext λj=>p j;have s:((x::xs).length == (y::d).length)=(xs.length == d.length):=by simp
     rw[r,s,Xz]
section
variable{T:Tb}{μ:List Addr}{H:Hp}{σ:lb}
def je.wa(r:je T μ H σ){n:Nat}{v:V}{xs:List D}(h:Ua T μ H (U n) v)(e:gh σ n=some xs):∃ a b,v=ϕ a/\μ[n]?=some a/\H a=some (ϰ b)/\Ub T μ H xs b:=by
 obtain⟨a,rfl,c,b,d,f⟩:=r.at h (gH e);exact⟨a,b,rfl,c,d,f⟩
def bH(h:Ua T μ H d v)(e:sc d=some a):v=a:=by
 cases d<;>simp[sc]at e<;>subst e<;>simpa [Ua]using h
theorem MU(e:sc d=some a):Cj a=true:=by
 cases d<;>simp[sc]at e<;>subst e<;>rfl
def ż(h:Cj a=true):gm a a=true:=by cases a<;>simp[Cj,gm]at h ⊢
def Mz(r:je T μ H σ){d:D}{v:V}(h:Ua T μ H d v):match kd σ d with
  | .s a=>v=a/\Cj a=true
  | .t xs=>∃ p c,v=ϕ p/\H p=some (.Xa c)/\Ub T μ H xs c
  | .l xs=>∃ p c,v=ϕ p/\H p=some (ϰ c)/\Ub T μ H xs c
  | .o=>True:=by
 cases d with
 |Rc=>exact⟨by simpa [Ua]using h,rfl⟩
 |bl b=>exact⟨by simpa [Ua]using h,rfl⟩
 |int b=>exact⟨by simpa [Ua]using h,rfl⟩
 |str b=>exact⟨by simpa [Ua]using h,rfl⟩
 |Xa xs=>rw[Ua]at h;exact h
 |wa xs=>rw[Ua]at h;obtain⟨a,c,f,_,g,i⟩:=h;exact⟨a,c,f,g,i⟩
 |ref n=>
  unfold kd;dsimp only;cases e:gh σ n with
  |none=>trivial
  |some xs=>obtain⟨a,c,f,_,g,i⟩:=r.wa h e;exact⟨a,c,f,g,i⟩
 |_=>trivial
theorem iN{f:D->D->Option Bool}(j:∀ (x y:D) (v:V) (b:Bool),Ua T μ H x v->Ua T μ H y v->f x y=some b->b=true):∀ (xs a:List D) (g:List V) (b:Bool),Ub T μ H xs g->Ub T μ H a g->Qp f xs a=some b->b=true
 |[],a,g,b,d,c,h=>by
  rw[Ub]at d;subst d;cases a with
  |nil=>simp[Qp]at h;exact h
  |cons y a=>rw[Ub]at c;obtain⟨_,_,z,_⟩:=c;cases z
 |x::xs,a,g,b,d,c,h=>by
  rw[Ub]at d;obtain⟨v,r,rfl,m,o⟩:=d;cases a with
  |nil=>rw[Ub]at c;cases c
  |cons y a=>
   rw[Ub]at c;obtain⟨s,q,z,n,p⟩:=c;cases z;unfold Qp at h;cases e:f x y with
   |none=>rw[e]at h;cases h
   |some k=>
    cases i:Qp f xs a with
    |none=>rw[e,i]at h;cases h
    |some l=>
     rw[e,i]at h;cases h;rw[j x y v k m n e,iN j xs a r l o p i];rfl
def iM(r:je T μ H σ)(z:∀ (x y:D) (v:V) (b:Bool),Ua T μ H x v->Ua T μ H y v->f x y=some b->b=true)(A:Ua T μ H x v)(B:Ua T μ H y v)(h:js f (kd σ x) (kd σ y)=some b):b=true:=by
 have n:=Mz r A;have g:=Mz r B;generalize kd σ x=C at h n;generalize kd σ y=u at h g;cases C with
 |s a=>
  obtain⟨rfl,fa⟩:=n;cases u with
  |s c=>obtain⟨rfl,_⟩:=g;cases h;exact ż fa
  |t xs=>obtain⟨p,k,rfl,_⟩:=g;simp[Cj]at fa
  |l xs=>obtain⟨p,k,rfl,_⟩:=g;simp[Cj]at fa
  |o=>cases h
 |t xs=>
  obtain⟨p,k,rfl,i,w⟩:=n;cases u with
  |s c=>obtain⟨e,fa⟩:=g;rw[<-e]at fa;simp[Cj]at fa
  |t m=>
   obtain⟨q,ws,e,d,j⟩:=g;cases e;rw[i]at d;cases d;exact iN z xs m k b w j h
  |l m=>obtain⟨q,ws,e,d,j⟩:=g;cases e;rw[i]at d;cases d
  |o=>cases h
 |l xs=>
  obtain⟨p,k,rfl,i,w⟩:=n;cases u with
  |s c=>obtain⟨e,fa⟩:=g;rw[<-e]at fa;simp[Cj]at fa
  |t m=>obtain⟨q,ws,e,d,j⟩:=g;cases e;rw[i]at d;cases d
  |l m=>
   obtain⟨q,ws,e,d,j⟩:=g;cases e;rw[i]at d;cases d;exact iN z xs m k b w j h
  |o=>cases h
 |o=>cases h
theorem ES(r:je T μ H σ):∀ (n:Nat) (x y:D) (v:V) (b:Bool),Ua T μ H x v->Ua T μ H y v->Jk σ n x y=some b->b=true
 |0,x,y,v,b,a,c,h=>iM r (λ_ _ _ _ _ _ z=>by cases z) a c h
 |n+1,x,y,v,b,a,c,h=>iM r (λx y v b d e f=>ES r n x y v b d e f) a c h
end
section
variable{pins:List (Addr × Ad)}{st:St}{μ:List Addr}{H:Hp}{s:ba}{σ:lb}
def UJ(fa:Cj a=true)(r:de a u)(c:s.heap.IsTuple p e)(d:A.units<cLine):ke A s u (jc p) false/\ke A s (jc p) u false/\ri A s u (jc p) false/\ri A s (jc p) u false/\ki A s u (jc p) true/\ki A s (jc p) u true:=by
 cases a with
 |Rc=>cases r;exact⟨.none_tuple c d,.tuple_none c d,.none_tuple c d,.tuple_none c d,.none_tuple c d,.tuple_none c d⟩
 |bl b=>cases r;exact⟨.bool_tuple b c d,.tuple_bool b c d,.bool_tuple b c d,.tuple_bool b c d,.bool_tuple b c d,.tuple_bool b c d⟩
 |int b=>obtain⟨t,rfl⟩:=r;exact⟨.int_tuple b t c d,.tuple_int b t c d,.int_tuple b t c d,.tuple_int b t c d,.int_tuple b t c d,.tuple_int b t c d⟩
 |str b=>obtain⟨t,rfl⟩:=r;exact⟨.str_tuple b t c d,.tuple_str b t c d,.str_tuple b t c d,.tuple_str b t c d,.str_tuple b t c d,.tuple_str b t c d⟩
 |_=>simp[Cj]at fa
def EU(fa:Cj a=true)(r:de a u)(c:s.heap.IsList p e)(d:A.units<cLine):ri A s u (jc p) false/\ri A s (jc p) u false/\ki A s u (jc p) true/\ki A s (jc p) u true:=by
 cases a with
 |Rc=>cases r;exact⟨.none_list c d,.list_none c d,.none_list c d,.list_none c d⟩
 |bl b=>cases r;exact⟨.bool_list b c d,.list_bool b c d,.bool_list b c d,.list_bool b c d⟩
 |int b=>obtain⟨t,rfl⟩:=r;exact⟨.int_list b t c d,.list_int b t c d,.int_list b t c d,.list_int b t c d⟩
 |str b=>obtain⟨t,rfl⟩:=r;exact⟨.str_list b t c d,.list_str b t c d,.str_list b t c d,.list_str b t c d⟩
 |_=>simp[Cj]at fa
def Ι(fa:Cj a=true)(r:de a u)(c:s.heap.IsList p e)(d:A.units<cLine):ke A s u (jc p) false:=by
 cases a with
 |Rc=>cases r;exact .none_list c d
 |bl b=>cases r;exact .bool_list b c d
 |int b=>obtain⟨t,rfl⟩:=r;exact .int_list b t c d
 |str b=>obtain⟨t,rfl⟩:=r;exact .str_list b t c d
 |_=>simp[Cj]at fa
def W7(fa:Cj a=true)(r:de a u)(c:s.heap.IsList p e)(d:A.units<cLine):ke A s (jc p) u false:=by
 cases a with
 |Rc=>cases r;exact .list_none c d
 |bl b=>cases r;exact .list_bool b c d
 |int b=>obtain⟨t,rfl⟩:=r;exact .list_int b t c d
 |str b=>obtain⟨t,rfl⟩:=r;exact .list_str b t c d
 |_=>simp[Cj]at fa
def yvb(f:de a u)(d:de b w)(fa:Cj a=true)(e:Cj b=true):ri A s u w (gm a b)/\ki A s u w (!gm a b):=by
 cases a with
 |Rc=>
  cases f;cases b with
  |Rc=>cases d;exact⟨.none_none,.none_none⟩
  |bl y=>cases d;exact⟨.none_bool y,.none_bool y⟩
  |int y=>obtain⟨t,rfl⟩:=d;exact⟨.none_int y t,.none_int y t⟩
  |str y=>obtain⟨t,rfl⟩:=d;exact⟨.none_str y t,.none_str y t⟩
  |_=>simp[Cj]at e
 |bl x=>
  cases f;cases b with
  |Rc=>cases d;exact⟨.bool_none x,.bool_none x⟩
  |bl y=>cases d;exact⟨.bool_bool x y,.bool_bool x y⟩
  |int y=>obtain⟨t,rfl⟩:=d;exact⟨.bool_int x y t,.bool_int x y t⟩
  |str y=>obtain⟨t,rfl⟩:=d;exact⟨.bool_str x y t,.bool_str x y t⟩
  |_=>simp[Cj]at e
 |int x=>
  obtain⟨c,rfl⟩:=f;cases b with
  |Rc=>cases d;exact⟨.int_none x c,.int_none x c⟩
  |bl y=>cases d;exact⟨.int_bool x c y,.int_bool x c y⟩
  |int y=>obtain⟨t,rfl⟩:=d;exact⟨.int_int x c y t,.int_int x c y t⟩
  |str y=>obtain⟨t,rfl⟩:=d;exact⟨.int_str x c y t,.int_str x c y t⟩
  |_=>simp[Cj]at e
 |str x=>
  obtain⟨c,rfl⟩:=f;cases b with
  |Rc=>cases d;exact⟨.str_none x c,.str_none x c⟩
  |bl y=>cases d;exact⟨.str_bool x c y,.str_bool x c y⟩
  |int y=>obtain⟨t,rfl⟩:=d;exact⟨.str_int x c y t,.str_int x c y t⟩
  |str y=>obtain⟨t,rfl⟩:=d;exact⟨.str_str x c y t,.str_str x c y t⟩
  |_=>simp[Cj]at e
 |_=>simp[Cj]at fa
def LG{xs:List V}{i:Nat}(r:Pe xs b)(h:b[i]?=some u):∃ x,xs[i]?=some x/\de x u:=by
 have e:=r.length;have d:=(aa.mp h).1;obtain⟨f,a,c⟩:=r.get (i:=i) (x:=xs[i]'(by omega)) (by simp);rw[h]at a;cases a;exact⟨_,by simp,c⟩
def mM{i:Nat}(r:Ub T μ H a c)(h:c[i]?=some v):∃ d,a[i]?=some d/\Ua T μ H d v:=by
 have g:=r.length;have f:=(aa.mp h).1;obtain⟨j,b,e⟩:=r.get (i:=i) (d:=a[i]'(by omega)) (by simp);rw[h]at b;cases b;exact⟨_,by simp,e⟩
def bM(I:∀ (x y:D) (v w:V) (z C:Value) (b:Bool),Ua T μ H x v->Ua T μ H y w->de v z->de w C->f x y=some b->ke A s z C b)
  {xs c:List D} (r:Ub T μ H xs B) (t:Ub T μ H c ws) (p:Pe B a) (q:Pe ws d) (h:Qp f xs c=some b) :
  (∀ j (n:j<a.toArray.size) (o:j<d.toArray.size),ke A s a.toArray[j] d.toArray[j] (av f xs c j))/\b=((List.range (min a.toArray.size d.toArray.size)).all (av f xs c) && a.toArray.size == d.toArray.size):=by
 obtain⟨n,o⟩:=QR f xs c b h;have l1:=r.length;have l2:=t.length;have J:=p.length;have K:=q.length;refine⟨λj N ώ=>?_,?_⟩
 ·obtain⟨v,E,M⟩:=LG (i:=j) (u:=a.toArray[j]) p (by simp);obtain⟨w,F,e⟩:=LG (i:=j) (u:=d.toArray[j]) q (by simp);obtain⟨x,g,L⟩:=mM r E;obtain⟨y,l,p4⟩:=mM t F;obtain⟨k,m⟩:=n j x y g l;have G:av f xs c j=k:=by simp[av,g,l,m]
  rw[G];exact I x y v w _ _ k L p4 M e m
 ·simp only[Da];rw[o,l1,l2,J,K]
abbrev xS(A:Za)(s:ba)(v w:Value)(b:Bool):Prop:=ri A s v w b/\ki A s v w (!b)
def zO(I:Ab X pins st H s)(r:je T μ H σ)(hu:A.units+1<cLine)
  (ϊ:∀ (x y:D) (v w:V) (N ώ:Value) (b:Bool),Ua T μ H x v->Ua T μ H y w->de v N->de w ώ->f x y=some b->ke A.in1 s N ώ b) (hx:Ua T μ H x v) (hy:Ua T μ H y w) (M:de v N) (d:de w ώ) (h:js f (kd σ x) (kd σ y)=some b):xS A s N ώ b:=by
 have g:A.units<cLine:=by omega
 have Q:=Mz r hx;have k:=Mz r hy;generalize kd σ x=k1 at h Q;generalize kd σ y=S at h k;cases k1 with
 |o=>cases h
 |s a=>
  obtain⟨rfl,fa⟩:=Q;cases S with
  |o=>cases h
  |s c=>obtain⟨rfl,J⟩:=k;cases h;exact yvb M d fa J
  |t B=>
   obtain⟨q,ws,rfl,j,u⟩:=k;cases h;cases d;obtain⟨its,_,n,_⟩:=L2.Ab.tuple I (ui.of j);obtain⟨_,_,C,E,F,G⟩:=UJ fa M n g;exact⟨C,F⟩
  |l B=>
   obtain⟨q,ws,rfl,j,u⟩:=k;cases h;cases d;obtain⟨its,_,pl,_⟩:=L2.Ab.list I (ug.of j);obtain⟨C,E,F,G⟩:=EU fa M pl.isList g;exact⟨C,F⟩
 |t xs=>
  obtain⟨p,vs,rfl,R,ϋ⟩:=Q;cases M;obtain⟨its,ό,L,_⟩:=L2.Ab.tuple I (ui.of R);cases S with
  |o=>cases h
  |s c=>
   obtain⟨rfl,J⟩:=k;cases h;obtain⟨_,_,C,E,F,G⟩:=UJ J d L g;exact⟨E,G⟩
  |t B=>
   obtain⟨q,ws,rfl,j,u⟩:=k;cases d;obtain⟨i,W,n,_⟩:=L2.Ab.tuple I (ui.of j);obtain⟨K,P⟩:=bM ϊ ϋ u ό W h;rw[P];exact⟨.tuples L n (by omega) K,.tuples L n (by omega) K⟩
  |l B=>
   obtain⟨q,ws,rfl,j,u⟩:=k;cases h;cases d;obtain⟨i,_,pl,_⟩:=L2.Ab.list I (ug.of j);exact⟨.tuple_list L pl.isList g,.tuple_list L pl.isList g⟩
 |l xs=>
  obtain⟨p,vs,rfl,R,ϋ⟩:=Q;cases M;obtain⟨its,ό,pl,_⟩:=L2.Ab.list I (ug.of R);cases S with
  |o=>cases h
  |s c=>
   obtain⟨rfl,J⟩:=k;cases h;obtain⟨C,E,F,G⟩:=EU J d pl.isList g;exact⟨E,G⟩
  |t B=>
   obtain⟨q,ws,rfl,j,u⟩:=k;cases h;cases d;obtain⟨i,_,n,_⟩:=L2.Ab.tuple I (ui.of j);exact⟨.list_tuple pl.isList n g,.list_tuple pl.isList n g⟩
  |l B=>
   obtain⟨q,ws,rfl,j,u⟩:=k;cases d;obtain⟨i,W,m,_⟩:=L2.Ab.list I (ug.of j);obtain⟨K,P⟩:=bM ϊ ϋ u ό W h;by_cases z:its.toArray.size=i.toArray.size
   ·have e:b=(List.range its.toArray.size).all (av f xs B):=by rw[P,<-z];simp
    rw[e];exact⟨.lists pl.isList m.isList z (by omega) K,.lists pl.isList m.isList z (by omega) K⟩
   ·have e:b=false:=by rw[P,Ye.mpr z,Oq]
    rw[e];exact⟨.lists_lengths pl.isList m.isList (by simpa using z) (by omega),.lists_lengths pl.isList m.isList (by simpa using z) (by omega)⟩
def tV(I:Ab X pins st H s)(r:je T μ H σ)(S:A.units+1<cLine)
  (ώ:∀ (x y:D) (v w:V) (B C:Value) (b:Bool),Ua T μ H x v->Ua T μ H y w->de v B->de w C->f x y=some b->ke A.in1 s B C b)
  (R:∀ (x y:D) (v:V) (b:Bool),Ua T μ H x v->Ua T μ H y v->f x y=some b->b=true) (E:Ua T μ H x v) (F:Ua T μ H y w) (m:de v B) (d:de w C) (h:js f (kd σ x) (kd σ y)=some b):ke A s B C b:=by
 have j:A.units<cLine:=by omega
 have G:=(zO I r S ώ E F m d h).1;by_cases i:v=w
 ·subst i;have N:=iM r R E F h;have k:=Mz r E;have g:=Mz r F;generalize kd σ x=L at h k;generalize kd σ y=z at h g;cases L with
  |o=>cases h
  |s a=>
   obtain⟨rfl,fa⟩:=k;cases z with
   |o=>cases h
   |s c=>obtain⟨rfl,n⟩:=g;cases h;exact eM m d fa n
   |t u=>obtain⟨q,ws,e,_⟩:=g;rw[e]at fa;simp[Cj]at fa
   |l u=>obtain⟨q,ws,e,_⟩:=g;rw[e]at fa;simp[Cj]at fa
  |t xs=>
   obtain⟨p,M,rfl,_⟩:=k;cases m;cases d;rw[N];exact km _
  |l xs=>
   obtain⟨p,M,rfl,_⟩:=k;cases m;cases d;rw[N];exact km _
 ·have k:=Mz r E;have g:=Mz r F;generalize kd σ x=L at h k;generalize kd σ y=z at h g;cases L with
  |o=>cases h
  |s a=>
   obtain⟨rfl,fa⟩:=k;cases z with
   |o=>cases h
   |s c=>obtain⟨rfl,n⟩:=g;cases h;exact eM m d fa n
   |t u=>
    obtain⟨q,ws,rfl,K,W⟩:=g;cases h;cases d;obtain⟨its,_,Q,_⟩:=L2.Ab.tuple I (ui.of K);exact(UJ fa m Q j).1
   |l u=>
    obtain⟨q,ws,rfl,K,W⟩:=g;cases h;cases d;obtain⟨its,_,pl,_⟩:=L2.Ab.list I (ug.of K);exact Ι fa m pl.isList j
  |t xs=>
   obtain⟨p,M,rfl,J,ό⟩:=k;cases m;cases z with
   |o=>cases h
   |s c=>
    obtain⟨rfl,n⟩:=g;cases h;obtain⟨its,_,P,_⟩:=L2.Ab.tuple I (ui.of J);exact(UJ n d P j).2.1
   |t u=>obtain⟨q,ws,rfl,_⟩:=g;cases d;exact .of_refs (λe=>i (by rw[e])) G
   |l u=>obtain⟨q,ws,rfl,_⟩:=g;cases d;exact .of_refs (λe=>i (by rw[e])) G
  |l xs=>
   obtain⟨p,M,rfl,J,ό⟩:=k;cases m;cases z with
   |o=>cases h
   |s c=>
    obtain⟨rfl,n⟩:=g;cases h;obtain⟨its,_,pl,_⟩:=L2.Ab.list I (ug.of J);exact W7 n d pl.isList j
   |t u=>obtain⟨q,ws,rfl,_⟩:=g;cases d;exact .of_refs (λe=>i (by rw[e])) G
   |l u=>obtain⟨q,ws,rfl,_⟩:=g;cases d;exact .of_refs (λe=>i (by rw[e])) G
theorem QJ(I:Ab X pins st H s)(r:je T μ H σ):∀ (n:Nat) (A:Za) (x y:D) (v w:V) (c d:Value) (b:Bool),A.units+n+1<cLine->Ua T μ H x v->Ua T μ H y w->de v c->de w d->Jk σ n x y=some b->ke A s c d b
 |0,A,x,y,v,w,c,d,b,o,i,j,k,a,h=>tV I r (by omega) (λ_ _ _ _ _ _ _ _ _ _ _ z=>by cases z) (λ_ _ _ _ _ _ z=>by cases z) i j k a h
 |n+1,A,x,y,v,w,c,d,b,o,i,j,k,a,h=>tV I r (by omega) (λx y v w c d b e f g l m=>QJ I r n A.in1 x y v w c d b (by show A.units+1+n+1<cLine;omega) e f g l m) (λx y v b e f g=>ES r n x y v b e f g) i j k a h
def HS(I:Ab X pins st H s)(r:je T μ H σ)(n:Nat)(o:A.units+n+1<cLine)(e:Ua T μ H x v)(f:Ua T μ H y w)(g:de v c)(a:de w d)(h:Jk σ n x y=some b):xS A s c d b:=by
 cases n with
 |zero=>exact zO I r (by omega) (λ_ _ _ _ _ _ _ _ _ _ _ z=>by cases z) e f g a h
 |succ n=>exact zO I r (by omega) (λx y v w c d b i j k l m=>QJ I r n A.in1 x y v w c d b (by show A.units+1+n+1<cLine;omega) i j k l m) e f g a h
end
section
variable{pins:List (Addr × Ad)}{st:St}{μ:List Addr}{H:Hp}{s:ba}{σ:lb}
def Uf(x y:D):M D:=λσ=>match Jk σ 8 x y with
 |some b=>Y (ϐ b) σ
 |none=>ϗ
def Aj(x y:D):M D:=λσ=>match Jk σ 8 x y with
 |some b=>Y (ϐ (!b)) σ
 |none=>ϗ
def jj(i:X.A.units+9<cLine):ni X (gc .Eq) (rD T Uf):=by
 intro pins s st H v u k j Q I g f h;obtain⟨E,μ,σ,x,y,r,c,d,a⟩:=h;unfold Uf at a;cases e:Jk σ 8 x y with
 |none=>rw[e]at a;exact a.elim
 |some b=>
  rw[e]at a;have:=(HS I r 8 (by omega) c d g f e).1 X.prog X.w X.xe (EP X pins st Q) ⟨Ϭ b,H,I,rfl,Jc.here a r (by rw[Ua])⟩;exact this
def Cu(i:X.A.units+9<cLine):ni X (gc .NotEq) (rD T Aj):=by
 intro pins s st H v u k j Q I g f h;obtain⟨E,μ,σ,x,y,r,c,d,a⟩:=h;unfold Aj at a;cases e:Jk σ 8 x y with
 |none=>rw[e]at a;exact a.elim
 |some b=>
  rw[e]at a;have:=(HS I r 8 (by omega) c d g f e).2 X.prog X.w X.xe (EP X pins st Q) ⟨Ϭ (!b),H,I,rfl,Jc.here a r (by rw[Ua])⟩;exact this
noncomputable def Uu(x y:D):M D:=λσ=>match y with
 | ϛ=>(match x with
  | ϛ=>Y (ϐ true) σ
  |_=>Y (ϐ false) σ)
 |_=>ϗ
noncomputable def BC(x y:D):M D:=λσ=>match y with
 | ϛ=>(match x with
  | ϛ=>Y (ϐ false) σ
  |_=>Y (ϐ true) σ)
 |_=>ϗ
def NU(h:Ua T μ H x v):decide (v=.Rc)=(match x with | ϛ=>true|_=>false):=by
 cases x with
 |Rc=>rw[Ua]at h;subst h;rfl
 |Xa ds=>rw[Ua]at h;obtain⟨p,_,rfl,_⟩:=h;simp
 |rj ds=>rw[Ua]at h;obtain⟨p,rfl,_⟩:=h;simp
 |ref ds=>rw[Ua]at h;obtain⟨p,rfl,_⟩:=h;simp
 |wa ds=>rw[Ua]at h;obtain⟨p,_,rfl,_⟩:=h;simp
 |Qb ks ds=>rw[Ua]at h;obtain⟨p,_,rfl,_⟩:=h;simp
 |obj c ks ds=>rw[Ua]at h;obtain⟨p,_,_,rfl,_⟩:=h;simp
 |Du c=>rw[Ua]at h;obtain⟨p,_,rfl,_⟩:=h;simp
 |gt ds=>rw[Ua]at h;obtain⟨p,rfl,_⟩:=h;simp
 |_=>rw[Ua]at h;subst h;simp
def vF:im T (λx y H Q=>y=.Rc/\Q (Ϭ (decide (x=.Rc))) H) Uu:=by
 intro E μ H σ x y v u Q r p q h;cases y with
 |Rc=>
  refine⟨by rw[Ua]at q;exact q,?_⟩;rw[NU p];cases x<;>exact Jc.here h r (by rw[Ua])
 |_=>exact h.elim
def sT:im T (λx y H Q=>y=.Rc/\Q (Ϭ (!decide (x=.Rc))) H) BC:=by
 intro E μ H σ x y v u Q r p q h;cases y with
 |Rc=>
  refine⟨by rw[Ua]at q;exact q,?_⟩;rw[NU p];cases x<;>exact Jc.here h r (by rw[Ua]<;>rfl)
 |_=>exact h.elim
def í(r:Ub T μ H a b)(h:dr a k=some d):∃ v,dr b k=some v/\Ua T μ H d v:=by
 unfold dr at h ⊢;rw[<-r.length];cases e:Kx a.length k with
 |none=>rw[e]at h;cases h
 |some j=>rw[e]at h;exact r.get h
theorem eG:∀ (a:List Int),Ub T μ H (a.map Z) (a.map ϡ)
 |[]=>Ub.nil
 |n::a=>Ub.cons (by rw[Ua]) (eG a)
def Tj(σ:lb):D->Option (List D)
 | Ϗ xs=>some xs
 | ϱ ns=>some (ns.map Z)
 | U n=>gh σ n
 | O xs=>some xs
 | .gt ss=>some (ss.map ύ)
 |_=>none
def ib(x i:D):M D:=λσ=>match i with
 | Z k=>(match Tj σ x with
  |some xs=>(match dr xs k with
   |some d=>Y d σ
   |none=>ϗ)
  |none=>ϗ)
 |_=>ϗ
theorem GI:∀ (a:List Str),Ub T μ H (a.map ύ) (a.map V.str)
 |[]=>Ub.nil
 |n::ns=>Ub.cons (by rw[Ua]) (GI ns)
def ZA(r:je T μ H σ){xs:List D}(h:Ua T μ H x v)(e:Tj σ x=some xs):∃ p c,v=ϕ p/\Ub T μ H xs c/\(ug T.K H p c\/ui T.K H p c):=by
 cases x with
 |Xa ds=>cases e;rw[Ua]at h;obtain⟨p,c,rfl,b,d⟩:=h;exact⟨p,c,rfl,d,ϖ (ui.of b)⟩
 |rj ns=>cases e;rw[Ua]at h;obtain⟨p,rfl,b⟩:=h;exact⟨p,_,rfl,eG ns,ϒ b.seq⟩
 |ref n=>obtain⟨a,c,rfl,_,b,d⟩:=r.wa h e;exact⟨a,c,rfl,d,ϒ (ug.of b)⟩
 |wa ds=>cases e;rw[Ua]at h;obtain⟨p,c,rfl,_,b,d⟩:=h;exact⟨p,c,rfl,d,ϒ (ug.of b)⟩
 |gt ss=>cases e;rw[Ua]at h;obtain⟨p,rfl,b⟩:=h;exact⟨p,_,rfl,GI ss,ϖ (ϖ b)⟩
 |_=>cases e
def ĩ(l:T.K=X.K):im T (λx y H Q=>VM X.K x y H Q\/JK X.K x y H Q) ib:=by
 intro E μ H σ x y v u Q r p q h;cases y with
 |int k=>
  unfold ib at h;cases e:Tj σ x with
  |none=>simp only[e]at h;exact h.elim
  |some xs=>
   simp only[e]at h;cases c:dr xs k with
   |none=>rw[c]at h;exact h.elim
   |some d=>
    rw[c]at h;obtain⟨a,i,rfl,j,b⟩:=ZA r p e;obtain⟨w,f,g⟩:=í j c;rw[l]at b;rcases b with b|b
    ·exact ϒ ⟨a,i,k,w,rfl,pr q,b,f,Jc.here h r g⟩
    ·exact ϖ ⟨a,i,k,w,rfl,pr q,b,f,Jc.here h r g⟩
 |_=>exact h.elim
def Ļ:Ry X (λx y H Q=>VM X.K x y H Q\/JK X.K x y H Q):=E1.or Ĭ
def Qy(d:D):Bool:=(sc d).isSome
def Rz(x y:D):Bool:=match sc x,sc y with
 |some a,some b=>gm a b
 |_,_=>false
def Bu(a:Bool)(x y:D):M D:=λσ=>match Tj σ y with
 |some xs=>if (Qy x && xs.all Qy)=true then Y (ϐ (if a then !(xs.any λz=>Rz z x)else xs.any λz=>Rz z x)) σ else ϗ
 |none=>ϗ
theorem kX:∀ {c:List D} {b:List V},Ub T μ H c b->c.all Qy=true->b.all Cj=true
 |[],b,h,_=>by rw[Ub]at h;subst h;rfl
 |d::c,b,h,e=>by
  obtain⟨v,r,rfl,g,i⟩:=h;rw[jg,Na]at e ⊢;obtain⟨a,f⟩:=xf.mp e.1;exact⟨by rw[bH g f];exact MU f,kX i e.2⟩
theorem LX{x:D}{a:V}(ex:sc x=some a):∀ {b:List D} {f:List V},Ub T μ H b f->b.all Qy=true->(b.any λz=>Rz z x)=f.any λy=>gm y a
 |[],f,h,_=>by rw[Ub]at h;subst h;rfl
 |d::b,f,h,e=>by
  obtain⟨v,r,rfl,i,j⟩:=h;rw[jg,Na]at e;obtain⟨c,g⟩:=xf.mp e.1;rw[zf,zf,LX ex j e.2];have:Rz d x=gm v a:=by unfold Rz;rw[g,ex,bH i g]
  rw[this]
def zI(l:T.K=X.K)(d:Bool):im T (mJ X.K d) (Bu d):=by
 intro E μ H σ x y v u Q r p q h;unfold Bu at h;cases e:Tj σ y with
 |none=>rw[e]at h;exact h.elim
 |some xs=>
  rw[e]at h;by_cases c:(Qy x && xs.all Qy)=true
  ·simp only[c]at h;rw[Na]at c;obtain⟨a,f⟩:=xf.mp c.1;obtain⟨b,j,rfl,g,i⟩:=ZA r q e;rw[l]at i;refine⟨b,j,rfl,i,by rw[bH p f];exact MU f,kX g c.2,?_⟩;have k:HC v j=xs.any λz=>Rz z x:=by unfold HC;rw[LX f g c.2,bH p f]
   rw[k];exact Jc.here h r (by rw[Ua])
  ·simp only[c]at h;exact h.elim
def yj(xs:List D):M D:=λσ=>match xs with
 |[x]=>(match Tj σ x with
  |some a=>Y (Z a.length) σ
  |none=>ϗ)
 |_=>ϗ
def iq(i:T.K=X.K):jt T (λxs H Q=>∃ p a,xs=[ϕ p]/\(ug X.K H p a\/ui X.K H p a)/\Q (ϡ a.length) H) yj:=by
 intro E μ H σ xs f Q r p h
 match xs with
 |[]=>exact h.elim
 |[x]=>
  obtain⟨v,w,rfl,j,d⟩:=p;rw[Ub]at d;subst d;unfold yj at h;cases e:Tj σ x with
  |none=>simp only[e]at h;exact h.elim
  |some a=>
   simp only[e]at h;obtain⟨b,f,rfl,g,c⟩:=ZA r j e;rw[i]at c;exact⟨b,f,rfl,c,by rw[<-g.length];exact Jc.here h r (by rw[Ua])⟩
 |_::_::_=>exact h.elim
def Jr(xs:List D):M D:=λσ=>match xs with
 |[x]=>(match Tj σ x with
  |some a=>iF a σ
  |none=>ϗ)
 |_=>ϗ
def kG(i:T.K=X.K):jt T (λxs H Q=>∃ p a,xs=[ϕ p]/\(ug X.K H p a\/ui X.K H p a)/\∀ l,H l=none->Q (ϕ l) (Nc H l (ϰ a))) Jr:=by
 intro E μ H σ xs f Q r p h
 match xs with
 |[]=>exact h.elim
 |[x]=>
  obtain⟨v,w,rfl,k,d⟩:=p;rw[Ub]at d;subst d;unfold Jr at h;cases e:Tj σ x with
  |none=>simp only[e]at h;exact h.elim
  |some a=>
   simp only[e]at h;obtain⟨b,f,rfl,g,c⟩:=ZA r k e;rw[i]at c;exact⟨b,f,rfl,c,λl j=>iJ h r g j⟩
 |_::_::_=>exact h.elim
noncomputable def WL:D->Bool
 | .gt _=>true
 |_=>false
def PB(xs:List D):M D:=λσ=>match xs with
 |[x]=>(match Tj σ x with
  |some a=>if WL x=true then ϗ else Y (Ϗ a) σ
  |none=>ϗ)
 |_=>ϗ
def xR(m:T.K=X.K):jt T (λxs H Q=>∃ p g,xs=[ϕ p]/\((ug X.K H p g/\∀ l,H l=none->Q (ϕ l) (Nc H l (.Xa g)))\/(ui X.K H p g/\Q (ϕ p) H))) PB:=by
 intro E μ H σ xs f Q r p h
 match xs with
 |[]=>exact h.elim
 |[x]=>
  obtain⟨v,w,rfl,c,k⟩:=p;rw[Ub]at k;subst k;have h:Jc T E (Ua T) μ H (match Tj σ x with|some g=>if WL x=true then ϗ else Y (Ϗ g) σ|none=>ϗ) Q:=h;cases e:Tj σ x with
  |none=>simp only[e]at h;exact h.elim
  |some g=>
   simp only[e]at h;cases x with
   |gt ss=>exact h.elim
   |Xa ds=>
    cases e;have o:=c;rw[Ua]at c;obtain⟨b,f,rfl,d,j⟩:=c;exact⟨b,f,rfl,ϖ ⟨ui.of d,Jc.here h r o⟩⟩
   |rj ns=>
    cases e;rw[Ua]at c;obtain⟨b,rfl,d⟩:=c;exact⟨b,_,rfl,ϒ ⟨by rw[<-m];exact d.seq,λl i=>NC h r (eG ns) i⟩⟩
   |ref n=>
    obtain⟨a,f,rfl,_,d,j⟩:=r.wa c e;exact⟨a,f,rfl,ϒ ⟨ug.of d,λl i=>NC h r j i⟩⟩
   |wa ds=>
    cases e;rw[Ua]at c;obtain⟨b,f,rfl,_,d,j⟩:=c;exact⟨b,f,rfl,ϒ ⟨ug.of d,λl i=>NC h r j i⟩⟩
   |_=>cases e
 |_::_::_=>exact h.elim
end
def ah(o:List D->M D)(a:Ev->M (List D)):Ev->M D:=λb=>be (a b) o
section
variable{x:Str}{p pos:Re}{e:Ya}{es:List Ya}{fs:Ev->M (List D)}{id ty:String}{r:List V->Hp->VK->Prop}{o:List D->M D}
def GP(j:jt T r o)(h:tF T X (ah o fs) c H Q):tK r (tL T X fs) c H Q:=by
 obtain⟨p,q,σ,f,i,g⟩:=h;exact⟨p,q,σ,f,i,g.bind λe b a n d _ s m k l=>j _ a d b e n Q m k l⟩
def Kj(f:Gp X (ϝ id) r)(l:jt T r o)(i:Gl X x)(j:X.mg x=none)(m:bootBuiltins x=some (ϝ id))(d:FA T X (e::es) fs)(k:x ≠ "__name__":=by decide)(b:(x == ("__debug__" : Str))=false:=by decide)
  (g:ya (e::es) X.env=(false,Ec e X.env)::ya es X.env:=by rfl) (c:(Cd pos (ya es X.env)).any (·.1)=false:=by rfl):FE T X (ϣ (ϟ x p) (e::es) [] pos) (ah o fs):=
 λa s n H Q I h=>HL f i j m d k b g c a s n H Q I (GP l h)
def Hx(f:Gp X (ϙ ty) r)(l:jt T r o)(i:Gl X x)(j:X.mg x=none)(m:bootBuiltins x=some (ϙ ty))(d:FA T X (e::es) fs)(k:x ≠ "__name__":=by decide)(b:(x == ("__debug__" : Str))=false:=by decide)
  (g:ya (e::es) X.env=(false,Ec e X.env)::ya es X.env:=by rfl) (c:(Cd pos (ya es X.env)).any (·.1)=false:=by rfl):FE T X (ϣ (ϟ x p) (e::es) [] pos) (ah o fs):=
 λa s n H Q I h=>OX f i j m d k b g c a s n H Q I (GP l h)
end
def xh(a:lb):D->Option (List D)
 | U n=>gh a n
 | O xs=>some xs
 |_=>none
def je.ls(r:je T g H σ){xs:List D}(h:Ua T g H x v)(e:xh σ x=some xs):∃ a b,v=ϕ a/\H a=some (ϰ b)/\Ub T g H xs b:=by
 cases x with
 |ref n=>obtain⟨a,b,c,_,d,f⟩:=r.wa h e;exact⟨a,b,c,d,f⟩
 |wa i=>cases e;rw[Ua]at h;obtain⟨a,b,c,_,d,f⟩:=h;exact⟨a,b,c,d,f⟩
 |_=>cases e
def Vv(o:D->List D->M D)(m:M (List D))(x:D):M D:=λa=>match xh a x with
 |some _=>be m (o x) a
 |none=>ϗ
def tz(o:D->List D->M D)(f:Ev->M D)(b:Ev->M (List D)):Ev->M D:=λa=>be (f a) (Vv o (b a))
def rA(T:Tb)(r:V->List V->Hp->VK->Prop)(o:D->List D->M D):Prop:=∀ (E:XK) a H c x xs v b Q,je T a H c->Ua T a H x v->Ub T a H xs b->Jc T E (Ua T) a H (o x xs c) Q->r v b H Q
def Vm(x:D)(xs:List D):M D:=λb=>match x,xs with
 | U n,[y]=>(match gh b n with
  |some a=>if a.length<Ni then Y ϛ (b.set n (ϔ (a++[y])))else ϗ
  |none=>ϗ)
 |_,_=>ϗ
section
variable{o e:Ya}{es:List Ya}{f:Ev->M D}{fs:Ev->M (List D)}{name:Str}{apos cpos:Re}{id:String}{r:V->List V->Hp->VK->Prop}{g:D->List D->M D}
def xC(P:Np "list")(l:Slot "list" name id)(q:Dr (ϝ id)=pure (ϙ "method_descriptor"))(J:Tv X id r)(N:rA T r g)(K:FE T X o f)(G:FA T X (e::es) fs)
  (c:ye o name X.env (Ec o X.env)=Ec o X.env:=by rfl)
  (i:((Cd cpos (ya (e::es) X.env)).all (λx=>!x.1) && (sk cpos (Ah [] X.env)).all (λx=>x.1.isSome)
   && decide ((e::es).length+([]:List Wk).length+(if ([]:List Wk).isEmpty then 0 else 1)<30))=true:=by rfl)
  (d:(apos.endLine == cpos.line)=true:=by rfl) (p:ya (e::es) X.env=(false,Ec e X.env)::ya es X.env:=by rfl) (b:(Cd cpos (ya es X.env)).any (·.1)=false:=by rfl) :
  FE T X (ϣ (Ϣ o name apos) (e::es) [] cpos) (tz g f fs):=by
 intro j s ό H Q I h;refine ő P l q J K G c i d p b j s ό H Q I ?_;obtain⟨W,ρ,σ,y,M,L⟩:=h;refine⟨W,ρ,σ,y,M,L.bind λx m t v ϋ _ D A z k=>?_⟩;unfold Vv at k;cases n:xh m x with
 |none=>rw[n]at k;exact k.elim
 |some xs=>
  rw[n]at k;obtain⟨a,V,rfl,F,ϊ⟩:=A.ls z n;refine⟨ϒ ⟨rfl,V,ug.of F⟩,t,ρ,m,y.mono D,A,k.bind λC w u ws B _ E S ώ R=>?_⟩;exact N _ u B w x C (ϕ a) ws Q S (Ua.mono E _ _ z) ώ R
def SF:rA T oO Vm:=by
 intro E l H σ x xs v d Q r p q h;cases x with
 |ref n=>
  match xs with
  |[]=>exact h.elim
  |[y]=>
   obtain⟨w,z,rfl,m,i⟩:=q;rw[Ub]at i;subst i;unfold Vm at h;cases b:gh σ n with
   |none=>simp only[b]at h;exact h.elim
   |some k=>
    simp only[b]at h;by_cases c:k.length<Ni
    ·rw[ma c]at h;obtain⟨a,d,rfl,g,e,f⟩:=r.wa p b;have j:=r.write (ob:=ϔ (k++[y])) g ⟨_,Ih,by
      have ex:Ge l H l (Nc H a (ϰ (d++[w]))):=Jw (La g) e (λ_ z=>by cases z) (λ_ _ z=>by cases z);exact Ub.append (Ub.mono ex _ _ f) (Ub.cons (Ua.mono ex _ _ m) Ub.nil)⟩
     exact⟨a,d,w,rfl,rfl,e,by rw[<-f.length];exact vT c,h _ _ _ j.1 j.2 (by rw[Ua])⟩
    ·rw[ra c]at h;exact h.elim
  |_::_::_=>exact h.elim
 |_=>exact h.elim
end
inductive BT where
 |int|bool|str|tuple|list|dict
noncomputable def BT.nm:BT->String
 | .int=>"int" | .bool=>"bool" | .str=>"str" | .tuple=>"tuple" | .list=>"list" | .dict=>"dict"
noncomputable def RJ(a:lb)(c:BT):D->Option Bool
 | ϛ=>some false
 | ϐ _=>some (match c with | .int=>true | .bool=>true|_=>false)
 | Z _=>some (match c with | .int=>true|_=>false)
 | ύ _=>some (match c with | .str=>true|_=>false)
 | Ϗ _=>some (match c with | .tuple=>true|_=>false)
 | ϱ _=>none
 | O _=>some (match c with | .list=>true|_=>false)
 | Ϫ _ _=>some (match c with | .dict=>true|_=>false)
 | .obj _ _ _=>none
 | .Du _=>none
 | .gt _=>none
 | U n=>match a[n]? with
  |some (ϔ _)=>some (match c with | .list=>true|_=>false)
  |some (ϑ _)=>some (match c with | .dict=>true|_=>false)
  |_=>none
def Kq(c:BT)(x:D):M D:=λa=>match RJ a c x with
 |some b=>Y (ϐ b) a
 |none=>ϗ
def lT(K:ϓ)(H:Hp)(x:V)(t:Value):Prop:=Em K H x t\/∃ a b,x=ϕ a/\Rd H a (Ϝ b)/\t=ϙ "dict"
def Ě(K:ϓ)(c:String):List V->Hp->VK->Prop:=λxs H Q=>∃ x t b,xs=[x,.ty c]/\lT K H x t/\W.kitOne K t (ϙ c)=some b/\Q (Ϭ b) H
def o1(c:String):Gp X (ϝ "isinstance") (Ě X.K c):=by
 intro f s v H xs w Q I r h;obtain⟨x,t,b,rfl,ty,e,q⟩:=h;obtain⟨u,u2,rfl,g,d⟩:=GN r;cases d;rcases ty with ty|⟨a,k,rfl,rd,rfl⟩
 ·exact Ŀ I g ty e λl=>⟨Ϭ b,H,I.tok _,rfl,q⟩
 ·cases (g);obtain⟨_,_,y,_,p⟩:=(rd.ok I.Qd)
  obtain⟨o,n,m,i,j,_⟩:=p;exact W.kia_one W.kitx_dict I.Ak ⟨o,i,j.1⟩ e (λz=>nomatch z) λl=>⟨Ϭ b,H,I.tok _,rfl,q⟩
def D2(r:je T l H σ)(p:Ua T l H x v)(h:RJ σ c x=some b):∃ t,lT X.K H v t/\W.kitOne X.K t (ϙ c.nm)=some b:=by
 cases x with
 |Rc=>rw[Ua]at p;subst p;refine⟨_,ϒ (.Rc),?_⟩;cases c<;>cases h<;>rfl
 |bl i=>rw[Ua]at p;subst p;refine⟨_,ϒ (.bl i),?_⟩;cases c<;>cases h<;>rfl
 |int i=>rw[Ua]at p;subst p;refine⟨_,ϒ (.int i),?_⟩;cases c<;>cases h<;>rfl
 |str i=>rw[Ua]at p;subst p;refine⟨_,ϒ (.str i),?_⟩;cases c<;>cases h<;>rfl
 |Xa ds=>rw[Ua]at p;obtain⟨q,f,rfl,d,_⟩:=p;refine⟨_,ϒ (.Xa d),?_⟩;cases c<;>cases h<;>rfl
 |rj ns=>cases h
 |wa ds=>rw[Ua]at p;obtain⟨q,f,rfl,_,d,_⟩:=p;refine⟨_,ϒ (.wa d),?_⟩;cases c<;>cases h<;>rfl
 |Qb ks ds=>rw[Ua]at p;obtain⟨q,f,rfl,_,d,_⟩:=p;refine⟨_,ϖ ⟨q,_,rfl,d,rfl⟩,?_⟩;cases c<;>cases h<;>rfl
 |obj j ks ds=>cases h
 |Du j=>cases h
 |gt ss=>cases h
 |ref n=>
  unfold RJ at h;dsimp only at h;cases e:σ[n]? with
  |none=>rw[e]at h;cases h
  |some o=>
   rw[e]at h;obtain⟨a,rfl,_,k⟩:=r.at p e;cases o with
   |wa xs=>obtain⟨f,g,_⟩:=k;refine⟨_,ϒ (.wa g),?_⟩;cases c<;>cases h<;>rfl
   |Qb xs=>obtain⟨f,g,_⟩:=k;refine⟨_,ϒ (.dK g),?_⟩;cases c<;>cases h<;>rfl
   |yc j m=>cases h
   |ig xs=>cases h
   |Bl _=>cases h
def sw(c:BT)(C:FE T X e f)(E:Gl X "isinstance")(F:X.mg "isinstance" = none)(m:Gl X a)(n:X.mg a=none)(r:bootBuiltins a=some (ϙ c.nm))(o:a ≠ "__name__":=by decide)(l:(a == ("__debug__" : Str))=false:=by decide)
  (w:ya [e,ϟ a j] X.env=(false,Ec e X.env)::ya [ϟ a j] X.env:=by rfl) (q:(Cd g (ya [ϟ a j] X.env)).any (·.1)=false:=by rfl) :
  FE T X (ϣ (ϟ "isinstance" p) [e,ϟ a j] [] g) (Dd (Kq c) f):=by
 intro d s L H Q I h;refine HL (o1 c.nm) E F boot_isinstance (Tw C (Tw (B6 m n r (v:=.ty c.nm) rfl o l) Qz) w) (by decide) (by decide) w q d s L H Q I ?_;obtain⟨N,P,σ,B,J,G⟩:=h;refine⟨N,P,σ,B,J,G.bind λx u ώ v R _ S y K i=>?_⟩;unfold Kq at i;cases k:RJ u c x with
 |none=>rw[k]at i;exact i.elim
 |some b=>
  rw[k]at i;obtain⟨t,z,A⟩:=D2 y K k;exact⟨v,t,b,rfl,z,A,Jc.here i y (by rw[Ua])⟩
noncomputable def dg:Ev->M Fl:=λa=>ret (Ϛ a)
noncomputable def DD(h:Ev->M Fl):Fl->M Fl
 | Ϛ a=>h a
 | Ϯ d=>ret (Ϯ d)
 | .bk a=>ret (.bk a)
 | .ct a=>ret (.ct a)
 | .xc a x=>ret (.xc a x)
def Zb(g h:Ev->M Fl):Ev->M Fl:=λa=>be (g a) (DD h)
noncomputable def MK:D->M Fl:=λd=>ret (Ϯ d)
def pd(f:Ev->M D):Ev->M Fl:=λa=>xs a (f a) MK
noncomputable def fL(a:Ev):D->M Fl:=λ_=>ret (Ϛ a)
def Hu(f:Ev->M D):Ev->M Fl:=λa=>xs a (f a) (fL a)
noncomputable def XF(i:Nat)(a:Ev):D->M Fl:=λd=>ret (Ϛ (a.set i (some d)))
def He(i:Nat)(f:Ev->M D):Ev->M Fl:=λa=>xs a (f a) (XF i a)
noncomputable def Wf(t:Ev->M Bool)(a b:Ev->M Fl):Ev->M Fl:=λρ=>xs ρ (t ρ) (Ol (a ρ) (b ρ))
section
variable{st':Stmt}{rest:List Stmt}{g h:Ev->M Fl}{e:Ya}{f:Ev->M D}{pos:Re}
def lg:um T X [] dg:=by
 intro a s b H D I f;obtain⟨h,i,j,c,e,d⟩:=f;exact ZP a s b H D I (Jc.here (g:=ϸ b) d e c)
def ŵ{h:List Addr}{e:Fl}{D:Al}(r:je T h H i)(q:Ko T h H e b)(k:Fl->M Fl)
  (j:∀ a,e=Ϛ a->∀ f,b=ϸ f->pi T h H a f->N f H) (g:(∀ a,e≠ Ϛ a)->Jc T EN (Ko T) h H (Y e i) (zn X D)):zn X { D with nx:=N } b H:=by
 cases e with
 |nx a=>cases b with
  |nx f=>exact j a rfl f rfl q
  |_=>exact q.elim
 |rt d=>cases b with
  |rt v=>have z:=Jc.here (g λ_ z=>by cases z) r q;exact z
  |_=>exact q.elim
 |bk a=>cases b with
  |bk v=>have z:=Jc.here (g λ_ z=>by cases z) r q;exact z
  |_=>exact q.elim
 |ct a=>cases b with
  |ct v=>have z:=Jc.here (g λ_ z=>by cases z) r q;exact z
  |_=>exact q.elim
 |xc a x=>cases b with
  |xc v c fd=>have z:=Jc.here (g λ_ z=>by cases z) r q;exact z
  |_=>exact q.elim
def lc(k:FS T X st' g)(l:um T X rest h):um T X (st'::rest) (Zb g h):=by
 intro b s u H D I r;refine tQ k l b s u H D I ?_;obtain⟨w,x,σ,m,q,p⟩:=r;refine⟨w,x,σ,m,q,p.bind λj d c B y _ z f t e=>?_⟩;refine ŵ f t (λ_=>cc) (λa i v A n=>?_) (λo=>?_)
 ·subst i;exact⟨c,a,d,n,f,e⟩
 ·cases j with
  |nx a=>exact(o a rfl).elim
  |_=>exact e
def Ii(a:FS T X st' g):um T X [st'] g:=yep a
def z8(c:FE T X e f):FS T X (.Return (some e) pos) (pd f):=by
 intro a s n H D I j;refine WY c a s n H D I ?_;obtain⟨o,q,σ,b,i,h⟩:=j;exact⟨o,q,σ,b,i,h.xs b λd r p v t _ u m l k=>Jc.here (g:=wt.rt v) k m l⟩
def Hv(i:FE T X e f)(l:dj e none pos.line X.env=pure false:=by rfl):FS T X (.Expr e pos) (Hu f):=by
 intro a s c H D I m;refine W1 i l a s c H D I ?_;obtain⟨p,r,σ,b,k,j⟩:=m;exact⟨p,r,σ,b,k,j.xs b λd t q v u _ h o w n=>Jc.here (g:=ϸ c) n o (b.mono h)⟩
def BR(k:X.N.Nodup)(n:X.N[i]?=some x)(t:Loc X.env.scope x)(l:FE T X e f)(q:dj e (some (ϟ x a)) pos.line X.env=pure false:=by rfl)(m:X.fn x=true\/X.env.scope.names.lookup x=some .local:=by first|exact .inl rfl|exact .inr rfl|assumption) :
  FS T X (.Assign [ϟ x a] e pos) (He i f):=by
 intro b s h H D I r;refine aZ k n t l q m b s h H D I ?_;obtain⟨z,B,σ,c,p,o⟩:=r;exact⟨z,B,σ,c,p,o.xs c λd C A v E _ j y w u=>Jc.here (g:=ϸ (h.set i (some v))) u y ((c.mono j).set i w)⟩
def eg(p:FT T X c m)(n:um T X a j)(o:um T X b k):FS T X (.If c a b pos) (Wf m j k):=by
 intro e s w H D I t;refine kY p n o e s w H D I ?_;obtain⟨x,ρ,σ,h,r,q⟩:=t;refine⟨x,ρ,σ,h,r,q.xs h λc g f v y _ i l u d=>?_⟩;cases u;cases c with
 |true=>unfold Ol at d;rw[ma rfl]at d ⊢;exact⟨f,ρ,g,h.mono i,l,d⟩
 |false=>unfold Ol at d;rw[ra Eb]at d ⊢;exact⟨f,ρ,g,h.mono i,l,d⟩
noncomputable def gD(T:Tb)(f:D->Ev->Option Ev):TG:=λv e H Q=>∃ b g c d a,pi T b H c e/\je T b H g/\Ua T b H d v/\f d c=some a/\∀ st',pi T b H a st'->Q st' H
noncomputable def Ń(T:Tb)(f:List D->Ev->Option Ev):lz:=λg e H Q=>∃ b h d c a,pi T b H d e/\je T b H h/\Ub T b H c g/\f c d=some a/\∀ st',pi T b H a st'->Q st' H
abbrev FG(T:Tb)(X:Cx)(t:Ya)(a:D->Ev->Option Ev):Prop:=PG X t (gD T a)
abbrev rH(T:Tb)(X:Cx)(b:List Ya)(a:List D->Ev->Option Ev):Prop:=qF X b (Ń T a)
noncomputable def We(i:Nat):D->Ev->Option Ev:=λd a=>some (a.set i (some d))
noncomputable def mr:List D->Ev->Option Ev
 |[],a=>some a
 |_::_,_=>none
noncomputable def ej(t:D->Ev->Option Ev)(u:List D->Ev->Option Ev):List D->Ev->Option Ev
 |[],_=>none
 |d::ds,b=>(t d b).bind λa=>u ds a
noncomputable def Jq(n:Nat)(t:List D->Ev->Option Ev):D->Ev->Option Ev
 | Ϗ ds,a=>if ds.length=n then t ds a else none
 |_,_=>none
def LO(c:X.N.Nodup)(g:X.N[i]?=some x)(l:Loc X.env.scope x)(f:X.fn x=true\/X.env.scope.names.lookup x=some .local:=by first|exact .inl rfl|exact .inr rfl|assumption):FG T X (ϟ x pos) (We i):=by
 intro a s m H v u Q I r h;obtain⟨p,q,ρ,d,n,b,o,e,k,j⟩:=h;cases k;exact D5 c g l f a s m H v u Q I r (j _ (b.set i e))
def Wx:rH T X [] mr:=by
 intro a s i H m j Q I r h;obtain⟨n,o,ρ,b,k,f,l,c,e,g⟩:=h;cases b with
 |nil=>cases e;rw[Ub]at c;subst c;exact ń a s i H [] j Q I r ⟨rfl,g _ f⟩
 |cons d b=>cases e
def Wp(q:FG T X e t)(x:rH T X c u)
  (B:(sf (e::c) X.env).map (·.2)=Pm e X.env::(sf c X.env).map (·.2):=by rfl):rH T X (e::c) (ej t u):=by
 intro a s C H G F Q I r h;obtain⟨n,σ,ρ,f,k,y,l,z,m,A⟩:=h;cases f with
 |nil=>cases m
 |cons d f=>
  obtain⟨v,w,rfl,i,j⟩:=z;obtain⟨b,o,p⟩:=aj.mp m;refine G5 q x B a s C H (v::w) F Q I r ⟨v,w,rfl,n,σ,ρ,d,b,y,l,i,o,λE g=>?_⟩;exact⟨n,σ,b,f,k,g,l,j,p,A⟩
def cy(m:X.Lc=true)(h:rH T X c t)
  (q:(sf c X.env).length=n:=by rfl) (f:(sf c X.env).findIdx? (·.1)=none:=by rfl):FG T X (ϵ c k pos) (Jq n t):=by
 intro b s z H v u Q I r y;obtain⟨B,C,ρ,d,g,l,x,o,a,w⟩:=y;cases d with
 |Xa ds=>
  obtain⟨p,A,rfl,j,i⟩:=o;unfold Jq at a;dsimp only at a;by_cases e:ds.length=n
  ·rw[ma e]at a;exact yns m h q f b s z H (ϕ p) u Q I r ⟨p,A,rfl,ui.of j,by rw[<-i.length];exact e,B,C,ρ,ds,g,l,x,i,a,w⟩
  ·rw[ra e]at a;cases a
 |_=>cases a
noncomputable def jE(b:D->Ev->Option Ev)(c:Ev)(d:D):M Fl:=match b d c with
 |some a=>ret (Ϛ a)
 |none=>cc
def SC(f:Ev->M D)(b:D->Ev->Option Ev):Ev->M Fl:=λa=>xs a (f a) (jE b a)
def hH(u:FE T X e f)(w:FG T X a t)(A:So [a] e pos.line X.env=pure false:=by rfl)(B:To [a] e X.env=pure none:=by rfl)
  (r:(sf [a] X.env).map (·.2)=[Pm a X.env]:=by rfl):FS T X (.Assign [a] e pos) (SC f t):=by
 intro c s E H D I y;refine SM u w A B r c s E H D I ?_;obtain⟨F,m,σ,h,z,x⟩:=y;refine⟨F,m,σ,h,z,x.xs h λd o l v G _ q p C b=>?_⟩;unfold jE at b;cases j:t d m with
 |none=>simp only[j]at b;exact b.elim
 |some n=>simp only[j]at b;exact⟨l,o,m,d,n,h.mono q,p,C,j,λk i=>Jc.here (g:=ϸ k) b p i⟩
def CW(x i d:D):M Unit:=λa=>match x,i with
 | U n,Z k=>(match gh a n with
  |some xs=>(match Kx xs.length k with
   |some j=>Y () (a.set n (ϔ (xs.set j d)))
   |none=>ϗ)
  |none=>ϗ)
 |_,_=>ϗ
def mF(b:Ev)(d x i:D):M Fl:=λc=>match CW x i d c with
 | Y _ a=>Y (Ϛ b) a
 |_=>ϗ
def nE(a:Ev)(b:Ev->M D)(d x:D):M Fl:=xs a (b a) (mF a d x)
def EG(a:Ev)(c b:Ev->M D)(d:D):M Fl:=xs a (c a) (nE a b d)
def KL(f c b:Ev->M D):Ev->M Fl:=λa=>xs a (f a) (EG a c b)
def XZ{K fi:Ev->M D}(ό:FE T X e f)(W:FE T X o K)(V:FE T X i fi)
  (R:∀ v,Pm (ϥ o i b) X.env v=(do
   let r <-Zg [v] (Ec o X.env);let y <-Zg [v,r] (Ec i X.env)
   Vk b
   Zg [v,r,y] (xx r y v)
   release [v,r,y] []):=by intro _;rfl)
  (hs:So [ϥ o i b] e pos.line X.env=pure false:=by rfl) (hw:To [ϥ o i b] e X.env=pure none:=by rfl)
  (q:(sf [ϥ o i b] X.env).map (·.2)=[Pm (ϥ o i b) X.env]:=by rfl):FS T X (.Assign [ϥ o i b] e pos) (KL f K fi):=by
 intro l s P H D I ϊ;refine SM ό (sQ W V zwu R) hs hw q l s P H D I ?_;obtain⟨μ,ρ,σ,g,hr,ϋ⟩:=ϊ;refine⟨μ,ρ,σ,g,hr,ϋ.xs g λd E B v H1 _ h r1 q1 p1=>?_⟩;refine⟨B,ρ,E,g.mono h,r1,p1.xs (g.mono h) λx F C vo H2 _ p r2 q2 p2=>?_⟩;refine⟨C,ρ,F,(g.mono h).mono p,r2,p2.xs ((g.mono h).mono p) λk G m vi J _ t ώ q3 c=>?_⟩;have S:=Ua.mono t _ _ (Ua.mono p _ _ q1);have hx:=Ua.mono t _ _ q2;unfold mF CW at c;cases x with
 |ref n=>
  cases k with
  |int k=>
   dsimp only at c;cases w:gh G n with
   |none=>rw[w]at c;exact c.elim
   |some xs=>
    rw[w]at c;dsimp only at c;cases u:Kx xs.length k with
    |none=>rw[u]at c;exact c.elim
    |some j=>
     rw[u]at c;obtain⟨a,Q,rfl,N,q,L⟩:=ώ.wa hx w;have A:=ώ.write (ob:=ϔ (xs.set j d)) N ⟨_,Ih,by
      have ex:Ge m J m (Nc J a (ϰ (Q.set j v))):=Jw (La N) q (λ_ z=>by cases z) (λ_ _ z=>by cases z);exact Ub.set (Ua.mono ex _ _ S) j (Ub.mono ex _ _ L)⟩
     exact⟨a,Q,k,j,rfl,pr q3,q,by rw[<-L.length];exact u,c _ (ϸ P) _ A.1 A.2 (((g.mono h).mono p).mono t |>.mono A.1)⟩
  |_=>exact c.elim
 |_=>exact c.elim
end
inductive uo where
 |seq (ds:List D)
 |Bm (n:Nat)
def uo.nx:uo->Nat->lb->Option (Option D)
 | .seq ds,i,_=>some ds[i]?
 | .Bm n,i,σ=>(gh σ n).map λxs=>xs[i]?
def tJ(T:Tb)(c:List Addr)(g:Hp)(a:uo)(J:It):Prop:=∀ b H f i,Ge c g b H->je T b H f->match a.nx i f with
 |none=>True
 |some none=>J.stop i H
 |some (some d)=>J.go i H/\∀ x e,J.MB i H x e->e=H/\Ua T b H d x
def tI(T:Tb)(X:Cx)(f:Ev->M uo):TI:=λb H R=>∃ a c d,pi T a H c b/\je T a H d/\Jc T (XE X b) (tJ T) a H (f c d) R
abbrev FI(T:Tb)(X:Cx)(b a:Ya)(f:Ev->M uo):Prop:=PI X b a (tI T X f)
noncomputable def kA(n:Nat):List D:=(List.range n).map λ(i:Nat)=>Z (i:Int)
noncomputable def jC(a:Int)(n:Nat):List D:=(List.range n).map λ(i:Nat)=>Z (a+(i:Int))
def Oz(d:D):M uo:=λa=>match d with
 | Ϗ ds=>Y (.seq ds) a
 | O ds=>Y (.seq ds) a
 | ϱ ns=>Y (.seq (ns.map Z)) a
 | U n=>(match gh a n with
  |some _=>Y (.Bm n) a
  |none=>ϗ)
 |_=>ϗ
def Bj(f:Ev->M D):Ev->M uo:=λa=>be (f a) Oz
def Bx(j:Int):Bool:=Lb (decide (-(2 ^ 62)<=j) && decide (j<2 ^ 62))
def mz(d:D):M uo:=λa=>match d with
 | Z j=>if Bx j=true then Y (.seq (kA j.toNat)) a else ϗ
 |_=>ϗ
def Vx(f:Ev->M D):Ev->M uo:=λa=>be (f a) mz
def AF(a b:D):M uo:=λσ=>match a,b with
 | Z i,Z j=>if (Bx i && Bx j)=true then Y (.seq (jC i (j - i).toNat)) σ else ϗ
 |_,_=>ϗ
def jM(m:M D)(a:D):M uo:=be m (AF a)
def iI(f g:Ev->M D):Ev->M uo:=λa=>be (f a) (jM (g a))
section
variable{tg iter:Ya}{f:Ev->M D}
def t3(K:ϓ)(c:TE):TI:=λσ H R=>c σ H λx b=>∃ a,x=ϕ a/\(((∃ xs,ug K b a xs)/\R (RN K a) b)\/((∃ xs,ui K b a xs)/\R (oM K a) b))
def S5(k:PE X l j):PI X tg l (t3 X.K j):=by
 intro d s σ H R I h;refine Le (k d s σ H _ I h) λv s1 ſ=>?_;obtain⟨x,H1,c,n,i⟩:=ſ;obtain⟨a,e,i⟩:=i;subst e;cases n;rcases i with⟨⟨xs,g⟩,q⟩|⟨⟨xs,g⟩,q⟩
 ·obtain⟨its,r,p,m⟩:=c.list g;refine wq p.isList ?_;refine⟨s1.heap.objs.size,[s1.heap.objs.size],_,_,H1,rfl,c.kept λb o e=>ua _ e,j6 a _,⟨_,Db _ rfl,rfl,rfl⟩,λb f=>?_,q⟩;have e:b=s1.heap.objs.size:=by simpa using f
  subst e;exact c.Yr (Ea _) (c.Qd.fresh (Ea _))
 ·obtain⟨its,r,p,m⟩:=c.tuple g;refine xB (p) ?_;refine⟨s1.heap.objs.size,[s1.heap.objs.size],_,_,H1,rfl,c.kept λb o e=>ua _ e,L0 a _,⟨_,Db _ rfl,rfl,rfl⟩,λb f=>?_,q⟩;have e:b=s1.heap.objs.size:=by simpa using f
  subst e;exact c.Yr (Ea _) (c.Qd.fresh (Ea _))
def iX{K:ϓ}(h:∀ b f,Ge j n b f->∃ c,ug K f a c/\Ub T b f k c):tJ T j n (.seq k) (RN K a):=by
 intro b f p i ex r;obtain⟨c,l,o⟩:=h b f ex;show match some k[i]? with|none=>True|some none=>_|some (some d)=>_
 cases e:k[i]? with
 |none=>exact⟨c,l,by rw[<-o.length];exact Mb.mp e⟩
 |some d=>
  obtain⟨v,g,m⟩:=o.get e;refine⟨⟨c,v,l,g⟩,λx q y=>?_⟩;obtain⟨rfl,y⟩:=y;have:=y c l;rw[g]at this;cases this;exact⟨rfl,m⟩
def h9{K:ϓ}(h:∀ b f,Ge j n b f->∃ c,ui K f a c/\Ub T b f k c):tJ T j n (.seq k) (oM K a):=by
 intro b f p i ex r;obtain⟨c,l,o⟩:=h b f ex;show match some k[i]? with|none=>True|some none=>_|some (some d)=>_
 cases e:k[i]? with
 |none=>exact⟨c,l,by rw[<-o.length];exact Mb.mp e⟩
 |some d=>
  obtain⟨v,g,m⟩:=o.get e;refine⟨⟨c,v,l,g⟩,λx q y=>?_⟩;obtain⟨rfl,y⟩:=y;have:=y c l;rw[g]at this;cases this;exact⟨rfl,m⟩
def lq(M:T.K=X.K)(h:FE T X iter f):FI T X tg iter (Bj f):=by
 intro t s ό H R I Q;refine S5 h t s ό H R I ?_;obtain⟨W,ρ,σ,L,P,ώ⟩:=Q;refine⟨W,ρ,σ,L,P,ώ.bind λd C B v E _ ϊ w u c=>?_⟩;cases d with
 |Xa ds=>
  obtain⟨p,l,rfl,j,m⟩:=u;exact⟨p,rfl,ϖ ⟨⟨l,ui.of j⟩,Jc.here c w (h9 λb g ex=>⟨l,ui.of (ex.Xa _ _ j),Ub.mono ex _ _ m⟩)⟩⟩
 |wa ds=>
  obtain⟨p,l,rfl,N,j,m⟩:=u;exact⟨p,rfl,ϒ ⟨⟨l,ug.of j⟩,Jc.here c w (iX λb g ex=>⟨l,ug.of (ex.pj _ _ j N).1,Ub.mono ex _ _ m⟩)⟩⟩
 |rj ns=>
  obtain⟨p,rfl,j⟩:=u;have q:∀ b g,Ge B E b g->ug X.K g p (ns.map ϡ):=λb g ex=>by
   have m:Ua T b g (ϱ ns) (ϕ p):=Ua.mono ex _ _ (by rw[Ua];exact⟨p,rfl,j⟩);obtain⟨p',F,o⟩:=m;cases F;rw[<-M];exact o.seq
  exact⟨p,rfl,ϒ ⟨⟨_,q _ _ (ϯ _ _)⟩,Jc.here c w (iX λb g ex=>⟨_,q b g ex,eG ns⟩)⟩⟩
 |ref n=>
  unfold Oz at c;dsimp only at c;cases k:gh C n with
  |none=>rw[k]at c;exact c.elim
  |some xs=>
   rw[k]at c;obtain⟨a,l,rfl,_,j,m⟩:=w.wa u k;refine⟨a,rfl,ϒ ⟨⟨l,ug.of j⟩,Jc.here c w λb g z i ex S=>?_⟩⟩;show match (gh z n).map (λxs=>xs[i]?)with|none=>True|some none=>_|some (some d)=>_
   cases J:gh z n with
   |none=>trivial
   |some ys=>
    obtain⟨a',ws,G,_,o,D⟩:=S.wa (Ua.mono ex _ _ u) J;cases G;show match some (ys[i]?)with|none=>True|some none=>_|some (some d)=>_
    cases e:ys[i]? with
    |none=>exact⟨ws,ug.of o,by rw[<-D.length];exact Mb.mp e⟩
    |some d=>
     obtain⟨v,r,A⟩:=D.get e;refine⟨⟨ws,v,ug.of o,r⟩,λx ϋ y=>?_⟩;obtain⟨rfl,y⟩:=y;have:=y ws (ug.of o);rw[r]at this;cases this;exact⟨rfl,A⟩
 |_=>exact c.elim
def zk0(h:i<n):(kA n)[i]?=some (Z i):=by simp[kA,h]
def Y3(n:Nat):(kA n).length=n:=by simp[kA]
def U4(h:i<n):(jC a n)[i]?=some (Z (a+i)):=by simp[jC,h]
def ĸ(a:Int)(n:Nat):(jC a n).length=n:=by simp[jC]
def aM(h:Gl X "range")(o:X.mg "range" = none)(n:FE T X a f)(e:ya [a] X.env=[(false,Ec a X.env)]:=by rfl):FI T X tg (ϣ (ϟ "range" p) [a] [] l) (Vx f):=by
 intro g s z H R I t;refine r8 h o (Tw n Qz e) e g s z H R I ?_;obtain⟨A,ρ,σ,m,r,q⟩:=t;refine⟨A,ρ,σ,m,r,q.bind λd D B v G _ K w u b=>?_⟩;cases d with
 |int j=>
  subst u;unfold mz at b;dsimp only at b;by_cases c:Bx j=true
  ·rw[ma c]at b;simp only[Bx,Ls,Na,Fc]at c;refine⟨j,rfl,c.1,c.2,Jc.here b w λC J E i ex L=>?_⟩;show match some (kA j.toNat)[i]? with|none=>True|some none=>_|some (some d)=>_
   by_cases k:i<j.toNat
   ·rw[zk0 k];refine⟨k,λx F y=>?_⟩;obtain⟨rfl,rfl⟩:=y;exact⟨rfl,by rw[Ua,Int.zero_add]⟩
   ·rw[Mb.mpr (by rw[Y3];omega)];exact px.mp k
  ·rw[ra c]at b;exact b.elim
 |_=>exact b.elim
def δ(n:Gl X "range")(C:X.mg "range" = none)(A:FE T X a f)(B:FE T X b g)(l:ya [a,b] X.env=[(false,Ec a X.env),(false,Ec b X.env)]:=by rfl)(c:ya [b] X.env=[(false,Ec b X.env)]:=by rfl) :
  FI T X tg (ϣ (ϟ "range" p) [a,b] [] q) (iI f g):=by
 intro m s P H R I G;refine zov n C (Tw A (Tw B Qz c) (by rw[l,c])) l c m s P H R I ?_;obtain⟨Q,ρ,σ,u,F,E⟩:=G;refine⟨Q,ρ,σ,u,F,E.bind λd t r v ϊ _ z N K J=>⟨r,ρ,t,u.mono z,N,J.bind λw V S v2 H2 _ e2 ώ L e=>?_⟩⟩;cases d with
 |int i=>
  cases w with
  |int j=>
   subst K;subst L;unfold AF at e;dsimp only at e;by_cases h:(Bx i && Bx j)=true
   ·rw[ma h]at e;simp only[Bx,Ls,Na,Fc]at h;refine⟨i,j,rfl,⟨h.1.1,h.1.2,h.2.1,h.2.2⟩,Jc.here e ώ λό H3 W k ex r3=>?_⟩;show match some (jC i (j - i).toNat)[k]? with|none=>True|some none=>_|some (some d)=>_
    by_cases o:k<(j - i).toNat
    ·rw[U4 o];refine⟨o,λx ϋ y=>?_⟩;obtain⟨rfl,rfl⟩:=y;exact⟨rfl,by rw[Ua]⟩
    ·rw[Mb.mpr (by rw[ĸ];omega)];exact px.mp o
   ·rw[ra h]at e;exact e.elim
  |_=>exact e.elim
 |_=>exact e.elim
end
noncomputable def Gx(k:Ev->M Fl):Fl->M Fl
 | Ϛ a=>k a
 | .ct a=>k a
 | .bk a=>ret (Ϛ a)
 | Ϯ d=>ret (Ϯ d)
 | .xc b x=>ret (.xc b x)
def Zn(e:D->Ev->Option Ev)(a:Ev->M Fl):List D->Ev->M Fl
 |[],b=>ret (Ϛ b)
 |d::ds,b=>match e d b with
  |none=>cc
  |some c=>be (a c) (Gx (Zn e a ds))
def Ez(e:D->Ev->Option Ev)(a:Ev->M Fl)(n:Nat):Nat->Nat->Ev->M Fl
 |0,_,_=>cc
 |k+1,i,f=>λc=>match gh c n with
  |none=>ϗ
  |some xs=>match xs[i]? with
   |none=>Y (Ϛ f) c
   |some d=>match e d f with
    |none=>ϗ
    |some b=>be (a b) (Gx (Ez e a n k (i+1))) c
def nJ(b:D->Ev->Option Ev)(a:Ev->M Fl)(c:Ev):uo->M Fl
 | .seq ds=>Zn b a ds c
 | .Bm n=>Ez b a n 1001 0 c
def Xv(b:Ev->M uo)(d:D->Ev->Option Ev)(a:Ev->M Fl):Ev->M Fl:=λc=>xs c (b c) (nJ d a c)
section
def uK{D:Al}(l:je T d f h)(e:Ko T d f j g)(i:Jc T EN (Ko T) d f (Gx k j h) (zn X D))
  (m:∀ b a,pi T d f b a->Jc T EN (Ko T) d f (k b h) (zn X D)->N a f):zn X { D with nx:=N,ct:=N,bk:=D.nx } g f:=by
 cases j with
 |nx b=>cases g with
  |nx a=>exact m b a e i
  |_=>exact e.elim
 |ct b=>cases g with
  |ct a=>exact m b a e i
  |_=>exact e.elim
 |bk b=>cases g with
  |bk a=>have z:zn X D (ϸ a) f:=Jc.here i l e;exact z
  |_=>exact e.elim
 |rt o=>cases g with
  |rt v2=>have z:=Jc.here i l e;exact z
  |_=>exact e.elim
 |xc b x=>cases g with
  |xc a c n=>have z:=Jc.here i l e;exact z
  |_=>exact e.elim
variable{tgt iter:Ya}{body:List Stmt}{src:Ev->M uo}{t:D->Ev->Option Ev}{g:Ev->M Fl}{pos:Re}
def Zx(V:Cr (model X.prog X.w) X.A X.env X.xe)(hc:X.Lc=true)(hi:FI T X tgt iter src)(hg:FG T X tgt t)(hb:um T X body g)
  (hs:∀ x,Eh iter X.env x=pure x:=by intro _;rfl):FS T X (.For tgt iter body [] pos) (Xv src t g):=by
 intro Q s st H D I hq;refine XU V hc hi hg hb hs Q s st H D I ?_;obtain⟨e,ρ,q,S,hr,V⟩:=hq;refine⟨e,ρ,q,S,hr,V.xs S λsrc B k J ώ _ e1 r1 q1 p1=>?_⟩;cases src with
 |seq ds=>
  have K:Jc T EN (Ko T) k ώ (Zn t g ds ρ B) (zn X D):=p1;refine⟨λi m o b=>m=ds.length - i/\∃ e ρ q,Ge k ώ e b/\pi T e b ρ o/\je T e b q/\Jc T EN (Ko T) e b (Zn t g (ds.drop i) ρ q) (zn X D),⟨ds.length,by simp,k,ρ,B,ϯ _ _,S.mono e1,r1,by simpa using K⟩,?_⟩;rintro i m o b ⟨rfl,f,u,j,ex,r,z,c⟩;have so:=q1 f b j i ex z;have a:match (some ds[i]?)with|none=>True|some none=>J.stop i b|some (some d)=>J.go i b/\∀ x P,J.MB i b x P->P=b/\Ua T f b d x:=so
  cases C:ds[i]? with
  |none=>
   rw[C]at a;rw[At (Mb.mp C)]at c;exact ϒ ⟨a,Jc.here (g:=ϸ o) c z r⟩
  |some d=>
   rw[C]at a;obtain⟨hl,ed⟩:=aa.mp C;have hd:ds.drop i=d::ds.drop (i+1):=by rw[<-ed];exact(Ig hl)
   rw[hd]at c;unfold Zn at c;refine ϖ ⟨a.1,λp l=>∃ e ρ q,Ge k ώ e l/\pi T e l ρ p/\je T e l q/\Jc T EN (Ko T) e l (Zn t g (ds.drop (i+1)) ρ q) (zn X D),λp l h=>⟨ds.length - (i+1),by omega,rfl,h⟩,λx l y=>?_⟩;obtain⟨rfl,W⟩:=a.2 x l y;cases G:t d u with
   |none=>rw[G]at c;exact c.elim
   |some v=>
    rw[G]at c;exact⟨f,j,u,d,v,r,z,W,G,λp E=>⟨f,v,j,E,z,c.bind λfl N L gl H4 _ ό R ϊ p4=>uK R ϊ p4 λM a0 F ϋ=>⟨L,M,N,ex.trans ό,F,R,ϋ⟩⟩⟩
 |Bm n=>
  have K:Jc T EN (Ko T) k ώ (Ez t g n 1001 0 ρ B) (zn X D):=p1;refine⟨λi m o b=>∃ e ρ q,Ge k ώ e b/\pi T e b ρ o/\je T e b q/\Jc T EN (Ko T) e b (Ez t g n m i ρ q) (zn X D),⟨1001,k,ρ,B,ϯ _ _,S.mono e1,r1,K⟩,?_⟩;rintro i m o b ⟨f,u,j,ex,r,z,c⟩;cases m with
  |zero=>exact c.elim
  |succ m=>
   unfold Ez at c;have so:=q1 f b j i ex z;have a:match ((gh j n).map λxs=>xs[i]?)with|none=>True|some none=>J.stop i b|some (some d)=>J.go i b/\∀ x P,J.MB i b x P->P=b/\Ua T f b d x:=so
   cases el:gh j n with
   |none=>simp only[el]at c;exact c.elim
   |some xs=>
    simp only[el]at c a;cases C:xs[i]? with
    |none=>
     simp only[C,Po]at c a;exact ϒ ⟨a,Jc.here (g:=ϸ o) c z r⟩
    |some d=>
     simp only[C,Po]at c a;refine ϖ ⟨a.1,λp l=>∃ e ρ q,Ge k ώ e l/\pi T e l ρ p/\je T e l q/\Jc T EN (Ko T) e l (Ez t g n m (i+1) ρ q) (zn X D),λp l h=>⟨m,Vd _,h⟩,λx l y=>?_⟩;obtain⟨rfl,W⟩:=a.2 x l y;cases G:t d u with
     |none=>simp only[G]at c;exact c.elim
     |some v=>
      simp only[G]at c;exact⟨f,j,u,d,v,r,z,W,G,λp E=>⟨f,v,j,E,z,c.bind λfl N L gl H4 _ ό R ϊ p4=>uK R ϊ p4 λM a0 F ϋ=>⟨L,M,N,ex.trans ό,F,R,ϋ⟩⟩⟩
end
mutual
def cl:D->Bool
 | Ϗ xs=>fh xs
 | O xs=>fh xs
 | Ϫ _ xs=>fh xs
 | .obj _ _ xs=>fh xs
 | U _=>false
 | ϛ=>true
 | ϐ _=>true
 | Z _=>true
 | ύ _=>true
 | ϱ _=>true
 | .Du _=>true
 | .gt _=>true
def fh:List D->Bool
 |[]=>true
 |d::ds=>cl d && fh ds
end
noncomputable def Io(f:D->Option D):List D->Option (List D)
 |[]=>some []
 |d::ds=>match f d,Io f ds with
  |some x,some xs=>some (x::xs)
  |_,_=>none
def fz(k:Nat)(a:lb):Nat->D->Option D
 |0,d=>if cl d=true then some d else match d with
  | U n=>if n<k then some (U n)else none
  |_=>none
 |m+1,d=>if cl d=true then some d else match d with
  | U n=>if n<k then some (U n)else match a[n]? with
   |some (ϔ xs)=>(Io (fz k a m) xs).map O
   |some (ϑ b)=>(Io (fz k a m) (b.map (·.2))).map (Ϫ (b.map (·.1)))
   |some (Ϙ c e)=>(Io (fz k a m) (e.map (·.2))).map (.obj c (e.map (·.1)))
   |some (.ig _)=>none
   |some (.Bl _)=>none
   |none=>none
  | Ϗ xs=>(Io (fz k a m) xs).map Ϗ
  | O xs=>(Io (fz k a m) xs).map O
  | Ϫ ks xs=>(Io (fz k a m) xs).map (Ϫ ks)
  | .obj c ns xs=>(Io (fz k a m) xs).map (.obj c ns)
  |_=>none
open Classical in
def mi(b:lb):Fm D->Fm D
 | Y d a=>if a.take b.length=b then (match fz b.length a 6 d with
  |some c=>Y c b
  |none=>ϗ)else ϗ
 | .ex x a=>if a.take b.length=b then .ex x b else ϗ
 | ϗ=>ϗ
def Qc(f:M D):M D:=λa=>mi a (f a)
section
variable{T:Tb}{μ μ':List Addr}{H H':Hp}{σ σ':lb}
mutual
theorem BM(e:∃ r,μ'=μ++r):∀ (d:D) (v:V),cl d=true->Ua T μ' H d v->Ua T μ H d v
 | ϛ,v,_,h=>by simpa [Ua]using h
 | ϐ b,v,_,h=>by simpa [Ua]using h
 | Z i,v,_,h=>by simpa [Ua]using h
 | ύ x,v,_,h=>by simpa [Ua]using h
 | Ϗ ds,v,c,h=>by
  rw[Ua]at h ⊢;obtain⟨p,l,f,g,j⟩:=h;exact⟨p,l,f,g,UE e ds l (by simpa [cl]using c) j⟩
 | ϱ ns,v,_,h=>by rw[Ua]at h ⊢;exact h
 | U n,v,c,h=>by simp[cl]at c
 | O ds,v,c,h=>by
  rw[Ua]at h ⊢;obtain⟨a,l,f,g,j,m⟩:=h;exact⟨a,l,f,λz=>g (by obtain⟨r,rfl⟩:=e;exact Bb _ z),j,UE e ds l (by simpa [cl]using c) m⟩
 | Ϫ ks ds,v,c,h=>by
  rw[Ua]at h ⊢;obtain⟨a,l,f,g,j,o,m⟩:=h;exact⟨a,l,f,λz=>g (by obtain⟨r,rfl⟩:=e;exact Bb _ z),j,o,UE e ds _ (by simpa [cl]using c) m⟩
 | .obj k ns ds,v,c,h=>by
  rw[Ua]at h ⊢;obtain⟨a,u,l,f,g,j,o,m⟩:=h;exact⟨a,u,l,f,λz=>g (by obtain⟨r,rfl⟩:=e;exact Bb _ z),j,o,UE e ds _ (by simpa [cl]using c) m⟩
 | .Du k,v,_,h=>by
  rw[Ua]at h ⊢;obtain⟨a,t,f,g,j,m⟩:=h;exact⟨a,t,f,λz=>g (by obtain⟨r,rfl⟩:=e;exact Bb _ z),j,λn q=>let ⟨s,w,y,A⟩:=m n q;⟨s,w,λz=>y (by obtain⟨r,rfl⟩:=e;exact Bb _ z),A⟩⟩
 | .gt ss,v,_,h=>by rw[Ua]at h ⊢;exact h
theorem UE(e:∃ r,μ'=μ++r):∀ (a:List D) (b:List V),fh a=true->Ub T μ' H a b->Ub T μ H a b
 |[],b,_,h=>by simpa [Ub]using h
 |d::a,b,c,h=>by
  rw[Ub]at h ⊢;obtain⟨v,r,g,i,j⟩:=h;have f:cl d=true/\fh a=true:=by simpa [fh,Na]using c
  exact⟨v,r,g,BM e d v f.1 i,UE e a r f.2 j⟩
end
mutual
theorem Ua.down(e:∃ r,μ'=μ++r):∀ (d:D) (v0 v:V),Ua T μ H d v0->Ua T μ' H' d v->Ua T μ H' d v
 | ϛ,v0,v,_,h=>by simpa [Ua]using h
 | ϐ b,v0,v,_,h=>by simpa [Ua]using h
 | Z i,v0,v,_,h=>by simpa [Ua]using h
 | ύ x,v0,v,_,h=>by simpa [Ua]using h
 | Ϗ ds,v0,v,c,h=>by
  rw[Ua]at h c ⊢;obtain⟨p,m,g,f,l⟩:=h;obtain⟨G,j,_,_,w⟩:=c;exact⟨p,m,g,f,Ub.down e ds j m w l⟩
 | ϱ ns,v0,v,_,h=>by rw[Ua]at h ⊢;exact h
 | U n,v0,v,c,h=>by
  rw[Ua]at h c ⊢;obtain⟨a,g,f⟩:=h;obtain⟨b,_,u⟩:=c;refine⟨a,g,?_⟩;obtain⟨r,rfl⟩:=e;rw[zb (aa.mp u).1]at f;exact f
 | O ds,v0,v,c,h=>by
  rw[Ua]at h c ⊢;obtain⟨a,m,g,f,l,o⟩:=h;obtain⟨_,j,_,_,_,s⟩:=c;exact⟨a,m,g,λz=>f (by obtain⟨r,rfl⟩:=e;exact Bb _ z),l,Ub.down e ds j m s o⟩
 | Ϫ ks ds,v0,v,c,h=>by
  rw[Ua]at h c ⊢;obtain⟨a,m,g,f,l,t,o⟩:=h;obtain⟨_,j,_,_,_,_,s⟩:=c;exact⟨a,m,g,λz=>f (by obtain⟨r,rfl⟩:=e;exact Bb _ z),l,t,Ub.down e ds _ _ s o⟩
 | .obj k ns ds,v0,v,c,h=>by
  rw[Ua]at h c ⊢;obtain⟨a,B,m,g,f,l,t,o⟩:=h;obtain⟨_,_,j,_,_,_,_,s⟩:=c;exact⟨a,B,m,g,λz=>f (by obtain⟨r,rfl⟩:=e;exact Bb _ z),l,t,Ub.down e ds _ _ s o⟩
 | .Du k,v0,v,_,h=>by
  rw[Ua]at h ⊢;obtain⟨a,A,g,f,l,o⟩:=h;exact⟨a,A,g,λz=>f (by obtain⟨r,rfl⟩:=e;exact Bb _ z),l,λn q=>let ⟨y,C,E,F⟩:=o n q;⟨y,C,λz=>E (by obtain⟨r,rfl⟩:=e;exact Bb _ z),F⟩⟩
 | .gt ss,v0,v,_,h=>by rw[Ua]at h ⊢;exact h
theorem Ub.down(e:∃ r,μ'=μ++r):∀ (b:List D) (a f:List V),Ub T μ H b a->Ub T μ' H' b f->Ub T μ H' b f
 |[],a,f,_,h=>by simpa [Ub]using h
 |d::b,a,f,c,h=>by
  rw[Ub]at h c ⊢;obtain⟨v,r,j,k,l⟩:=h;obtain⟨m,r0,_,g,i⟩:=c;exact⟨v,r,j,Ua.down e d m v g k,Ub.down e b r0 r i l⟩
end
theorem RG{f:Type}(e:∃ r,μ'=μ++r):∀ {xs:List (f × D)} {g h:List (f × V)},Paired (λ(p:f × D) (q:f × V)=>p.1=q.1/\Ua T μ H p.2 q.2) xs h->Paired (λ(p:f × D) (q:f × V)=>p.1=q.1/\Ua T μ' H' p.2 q.2) xs g->Paired (λ(p:f × D) (q:f × V)=>p.1=q.1/\Ua T μ H' p.2 q.2) xs g
 |_,_,_,Ϥ,Ϥ=>Ϥ
 |_,_,_,Ϡ a b,Ϡ c d=>Ϡ ⟨c.1,Ua.down e _ _ _ a.2 c.2⟩ (RG e b d)
theorem Sq.down(e:∃ r,μ'=μ++r):∀ {o:Ob},Sq T μ H a o->Sq T μ' H' a o->Sq T μ H' a o
 | ϔ ds,⟨_,_,c⟩,⟨b,h,r⟩=>⟨b,h,Ub.down e _ _ _ c r⟩
 | ϑ f,⟨_,_,c⟩,⟨b,h,r⟩=>⟨b,h,RG e c r⟩
 | Ϙ c i,⟨_,_,_,d⟩,⟨g,b,h,r⟩=>⟨g,b,h,RG e d r⟩
 | .ig f,⟨_,_,_,d⟩,⟨ob,b,h,r⟩=>⟨ob,b,h,RG e d r⟩
 | .Bl ks,_,⟨b,h,r⟩=>⟨b,h,r⟩
def je.down(r0:je T μ H σ)(r:je T μ' H' σ')(e:Ge μ H μ' H')(m:σ'.take σ.length=σ):je T μ H' σ/\Ge μ H μ H':=by
 refine⟨⟨r0.len,r0.nd,λn o h=>?_,r.tb.sub λb k=>by obtain⟨z,rfl⟩:=e.pre;exact Bb _ k⟩,⟨⟨[],by simp⟩,e.Xa,e.Qc,λp o h n=>⟨(e.keep p o h n).1,n⟩⟩⟩;obtain⟨a,d,g⟩:=r0.obs n o h;have f:σ'[n]?=some o:=by
  have l:=(aa.mp h).1;rw[<-m,Qr l]at h;exact h
 obtain⟨b,i,j⟩:=r.obs n o f;have c:=e.get d;rw[i]at c;cases c;exact⟨a,d,g.down e.pre j⟩
theorem UO{c:Type}:∀ {xs:List (c × D)} {d:List (c × V)},Paired (λ(p:c × D) (q:c × V)=>p.1=q.1/\Ua T μ H p.2 q.2) xs d->d.map (·.1)=xs.map (·.1)/\Ub T μ H (xs.map (·.2)) (d.map (·.2))
 |_,_,Ϥ=>⟨rfl,Ub.nil⟩
 |_,_,Ϡ a b=>by
  obtain⟨e,f⟩:=UO b;exact⟨by simp[e,a.1],Ub.cons a.2 f⟩
theorem KP{f:D->Option D}(j:∀ d i v,f d=some i->Ua T μ' H d v->Ua T μ H i v):∀ (b a:List D) (e:List V),Io f b=some a->Ub T μ' H b e->Ub T μ H a e
 |[],a,e,h,r=>by cases h;simpa [Ub]using r
 |d::b,a,e,h,r=>by
  unfold Io at h;cases c:f d with
  |none=>rw[c]at h;cases h
  |some x=>
   cases g:Io f b with
   |none=>rw[c,g]at h;cases h
   |some xs=>
    rw[c,g]at h;cases h;obtain⟨v,w,rfl,k,l⟩:=r;exact Ub.cons (j d x v c k) (KP j b xs w g l)
def pV(e:∃ r,μ'=μ++r)(r:je T μ' H σ'):∀ (m:Nat) (d A:D) (v:V),fz μ.length σ' m d=some A->Ua T μ' H d v->Ua T μ H A v:=by
 have F:∀ n v,n<μ.length->Ua T μ' H (U n) v->Ua T μ H (U n) v:=λn v l h=>by
  obtain⟨a,j,f⟩:=h;obtain⟨q,rfl⟩:=e;rw[zb l]at f;exact⟨a,j,f⟩
 intro m;induction m with
 |zero=>
  intro d A v h k;unfold fz at h;by_cases x:cl d=true
  ·rw[ma x]at h;cases h;exact BM e _ _ x k
  ·rw[ra x]at h;cases d with
   |ref n=>
    dsimp only at h;by_cases l:n<μ.length
    ·rw[ma l]at h;cases h;exact F n v l k
    ·rw[ra l]at h;cases h
   |_=>cases h
 |succ m Q=>
  intro d A v h k;unfold fz at h;by_cases x:cl d=true
  ·rw[ma x]at h;cases h;exact BM e _ _ x k
  ·rw[ra x]at h;have w:=KP (λd A v a b=>Q d A v a b);cases d with
   |ref n=>
    dsimp only at h;by_cases l:n<μ.length
    ·rw[ma l]at h;cases h;exact F n v l k
    ·rw[ra l]at h;cases J:σ'[n]? with
     |none=>rw[J]at h;cases h
     |some o=>
      rw[J]at h;obtain⟨a,rfl,ώ,y⟩:=r.at k J;have out:a ∉ μ:=λz=>by
       obtain⟨i,N⟩:=Pu z;obtain⟨q,rfl⟩:=e;have P:=(aa.mp N).1;have:=gO r.nd (by rw[zb P];exact N) ώ;omega
      cases o with
      |wa xs=>
       obtain⟨ys,j,f⟩:=Ra.mp h;subst f;obtain⟨g,C,E⟩:=y;exact⟨a,g,rfl,out,C,w xs ys g j E⟩
      |Qb M=>
       obtain⟨ys,j,f⟩:=Ra.mp h;subst f;obtain⟨g,C,E⟩:=y;obtain⟨K,L⟩:=UO E;exact⟨a,g,rfl,out,(ϒ C),K,w _ ys _ j L⟩
      |yc c R=>
       obtain⟨ys,j,f⟩:=Ra.mp h;subst f;obtain⟨G,g,C,E⟩:=y;obtain⟨K,L⟩:=UO E;exact⟨a,G,g,rfl,out,C,K,w _ ys _ j L⟩
      |ig M=>cases h
      |Bl _=>cases h
   |Xa xs=>
    obtain⟨ys,j,f⟩:=Ra.mp h;subst f;obtain⟨p,g,s,t,u⟩:=k;exact⟨p,g,s,t,w xs ys g j u⟩
   |wa xs=>
    obtain⟨ys,j,f⟩:=Ra.mp h;subst f;obtain⟨p,g,s,B,t,u⟩:=k;exact⟨p,g,s,λz=>B (by obtain⟨r,rfl⟩:=e;exact Bb _ z),t,w xs ys g j u⟩
   |Qb ks xs=>
    obtain⟨ys,j,f⟩:=Ra.mp h;subst f;obtain⟨p,g,s,B,t,I,u⟩:=k;exact⟨p,g,s,λz=>B (by obtain⟨r,rfl⟩:=e;exact Bb _ z),t,I,w xs ys _ j u⟩
   |obj c ks xs=>
    obtain⟨ys,j,f⟩:=Ra.mp h;subst f;obtain⟨p,G,g,s,B,t,I,u⟩:=k;exact⟨p,G,g,s,λz=>B (by obtain⟨r,rfl⟩:=e;exact Bb _ z),t,I,w xs ys _ j u⟩
   |_=>cases h
def Jc.Qc{E:XK}{f:M D}{Q:V->Hp->Prop}(r:je T μ H σ)(h:Jc T E (Ua T) μ H (Qc f σ) Q):Jc T E (Ua T) μ H (f σ) Q:=by
 unfold L4.Qc at h;cases e:f σ with
 |cc=>rw[e]at h;exact h
 |ex x a=>
  rw[e]at h;unfold mi at h;dsimp only at h;by_cases b:a.take σ.length=σ
  ·rw[ma b]at h;intro m i c g;obtain⟨l,j⟩:=je.down r g c b;exact h μ i j l
  ·rw[ra b]at h;exact h.elim
 |ok d a=>
  rw[e]at h;unfold mi at h;dsimp only at h;by_cases b:a.take σ.length=σ
  ·rw[ma b]at h;cases k:fz σ.length a 6 d with
   |none=>rw[k]at h;exact h.elim
   |some n=>
    rw[k]at h;intro m v i c g o;obtain⟨l,j⟩:=je.down r g c b;exact h μ v i j l (pV c.pre g 6 d n v (by rw[r.len];exact k) o)
  ·rw[ra b]at h;exact h.elim
end
def qj(f:Ev->M D):Ev->M D:=λa=>Qc (f a)
def Cq(h:FE T X e f):FE T X e (qj f):=by
 intro a s i H Q I g;obtain⟨j,k,l,c,b,d⟩:=g;exact h a s i H Q I ⟨j,k,l,c,b,Jc.Qc b d⟩
def DK(h c:Heap):Prop:=∀ (a:Nat) o,h.objs[a]?=some o->∃ b:Ad,c.objs[a]?=some b/\b.dict=o.dict
def DK.refl(h:Heap):DK h h:=λ_ o e=>⟨o,e,rfl⟩
def DK.trans(x:DK d f)(y:DK f g):DK d g:=λa o e=>by
 obtain⟨i,h,q⟩:=x a o e;obtain⟨c,b,j⟩:=y a i h;exact⟨c,b,j.trans q⟩
def DK.push(h:Heap)(o:Ad):DK h (h.push o):=λa u e=>by
 obtain⟨b,l⟩:=h;have e:=e;have c:=(Zd.mp e).1;refine⟨u,?_,rfl⟩;show (b.push o)[a]?=some u;rw[Array.getElem?_push_lt c];exact(Fi c).symm.trans e
def DK.update(h:Heap)(b:Addr)(g:∀ o,(f o).dict=o.dict):DK h (h.update b f):=λa u e=>by
 obtain⟨c,l⟩:=h;have e:=e;show ∃ i:Ad,(c.modify b f)[a]?=some i/\_;rw[Array.getElem?_modify];by_cases d:b=a
 ·rw[ma d,e];exact⟨f u,rfl,g u⟩
 ·rw[ra d];exact⟨u,e,rfl⟩
def DK.get(x:DK h b)(e:h.get? a=some o)(d:b.get? a=some c):c.dict=o.dict:=by
 obtain⟨u,f,g⟩:=x a o ((qx _ _ _).1 e).1;have:=((qx _ _ _).1 d).1;have z:=f.symm.trans this;cases z;exact g
structure KD{α:Type}(t:Qq α):Prop where
 out:∀ (M:Om) (Γ:PySem.Ctx) (Q:α->Re->ba->Prop) (E:Value->Re->ba->Prop) (p:Re) (s:ba),Sem.wp M Γ t Q E p s->Sem.wp M Γ t (λa p' s'=>Q a p' s'/\DK s.heap s'.heap) (λe p' s'=>E e p' s'/\DK s.heap s'.heap) p s
namespace KD
variable{α β:Type}
def jv(a:α):KD (Pure.pure a:Qq α):=⟨λ_ _ _ _ _ s h=>⟨h,.refl _⟩⟩
def Sw(w:String):KD (PySem.unsupported w:Qq α):=⟨λ_ _ _ _ _ _ h=>h⟩
def be(g:KD m)(e:∀ a,KD (f a)):KD (m >>= f):=⟨λM b Q E p s h=>by
 rw[xo]at h ⊢;refine Av M b m (λa c d z=>?_) (λ_ _ _ z=>z) p s (g.out M b _ _ p s h);exact Av M b (f a) (λ_ _ _ q=>⟨q.1,z.2.trans q.2⟩) (λ_ _ _ q=>⟨q.1,z.2.trans q.2⟩) c d ((e a).out M b _ _ c d z.1)⟩
def Ap{c:Prop}[Decidable c]{t u:Qq α}(a:KD t)(b:KD u):KD (if c then t else u):=by split<;>assumption
def ld(a:Addr):KD (PySem.load a):=⟨λ_ _ _ _ _ _ h=>by obtain⟨o,b,h⟩:=h;exact⟨o,b,h,.refl _⟩⟩
def Nc(a:Addr)(b:∀ o,(f o).dict=o.dict):KD (PySem.update a f):=⟨λ_ _ _ _ _ _ h=>⟨h.1,h.2,.update _ _ b⟩⟩
def En:KD PySem.stack:=⟨λM a Q E p s h=>by
 exact⟨h,.refl _⟩⟩
def Gw(o:Ad):KD (PySem.alloc o):=⟨λ_ _ _ _ _ _ h=>⟨h,.push _ _⟩⟩
def fld(v:Value)(i:Nat):KD (PySem.field v i):=⟨λ_ g Q E p s h=>by
 rw[sx]at h ⊢;obtain⟨a,o,f,x,b,c,d,e,h⟩:=h;exact⟨a,o,f,x,b,c,d,e,h,.refl _⟩⟩
def set(v:Value)(i:Nat)(x:Value):KD (PySem.setField v i x):=⟨λ_ m Q E p s h=>by
 rw[jK]at h ⊢;obtain⟨a,o,k,e,f,g,j,h⟩:=h;exact⟨a,o,k,e,f,g,j,h,.update _ _ λo=>by obtain⟨c,d,b,l⟩:=o;cases b<;>rfl⟩⟩
end KD
def v5(a:zh)(l:List zh):KD (dP a l):=by unfold dP;(repeat' with_reducible first|assumption|exact KD.jv _|exact KD.Sw _|exact KD.fld _ _|exact KD.set _ _ _|exact KD.ld _|exact KD.Nc _ (λ_=>rfl)|exact KD.En|exact KD.Gw _|apply KD.Ap|apply KD.be|intro _|split)
def P5:KD underTheClaimsCaller:=by unfold underTheClaimsCaller;(repeat' with_reducible first|assumption|exact KD.jv _|exact KD.Sw _|exact KD.fld _ _|exact KD.set _ _ _|exact KD.ld _|exact KD.Nc _ (λ_=>rfl)|exact KD.En|exact KD.Gw _|apply KD.Ap|apply KD.be|intro _|split)
def M2(a:zh)(i:Bool)(l:List zh):KD (keptBack a i l):=by
 have:=P5;cases l<;>unfold keptBack<;>(repeat' with_reducible first|assumption|exact KD.jv _|exact KD.Sw _|exact KD.fld _ _|exact KD.set _ _ _|exact KD.ld _|exact KD.Nc _ (λ_=>rfl)|exact KD.En|exact KD.Gw _|apply KD.Ap|apply KD.be|intro _|split)
theorem yP:∀ l:List zh,KD (readyFrames l)
 |[]=>KD.jv _
 |env::l=>by
  have c:=yP l;have b:=v5 env l;have a:=λi=>M2 env i l;unfold readyFrames
  (repeat' with_reducible first|assumption|exact KD.jv _|exact KD.Sw _|exact KD.fld _ _|exact KD.set _ _ _|exact KD.ld _|exact KD.Nc _ (λ_=>rfl)|exact KD.En|exact KD.Gw _|apply KD.Ap|apply KD.be|intro _|split)
  all_goals first|exact a _|skip
def yb6(l:List zh):KD (frameObject l):=by
 cases l with
 |nil=>exact KD.jv _
 |cons env l=>
  have:=yP (env::l);unfold frameObject
  (repeat' with_reducible first|assumption|exact KD.jv _|exact KD.Sw _|exact KD.fld _ _|exact KD.set _ _ _|exact KD.ld _|exact KD.Nc _ (λ_=>rfl)|exact KD.En|exact KD.Gw _|apply KD.Ap|apply KD.be|intro _|split)
def yb5:KD frameEnvs:=by unfold frameEnvs;(repeat' with_reducible first|assumption|exact KD.jv _|exact KD.Sw _|exact KD.fld _ _|exact KD.set _ _ _|exact KD.ld _|exact KD.Nc _ (λ_=>rfl)|exact KD.En|exact KD.Gw _|apply KD.Ap|apply KD.be|intro _|split)
def ķ(a:zh):KD (PySem.frameOf a):=by
 have c:=yb5;have b:=yb6;unfold PySem.frameOf
 (repeat' with_reducible first|assumption|exact KD.jv _|exact KD.Sw _|exact KD.fld _ _|exact KD.set _ _ _|exact KD.ld _|exact KD.Nc _ (λ_=>rfl)|exact KD.En|exact KD.Gw _|apply KD.Ap|apply KD.be|intro _|split)
 all_goals first|exact b _|skip
def Č(f:Addr)(b:Bool):KD (entryPlaceOf f b):=by unfold entryPlaceOf;(repeat' with_reducible first|assumption|exact KD.jv _|exact KD.Sw _|exact KD.fld _ _|exact KD.set _ _ _|exact KD.ld _|exact KD.Nc _ (λ_=>rfl)|exact KD.En|exact KD.Gw _|apply KD.Ap|apply KD.be|intro _|split)
def oZ(a b c d e:Value)(l:List Value):KD (Er a b c d e l):=by
 unfold Er newFields newObj newObjAsIs
 (repeat' with_reducible first|assumption|exact KD.jv _|exact KD.Sw _|exact KD.fld _ _|exact KD.set _ _ _|exact KD.ld _|exact KD.Nc _ (λ_=>rfl)|exact KD.En|exact KD.Gw _|apply KD.Ap|apply KD.be|intro _|split)
def Ő(e:Value)(a:zh):KD (Bh e a):=by
 have d:=ķ a;have b:=Č;have c:=oZ;unfold Bh
 (repeat' with_reducible first|assumption|exact KD.jv _|exact KD.Sw _|exact KD.fld _ _|exact KD.set _ _ _|exact KD.ld _|exact KD.Nc _ (λ_=>rfl)|exact KD.En|exact KD.Gw _|apply KD.Ap|apply KD.be|intro _|split)
 all_goals first|exact b _ _|exact c _ _ _ _ _ _|skip
def B4(e:Value)(f:Option Addr):KD (uk e f):=by unfold uk;(repeat' with_reducible first|assumption|exact KD.jv _|exact KD.Sw _|exact KD.fld _ _|exact KD.set _ _ _|exact KD.ld _|exact KD.Nc _ (λ_=>rfl)|exact KD.En|exact KD.Gw _|apply KD.Ap|apply KD.be|intro _|split)
def fX{M:Om}{t:Qq e}{Q:e->ba->Prop}(k:KD t)(h:wpAny M A t Q E s):wpAny M A t (λa d=>Q a d/\DK s.heap d.heap) E s:=
 λc p b=>Av M c t (λ_ _ _ z=>z) (λ_ _ _ z=>z.1) p s (k.out M c _ _ p s (h c p b))
section
variable{P:Ia}{w:qb}{H H':Hp}{h h':Heap}{a:Addr}{o:HO}
def GX(x:fm P w H h a o):∃ u,h.get? a=some u:=by
 cases o with
 |wa xs=>obtain⟨_,_,_,_,e⟩:=x;exact⟨_,e⟩
 |Xa xs=>obtain⟨_,_,_,d,e,_⟩:=x;exact⟨_,e⟩
 |dK b=>obtain⟨_,_,_,_,o,_,_,e,_⟩:=x;exact⟨_,e⟩
 |dT b=>obtain⟨_,_,_,_,o,_,_,e,_⟩:=x;exact⟨_,e⟩
 |set S n=>obtain⟨o,_,_,_,e,_⟩:=x;exact⟨_,e⟩
 |yc C g c=>obtain⟨_,_,_,e,_⟩:=x;exact⟨_,e⟩
 |own y=>obtain⟨_,e⟩:=x;exact⟨_,e⟩
 |xd c=>obtain⟨_,⟨_,_,_,e,_⟩,_⟩:=x;exact⟨_,e⟩
 |lI lo i=>obtain⟨_,_,_,e⟩:=x;exact⟨_,e⟩
 |Qc d u=>obtain⟨e,_⟩:=x;exact⟨_,e⟩
 |mo ps=>exact⟨_,x⟩
 |met f y=>exact⟨_,x⟩
 |ext j=>obtain⟨_,⟨_,e⟩,_⟩:=x;exact⟨_,e⟩
def sK(x:xj P w H h)(k:∀ b o u,H b=some o->h.get? b=some u->h'.get? b=some u):xj P w H h':=λb o e=>
 (x b o e).Rl (λc v a q=>by
  rcases a with rfl|a
  ·exact k _ _ _ e q
  ·exact k _ _ _ a q) (λ_ q=>q) λ_ _ q=>q
end
section
variable{pins:List (Addr × Ad)}{st:St}{H H':Hp}{s s':ba}{cls:Value}{h':Heap}{ea:Addr}{args:List Value}{M:Om}{E:Value->ba->Prop}{Q:Unit->ba->Prop}
def fZ(x:lD B l ea cls a h):Mq B l ea cls a h:=⟨x.1,x.2.1,x.2.2.1,ϒ ⟨Wc,x.2.2.2.at⟩⟩
def Mq.there(x:Mq B l ea cls b h):∃ a,h.get? ea=some a/\a.cls=cls:=by
 obtain⟨_,_,_,⟨f,q⟩|⟨c,g,d,e,_⟩⟩:=x
 ·exact q.there
 ·exact⟨c,d,e⟩
def Mq.ON(x:Mq B l ea cls d h)(c:h.get? ea=some o):∃ a,o.data=ϫ a:=by
 obtain⟨_,_,_,⟨k,g,a,T,oT,n,f,b,e,_⟩|⟨g,a,i,m,j,_⟩⟩:=x
 ·cases f.symm.trans c;exact⟨a,e⟩
 ·cases i.symm.trans c;exact⟨a,j⟩
def mG.next(x:mG a ea B h b H')(k:DK h h')(e:∃ o,h'.get? ea=some o):mG a ea B h' b H':=λn q=>by
 obtain⟨c,oD,i,d,f,g⟩:=x n q;obtain⟨o,e⟩:=e;exact⟨c,oD,o,e,(k.get d e).trans f,g⟩
def vM(x:Mq B l ea cls d s.heap)(i:∀ a,Mq B l ea cls d a->s.heap.UpToSlots a->DK s.heap a->Q () { s with heap:=a }):wpAny M A (uk (jc ea) none) Q E s:=by
 obtain⟨f,g,h,⟨y,c⟩|c⟩:=x
 ·have k:wpAny M A (uk (jc ea) none) (λ_ s'=>∃ a,s'={ s with heap:=a }/\Mq B l ea cls d a/\s.heap.UpToSlots a) E s:=
   wpAny_setFlight_noneW f h c λa p q r t=>⟨a,rfl,fZ ⟨p,g,q,r⟩,λb o e n=>⟨o.slots,t b o e n⟩⟩
  exact Pc (fX (B4 _ _) k) (λ_ _ ⟨⟨a,e,u,v⟩,w⟩=>by subst e;exact i a u v w) λ_ _ z=>z
 ·obtain⟨G,H,m,D,j,F,C,a⟩:=id c;refine ga (Jm m j a ?_);exact za (i s.heap ⟨f,g,h,ϖ c⟩ (.refl _) (.refl _))
def U5(w:A.frames=some (c::a))(u:c.frame=some L)(x:Mq B (c::a) ea cls m s.heap)
  (K:∀ h,Rq B (c::a) ea cls m L h->s.heap.UpToSlots h->Q () { s with heap:=h }):wpAny M A (Bh (jc ea) c) Q E s:=by
 obtain⟨H,z,I,⟨C,r⟩|r⟩:=x
 ·by_cases hm:C=Tf L
  ·subst hm;exact wpAny_noteFrame_againW u r (K s.heap ⟨H,z,I,r⟩ (.refl _))
  ·obtain⟨ό,W,T,oT,ts,l,N,j,h,y,i,D,d,ϊ⟩:=r;have V:3<ts.size:=(Zd.mp ϊ).1;have f:∀ b,b≠T->(s.heap.update T (nj (·.setIfInBounds 3 Wc))).get? b=s.heap.get? b:=λb F=>Fj _ _ (yf F);have nr:∀ b o,s.heap.get? b=some o->(∀ v,o.data≠ ϫ v)->b≠T:=λb o F hn q=>by
    rw[q,D]at F;cases F;exact hn ts d
   have g:=ju (nj (·.setIfInBounds 3 Wc)) D (Obj.isFreed_of_fields (Km d _));have up:s.heap.UpToSlots (s.heap.update T (nj (·.setIfInBounds 3 Wc))):=λb o e n=>⟨o.slots,(f b (nr b o e n)).trans e⟩
   have F0:lD B (c::a) ea cls m (s.heap.update T (nj (·.setIfInBounds 3 Wc))):=
    ⟨λb o e=>(f b λq=>by rw[q,y]at e;cases e).trans (H b o e),z,I.of_keeps λb o e n=>⟨o,(f b (nr b o e n)).trans e,rfl⟩,
     ό,W,T,_,_,(f ea (yf i)).trans l,N,j,h,y,i,g,Km d _,by simp[V]⟩
   have P:=wpAny_looks_onW (M:=M) (E:=E) (s:={ s with heap:=s.heap.update T (nj (·.setIfInBounds 3 Wc)) }) w u F0 λh2 q1 q2=>K h2 q1 (up.trans q2);intro Γ p ώ;have k:=P Γ p ώ;unfold Bh at k ⊢;simp only[u]at k ⊢;rw[xo,sx]at k ⊢;obtain⟨a1,R,v1,x1,e1,g1,ϋ,i1,k⟩:=k;cases e1;have t:s.heap.get? ea=some R:=(f ea (yf i)).symm.trans g1;have S:R=ό:=by rw[l]at t;cases t;rfl
   subst S;rw[j]at ϋ;cases ϋ;rw[h]at i1;cases i1;refine⟨ea,R,W,jc T,rfl,l,j,h,?_⟩;have nn:(jc T != Wc)=true:=by simp
   simp only[nn,Yh]at k ⊢;rw[xo,sx]at k ⊢;obtain⟨a2,o2,v2,x2,e2,g2,d2,i2,k⟩:=k;cases e2;have J:=g.symm.trans g2;cases J;have G:=(Km d (·.setIfInBounds 3 Wc)).symm.trans d2;cases G;have X:x2=Wc:=by
    have:(ts.setIfInBounds 3 Wc)[3]?=some Wc:=by simp[V]
    rw[this]at i2;cases i2;rfl
   subst X;refine⟨T,oT,ts,C,rfl,D,d,ϊ,?_⟩;have n1:(Wc == Tf L)=false:=by simp[Tf]
   have n2:(C == Tf L)=false:=by
    cases q:C == Tf L with
    |false=>rfl
    |true=>exact absurd (Dh.mp q) hm
   simp only[n1,n2,ew,Rr]at k ⊢;rw[xo,jK]at k ⊢;obtain⟨a3,o3,v3,e3,g3,d3,i3,k⟩:=k;cases e3;refine⟨T,oT,ts,rfl,D,d,V,?_⟩;simp only[Heap.update_setField_twice]at k;exact k
 ·obtain⟨ό,W,l,N,j,hz,h0,h⟩:=r;unfold Bh;simp only[u];refine ga (Jm l j h ?_);refine wpAny_entryW (base:=B) (outer:=a) (a0:=m) w I u l H z j hz h0 λh4 hN=>?_;obtain⟨k1,k2,k3,k4⟩:=hN;rw[N]at k3;exact K h4 ⟨k1,z,k2,k3⟩ k4
def HQ(f:A.frames=some (b::a))(j:b.frame=some L)(x:Mq B (b::a) ea cls d s.heap)
  (i:∀ c,Rq B (b::a) ea cls d L c->s.heap.UpToSlots c->DK s.heap c->Q () { s with heap:=c }):wpAny M A (Bh (jc ea) b) Q E s:=by
 have k:wpAny M A (Bh (jc ea) b) (λ_ s'=>∃ c,s'={ s with heap:=c }/\Rq B (b::a) ea cls d L c/\s.heap.UpToSlots c) E s:=U5 f j x λc g h=>⟨c,rfl,g,h⟩
 exact Pc (fX (Ő _ _) k) (λ_ _ ⟨⟨c,e,g,h⟩,l⟩=>by subst e;exact i c g h l) λ_ _ z=>z
def UU(x:Rq B l ea cls a L h):Mq B l ea cls a h:=⟨x.1,x.2.1,x.2.2.1,ϒ ⟨_,x.2.2.2⟩⟩
def Ο(d:A.frames=some (b::a))(h:b.frame=some L)(x:Mq B (b::a) ea cls e s.heap)
  (g:∀ c,Mq B a ea cls e c->s.heap.UpToSlots c->DK s.heap c->Q () { s with heap:=c }):wpAny M A (leaving b (jc ea)) Q E s:=by
 refine ga (HQ d h x λc m n o=>?_);refine vM (UU m) λf p q r=>?_;obtain⟨i,j,⟨_,_,k⟩,l⟩:=p;exact g f ⟨i,j,k,l⟩ (n.trans q) (o.trans r)
def eI(c:X.stack=X.env::X.outer)(a:X.env.frame=some X.env.locals):b∈Hk X.stack ↔ b=X.env.locals\/b∈Hk X.outer:=by
 rw[c];unfold Hk;rw[di,a];exact Ma
def Q2(I:Ab X pins st H s)(m:X.stack=X.env::X.outer)(l:X.env.frame=some X.env.locals)(p:X.ex=[])(d:Un (Hk X.stack) [] H H' s.heap f):Un (Hk X.outer) [] X.H₀ H' X.s₀.heap f:=by
 have a:∀ b,b ∉ X.ex:=λb z=>by rw[p]at z;cases z
 have i:∀ b o,X.s₀.heap.get? b=some o->b≠X.env.locals:=λb o e=>Wa (gb (Fa e) I.ok.above);refine⟨λb o e n g _=>?_,λb o e n g _=>?_,λb o e n _=>?_,λb o e _=>?_,λb xs e=>d.Mj b xs (I.base.Mj b xs e),λb o u e=>d.Ki b o u (I.base.Ki b o u e),λb ps e=>?_⟩
 ·exact d.keep b o (I.base.keep b o e n g (a b)) (I.base.free b o e n (a b)) (λz=>((eI m l).mp z).elim (i b o e) g) (by simp)
 ·obtain⟨t,c⟩:=I.base.slot b o e n g (a b);obtain⟨k,h⟩:=d.slot b _ c (I.base.free b o e n (a b)) ((eI m l).mpr (ϖ g)) (by simp);exact⟨k,h⟩
 ·obtain⟨j,c⟩:=I.base.there b o e (a b);exact d.free b j c (I.base.free b o e n (a b)) (by simp)
 ·obtain⟨j,c⟩:=I.base.there b o e (a b);exact d.there b j c (by simp)
 ·obtain⟨q,c⟩:=I.base.uj b ps e;obtain⟨r,h⟩:=d.uj b _ c;exact⟨q++r,by rw[h,Sl]⟩
def QG(F:MA P w a H s cls x H' e s'){B:Heap}(z:∀ b o,s.heap.get? b=some o->H b=none->b ∉ Hk a->B.get? b=some o)(A:∀ b o,H' b=some o->∃ v,B.get? b=some v)
  (y:∀ b o,s.heap.get? b=some o->b ∉ Hk a->∃ g,B.get? b=some g) (p:∀ b o,B.get? b=some o->s'.heap.get? b=some o) (f:∀ b o,B.get? b=some o->l.get? b=some o) (j:s'.heap.UpToSlots l) (i:∀ b∈Hk a,∃ o,s.heap.get? b=some o/\(∀ E,o.data≠ ϫ E)/\H b=none) :
  Un (Hk a) [] H H' s.heap l/\xj P w H' l:=by
 refine⟨⟨λb o e n d _=>f b o (z b o e n d),λb o e n d t=>?_,F.un.free,λb o e t=>?_,F.un.Mj,F.un.Ki,F.un.uj⟩,sK F.Qd λb o u e q=>?_⟩
 ·obtain⟨D,c⟩:=F.un.slot b o e n d t;obtain⟨g,h,r,_⟩:=i b d;rw[e]at h;cases h;obtain⟨k,m⟩:=j b _ c r;exact⟨k,m⟩
 ·by_cases d:b∈Hk a
  ·obtain⟨g,h,r,C⟩:=i b d;rw[e]at h;cases h;obtain⟨D,c⟩:=F.un.slot b o e C d t;obtain⟨k,m⟩:=j b _ c r;exact⟨_,m⟩
  ·obtain⟨g,c⟩:=y b o e d;exact⟨g,f b g c⟩
 ·obtain⟨v,c⟩:=A b o e;have:=p b v c;rw[q]at this;cases this;exact f b _ c
def uH(I:Ab X pins st H s):∀ b∈Hk X.stack,∃ o,s.heap.get? b=some o/\(∀ d,o.data≠ ϫ d)/\H b=none:=λb a=>by
 obtain⟨_,o,e,c⟩:=I.stack.mem a;exact⟨o,e,c,I.Hl b a⟩
def ztr(I:Ab X pins st H s)(f:X.stack=X.env::X.outer)(k:X.env.frame=some X.env.locals)(c:X.ex=[])(F:MA X.prog X.w X.stack H s cls l H' e s')
  (ώ:∀ i,MA X.prog X.w X.outer X.H₀ X.s₀ cls l H' e i->Q () i):wpAny M X.A (leaving X.env e) Q E s':=by
 obtain⟨ea,y,B,rfl,D,P,d,K,J,G,N⟩:=F.ex;have m:Mq B (X.env::X.outer) ea cls y s'.heap:=by rw[<-f];exact D
 refine Ο (by rw[<-f];exact I.ok.frames) k m λp x ό V=>ώ _ ?_;obtain⟨T,t⟩:=QG F J K G D.1 x.1 ό (uH I);have a:∀ b,b ∉ X.ex:=λb z=>by rw[c]at z;cases z
 have g:∀ b o,X.s₀.heap.get? b=some o->b≠X.env.locals:=λb o e=>Wa (gb (Fa e) I.ok.above);have h:∀ b,s.heap.get? b=none->X.s₀.heap.get? b=none:=λb e=>by
  cases q:X.s₀.heap.get? b with
  |none=>rfl
  |some u=>obtain⟨v,C⟩:=I.base.there _ _ q (a _);rw[e]at C;cases C
 have r:mG l ea B p X.s₀.heap H':=λn q=>by
  obtain⟨L,oD,S,W,ϋ,ϊ,z4,z5,z6⟩:=N.next V (let ⟨o,e,_⟩:=x.there;⟨o,e⟩) n q;exact⟨L,oD,S,W,ϋ,ϊ,z4,z5,h _ z6⟩
 refine⟨⟨ea,y,B,rfl,x,P,?_,K,λb o e n j=>?_,λb o e j=>?_,r⟩,F.os.trans I.os,F.bare,Q2 I f k c T,t⟩
 ·cases q:X.s₀.heap.get? ea with
  |none=>rfl
  |some u=>obtain⟨v,e⟩:=I.base.there _ _ q (a _);rw[d]at e;cases e
 ·exact J b o (I.base.keep b o e n j (a b)) (I.base.free b o e n (a b)) λz=>((eI f k).mp z).elim (g b o e) j
 ·obtain⟨R,q⟩:=I.base.there b o e (a b);exact G b R q λz=>((eI f k).mp z).elim (g b o e) j
end
def Z7{P:Ia}{w:qb}{K:ϓ}{m:Str->Option Value}{d:Heap}{N:List Str}{g:Str}{c:Scope}{f:Addr}{l:Value}{A:Za}{b:List zh}{s:ba}{H:Hp}{E:XK}{o:St}{a:Value}{j:Option Nat}{i:Hp}
  (h:E a j i):IC (Gq (Yl P w) P w K m d N g c f l A b s H E) o a j i where
 IJ:=λk p s1 e q I F=>ztr I rfl rfl rfl F λn G=>⟨a,j,i,G,h⟩
def IC.made(t:IC X r j none h)(I:Ab X d r h s)(c:Heap.MadeExcOf s.heap h' f j i):X.xe (jc f) { s with heap:=h' }:=by
 have w:=W.funFrames_hide I.stack (λl m a x=>jm.mpr ⟨l,m,x⟩);have g:∀ b o,s.heap.get? b=some o->b ∉ Hk X.stack->(W.hideAll s.heap (Hk X.stack)).get? b=some o:=λb o e n=>W.hideAll_get _ e n;obtain⟨B,m,A,C⟩:=c.there;have p:∀ b o,h b=some o->b ∉ Hk X.stack:=λb o e z=>by rw[I.Hl b z]at e;cases e
 have y:h f=none:=by
  cases q:h f with
  |none=>rfl
  |some u=>obtain⟨v,e⟩:=GX (I.Qd _ _ q);rw[c.new]at e;cases e
 refine t.IJ d h s (jc f) _ I ⟨⟨f,jc B,W.hideAll s.heap (Hk X.stack),rfl,⟨λb o q=>c.keeps b o (W.of_hideAll _ q),?_,w.of_keeps λb o e _=>⟨o,c.keeps b o e,rfl⟩,ϖ ⟨_,_,m,rfl,rfl,by simp,rfl,rfl⟩⟩,y,c.new,λb o e=>?_,λb o e n k=>g b o e k,λb o e k=>⟨o,g b o e k⟩,λn q=>by cases q⟩,rfl,I.bare,⟨λb o e n k _=>c.keeps b o e,λb o e n k _=>⟨o.slots,c.keeps b o e⟩,λb o e n _=>n,λb o e _=>⟨o,c.keeps b o e⟩,λ_ _ e=>e,λ_ _ _ e=>e,λb ps e=>⟨#[],by rw[e];simp⟩⟩,sK I.Qd λb o u e q=>c.keeps b u q⟩
 ·cases q:(W.hideAll s.heap (Hk X.stack)).get? f with
  |none=>rfl
  |some u=>have:=W.of_hideAll _ q;rw[c.new]at this;cases this
 ·obtain⟨u,q⟩:=GX (I.Qd _ _ e);exact⟨u,g b u q (p b o e)⟩
def du{K:ϓ} :
  Cr (model P w) (Gq (Yl P w) P w K g c N d b f e A a s H E).A (Gq (Yl P w) P w K g c N d b f e A a s H E).env (Gq (Yl P w) P w K g c N d b f e A a s H E).xe:=zaC
noncomputable def yy2:Fl->M D
 | Ϛ _=>ret ϛ
 | Ϯ d=>ret d
 | .xc _ x=>λa=>.ex x a
 |_=>cc
def bB:Fm Fl->Fm D
 | Y a σ=>yy2 a σ
 |_=>ϗ
def ae(n:Nat)(g:Ev->M Fl)(a:List D):M D:=λb=>bB (g (a.map some++List.replicate (n - a.length) none) b)
noncomputable def lr(T:Tb)(n:Nat)(f:List D->M D):Sp:=λd H Q E=>∃ b c a,Ub T b H a d/\a.length=n/\je T b H c/\Jc T E (Ua T) b H (f a c) Q
noncomputable def Kt(n:Nat)(f:List D->M D)(a:List D)(b:List D):M D:=if (b++a).length=n then f (b++a)else cc
def Ld(n:Nat)(f:List D->M D)(a:List D)(b:Ev->M (List D)):Ev->M D:=λc=>be (b c) (Kt n f a)
section
def č(h:Ub T j H a g):pi T j H (a.map some++List.replicate (N.length - a.length) none) (L2.Cw N g):=by
 have f:=h.length;refine⟨by simp[L2.Cw,f],λi d e=>?_⟩;by_cases c:i<a.length
 ·rw[zb (by simpa using c),Ta]at e;cases b:a[i]? with
  |none=>rw[b]at e;cases e
  |some x=>
   rw[b]at e;cases e;obtain⟨v,k,l⟩:=h.get b;refine⟨v,?_,l⟩;unfold L2.Cw;rw[zb (by simpa [<-f]using c),Ta,k];rfl
 ·rw[Bd (by simpa using c),Ws]at e;split at e<;>cases e
variable{k:Nat}{f C:Addr}{fd:Kf}{ps:List Str}{dvs:List V}{dval:List Value}{dds:List D}{x:Str}{p pos:Re}{e:Ya}{es:List Ya}{fn:List D->M D}{fs:Ev->M (List D)}{sp:Sp}{t:TA}
def vO(F:Ai X.prog X.w X.K X.mg X.base (Yl X.prog X.w) k f fd ps sp)(p:pe k X.A)(m:Ut X.K fd ps dval)(n:Pe dvs dval)
  (I:Ab X a g H s) (r:Pe vs b) (h:sp (vs++dvs) H Q (XE X g)):wpAny (model X.prog X.w) X.A (call (jc f) b) (EP X a g Q) X.xe s:=by
 have i:=r.append n;have o:(b++dval).length=ps.length:=by rw[<-i.length];exact F.len _ _ _ _ h
 refine Lp (Tk (F.ae X.A X.stack s H ⟨b,[]⟩ (b++dval) (vs++dvs) Q (XE X g) p I.yF (m s b I.Ak o) i h) λr t d=>?_);cases r with
 |error e=>obtain⟨j,fd,v,c,q⟩:=d;exact q.IJ a H s e t I c
 |ok l=>
  cases l with
  |ret u=>exact I.after d
  |next=>exact ϲ d
  |brk=>exact ϲ d
  |cont=>exact ϲ d
def yK(F:Ai X.prog X.w X.K X.mg X.base (Yl X.prog X.w) k f fd ps (lr T ps.length fn))(N:pe k X.A)(G:Gl X x)(L:X.mg x=some (jc f))(J:Ϻ X.K (jc f)=true)(C:Ut X.K fd ps dval)(D:Pe dvs dval)(g:∀ n H,Ub T n H dds dvs)
  (B:FA T X (e::es) fs) (d:(x == ("__debug__" : Str))=false:=by decide) (E:ya (e::es) X.env=(false,Ec e X.env)::ya es X.env:=by rfl) (j:(Cd pos (ya es X.env)).any (·.1)=false:=by rfl) :
  FE T X (ϣ (ϟ x p) (e::es) [] pos) (Ld ps.length fn dds fs):=by
 intro a s y H Q I h;refine wg (pC I G L ?_ d);obtain⟨n,ρ,σ,z,l,M⟩:=h;refine W.callWith_K I.ok.mod.Cz J (Le (B pos a s y H (λm c=>lr T ps.length fn (m++dvs) c Q (XE X y)) I ⟨n,ρ,σ,z,l,M.bind λv t o m c _ R P ώ b=>?_⟩) λus s1 ⟨m,c,u,r,q⟩=>⟨u.Ak,?_⟩) E j
 ·unfold Kt at b;by_cases i:(v++dds).length=ps.length
  ·rw[ma i]at b;exact⟨o,t,v++dds,ώ.append (g _ _),i,P,b⟩
  ·rw[ra i]at b;exact b.elim
 ·exact vO F N C D u r q
variable{P:Ia}{w:qb}{K:ϓ}{mg:Str->Option Value}{base:Heap}
def DC{e:Stmt}{G kV j J d ct oc:Value}{t:Array (Option Value)}
  (lk:K.lookup f=some ⟨oc,od,.func (ϭ x a c (Uj e) (jd e) G kV j J F d ct),t⟩) (r:W.codeIn K d a=true) (S:Ba N ps (jd e))
  (ϋ:∀ (A:Za) (b:List zh) (s:ba) (H:Hp) (E:XK),pe k (A.deeper (Og a (jd e) s.heap.objs.size f d))->um T (Gq (Yl P w) P w K mg base N a (jd e) f d A b s H E) (Uj e) g) :
  Ai P w K mg base (Yl P w) (k+1) f (ϭ x a c (Uj e) (jd e) G kV j J F d ct) ps (lr T ps.length (ae N.length g)):=by
 refine kS lk r S (λvs H Q E h=>?_) (λA b s H vs Q E ϊ h=>?_)
 ·obtain⟨L,C,n,q,I,_⟩:=h;rw[<-q.length];exact I
 ·obtain⟨L,C,n,q,I,X,i⟩:=h;refine⟨_,ϋ A b s H E ϊ,L,_,C,č q,X,?_⟩;unfold ae at i;cases o:g (n.map some++List.replicate (N.length - n.length) none) C with
  |cc=>rw[o]at i;exact i
  |ex x D=>rw[o]at i;exact i.elim
  |ok V D=>
   rw[o]at i;intro y p ώ R u l;have m:=i.mono R;cases V with
   |nx B=>cases p with
    |nx v=>have z:=Jc.here m u (by rw[Ua]);exact z
    |_=>exact l.elim
   |rt d2=>cases p with
    |rt v2=>have z:=Jc.here m u l;exact z
    |_=>exact l.elim
   |xc B x2=>cases p with
    |xc v c2 ό=>
     obtain⟨_,rfl,rfl⟩:=l;exact Z7 (m y ώ (ϯ _ _) u)
    |_=>exact l.elim
   |_=>exact m.elim
def ZG(F:Ai P w K mg base (Yl P w) k f fd ps (lr T ps.length fn)):Ai P w K mg base (Yl P w) k f fd ps (lr T ps.length (λa=>Qc (fn a))):=
 F.imp λj H Q E h=>by
  obtain⟨g,i,a,c,d,b,e⟩:=h;exact⟨g,i,a,c,d,b,Jc.Qc b e⟩
end
noncomputable def wk(d:zh)(a:List (Str × bg))(acc:List (Str × Addr)):List (Str × Addr):=
 a.foldl (λb y=>if (y.2 == Vb)=true then (match d.cells.lookup y.1 with|some c=>(y.1,c)::b|none=>b)else b) acc
theorem kN(b:zh):∀ (d:List (Str × bg)) (acc:List (Str × Addr)),(∀ y∈d,y.2=Vb->∃ c,b.cells.lookup y.1=some c)->
  (forIn d acc (λx (cs:List (Str × Addr))=>match x with|(name,kind)=>if (kind == Vb)=true then (do let a <-cellOf b name;pure (ForInStep.yield ((name,a)::cs)))else pure (ForInStep.yield cs)):Qq (List (Str × Addr)))=pure (wk b d acc)
 |[],acc,_=>rfl
 |(n,k)::r,acc,h=>by
  rw[List.forIn_cons];by_cases e:(k == Vb)=true
  ·obtain⟨c,i⟩:=h (n,k) Ha (by simpa using e);have j:cellOf b n=pure c:=by unfold cellOf;rw[i]
   simp only[e,j];show (forIn r ((n,c)::acc) _:Qq (List (Str × Addr)))=_;rw[kN b r ((n,c)::acc) λy g=>h y (Aa _ g)];have f:wk b ((n,k)::r) acc=wk b r ((n,c)::acc):=by
    unfold wk;rw[Xg];simp only[e,Yh,i]
   rw[f]
  ·simp only[e];show (forIn r acc _:Qq (List (Str × Addr)))=_;rw[kN b r acc λy g=>h y (Aa _ g)];have f:wk b ((n,k)::r) acc=wk b r acc:=by
    unfold wk;rw[Xg];simp only[e];rfl
   rw[f]
def UL(b:zh)(a:Scope)(h:∀ y∈a.names,y.2=Vb->∃ c,b.cells.lookup y.1=some c):closureFor a b=pure (wk b a.names []):=by
 have e:=kN b a.names [] h;unfold closureFor;simp only[bind_pure];exact e
theorem dM(a:zh):∀ (b:List (Str × bg)) (acc:List (Str × Addr)) (n:Str) (c:Addr),(∀ n c,acc.lookup n=some c->a.cells.lookup n=some c)->(wk a b acc).lookup n=some c->a.cells.lookup n=some c
 |[],acc,n,c,h,e=>h n c e
 |(y,k)::r,acc,n,c,h,e=>by
  refine dM a r _ n c (λn c q=>?_) e;by_cases g:(k == Vb)=true
  ·simp only[g,Yh]at q;cases d:a.cells.lookup y with
   |none=>rw[d]at q;exact h n c q
   |some i=>
    rw[d]at q;rw[Hb]at q;cases f:(n == y)with
    |true=>rw[f]at q;cases q;rw[eq_of_beq f];exact d
    |false=>rw[f]at q;exact h n c q
  ·simp only[g]at q;exact h n c q
theorem nX(a:zh):∀ (b:List (Str × bg)) (acc:List (Str × Addr)) (n:Str),(∃ c,acc.lookup n=some c)->∃ c,(wk a b acc).lookup n=some c
 |[],acc,n,h=>h
 |(y,k)::r,acc,n,h=>by
  refine nX a r _ n ?_;by_cases d:(k == Vb)=true
  ·simp only[d,Yh];cases f:a.cells.lookup y with
   |none=>exact h
   |some e=>
    rw[Hb];cases g:(n == y)with
    |true=>exact⟨e,rfl⟩
    |false=>exact h
  ·simp only[d];exact h
theorem OD(b:zh):∀ (a:List (Str × bg)) (acc:List (Str × Addr)) (n:Str),(n,Vb)∈a->(∃ c,b.cells.lookup n=some c)->∃ c,(wk b a acc).lookup n=some c
 |[],acc,n,h,_=>nomatch h
 |(y,k)::r,acc,n,h,d=>by
  rcases Ma.mp h with e|e
  ·cases e;refine nX b r _ _ ?_;obtain⟨c,d⟩:=d;refine⟨c,?_⟩;simp[d]
  ·exact OD b r _ n e d
theorem OK{a:zh}:∀ {c:List (Str × bg)} {x:Str} {k:bg},
  (c.map λ(n,k)=>if (k == Vb && a.scope.kind == Ϧ && a.kindOf n == some Jd)then (n,Jd)else (n,k)).lookup x=some k->∃ d,c.lookup x=some d/\(k=d\/(d=Vb/\k=Jd))
 |[],_,_,h=>by simp at h
 |(n,d)::r,x,k,h=>by
  have g:=@OK a r x k;have b:List.lookup x ((if (d == Vb && a.scope.kind == Ϧ && a.kindOf n == some Jd)=true then (n,Jd)else (n,d))::(r.map λ(n,k)=>if (k == Vb && a.scope.kind == Ϧ && a.kindOf n == some Jd)then (n,Jd)else (n,k)))=some k:=h;cases f:x == n with
  |true=>
   by_cases e:(d == Vb && a.scope.kind == Ϧ && a.kindOf n == some Jd)=true
   ·rw[ma e]at b;simp only[Hb,f]at b ⊢;cases b;simp only[Na]at e;exact⟨d,rfl,ϖ ⟨by simpa using e.1.1,rfl⟩⟩
   ·rw[ra e]at b;simp only[Hb,f]at b ⊢;cases b;exact⟨d,rfl,ϒ rfl⟩
  |false=>
   by_cases e:(d == Vb && a.scope.kind == Ϧ && a.kindOf n == some Jd)=true
   ·rw[ma e]at b;simp only[Hb,f]at b ⊢;exact g b
   ·rw[ra e]at b;simp only[Hb,f]at b ⊢;exact g b
theorem mQ{env:zh}:∀ {a:List (Str × bg)} {x:Str},a.lookup x=some Vb->
  (a.map λ(n,k)=>if (k == Vb && env.scope.kind == Ϧ && env.kindOf n == some Jd)then (n,Jd)else (n,k)).lookup x=some Jd\/
  (a.map λ(n,k)=>if (k == Vb && env.scope.kind == Ϧ && env.kindOf n == some Jd)then (n,Jd)else (n,k)).lookup x=some Vb
 |[],_,h=>by simp at h
 |(n,k)::r,x,h=>by
  have f:=@mQ env r x;have b:∀ z,List.lookup x ((if (k == Vb && env.scope.kind == Ϧ && env.kindOf n == some Jd)=true then (n,Jd)else (n,k))::(r.map λ(n,k)=>if (k == Vb && env.scope.kind == Ϧ && env.kindOf n == some Jd)then (n,Jd)else (n,k)))=z->
   (List.map (λ(n,k)=>if (k == Vb && env.scope.kind == Ϧ && env.kindOf n == some Jd)then (n,Jd)else (n,k)) ((n,k)::r)).lookup x=z:=λz e=>e
  cases c:x == n with
  |true=>
   simp only[Hb,c]at h;cases h;by_cases d:(Vb == Vb && env.scope.kind == Ϧ && env.kindOf n == some Jd)=true
   ·exact ϒ (b _ (by rw[ma d];simp only[Hb,c]))
   ·exact ϖ (b _ (by rw[ra d];simp only[Hb,c]))
  |false=>
   simp only[Hb,c]at h;have e:List.lookup x ((if (k == Vb && env.scope.kind == Ϧ && env.kindOf n == some Jd)=true then (n,Jd)else (n,k))::(r.map λ(n,k)=>if (k == Vb && env.scope.kind == Ϧ && env.kindOf n == some Jd)then (n,Jd)else (n,k))) =
     (r.map λ(n,k)=>if (k == Vb && env.scope.kind == Ϧ && env.kindOf n == some Jd)then (n,Jd)else (n,k)).lookup x:=by
    by_cases d:(k == Vb && env.scope.kind == Ϧ && env.kindOf n == some Jd)=true
    ·rw[ma d];simp only[Hb,c]
    ·rw[ra d];simp only[Hb,c]
   rcases f h with q|q
   ·exact ϒ (b _ (e.trans q))
   ·exact ϖ (b _ (e.trans q))
def Qx{a:List (Str × bg)}(h:a.lookup x=some k):(x,k)∈a:=Gf h
noncomputable def Uv(X:Cx)(b:List Str)(a:Scope)(cl:List (Str × Addr))(C:Addr)(s₀:ba)(H₀:Hp)(ex:List Addr):Cx:=
 { X with N:=b,s₀:=s₀,H₀:=H₀,env:=compEnvC a cl C X.env,outer:=X.stack,stack:=X.stack,ex:=ex,fn:=λ_=>false,pn:=[],xe:=λ_ _=>False }
structure ip(X:Cx)(x:Str)(M':List Str)(ix:List Nat)(scope:Scope):Prop where
 kind:scope.kind=Ϧ
 cell:(scope.names.all λy=>!(y.2 == Jd))=true
 names:(scope.names.all λy=>!(y.2 == .local) || scope.names.lookup y.1 == some .local)=true
 free:(scope.names.all λy=>!(y.2 == Vb) || (X.env.scope.names.lookup y.1 == some Jd || X.env.scope.names.lookup y.1 == some Vb))=true
 at_:ix.map (λi=>X.N[i]?)=M'.map some
 wQ:(M'.all λy=>(X.env.scope.names.lookup y == some Jd || X.env.scope.names.lookup y == some Vb) && scope.names.lookup y == some Vb)=true
noncomputable def GO(a:List Nat)(b:Ev):Ev:=none::a.map λi=>(b[i]?).getD none
noncomputable def vW(a:List Nat)(b:St):St:=none::a.map λi=>(b[i]?).getD none
theorem OR(f:List Nat)(h:pi T m H a k):pi T m H (GO f a) (vW f k):=by
 refine⟨by simp[GO,vW],λi d e=>?_⟩;cases i with
 |zero=>simp[GO]at e
 |succ j=>
  have b:(f.map λi=>(a[i]?).getD none)[j]?=some (some d):=e;rw[Ta]at b;cases l:f[j]? with
  |none=>rw[l]at b;cases b
  |some c=>
   rw[l]at b;have g:(a[c]?).getD none=some d:=Yb b;have n:a[c]?=some (some d):=by
    cases q:a[c]? with
    |none=>rw[q]at g;cases g
    |some o=>rw[q]at g;exact Dc some g
   obtain⟨v,p,r⟩:=h.2 c d n;refine⟨v,?_,r⟩;show (f.map λi=>(k[i]?).getD none)[j]?=_;rw[Ta,l];show some ((k[c]?).getD none)=_;rw[p];rfl
section
variable{pins:List (Addr × Ad)}{st:St}{H:Hp}{s:ba}{x:Str}{M':List Str}{ix:List Nat}{scope:Scope}{fp:List Addr}
def O0(L:ip X x M' ix scope)(y:Str × bg)(a:y∈scope.names)(e:y.2=Vb):X.env.kindOf y.1=some Jd\/X.env.kindOf y.1=some Vb:=by
 have q:=Pb.mp L.free y a;rw[e]at q;simp only[beq_self_eq_true,Bool.not_true,yB,fg]at q;rcases q with q|q
 ·exact ϒ (eq_of_beq q)
 ·exact ϖ (eq_of_beq q)
def gA(I:Ab X pins st H s)(L:ip X x M' ix scope):∀ y∈scope.names,y.2=Vb->∃ c,X.env.cells.lookup y.1=some c:=λy a e=>I.ok.has y.1 (O0 L y a e)
def fG(L:ip X x M' ix scope):∀ y∈scope.names,y.2≠ Jd:=λy a e=>by
 have q:=Pb.mp L.cell y a;rw[e]at q;simp at q
end
def Yp{a:Type}(m:M a):M a:=λb=>match m b with
 | .ex _ _=>ϗ
 |o=>o
def Jc.yw{E E0:XK}{R:List Addr->Hp->i->t->Prop}{o:List Addr->Hp->s->u->Prop}{m:M i}{k:i->M s}{Q:u->Hp->Prop}{n:t->Hp->Prop}
  (h:Jc T E o j H (be (Yp m) k σ) Q) (f:∀ a b c g d,m σ=Y a b->Ge j H c d->je T c d b->R c d a g->Jc T E o c d (k a b) Q->n g d):Jc T E0 R j H (m σ) n:=by
 unfold be Yp at h;cases e:m σ with
 |ok a b=>
  simp only[e]at h;exact λl g v p r q=>f a b l g v e p r q (h.mono p)
 |ex x b=>simp only[e]at h;exact h.elim
 |cc=>simp only[e]at h;exact h
def YE(T:Tb)(X:Cx)(b:List Ya)(f:Ev->M Bool):Prop:=
 ∀ (a:List (Addr × Ad)) (s:ba) (st:St) (H:Hp) (Q:Bool->Hp->Prop),Ab X a st H s->tT T X f st H Q->
  wpAny (model X.prog X.w) X.A (forIn b true λc r=>if r=true then do let ok <-BB c X.env (Ec c X.env);pure (ForInStep.yield ok)else pure (ForInStep.yield r)) (TP X a st Q) X.xe s
noncomputable def Cp:Ev->M Bool:=λ_=>ret true
def Nv:YE T X [] Cp:=by
 intro a s e H Q I h;obtain⟨f,g,i,d,c,b⟩:=h;exact wpAny_tests_nil ⟨H,I,Jc.here b c rfl⟩
def XG(h:FT T X c f):YE T X [c] f:=λa s d H Q I b=>wpAny_tests_one (h a s d H Q I b)
def yhe(u:Un i ex H g h j)(d:Gg C j k)(l:h.objs.size<=C):Un i ex H g h k:=by
 have f:∀ b o,h.get? b=some o->b≠C:=λb o e=>Wa (gb (Fa e) l);refine⟨λb o e n c a=>(d.2 b (f b o e)).trans (u.keep b o e n c a),λb o e n c a=>?_,u.free,λb o e a=>?_,u.Mj,u.Ki,u.uj⟩
 ·obtain⟨p,q⟩:=u.slot b o e n c a;exact⟨p,(d.2 b (f b o e)).trans q⟩
 ·obtain⟨m,q⟩:=u.there b o e a;exact⟨m,(d.2 b (f b o e)).trans q⟩
def zs3(ok:xj P w H d)(h:Gg C d f)(g:H C=none):xj P w H f:=λb i e=>by
 refine(ok b i e).Rl (λc j a q=>(h.2 c ?_).trans q) (λ_ q=>q) λ_ _ q=>q;rintro rfl;rcases a with rfl|a
 ·rw[g]at e;cases e
 ·rw[g]at a;cases a
def ã(r:je T b H σ)(c:b[n]?=some a)(d:Ua T b H y v)(h:Jc T E (Ua T) b H (Vm (U n) [y] σ) Q):oO (ϕ a) [v] H Q:=
 SF E b H σ (U n) [y] (ϕ a) [v] Q r (by rw[Ua];exact⟨a,rfl,c⟩) (Ub.cons d Ub.nil) h
def DI{m m':M b}{k:b->M c}(h:m a=m' a):be m k a=be m' k a:=by unfold be;rw[h]
theorem rO{m:M b}{k:b->M c}{l:c->M d}:be (be m k) l=be m λa=>be (k a) l:=by
 funext σ;unfold be;cases m σ<;>rfl
def uD(x y:D):M D:=λa=>match xh a x,xh a y with
 |some xs,some b=>if xs.length+b.length<=Ni then Y (O (xs++b)) a else ϗ
 |_,_=>ϗ
def Sh(x y:D):M D:=match x,y with
 | Z i,Z j=>ret (Z (i+j))
 | Ϗ xs,Ϗ c=>if xs.length+c.length<=Ni then ret (Ϗ (xs++c))else cc
 | ύ a,ύ b=>if a.length+b.length<=100000 then ret (ύ (a++b))else cc
 |x,y=>uD x y
def Y8(h:n<=100000):n<=sizeLine:=Fb h (by decide)
section
variable{a b c:Ya}{fa fb fc:Ev->M D}{pos:Re}
def r6{c:Ia}{t b:Addr}{ws:List Value}(u:iw s.heap t (#[]:Array Value))(p:iw s.heap b ws.toArray)(o:Q (jc b) s):wpAny (model c w) A (uf .Add (jc t) (jc b)) Q F s:=by
 obtain⟨⟨l,m,j,x⟩,k,q,n,r⟩:=id u;obtain⟨⟨i,e,d,h⟩,a,f,v,g⟩:=id p;subst q r f g;exact ax ⟨_,k,rfl⟩ ⟨_,a,rfl⟩ yr vv kj Ui (Ei _ _)
  (tuple_addW0 t b #[] ws.toArray n v m e x h rfl) ⟨k,a,o⟩
def RH{b:List (Addr × Ad)}(I:Ab X b h H s)(F:de v j)(C:de u i)(r:je T d H e)(z:Ua T d H x v)(B:Ua T d H y u)(a:Jc T E (Ua T) d H (uD x y e) Q) :
  wpAny (model X.prog X.w) X.A (uf .Add j i) (EP X b h Q) X.xe s:=by
 unfold uD at a;cases c:xh e x with
 |none=>rw[c]at a;exact a.elim
 |some xs=>
  cases f:xh e y with
  |none=>rw[c,f]at a;exact a.elim
  |some J=>
   rw[c,f]at a;dsimp only at a;by_cases g:xs.length+J.length<=Ni
   ·rw[ma g]at a;obtain⟨p,G,rfl,n,k⟩:=r.ls z c;obtain⟨q,ws,rfl,o,m⟩:=r.ls B f;exact U8 b s h H _ _ j i Q I F C ⟨p,q,G,ws,rfl,rfl,n,o,by rw[<-k.length,<-m.length];exact aB g,λl t=>sJ a r (Ub.append k m) t⟩
   ·rw[ra g]at a;exact a.elim
def Œ(S:T.K=X.K):ni X (uf .Add) (rD T Sh):=by
 intro d s B H v u D C Q I m k h;obtain⟨E,W,ϋ,x,y,r,f,g,c⟩:=h;cases x with
 |int i=>
  cases y with
  |int j=>exact ymz d s B H v u D C Q I m k ⟨i,j,pr f,pr g,Jc.here c r (by rw[Ua])⟩
  |_=>exact RH I m k r f g c
 |str a=>
  cases y with
  |str b=>
   unfold Sh at c;dsimp only at c;by_cases n:a.length+b.length<=100000
   ·rw[ma n]at c;exact ġ d s B H v u D C Q I m k ⟨a,b,by simpa [Ua]using f,by simpa [Ua]using g,Y8 n,Jc.here c r (by rw[Ua])⟩
   ·rw[ra n]at c;exact c.elim
  |_=>exact RH I m k r f g c
 |Xa xs=>
  cases y with
  |Xa L=>
   unfold Sh at c;dsimp only at c;by_cases n:xs.length+L.length<=Ni
   ·rw[ma n]at c;have z:=f;have A:=g;obtain⟨p,R,rfl,F,t⟩:=f;obtain⟨q,ws,rfl,G,w⟩:=g;cases R with
    |nil=>
     have o:xs=[]:=by have:=t.length;simpa using this
     subst o;cases m;cases k;obtain⟨its,N,ώ,_⟩:=L2.Ab.tuple I (ui.of F);obtain⟨J,ό,P,_⟩:=L2.Ab.tuple I (ui.of G);cases N;exact r6 ώ P ⟨ϕ q,H,I,rfl,Jc.here c r (by simpa using A)⟩
    |cons v0 V=>
     refine m5 d s B H _ _ D C Q I m k ⟨p,q,_,ws,rfl,rfl,ui.of F,ui.of G,by simp,?_,λe=>?_,λe l M=>?_⟩
     ·rw[<-t.length,<-w.length];exact aB n
     ·subst e;have o:L=[]:=by have:=w.length;simpa using this
      subst o;exact Jc.here c r (by simpa using z)
     ·exact NC c r (Ub.append t w) M
   ·rw[ra n]at c;exact c.elim
  |_=>exact RH I m k r f g c
 |_=>exact RH I m k r f g c
noncomputable def pL(a:D->D->M D)(c:M D)(y:D):D->M D:=xz (Ol (be c (a y)) (ret (ϐ false)))
def IK(o a:D->D->M D)(c:M D)(x y:D):M D:=be (o x y) (pL a c y)
def iL(o a:D->D->M D)(b c:M D)(x:D):M D:=be b (IK o a c x)
def zL(o d:D->D->M D)(a b c:Ev->M D):Ev->M D:=λρ=>be (a ρ) (iL o d (b ρ) (c ρ))
def M6{r K:R2}(ϋ:ni X (gc j) r)(hs:im T r o)(g:ni X (gc d) K)(i:im T K G)(S:FE T X a fa)(ό:FE T X b fb)(V:FE T X c fc)
  (W:lastMarks [j,d] [b,c]=false:=by with_unfolding_all rfl):FE T X (.Compare a [j,d] [b,c] pos) (zL o G fa fb fc):=by
 intro e s st H Q I h;refine É ϋ g S ό V W e s st H Q I ?_;obtain⟨μ,ρ,σ,f,hr,ϊ⟩:=h;refine⟨μ,ρ,σ,f,hr,ϊ.bind λx q l v H1 _ C r1 q1 p1=>⟨l,ρ,q,f.mono C,r1,p1.bind λy t m w N _ E r2 J p2=>?_⟩⟩;refine hs _ m N t x y v w _ r2 (Ua.mono E _ _ q1) J (p2.bind λz A n u H3 _ F L q3 p3=>?_);obtain⟨k,rfl,R,p4⟩:=UH q3 p3;refine⟨k,R,?_⟩;cases k with
 |true=>
  exact⟨n,ρ,A,((f.mono C).mono E).mono F,L,p4.bind λz B p u5 ώ _ P r5 q5 p5=>i _ p ώ B y z w u5 Q r5 (Ua.mono P _ _ (Ua.mono F _ _ J)) q5 p5⟩
 |false=>unfold Ol at p4;rw[ra Eb]at p4 ⊢;exact Jc.here p4 L (by rw[Ua])
def vf(a:pe k A):A.units+9<cLine:=by have:=a.un;omega
end
def Cg(K:ϓ)(d:Str->Option Value)(x:Str)(e:Stmt)(c:List Str):Prop:=
 ∃ f b,d x=some (jc f)/\Pz K x x e f b/\∀ a:List Value,a.length=c.length->bindArgs b ⟨a,[]⟩=pure (c.zip a)
def Se(T:Tb)(P:Ia)(w:qb)(e:Str->Option Value)(a:Heap)(k:Nat)(x:Str)(b:List Str)(g:List D->M D):Prop:=
 ∃ f d,e x=some (jc f)/\Ϻ T.K (jc f)=true/\(∀ c:List Value,c.length=b.length->bindArgs d ⟨c,[]⟩=pure (b.zip c))/\Ai P w T.K e a (Yl P w) k f d b (lr T b.length g)
section
def zrr(h:Se T X.prog X.w X.mg X.base k x ps g)(m:T.K=X.K)(t:pe k X.A)(r:Gl X x)
  (n:FA T X (e::a) i) (c:(x == ("__debug__" : Str))=false:=by decide) (q:ya (e::a) X.env=(false,Ec e X.env)::ya a X.env:=by rfl) (d:(Cd b (ya a X.env)).any (·.1)=false:=by rfl) :
  FE T X (ϣ (ϟ x p) (e::a) [] b) (Ld ps.length g [] i):=by
 obtain⟨f,u,s,l,o,j⟩:=h;rw[m]at l j;exact yK j t r s l (.all o) Ϥ (λ_ _=>Ub.nil) n c q d
variable{P:Ia}{w:qb}{K:ϓ}{mg:Str->Option Value}{base:Heap}{ca:Nat->Addr}{tx:Tx}
def RC(h:Cg K mg x c i)(S:Ba N i (jd c))
  (l:∀ (f:Addr) (a:Value) (A:Za) (b:List zh) (s:ba) (H:Hp) (E:XK),pe k (A.deeper (Og x (jd c) s.heap.objs.size f a))->um ⟨K,ca,tx⟩ (Gq (Yl P w) P w K mg base N x (jd c) f a A b s H E) (Uj c) g) :
  Se ⟨K,ca,tx⟩ P w mg base (k+1) x i (ae N.length g):=by
 obtain⟨f,p,m,F,d⟩:=h;obtain⟨q,r,kV,j,t,o,a,ct,n,rfl,lk,e⟩:=F.ex;exact⟨f,_,m,F.kp,d,DC lk e S (l f a)⟩
def Se.Qc{k:Nat}{x:Str}{b:List Str}{a:List D->M D}(h:Se T P w mg base k x b a):Se T P w mg base k x b (λc=>L4.Qc (a c)):=by
 obtain⟨f,d,e,g,i,j⟩:=h;exact⟨f,d,e,g,i,ZG j⟩
def jQ{kV d i b ct:Value}(X:K.In h)(G:h.Ns mainGlobals mg)
  (o:∀ (kV d i:Value) (g:Option Addr) (b ct:Value) (n:List Value),n.length=m.length->bindArgs (ϭ x x (aq e) (Uj e) (jd e) Wc kV d i g b ct) ⟨n,[]⟩=pure (m.zip n))
  (a:W.nsIn K mainGlobals x=some (some (jc f))) (l:K.lookup f=some ⟨p,q,.func (ϭ x x (aq e) (Uj e) (jd e) Wc kV d i g b ct),j⟩)
  (c:W.codeIn K b x=true) (k:Ϻ K (jc f)=true):Cg K mg x e m:=
 ⟨f,_,W.mg_of X G a,EX l c k,o kV d i g b ct⟩
def ë(X:K.In h)(G:h.Ns mainGlobals mg)(a:W.nsIn K mainGlobals x=some (some (Ck i t))):∃ t,mg x=some (Ck i t):=⟨t,W.mg_of X G a⟩
end
def eN(T:Tb)(P:Ia)(w:qb)(e:Str->Option Value)(k:Nat)(x:Str)(b:List Str)(g:List D->M D):Prop:=
 ∃ f d,e x=some (jc f)/\(∀ c:List Value,c.length=b.length->bindArgs d ⟨c,[]⟩=pure (b.zip c))/\∀ a:Heap,Ai P w T.K e a (Yl P w) k f d b (lr T b.length g)
def N2{K:ϓ}(h:Cg K j x d l)(S:Ba N l (jd d))
  (o:∀ (a:Heap) (f:Addr) (b:Value) (A:Za) (c:List zh) (s:ba) (H:Hp) (E:XK),pe k (A.deeper (Og x (jd d) s.heap.objs.size f b))->um ⟨K,m,tx⟩ (Gq (Yl P w) P w K j a N x (jd d) f b A c s H E) (Uj d) g) :
  eN ⟨K,m,tx⟩ P w j (k+1) x l (ae N.length g):=by
 obtain⟨f,t,p,F,e⟩:=h;obtain⟨u,v,kV,n,y,r,b,ct,q,rfl,lk,i⟩:=F.ex;exact⟨f,_,p,e,λa=>DC lk i S (o a f b)⟩
def đ{K:ϓ}(k:K.In h)(f:W.excIn K C c a=true) :
  ∃ g N x y n j z e m d o r s t u v A,h.get? C=some (excClassObj x y C N n g j z e m d o r s t u v a)/\h.Ns N A/\A "__init__" = none/\OwnTail h c g:=by
 unfold W.excIn at f;split at f
 ·rename_i o b M lk
  split at f
  ·rename_i B g r s t u w v i p
   have q:((((B=C/\w=a)/\b.hasDel=false)/\W.tailIn K c g=true)/\W.nsOkIn K b.ns=true)/\W.nsIn K b.ns "__init__" = some none:=by
    simpa using f
   obtain⟨⟨⟨⟨⟨D,E⟩,F⟩,G⟩,c5⟩,c6⟩:=q;subst D;subst E;obtain⟨x,n,J,L,y,I,z,e,m,d,H⟩:=b;cases i;cases F;obtain⟨l⟩:=M;cases p;exact⟨g,L,x,y,n,I,z,e,m,d,o,r,s,t,u,v,_,k _ _ lk,.of_isNs (W.isNs_of_in k c5),W.nsMap_none_of_in k c5 c6,W.tail_of_in k G⟩
  ·cases f
 ·cases f
def jJ(c:Nat)(b:Ev)(a:List D):M Fl:=if a.length<=Ni then ret (.xc b ⟨c⟩)else cc
def Ly(c:Nat)(b:Ev->M (List D)):Ev->M Fl:=λa=>xs a (b a) (jJ c a)
def kB(c:Nat)(J:ExcBaseFacts B b d j)(hK:T.K=X.K)(ό:W.excIn T.K (T.ca c) j b=true)(hm:X.mg x=some (jc (T.ca c)))
  (hg:Gl X x) (hc:X.Lc=true) (ha:FA T X (e::i) R) (w:(x == ("__debug__" : Str))=false:=by decide) (S:ya (e::i) X.env=(false,Ec e X.env)::ya i X.env:=by rfl)
  (A:(Cd a (ya i X.env)).any (·.1)=false:=by rfl) (y:GC c=none:=by rfl):FS T X (.Raise (some (ϣ (ϟ x np) (e::i) [] a)) none C) (Ly c R):=by
 intro o s E H D I hw;obtain⟨μ,ρ,σ,v,hr,hp⟩:=hw;rw[hK]at ό;obtain⟨ώ,N,nm,qn,P,f,sn,p,L,k,Q,V,ϋ,ϊ,k3,k5,mN,hC,hN,z,tl⟩:=đ I.ok.mod.Cz ό;have m:(Cd a (ya (e::i) X.env)).any (·.1)=false:=by
  rw[S];show (false || (Cd a (ya i X.env)).any (·.1))=false;rw[A];rfl
 refine wpAny_Raise_call_subT (nm:=nm) (q:=qn) (N:=N) (bs:=P) (bm:=ώ) (hdct:=f) (sn:=sn) (sub:=p) (ab:=L) (col:=k) (dd:=Q) (k0:=V) (k1:=ϋ) (k2:=ϊ) (k3:=k3) (k5:=k5) J (tl.hasType J.hasBase) (I.ok.hd hc) m z (pC I hg hm ⟨rfl,?_⟩ w);have h:=ha a o s E H (λG u=>G.length<=Ni/\IC X E (T.cv ⟨c⟩) none u) I ⟨μ,ρ,σ,v,hr,hp.xs v λds a1 a0 G u _ e1 r1 q1 n=>by
  unfold jJ at n;by_cases l:ds.length<=Ni
  ·rw[ma l]at n;exact⟨by rw[<-q1.length];exact l,Jc.here (g:=wt.xc E (T.cv ⟨c⟩) none) n r1 ⟨v.mono e1,rfl,y.symm⟩⟩
  ·rw[ra l]at n;exact n.elim⟩
 rw[S]at h ⊢;refine pk (Le h λus s1 ſ=>?_);obtain⟨G,u,t,r,l,F⟩:=ſ;exact⟨rfl,by rw[<-r.length];exact aB l,t.bk _ _ hC,hN.keeps t.bk,tl.keeps t.bk,λh' ea hx=>F.made t hx⟩
structure Hd where
 t:Nat->Option Bool
 nm:Option Nat
 g:Ev->M Fl
noncomputable def aT(i:Nat):Fl->M Fl
 | Ϛ a=>ret (Ϛ (a.set i none))
 | Ϯ d=>ret (Ϯ d)
 | .bk a=>ret (.bk (a.set i none))
 | .ct a=>ret (.ct (a.set i none))
 | .xc _ _=>cc
noncomputable def JH:Fl->M Fl
 | Ϛ a=>ret (Ϛ a)
 | Ϯ d=>ret (Ϯ d)
 | .bk a=>ret (.bk a)
 | .ct a=>ret (.ct a)
 | .xc _ _=>cc
def hit(h:Hd)(a:Ev)(x:Xn):M Fl:=match h.nm with
 |none=>be (h.g a) JH
 |some i=>be (h.g (a.set i (some (.Du x.cls)))) (aT i)
def Nw(a:Ev)(x:Xn):List Hd->M Fl
 |[]=>cc
 |h::r=>match h.t x.cls with
  |some true=>hit h a x
  |some false=>Nw a x r
  |none=>cc
def dG(b:List Hd):Fl->M Fl
 | .xc a x=>Nw a x b
 | Ϛ a=>ret (Ϛ a)
 | Ϯ d=>ret (Ϯ d)
 | .bk a=>ret (.bk a)
 | .ct a=>ret (.ct a)
def qI(g:Ev->M Fl)(a:List Hd):Ev->M Fl:=λb=>be (g b) (dG a)
noncomputable abbrev Cx.Ix(X:Cx)(e:Value):Cx:={ X with A:=X.A.mark (some e),Lc:=false,xe:=λ_ _=>False }
abbrev Cx.WG(X:Cx)(a:List (Addr × Ad))(xe:Value->ba->Prop):Cx:={ X with xe:=xe,pn:=X.pn++a }
section
variable{pins:List (Addr × Ad)}{st:St}{H:Hp}{s:ba}{e:Value}{xe:Value->ba->Prop}
def U2(I:Ab X pins st H s):Ab (Cx.WG X pins xe) [] st H s:=
 ⟨⟨I.ok.mod,I.ok.kind,I.ok.glob,I.ok.blt,I.ok.above,I.ok.inj,I.ok.has,I.ok.Lz,I.ok.hd,I.ok.frames,I.ok.En,I.ok.eB,I.ok.bs,I.ok.Pt,I.ok.Qs,I.ok.Cs,I.ok.ik,I.ok.Iw⟩,I.os,I.bare,I.base,I.loc,I.cell,I.free,I.lh,λp a=>I.pin p (by simpa using a),I.Qd,I.len⟩
def lF(I:Ab (Cx.WG X pins xe) b st H s):Ab X pins st H s:=
 ⟨⟨I.ok.mod,I.ok.kind,I.ok.glob,I.ok.blt,I.ok.above,I.ok.inj,I.ok.has,I.ok.Lz,I.ok.hd,I.ok.frames,I.ok.En,I.ok.eB,I.ok.bs,I.ok.Pt,I.ok.Qs,I.ok.Cs,I.ok.ik,I.ok.Iw⟩,I.os,I.bare,I.base,I.loc,I.cell,I.free,I.lh,λp a=>I.pin p (Bb _ a),I.Qd,I.len⟩
def BA(I:Ab X pins st H s):Ab (Cx.Ix X e) pins st H s:=
 ⟨⟨I.ok.mod,I.ok.kind,I.ok.glob,I.ok.blt,I.ok.above,I.ok.inj,I.ok.has,I.ok.Lz,λz=>(by cases z),I.ok.frames,I.ok.En,I.ok.eB,I.ok.bs,I.ok.Pt,I.ok.Qs,I.ok.Cs,I.ok.ik,I.ok.Iw⟩,I.os,I.bare,I.base,I.loc,I.cell,I.free,I.lh,I.pin,I.Qd,I.len⟩
def QD(ok:X.Ok)(I:Ab (Cx.Ix X e) pins st H s):Ab X pins st H s:=
 ⟨ok,I.os,I.bare,I.base,I.loc,I.cell,I.free,I.lh,I.pin,I.Qd,I.len⟩
def vZ{D:Al}(h:SP (Cx.WG X pins xe) [] D f c):SP X pins D f c:=by
 cases f with
 |next=>obtain⟨a,b,I,q⟩:=h;exact⟨a,b,lF I,q⟩
 |brk=>obtain⟨a,b,I,q⟩:=h;exact⟨a,b,lF I,q⟩
 |cont=>obtain⟨a,b,I,q⟩:=h;exact⟨a,b,lF I,q⟩
 |ret u=>obtain⟨v,a,b,I,r,q⟩:=h;exact⟨v,a,b,lF I,r,q⟩
def FQ(ok:X.Ok){D:Al}(h:SP (Cx.Ix X e) pins D f c):SP X pins D f c:=by
 cases f with
 |next=>obtain⟨a,b,I,q⟩:=h;exact⟨a,b,QD ok I,q⟩
 |brk=>obtain⟨a,b,I,q⟩:=h;exact⟨a,b,QD ok I,q⟩
 |cont=>obtain⟨a,b,I,q⟩:=h;exact⟨a,b,QD ok I,q⟩
 |ret u=>obtain⟨v,a,b,I,r,q⟩:=h;exact⟨v,a,b,QD ok I,r,q⟩
end
def Nt(X:Cx)(a:List (Addr × Ad))(f:St)(H:Hp)(s:ba)(d:Addr)(b:Value)(e:Option Nat):Prop:=∃ c s0,Ab X a f c s0/\MA X.prog X.w X.stack c s0 b e H (jc d) s
section
variable{pins:List (Addr × Ad)}{st:St}{H:Hp}{s:ba}{ea:Addr}{cls:Value}{fd:Option Nat}
def Nt.inv(L:Nt X pins st H s ea cls fd):Ab X pins st H s:=by
 obtain⟨a,s0,I,F⟩:=L;exact L2.Ab.Aw I F.os F.un F.Qd F.bare λb z=>absurd z (by simp)
def Nt.next(L:Nt X pins st H s ea cls fd){M:Om}(h:∀ l,Nt X pins st H l ea cls fd->Q () l):wpAny M A (uk (jc ea) none) Q E s:=by
 obtain⟨m,s0,I,F⟩:=L;obtain⟨p,n,B,e,g,r,b,k,j,i,q⟩:=F.ex;cases e;refine vM g λu a f c=>h _ ?_;obtain⟨t,d⟩:=QG F j k i g.1 a.1 f (uH I);exact⟨m,s0,I,⟨ea,n,B,rfl,a,r,b,k,j,i,q.next c (let ⟨o,e,_⟩:=a.there;⟨o,e⟩)⟩,F.os,F.bare,t,d⟩
def Nt.obj(L:Nt X pins st H s ea cls fd):H ea=none/\(∃ o,s.heap.get? ea=some o/\o.cls=cls)/\∃ s0:ba,s0.heap.get? ea=none/\∃ b,Ab X pins st b s0:=by
 obtain⟨b,s0,I,F⟩:=L;obtain⟨c,g,B,e,d,f,a,k,i,h,j⟩:=F.ex;cases e;exact⟨f,d.there,s0,a,b,I⟩
def wM(I:Ab X pins st H s)(h:Ab X pins st A s0)(d:s0.heap.get? a=none)(C:H a=none)(D:s.heap.get? a=some o)(l:φ s.heap)
  (E:∀ r t:Heap,φ r->(∀ u,r.get? a=some u->t.get? a=some u)->φ t):Ab X pins st (Nc H a (ϧ φ)) s:=by
 have j:∀ b u,s0.heap.get? b=some u->b≠a:=λb u e z=>by rw[z,d]at e;cases e
 have g:∀ b u,H b=some u->b≠a:=λb u e z=>by rw[z,C]at e;cases e
 have F:∀ b u,X.s₀.heap.get? b=some u->b ∉ X.ex->b≠a:=λb u e i=>by obtain⟨M,B⟩:=h.base.there b u e i;exact j b M B
 refine⟨I.ok,I.os,I.bare,⟨I.base.keep,I.base.slot,λb u e n i=>?_,I.base.there,λb xs e=>?_,λb G u e=>?_,λb ps e=>?_⟩,I.loc,I.cell,?_,λx c e=>?_,λp y=>?_,λb u e=>?_,I.len⟩
 ·rw[we (F b u e i)];exact I.base.free b u e n i
 ·have q:=I.base.Mj b xs e;rw[we (g b _ q)];exact q
 ·have q:=I.base.Ki b G u e;rw[we (g b _ q)];exact q
 ·obtain⟨f,q⟩:=I.base.uj b ps e;exact⟨f,by rw[we (g b _ q)];exact q⟩
 ·obtain⟨m,⟨u,_,_,k,_⟩,_⟩:=h.loc;rw[we (j _ u k)];exact I.free
 ·obtain⟨v,u,k,_⟩:=h.cell x c e;rw[we (j _ u k)];exact I.lh x c e
 ·obtain⟨J,K,L⟩:=I.pin p y;refine⟨J,?_,L⟩;rw[we (j _ _ (h.pin p y).1)];exact K
 ·by_cases w:b=a
  ·subst w;rw[Ih]at e;cases e;exact⟨l,⟨o,D⟩,E⟩
  ·rw[we w]at e;exact(I.Qd b u e).Rl (λc v _ q=>q) (λc q=>by rw[we (g c _ q)];exact q) λc xs q=>by rw[we (g c _ q)];exact q
def sP:∀ b c:Heap,iz C d a b->(∀ u,b.get? a=some u->c.get? a=some u)->iz C d a c:=λb c ⟨u,e,q⟩ k=>⟨u,k u e,q⟩
def Ą:∀ b c:Heap,NJ a n b->(∀ u,b.get? a=some u->c.get? a=some u)->NJ a n c:=λb c ⟨u,d,q⟩ k=>⟨u,k u d,q⟩
def Nt.cF(L:Nt X pins st H s ea (jc C) fd):∃ w g,Ab X pins st g s/\g ea=some (ϧ (iz C w ea))/\(∀ n,fd=some n->∃ a,w=some a/\H a=none/\g a=some (ϧ (NJ a n)))/\(∀ b u,H b=some u->g b=some u)/\∀ b u,g b=some u->H b=some u\/H b=none:=by
 have I:=L.inv;obtain⟨P,s0,p,F⟩:=L;obtain⟨J,Q,B,e,k,d,c,T,S,R,K⟩:=F.ex;cases e;obtain⟨o,f,x⟩:=k.there;cases t:fd with
 |none=>
  have r:=wM (φ:=iz C none ea) I p c d f ⟨o,f,x,λ_ z=>by cases z⟩ sP;refine⟨none,_,r,Ih,(λn q=>by cases q),λb u e=>?_,λb u e=>?_⟩
  ·rw[we (λz=>by rw[z,d]at e;cases e)];exact e
  ·by_cases h:b=ea
   ·rw[h];exact ϖ d
   ·rw[we h]at e;exact ϒ e
 |some n=>
  obtain⟨a,oD,A,D,M,E,N,l,ώ⟩:=K n t;have v:A=o:=by rw[f]at D;cases D;rfl
  subst v;have i:=k.1 a oD E;have j:a≠ea:=λz=>by
   have:=k.2.1;rw[<-z,E]at this;cases this
  have r:=wM (φ:=iz C (some a) ea) I p c d f ⟨A,f,x,λ_ z=>by cases z;exact⟨M,k.ON f⟩⟩ sP;have G:=wM r p ώ (by rw[we j];exact l) i ⟨oD,i,N⟩ Ą;refine⟨some a,_,G,by rw[we (yf j)];exact Ih,λm q=>?_,λb u e=>?_,λb u e=>?_⟩
  ·cases q;exact⟨a,rfl,l,Ih⟩
  ·rw[we (λz=>by rw[z,l]at e;cases e),we (λz=>by rw[z,d]at e;cases e)];exact e
  ·by_cases y:b=a
   ·rw[y];exact ϖ l
   ·rw[we y]at e;by_cases h:b=ea
    ·rw[h];exact ϖ d
    ·rw[we h]at e;exact ϒ e
def T5(I:Ab X pins st H s)(m:X.stack=X.env::X.outer)(C:X.env.frame=some X.env.locals)(F:MA X.prog X.w X.stack H s cls fd r e n){M:Om}{Q:Value->ba->Prop}
  (h:∀ ea d,e=jc ea->Nt X pins st r d ea cls fd->Q e d):wpAny M X.A (Bh e X.env) (λ_ s2=>wpAny M X.A (uk e none) (λ_ G=>Q e G) E s2) E n:=by
 obtain⟨ea,f,B,rfl,t,D,c,x,v,u,z⟩:=F.ex;have j:Mq B (X.env::X.outer) ea cls f n.heap:=by rw[<-m];exact t
 refine HQ (by rw[<-m];exact I.ok.frames) C j λK b p g=>?_;refine vM (UU b) λy k q i=>h ea _ rfl ?_;have a:Mq B X.stack ea cls f y:=by rw[m];exact k
 obtain⟨J,l⟩:=QG F v x u t.1 a.1 (p.trans q) (uH I);exact⟨H,s,I,⟨ea,f,B,rfl,a,D,c,x,v,u,z.next (g.trans i) (let ⟨o,e,_⟩:=a.there;⟨o,e⟩)⟩,F.os,F.bare,J,l⟩
end
def Mq.keep(x:Mq B l e a i h)(k:∀ b o,h.get? b=some o->j.get? b=some o):Mq B l e a i j:=by
 obtain⟨m,n,p,r⟩:=x;refine⟨λb o q=>k b o (m b o q),n,p.of_keeps λb o q _=>⟨o,k b o q,rfl⟩,?_⟩;rcases r with⟨s,g,ws,T,oT,ts,d,w,y,t,z,f,v,c,u⟩|⟨g,A,d,q⟩
 ·exact ϒ ⟨s,g,ws,T,oT,ts,k _ _ d,w,y,t,z,f,k _ _ v,c,u⟩
 ·exact ϖ ⟨g,A,k _ _ d,q⟩
def Nt.keep(L:Nt X a r H s g c i)(k:∀ b o,s.heap.get? b=some o->h'.get? b=some o):Nt X a r H { s with heap:=h' } g c i:=by
 obtain⟨t,s0,I,F⟩:=L;obtain⟨w,u,B,e,j,y,f,p,m,l,x⟩:=F.ex;cases e;have d:=j.keep k;obtain⟨D,h⟩:=QG F m p l j.1 d.1 (hD k) (uH I);exact⟨t,s0,I,⟨g,u,B,rfl,d,y,f,p,m,l,λn q=>let ⟨v,oD,z,A,C⟩:=x n q;⟨v,oD,z,k _ _ A,C⟩⟩,F.os,F.bare,D,h⟩
def jG(X:Cx)(x:Str)(a:Value):Prop:=X.mg x=some a\/(X.mg x=none/\bootBuiltins x=some a/\x ≠ "__name__")
inductive Gy(T:Tb)(X:Cx):List Dg->List Hd->Prop where
 |nil {r:List Dg}:Gy T X r []
 |cons {x:Str} {np pos:Re} {cv:Value} {b₀:Stmt} {suite:List Stmt} {t:Nat->Option Bool} {g:Ev->M Fl} {r:List Dg} {hs:List Hd} (hg:Gl X x) (hd:(x == ("__debug__" : Str))=false) (hm:jG X x cv) (ht:∀ c b,t c=some b->ϴ X.K (jc (T.ca c)) cv=some b)
   (hb:∀ e,um T (Cx.Ix X e) (b₀::suite) g) (hr:Gy T X r hs):Gy T X (.ExceptHandler (some (ϟ x np)) none (b₀::suite) pos::r) (⟨t,none,g⟩::hs)
 |pz {x y:Str} {np nq tp pos:Re} {k:Nat} {cv cw:Value} {b₀:Stmt} {suite:List Stmt} {t:Nat->Option Bool} {g:Ev->M Fl} {r:List Dg} {hs:List Hd} (hg:Gl X x) (hd:(x == ("__debug__" : Str))=false) (hm:jG X x cv) (hg':Gl X y) (hd':(y == ("__debug__" : Str))=false) (hm':jG X y cw) (ht:∀ c b,t c=some b->W.exmAny X.K (jc (T.ca c)) [cv,cw]=some b)
   (hb:∀ e,um T (Cx.Ix X e) (b₀::suite) g) (hr:Gy T X r hs):Gy T X (.ExceptHandler (some (ϵ [ϟ x np,ϟ y nq] k tp)) none (b₀::suite) pos::r) (⟨t,none,g⟩::hs)
 |gB {x n:Str} {i:Nat} {np pos:Re} {cv:Value} {b₀:Stmt} {suite:List Stmt} {t:Nat->Option Bool} {g:Ev->M Fl} {r:List Dg} {hs:List Hd} (hg:Gl X x) (hd:(x == ("__debug__" : Str))=false) (hm:jG X x cv) (ht:∀ c b,t c=some b->ϴ X.K (jc (T.ca c)) cv=some b)
   (hN:X.N.Nodup) (hi:X.N[i]?=some n) (hl:X.env.scope.names.lookup n=some .local)
   (hb:∀ e,um T (Cx.Ix X e) (b₀::suite) g) (hr:Gy T X r hs):Gy T X (.ExceptHandler (some (ϟ x np)) (some n) (b₀::suite) pos::r) (⟨t,some i,g⟩::hs)
def KI(I:Ab X b j H s)(f:Gl X x)(e:(x == ("__debug__" : Str))=false)(a:jG X x d)(h:Q d s):wpAny (model X.prog X.w) X.A (Ec (ϟ x c) X.env) Q E s:=by
 rcases a with a|⟨a,i,g⟩
 ·exact pC I f a h e
 ·exact Ny I f a i h g e
def pR{D:Al}(c:Jc T EN (Ko T) j H (o.bind JH) (zn X D)):Jc T EN (Ko T) j H o (zn (Cx.Ix X e) D):=by
 cases o with
 |cc=>exact c
 |ex x σ=>exact c
 |ok k σ=>
  intro a g d f h b;cases k with
  |nx i=>cases g with
   |nx st=>exact c a (ϸ st) d f h b
   |_=>exact b.elim
  |rt i=>cases g with
   |rt st=>exact c a (.rt st) d f h b
   |_=>exact b.elim
  |bk i=>cases g with
   |bk st=>exact c a (.bk st) d f h b
   |_=>exact b.elim
  |ct i=>cases g with
   |ct st=>exact c a (.ct st) d f h b
   |_=>exact b.elim
  |xc i x=>exact c.elim
def vK(h:pi T c H e b)(i:Nat):pi T c H (e.set i none) (b.set i none):=by
 refine⟨by simpa using h.1,λj d q=>?_⟩;rw[qd]at q;by_cases a:i=j
 ·subst a;rw[ma rfl]at q;split at q<;>cases q
 ·rw[ra a]at q;obtain⟨v,f,g⟩:=h.2 j d q;exact⟨v,by rw[qd,ra a];exact f,g⟩
def X0{D:Al}(d:Jc T EN (Ko T) l H (o.bind (aT i)) (zn X D)):Jc T EN (Ko T) l H o (zn (Cx.Ix X e) ⟨λa H=>D.nx (a.set i none) H,D.rt,λa H=>D.bk (a.set i none) H,λa H=>D.ct (a.set i none) H⟩):=by
 cases o with
 |cc=>exact d
 |ex x σ=>exact d
 |ok m σ=>
  intro b h f g j c;cases m with
  |nx k=>cases h with
   |nx a=>exact d b (ϸ (a.set i none)) f g j (vK c i)
   |_=>exact c.elim
  |rt k=>cases h with
   |rt a=>exact d b (.rt a) f g j c
   |_=>exact c.elim
  |bk k=>cases h with
   |bk a=>exact d b (.bk (a.set i none)) f g j (vK c i)
   |_=>exact c.elim
  |ct k=>cases h with
   |ct a=>exact d b (.ct (a.set i none)) f g j (vK c i)
   |_=>exact c.elim
  |xc k x=>exact d.elim
def Y9{M:St}(I:Ab X a M H s)(S:X.N.Nodup)(V:X.N[i]?=some n)(hl:X.env.scope.names.lookup n=some .local)(ϋ:s.heap.Ns X.env.locals m)(F:h'.Ns X.env.locals λy=>if y=n then w else m y)(d:Gg X.env.locals s.heap h'):Ab X a (M.set i none) H { s with heap:=h',toks:=t }:=by
 have f:∀ b o,X.s₀.heap.get? b=some o->b≠X.env.locals:=λb o e=>Wa (gb (Fa e) I.ok.above);obtain⟨J,E,l⟩:=I.loc;have P:J=m:=by
  obtain⟨o,es,ep,ϊ,T,hk,ό⟩:=E;obtain⟨K,R,Q,x,h,W,C⟩:=ϋ;rw[ϊ]at x;cases x;rw[T]at h;cases h;funext y;rw[<-ό y,<-C y]
 subst P;refine⟨I.ok,I.os,I.bare,⟨λb o e n B A=>(d.2 b (f b o e)).trans (I.base.keep b o e n B A),λb o e n B A=>?_,I.base.free,λb o e A=>?_,I.base.Mj,I.base.Ki,I.base.uj⟩,⟨_,F,λj y v G g ώ=>?_⟩,λy c e=>?_,I.free,I.lh,λp hp=>?_,sK I.Qd λb o u e q=>?_,by simpa using I.len⟩
 ·obtain⟨sl,q⟩:=I.base.slot b o e n B A;exact⟨sl,(d.2 b (f b o e)).trans q⟩
 ·obtain⟨K,q⟩:=I.base.there b o e A;exact⟨K,(d.2 b (f b o e)).trans q⟩
 ·rw[qd]at g;by_cases D:i=j
  ·subst D;rw[ma rfl]at g;split at g<;>cases g
  ·rw[ra D]at g;obtain⟨u,r,lk⟩:=l j y v G g ώ;refine⟨u,r,?_⟩;have hy:y≠n:=λz=>D (xN S V (z ▸ G));rcases lk with⟨k,q⟩|⟨k,c,q,z⟩
   ·exact ϒ ⟨k,by show (if y=n then w else J y)=some u;rw[ra hy];exact q⟩
   ·exact ϖ ⟨k,c,q,z.sameBut d (I.aG y c q)⟩
 ·obtain⟨v,z⟩:=I.cell y c e;exact⟨v,z.sameBut d (I.aG y c e)⟩
 ·obtain⟨q1,q2,L,q4⟩:=I.pin p hp;exact⟨(d.2 p.1 L).trans q1,q2,L,q4⟩
 ·exact(d.2 b λz=>by rw[z,I.free]at e;cases e).trans q
def zhz{D:Al}{K:List Addr}(h:Gy T X a1 hs)(hE:pi T K H ρ N)(hr:je T K H σ)(d:Jc T EN (Ko T) K H (Nw ρ x hs σ) (zn X D)) :
  ∀ s,Nt X c N H s l (T.cv x) (GC x.cls)->wpAny (model X.prog X.w) X.A (eP (jc l) X.env a1) (SP X c D) X.xe s:=by
 induction h with
 |nil=>exact d.elim
 |@cons y np pos cv P F t g r hs hg hd hm ht hb C ih=>
  intro s L;have I:=L.inv;obtain⟨_,⟨o,ho,hc⟩,_⟩:=L.obj;refine yo (Tl (KI (BA I) hg hd hm ?_)) (by intro q;cases q);unfold Nw at d;dsimp only at d;cases B:t x.cls with
  |none=>rw[B]at d;exact d.elim
  |some b=>
   rw[B]at d;have ϊ:W.Looks (model X.prog X.w) s.heap (Dr (jc l)) (T.cv x):=by rw[<-hc];exact(W.Looks.ld ho).andThen .now
   refine(W.exm_one I.Ak ϊ (ht x.cls b B)).here ?_;cases b with
   |false=>exact ih d s L
   |true=>
    refine ux (L.next λs' V=>?_);exact Pc (hb (jc l) c s' N H D (BA V.inv) ⟨K,ρ,σ,hE,hr,pR d⟩) (λf s2 q=>FQ I.ok q) λ_ _ z=>z.elim
 |@pz y z np nq tp pos k cv cw P F t g r hs hg hd hm a7 a4 a8 ht hb C ih=>
  intro s L;have I:=L.inv;obtain⟨_,⟨o,ho,hc⟩,_⟩:=L.obj;refine yo (Tl (wpAny_Tuple (pG (KI (BA I) hg hd hm (pG (KI (BA I) a7 a4 a8 (wpAny_items_nil ⟨by size_fits,?_⟩))))))) (by intro q;cases q);unfold Nw at d;dsimp only at d;have kp:∀ q o,s.heap.get? q=some o->(s.heap.push { cls:=ϙ "tuple",data:=Ϩ [cv,cw].toArray }).get? q=some o:=λ_ _ z=>ua _ z;cases B:t x.cls with
  |none=>rw[B]at d;exact d.elim
  |some b=>
   rw[B]at d;have ϊ:W.Looks (model X.prog X.w) s.heap (Dr (jc l)) (T.cv x):=by rw[<-hc];exact(W.Looks.ld ho).andThen .now
   refine(W.exm_tup2 (I.Ak.keeps kp) (ϊ.keeps kp) (Db s.heap rfl) (ht x.cls b B)).here ?_;cases b with
   |false=>exact ih d _ (L.keep kp)
   |true=>
    refine ux ((L.keep kp).next λs' V=>?_);exact Pc (hb (jc l) c s' N H D (BA V.inv) ⟨K,ρ,σ,hE,hr,pR d⟩) (λf s2 q=>FQ I.ok q) λ_ _ z=>z.elim
 |@gB y n i np pos cv P F t g r hs hg hd hm ht hN hi hl hb C ih=>
  intro s L;have I:=L.inv;obtain⟨_,⟨o,ho,hc⟩,_⟩:=L.obj;refine yo (Tl (KI (BA I) hg hd hm ?_)) (by intro q;cases q);unfold Nw at d;dsimp only at d;cases B:t x.cls with
  |none=>rw[B]at d;exact d.elim
  |some b=>
   rw[B]at d;have ϊ:W.Looks (model X.prog X.w) s.heap (Dr (jc l)) (T.cv x):=by rw[<-hc];exact(W.Looks.ld ho).andThen .now
   refine(W.exm_one I.Ak ϊ (ht x.cls b B)).here ?_;cases b with
   |false=>exact ih d s L
   |true=>
    refine codeAny_handlers_suite_as (L.next λs' V=>?_);have hn:=V.obj.1;obtain⟨dd,H1,I1,a6,a5,G,b1⟩:=Nt.cF V;have E:∀ b,b∈K->∃ u,H b=some u:=λb z=>by obtain⟨u,M,_⟩:=hr.mem z;exact⟨u,M⟩
    have S:Ge K H K H1:=⟨⟨[],by simp⟩,λp xs e=>G _ _ e,λp o u e=>G _ _ e,λp o e n=>⟨⟨o,G _ _ e,ϒ rfl⟩,n⟩⟩
    have out:l ∉ K:=λz=>by obtain⟨u,M⟩:=E _ z;rw[hn]at M;cases M
    have rp:Ua T K H1 (.Du x.cls) (ϕ l):=by
     refine⟨l,dd,rfl,out,a6,λn q=>?_⟩;obtain⟨dN,z1,z2,z3⟩:=a5 n q;exact⟨dN,z1,λz=>(by obtain⟨u,M⟩:=E _ z;rw[z2]at M;cases M),z3⟩
    refine oH (X:=Cx.Ix X (jc l)) (v:=ϕ l) (BA I1) hN hi (ϒ hl) rfl (λs2 I2=>?_) (ϖ hl);refine Pc (hb (jc l) c s2 _ _ ⟨λN H=>D.nx (N.set i none) H,D.rt,λN H=>D.bk (N.set i none) H,λN H=>D.ct (N.set i none) H⟩ I2 ⟨K,ρ.set i (some (.Du x.cls)),σ,(hE.mono S).set i rp,hr.keep S (λa ha=>by obtain⟨u,M⟩:=E a ha;rw[G _ _ M,M]) (hr.tb.grow G),X0 (Jc.mono S d)⟩) (λf s3 q=>?_) λ_ _ z=>z.elim;have a0:(X.env.scope.kind == .class || (X.env.scope.kind == .module && X.env.locals != X.env.globals))=false:=by rw[I.ok.kind];rfl
    have go:∀ {j:St} {Q:Hp},Ab (Cx.Ix X (jc l)) c j Q s3->(∀ ϋ,Ab X c (j.set i none) Q ϋ->SP X c D f ϋ)->wpAny (model X.prog X.w) X.A (do bindName X.env n Wc;unbindBehindTheSuite X.env n pos) (λ_ a3=>SP X c D f a3) X.xe s3:=fun {j Q} ώ k=>by
     have J:=QD I.ok ώ;obtain⟨m,a2,_⟩:=id J.loc;exact wpAny_nameGoes_keeps hl a2 a0 λh4 v4 a9 b0=>k _ (Y9 J hN hi hl a2 a9 b0)
    cases f with
    |next=>obtain⟨j,Q,ώ,ό⟩:=q;exact go ώ λϋ R=>⟨_,_,R,ό⟩
    |brk=>obtain⟨j,Q,ώ,ό⟩:=q;exact go ώ λϋ R=>⟨_,_,R,ό⟩
    |cont=>obtain⟨j,Q,ώ,ό⟩:=q;exact go ώ λϋ R=>⟨_,_,R,ό⟩
    |ret u=>obtain⟨v,j,Q,ώ,r3,ό⟩:=q;exact go ώ λϋ R=>⟨v,_,_,R,r3,ό⟩
def VQ(G:X.stack=X.env::X.outer)(hf:X.env.frame=some X.env.locals)
  (ϊ:∀ a P,Cr (model X.prog X.w) X.A X.env P->um T (Cx.WG X a P) l g) (hh:Gy T X (b::i) E):FS T X (.Try l (b::i) [] [] J) (qI g E):=by
 intro a s j H D I hw;obtain⟨R,m,N,ϋ,hr,hp⟩:=hw;refine wpAny_Try_except ?_;refine Pc (ϊ a (λe r=>wpAny (model X.prog X.w) X.A (Bh e X.env) (λ_ t=>wpAny (model X.prog X.w) X.A (uk e none) (λ_ d=>wpAny (model X.prog X.w) X.A (eP e X.env (b::i)) (SP X a D) X.xe d) X.xe t) X.xe r) zaD [] s j H D (U2 I)
  ⟨R,m,N,ϋ,hr,?_⟩) (λf s1 q=>?_) λ_ _ z=>z
 ·have c:Jc T EN (Ko T) R H ((g m N).bind (dG E)) (zn X D):=hp;cases B:g m N with
  |cc=>rw[B]at c;exact c
  |ex x ώ=>rw[B]at c;exact c
  |ok W ώ=>
   rw[B]at c;intro k n v ό p h;have o:=c.mono ό;cases W with
   |nx m=>cases n with
    |nx j=>exact o k (ϸ j) v (ϯ _ _) p h
    |_=>exact h.elim
   |rt m=>cases n with
    |rt j=>exact o k (.rt j) v (ϯ _ _) p h
    |_=>exact h.elim
   |bk m=>cases n with
    |bk j=>exact o k (.bk j) v (ϯ _ _) p h
    |_=>exact h.elim
   |ct m=>cases n with
    |ct j=>exact o k (.ct j) v (ϯ _ _) p h
    |_=>exact h.elim
   |xc a1 x=>cases n with
    |xc a0 cls fd=>
     obtain⟨C,rfl,rfl⟩:=h;refine⟨λp0 H0 s0 e s' S F=>?_⟩;exact T5 (lF S) G hf F (Q:=λe d=>wpAny (model X.prog X.w) X.A (eP e X.env (b::i)) (SP X a D) X.xe d) λea K V L=>by subst V;exact zhz hh C p o K L
    |_=>exact h.elim
 ·have y:=vZ q;cases f with
  |next=>exact ql y
  |brk=>exact y
  |cont=>exact y
  |ret u=>exact y
def ZQ(h:FS T X u (He i f)):FS T X u (He i (qj f)):=by
 intro r s ϋ H D I V;obtain⟨w,k,c,J,y,ό⟩:=V;refine h r s ϋ H D I ⟨w,k,c,J,y,?_⟩;have a:Jc T EN (Ko T) w H (xs k (Qc (f k)) (XF i k) c) (zn X D):=ό;show Jc T EN (Ko T) w H (xs k (f k) (XF i k) c) (zn X D);unfold xs Qc at a;unfold xs;cases e:f k c with
 |cc=>rw[e]at a;exact a
 |ex x g=>
  rw[e]at a;unfold mi at a;dsimp only at a ⊢;by_cases l:g.take c.length=c
  ·rw[ma l]at a;intro ώ F A o z t;cases F with
   |xc n Q E=>
    obtain⟨L,B⟩:=je.down y z o l;obtain⟨P,W⟩:=t;refine a w (.xc n Q E) A B L ⟨⟨P.1,λj d b=>?_⟩,W⟩;obtain⟨v,p,q⟩:=P.2 j d b;obtain⟨N,_,G⟩:=J.2 j d b;exact⟨v,p,Ua.down o.pre d N v G q⟩
   |_=>exact t.elim
  ·rw[ra l]at a;exact a.elim
 |ok d g=>
  rw[e]at a;unfold mi at a;dsimp only at a ⊢;by_cases l:g.take c.length=c
  ·rw[ma l]at a;cases C:fz c.length g 6 d with
   |none=>rw[C]at a;exact a.elim
   |some R=>
    rw[C]at a;intro ώ F A o z t;cases F with
    |nx n=>
     obtain⟨L,B⟩:=je.down y z o l;have m:=t;refine a w (ϸ n) A B L ⟨by simpa using m.1,λj x b=>?_⟩;rw[qd]at b;by_cases K:i=j
     ·subst K;rw[ma rfl]at b;split at b
      ·rename_i S
       cases b;obtain⟨v,p,q⟩:=m.2 i d (by rw[qd,ma rfl,ma S]);exact⟨v,p,pV o.pre z 6 d R v (by rw[y.len];exact C) q⟩
      ·cases b
     ·rw[ra K]at b;obtain⟨v,p,q⟩:=m.2 j x (by rw[qd,ra K];exact b);obtain⟨N,_,G⟩:=J.2 j x b;exact⟨v,p,Ua.down o.pre x N v G q⟩
    |_=>exact t.elim
  ·rw[ra l]at a;exact a.elim
noncomputable def bC:List D->Option (List Bool)
 |[]=>some []
 | ϐ b::r=>(bC r).map (b::·)
 |_::_=>none
noncomputable def Rw:List D->Option (List Int)
 |[]=>some []
 | Z b::r=>(Rw r).map (b::·)
 |_::_=>none
theorem dX{T:Tb}{j:List Addr}{H:Hp}:∀ {c:List D} {a:List V} {bs:List Bool},Ub T j H c a->bC c=some bs->a=bs.map Ϭ
 |[],a,bs,r,h=>by cases h;rw[Ub]at r;exact r
 |d::c,a,bs,r,h=>by
  obtain⟨v,w,rfl,e,i⟩:=r;cases d with
  |bl b=>
   obtain⟨k,f,g⟩:=Ra.mp h;subst g;rw[Ua]at e;subst e;rw[dX i f];rfl
  |_=>cases h
theorem OG{T:Tb}{j:List Addr}{H:Hp}:∀ {c:List D} {a:List V} {bs:List Int},Ub T j H c a->Rw c=some bs->a=bs.map ϡ
 |[],a,bs,r,h=>by cases h;rw[Ub]at r;exact r
 |d::c,a,bs,r,h=>by
  obtain⟨v,w,rfl,e,i⟩:=r;cases d with
  |int b=>
   obtain⟨k,f,g⟩:=Ra.mp h;subst g;rw[Ua]at e;subst e;rw[OG i f];rfl
  |_=>cases h
def GF(xs:List D):M D:=λa=>match xs with
 |[x]=>(match (Tj a x).bind bC with
  |some bs=>Y (ϐ (bs.all id)) a
  |none=>ϗ)
 |_=>ϗ
def uw(xs:List D):M D:=λa=>match xs with
 |[x]=>(match (Tj a x).bind Rw with
  |some bs=>Y (Z bs.sum) a
  |none=>ϗ)
 |_=>ϗ
def zQ(K:ϓ)(g:List Bool->Bool):List V->Hp->VK->Prop:=λxs H Q=>∃ p a,xs=[ϕ p]/\(ug K H p (a.map Ϭ)\/ui K H p (a.map Ϭ))/\Q (Ϭ (g a)) H
def QS(K:ϓ):List V->Hp->VK->Prop:=λxs H Q=>∃ (p:Addr) (bs:List Int),xs=[ϕ p]/\(ug K H p (bs.map ϡ)\/ui K H p (bs.map ϡ))/\Q (ϡ bs.sum) H
theorem QV:∀ {a:List Bool} {us:List Value},Pe (a.map Ϭ) us->us=a.map Ul
 |[],us,h=>by cases h;rfl
 |b::a,us,h=>by
  cases h with
  |cons r t=>cases r;rw[QV t];rfl
theorem YQ{c:Type}(g:c->Bool)(d:c):∀ (a:List c),(List.range a.length).all (λi=>g (a.getD i d))=a.all g
 |[]=>rfl
 |b::a=>by
  rw[ub,zt,jg,fD,jg];rw[<-YQ g d a];congr 1
def Ð(f:List Bool):TruthOf d w A (λi v=>(f.map Ul).toArray[i]?=some v) (λi=>f.getD i false):=by
 intro i v s Q E a g;simp only[ku,Ta]at a;cases e:f[i]? with
 |none=>rw[e]at a;cases a
 |some b=>
  rw[e]at a;cases a;have c:Q (f.getD i false) s:=g;rw[yi,e]at c;exact ie c
def mY{s:ba}{a:Heap}(k:∀ b u,b ∉ [s.heap.objs.size]->(s.heap.push o).get? b=some u->a.get? b=some u):∀ b u,s.heap.get? b=some u->a.get? b=some u:=λb u e=>
 k b u (λz=>absurd (Fa e) (by rw[yb.mp z];exact qe _)) (ua _ e)
def iS(n:X.A.handled=none)(I:Ab X c q H s)(f:ug X.K H p l\/ui X.K H p l)
  (h:∀ (its:List Value) (It:Addr) (m:List Addr) (St:Nat->Heap->Prop) (s2:ba),Pe l its->Walks X.prog X.w X.A.in1 It m [It] its.toArray.size (λi v=>its.toArray[i]?=some v) St->St 0 s2.heap->(∀ b∈m,b<s2.heap.objs.size)->
   (∀ h' k,(∀ b o,b ∉ [It]->s2.heap.get? b=some o->h'.get? b=some o)->Ab X c q H { s2 with heap:=h',toks:=k })->Q (jc It) s2):wpAny (model X.prog X.w) X.A.in1 (pyIter (jc p)) Q E s:=by
 rcases f with f|f
 ·obtain⟨its,j,pl,r⟩:=I.list f;have a:p<s.heap.objs.size:=by obtain⟨_,e,_⟩:=pl.isList;exact Fa e
  refine wq pl.isList (h its s.heap.objs.size [s.heap.objs.size,p] _ _ j (xq (A:=X.A.in1) n _ p (Wa a) its.toArray) ⟨⟨_,Db _ rfl,rfl,rfl⟩,pl.isList.push _⟩ (λb d=>?_) (λh' k g=>I.kept (mY g)));rw[nh];simp only[Ma,Me,Qo]at d;rcases d with rfl|rfl
  ·exact Vd _
  ·exact bj a
 ·obtain⟨its,j,pl,r⟩:=I.tuple f;have a:=pl.lt;refine xB (pl) (h its s.heap.objs.size [s.heap.objs.size,p] _ _ j (Walks.tuple (A:=X.A.in1) n _ p (Wa a) its.toArray) ⟨⟨_,Db _ rfl,rfl,rfl⟩,kK (show s.heap.IsTuple p _ from pl) _⟩ (λb d=>?_) (λh' k g=>I.kept (mY g)));rw[nh];simp only[Ma,Me,Qo]at d;rcases d with rfl|rfl
  ·exact Vd _
  ·exact bj a
def zqh(f:X.Lc=true):Gp X (ϝ "all") (zQ X.K λa=>a.all id):=by
 intro b s t H xs v Q I r h;obtain⟨p,a,rfl,j,q⟩:=h;obtain⟨u,rfl,k⟩:=Yv r;cases k;refine call_all_walk (iS (I.ok.hd f) I j λits It n St s2 l W d o e=>?_);have c:=QV l;subst c;refine⟨_,_,_,_,_,_,λi=>a.getD i false,rfl,W,d,Ð a,λh' m g=>⟨Ϭ (a.all id),H,e h' m g,?_,q⟩⟩;rw[Da,Sa];exact Dc Ul (YQ id false a)
theorem XS:∀ (a:List Int) (n:Nat),n<=a.length->preSum (λi=>a.getD i 0) n=(a.take n).sum
 |a,0,_=>by simp[preSum]
 |a,n+1,h=>by
  rw[preSum,XS a n (by omega),List.take_succ_eq_append_getElem (by omega),Xy];simp[show n<a.length by omega]
def JE(n:X.Lc=true):Gp X (ϝ "sum") (QS X.K):=by
 intro f s C H xs D Q I r h;obtain⟨p,a,rfl,y,q⟩:=h;obtain⟨u,rfl,z⟩:=Yv r;cases z;refine call_sum_walkG (iS (I.ok.hd n) I y λits It B St s2 g W k o m=>?_);refine⟨_,_,_,_,_,_,λi=>a.getD i 0,rfl,W,k,o,λi v d=>?_,λh' A t' w=>⟨ϡ a.sum,H,m h' A w,⟨t',?_⟩,q⟩⟩
 ·simp only[ku]at d;obtain⟨x,c,l⟩:=LG g d;rw[Ta]at c;cases e:a[i]? with
  |none=>rw[e]at c;cases c
  |some b=>
   rw[e]at c;cases c;obtain⟨t,rfl⟩:=l;exact⟨t,by show Ck b t=Ck (a.getD i 0) t;rw[yi,e];rfl⟩
 ·have j:its.toArray.size=a.length:=by rw[Da,<-g.length,Sa]
  rw[j,XS a _ (Ea _),gd]
def oV{g:List D->Option c}{a:c}(h:(Tj d x).bind g=some a):∃ b,Tj d x=some b/\g b=some a:=aj.mp h
def B7(j:T.K=X.K):jt T (zQ X.K λa=>a.all id) GF:=by
 intro E n H σ xs l Q r p h
 match xs with
 |[]=>exact h.elim
 |[x]=>
  obtain⟨v,w,rfl,k,d⟩:=p;rw[Ub]at d;subst d;unfold GF at h;cases e:(Tj σ x).bind bC with
  |none=>simp only[e]at h;exact h.elim
  |some a=>
   simp only[e]at h;obtain⟨m,f,g⟩:=oV e;obtain⟨b,l,rfl,i,c⟩:=ZA r k f;rw[j,dX i g]at c;exact⟨b,a,rfl,c,Jc.here h r (by rw[Ua])⟩
 |_::_::_=>exact h.elim
def wE(i:T.K=X.K):jt T (QS X.K) uw:=by
 intro E m H σ xs k Q r p h
 match xs with
 |[]=>exact h.elim
 |[x]=>
  obtain⟨v,w,rfl,j,c⟩:=p;rw[Ub]at c;subst c;unfold uw at h;cases e:(Tj σ x).bind Rw with
  |none=>simp only[e]at h;exact h.elim
  |some bs=>
   simp only[e]at h;obtain⟨l,d,f⟩:=oV e;obtain⟨b,k,rfl,g,a⟩:=ZA r j d;rw[i,OG g f]at a;exact⟨b,bs,rfl,a,Jc.here h r (by rw[Ua])⟩
 |_::_::_=>exact h.elim
noncomputable def nD(xs:List D):M D:=match xs with
 |[Z i,Z j]=>ret (Z (max i j))
 |_=>cc
noncomputable def wy(xs:List D):M D:=match xs with
 |[Z i,Z j]=>ret (Z (min i j))
 |_=>cc
def QU(p:Ub T a H [x,y] b):∃ v u,b=[v,u]/\Ua T a H x v/\Ua T a H y u:=by
 obtain⟨v,w,rfl,c,d⟩:=p;obtain⟨u,f,rfl,e,p4⟩:=d;rw[Ub]at p4;subst p4;exact⟨v,u,rfl,c,e⟩
def IW:jt T (λxs H Q=>∃ i j,xs=[ϡ i,ϡ j]/\Q (ϡ (if j > i then j else i)) H) nD:=by
 intro E d H f xs c Q r p h;unfold nD at h;split at h
 ·rename_i i j
  obtain⟨v,u,rfl,a,b⟩:=QU p;refine⟨i,j,by rw[pr a,pr b],?_⟩;have e:(if j > i then j else i)=max i j:=by rw[Int.max_def];split<;>split<;>omega
  rw[e];exact Jc.here h r (by rw[Ua])
 ·exact h.elim
def YF:jt T (λxs H Q=>∃ i j,xs=[ϡ i,ϡ j]/\Q (ϡ (if j<i then j else i)) H) wy:=by
 intro E d H f xs c Q r p h;unfold wy at h;split at h
 ·rename_i i j
  obtain⟨v,u,rfl,a,b⟩:=QU p;refine⟨i,j,by rw[pr a,pr b],?_⟩;have e:(if j<i then j else i)=min i j:=by rw[Int.min_def];split<;>split<;>omega
  rw[e];exact Jc.here h r (by rw[Ua])
 ·exact h.elim
noncomputable def Wv(a:List Int):List Int:=a.foldl step_dedup []
def zml(a:List Int):firstMet (λi=>a.getD i 0) a.length=Wv a:=by
 unfold firstMet Wv;congr 1;apply List.ext_getElem?;intro i;by_cases h:i<a.length
 ·simp[h]
 ·simp[h]
def oE(x:D):M D:=λa=>match (xh a x).bind Rw with
 |some ns=>if ns.length<=Ni then Y (Z (Wv ns).length) a else ϗ
 |none=>ϗ
def Y1(K:ϓ):List V->Hp->VK->Prop:=λxs H Q=>∃ (p:Addr) (ns:List Int),xs=[ϕ p]/\ug K H p (ns.map ϡ)/\ns.length<=Ni/\∀ l,H l=none->Q (ϕ l) (Nc H l (.set (λk=>(Wv ns).any (·== k)) (Wv ns).length))
def I0(h:n<=Ni):n+1<scanBound:=mx (Wy h) (by decide)
def F9(i:X.Lc=true):Gp X (ϙ "set") (Y1 X.K):=by
 intro f s t H xs w Q I r h;obtain⟨p,d,rfl,l,k,q⟩:=h;obtain⟨u,rfl,m⟩:=Yv r;cases m;obtain⟨its,g,pl,n⟩:=I.list l;have a:its.length=d.length:=by rw[<-g.length,Sa]
 refine call_set_list (I.ok.hd i) pl.isList (bY g) (by rw[Da,a];exact I0 k) λh' v c j=>?_;rw[show its.toArray.size=d.length by rw[Da,a],zml]at c;refine⟨ϕ s.heap.objs.size,_,I.laid (λb o e=>j b o (Fa e) e) (Ea _) ?_,rfl,q _ (I.Qd.fresh (Ea _))⟩;exact c
def Ì : Gp X (ϝ "len") (λxs H Q => ∃ (p : Addr) (S : Int -> Bool) (n : Nat), xs = [ϕ p] /\ H p = some (.set S n) /\ Q (ϡ n) H) := by
  intro a s w H xs x Q I r h;obtain ⟨p, S, n, rfl, g, q⟩ := h;obtain ⟨u, rfl, i⟩ := Yv r;cases i;obtain ⟨o, k, j, t, b, c, d, l, m, v, e, f⟩ := (I.Qd p _ g)
  refine call_len_set b c d e (by have : scanBound <= 2 ^ 62 := (by decide);omega) ⟨ϡ n, H, I.tok _, ⟨_, by rw [f]⟩, q⟩
def P4(ϊ:T.K=X.K)(J:X.Lc=true)(N:Gl X "len")(ώ:X.mg "len" = none)(n:Gl X "set")(q:X.mg "set" = none)(L:FE T X e f)
  (y:ya [e] X.env=(false,Ec e X.env)::ya [] X.env:=by rfl) (r:(Cd b (ya [] X.env)).any (·.1)=false:=by rfl)
  (i:ya [ϣ (ϟ "set" t) [e] [] b] X.env=(false,Ec (ϣ (ϟ "set" t) [e] [] b) X.env)::ya [] X.env:=by rfl) (g:(Cd k (ya [] X.env)).any (·.1)=false:=by rfl) :
  FE T X (ϣ (ϟ "len" p) [ϣ (ϟ "set" t) [e] [] b] [] k) (Dd oE f):=by
 intro j s ό H Q I h;refine HL Ì N ώ Nb (Tw (OX (F9 J) n q rfl (Tw L Qz y) (by decide) (by decide) y r) Qz i) (by decide) (by decide) i g j s ό H Q I ?_;obtain⟨V,ρ,σ,G,R,P⟩:=h;refine⟨V,ρ,σ,G,R,P.bind λd w u v W _ ϋ z S c=>?_⟩;unfold oE at c;cases m:(xh w d).bind Rw with
 |none=>rw[m]at c;exact c.elim
 |some ns=>
  rw[m]at c;dsimp only at c;by_cases o:ns.length<=Ni
  ·rw[ma o]at c;obtain⟨ys,A,B⟩:=aj.mp m;obtain⟨a,vs,rfl,E,F⟩:=z.ls S A;have C:=OG F B;subst C;refine⟨a,ns,rfl,ug.of E,o,λl x=>?_⟩;exact⟨l,_,_,rfl,Ih,c u (ϡ (Wv ns).length) _ (Wm x) (z.fresh x) (by rw[Ua])⟩
  ·rw[ra o]at c;exact c.elim
def zw(xs:List D)(lo a:Option Int):List D:=(xs.drop (HT.Fg xs.length 0 lo)).take (HT.Fg xs.length xs.length a - HT.Fg xs.length 0 lo)
def W3{xs:List D}{lo a:Option Int}(h:HT.Fg xs.length 0 lo=0/\HT.Fg xs.length xs.length a=xs.length):zw xs lo a=xs:=by
 unfold zw;rw[h.1,h.2];simp
def sO{xs:List D}(r:Ub T c H xs b)(lo a:Option Int):Ub T c H (zw xs lo a) (KB b lo a):=by
 unfold zw KB;rw[r.length];exact Ub.take _ (Ub.drop _ r)
end L4
namespace HT
open Spec
variable{prog:Ia}{w:qb}{A:Za}{E:Value->ba->Prop}{s:ba}
def Nl{lo d:Option Int}(b:iw s.heap t a)(j:s.heap.IsSliceOf i l m Wc)(pl:Rm l lo)(q:Rm m d)
  (k:Fg a.size 0 lo=0/\Fg a.size a.size d=a.size) (h:Q (jc t) s):wpAny (model prog w) A (Gj (jc t) (jc i)) Q E s:=by
 obtain⟨p,g,f,n⟩:=id j;have e:s.TypeIs (jc i) "slice":=⟨p,g,f⟩
 unfold Gj;try with_reducible refine ge ?_
 refine ga (bD b.typeIs (by decide) ?_);refine ga (bw b.typeIs md
  (zr md b.typeIs Wz ?_ (uB _ _)))
 show wpAny _ _ (Vl (jc t) >>= _) _ _ s;refine ga (qY b ?_);refine ga (bx e ?_);refine ga (aU j pl q ?_);have c:(((Fg a.size 0 lo):Int) == 0 && (1:Int) == 1 && (Fg a.size a.size d - Fg a.size 0 lo) == a.size)=true:=by
  rw[k.1,k.2];simp
 show wpAny _ _ (if (((Fg a.size 0 lo):Int) == 0 && 1 == 1 && (Fg a.size a.size d - Fg a.size 0 lo) == a.size)=true then _ else _) _ _ s;rw[ma c];obtain⟨o,u,r,v⟩:=id b;refine ga (ga (bx b.typeIs ?_));refine za ?_;refine ga (wpAny_rule ?_);first
  |exact za ⟨_,rfl,za h⟩
  |exact za (za ⟨_,rfl,za h⟩)
  |exact ga (za (za ⟨_,rfl,za h⟩))
end HT
namespace L4
open Spec L2
def gY(K:ϓ):V->Option Int->Option Int->Hp->VK->Prop:=λx lo b H Q=>∃ a xs,x=ϕ a/\ui K H a xs/\(HT.Fg xs.length 0 lo=0/\HT.Fg xs.length xs.length b=xs.length)/\Q (ϕ a) H
def l4:Ox X (gY X.K):=by
 intro d s n H x v o p lo k m Q I j e pl i h;obtain⟨a,xs,rfl,g,f,q⟩:=h;cases j;obtain⟨its,r,c,l⟩:=I.tuple g;have b:its.toArray.size=xs.length:=by rw[Da];exact r.length.symm
 exact⟨"tuple",_,md.lookup,c.typeIs,HT.Nl c e pl i (by rw[b];exact f) ⟨ϕ a,H,I,rfl,q⟩⟩
abbrev PF:=Option (Ev->M D)
noncomputable def wL(d:D):M (Option Int):=match d with
 | Z i=>ret (some i)
 |_=>cc
def OA(p:PF):Ev->M (Option Int):=match p with
 |none=>λ_=>ret none
 |some f=>λa=>be (f a) wL
def tP(T:Tb)(X:Cx)(f:Ev->M (Option Int)):TO:=λd H Q=>∃ c ρ σ,pi T c H ρ d/\je T c H σ/\Jc T (XE X d) (λ_ _ a b=>b=a) c H (f ρ σ) Q
abbrev FO(T:Tb)(X:Cx)(e:Option Ya)(p:PF):Prop:=PO X e (tP T X (OA p))
theorem tO:FO T X none none:=by
 intro a s d H Q I h;obtain⟨f,g,i,e,c,b⟩:=h;exact Y4 a s d H Q I (Jc.here b c rfl)
def LM(g:FE T X e f):FO T X (some e) (some f):=by
 intro a s n H Q I h;refine l8 g a s n H Q I ?_;obtain⟨o,q,σ,c,k,j⟩:=h;refine⟨o,q,σ,c,k,Jc.bind j λd r p v t _ u m l b=>?_⟩;cases d with
 |int i=>exact⟨i,pr l,Jc.here b m rfl⟩
 |_=>exact b.elim
def wV(x:D)(lo b:Option Int):M D:=λa=>match x with
 | Ϗ xs=>Y (Ϗ (zw xs lo b)) a
 | ϱ ns=>Y (O (zw (ns.map Z) lo b)) a
 |x=>(match xh a x with
  |some xs=>Y (O (zw xs lo b)) a
  |none=>ϗ)
def iB(x:D)(lo:Option Int)(a:Option Int):M D:=wV x lo a
def ZN(x:D)(a:M (Option Int))(lo:Option Int):M D:=be a (iB x lo)
def SK(lo a:M (Option Int))(x:D):M D:=be lo (ZN x a)
def bF(f:Ev->M D)(lo b:PF):Ev->M D:=λa=>be (f a) (SK (OA lo a) (OA b a))
def jN{lo ό:Option Ya}{pl V:PF}(ϊ:T.K=X.K)(he:FE T X e f)(hl:FO T X lo pl)(hh:FO T X ό V):FE T X (ϥ e (.Slice lo ό none B) C) (bF f pl V):=by
 intro w s W H Q I h;refine ś (Ox.or Q7 (Ox.or l4 ĕ)) he hl hh w s W H Q I ?_;obtain⟨μ,ρ,σ,z,hr,hp⟩:=h;refine⟨μ,ρ,σ,z,hr,hp.bind λd ώ J v H1 _ R r1 q1 p1=>⟨J,ρ,ώ,z.mono R,r1,p1.bind λl P L g H2 _ S r2 q2 B=>⟨L,ρ,P,(z.mono R).mono S,r2,B.bind λu m N i y _ ϋ x q3 c=>?_⟩⟩⟩;have E:=q2;have F:=q3;subst E;subst F;have rd:=Ua.mono ϋ _ _ (Ua.mono S _ _ q1);have b:∀ ys,xh m d=some ys->Jc T (XE X W) (Ua T) N y (Y (O (zw ys g i)) m) Q->eU X.K v g i y Q\/gY X.K v g i y Q\/mT X.K v g i y Q:=λys r p4=>by
  obtain⟨a,j,rfl,o,k⟩:=x.ls rd r;exact ϖ (ϖ ⟨a,j,rfl,ug.of o,λp t=>sJ p4 x (sO k g i) t⟩)
 cases d with
 |Xa xs=>
  have G:=rd;obtain⟨p,j,rfl,o,k⟩:=rd;by_cases A:HT.Fg j.length 0 g=0/\HT.Fg j.length j.length i=j.length
  ·refine ϖ (ϒ ⟨p,j,rfl,ui.of o,A,Jc.here c x ?_⟩);rw[W3 (by rw[k.length];exact A)];exact G
  ·exact ϒ ⟨p,j,rfl,ui.of o,A,λq t=>NC c x (sO k g i) t⟩
 |ref n=>
  unfold iB wV at c;dsimp only at c;cases r:xh m (U n)with
  |none=>rw[r]at c;exact c.elim
  |some ys=>rw[r]at c;exact b ys r c
 |wa ys=>exact b ys rfl c
 |rj ns=>
  obtain⟨p,rfl,o⟩:=rd;have k:=o.seq;rw[ϊ]at k;exact ϖ (ϖ ⟨p,_,rfl,k,λp t=>sJ c x (sO (eG ns) g i) t⟩)
 |_=>exact c.elim
def FN(K:ϓ)(j:Str->Option Value)(x:Str)(e:Stmt)(g:List Str)(i:List Value):Prop:=
 ∃ f b,j x=some (jc f)/\Ϻ K (jc f)=true/\(∃ (k:Value) (l:Option Addr) (h kV c m:Value) (an:Option Addr) (a ct:Value) (d:Array (Option Value)),
  b=ϭ x x (aq e) (Uj e) (jd e) h kV c m an a ct/\K.lookup f=some ⟨k,l,.func b,d⟩/\W.codeIn K a x=true)/\Ut K b g []/\Ut K b g i
def Rv(T:Tb)(P:Ia)(w:qb)(d:Str->Option Value)(a:Heap)(k:Nat)(x:Str)(b:List Str)(e:List Value)(g:List D->M D):Prop:=
 ∃ f c,d x=some (jc f)/\Ϻ T.K (jc f)=true/\Ut T.K c b []/\Ut T.K c b e/\Ai P w T.K d a (Yl P w) k f c b (lr T b.length g)
section
def zmq(h:Rv T X.prog X.w X.mg X.base k x ps n g)(o:T.K=X.K)(u:pe k X.A)(s:Gl X x)
  (q:FA T X (e::a) i) (c:(x == ("__debug__" : Str))=false:=by decide) (r:ya (e::a) X.env=(false,Ec e X.env)::ya a X.env:=by rfl) (d:(Cd b (ya a X.env)).any (·.1)=false:=by rfl) :
  FE T X (ϣ (ϟ x p) (e::a) [] b) (Ld ps.length g [] i):=by
 obtain⟨f,v,t,m,l,_,j⟩:=h;rw[o]at m j l;exact yK j u s t m l Ϥ (λ_ _=>Ub.nil) q c r d
def O7(h:Rv T X.prog X.w X.mg X.base k x ps l m)(s:T.K=X.K)(z:pe k X.A)(v:Gl X x)(B:Pe b l)(i:∀ C H,Ub T C H a b)
  (t:FA T X (e::c) n) (g:(x == ("__debug__" : Str))=false:=by decide) (u:ya (e::c) X.env=(false,Ec e X.env)::ya c X.env:=by rfl) (j:(Cd d (ya c X.env)).any (·.1)=false:=by rfl) :
  FE T X (ϣ (ϟ x p) (e::c) [] d) (Ld ps.length m a n):=by
 obtain⟨f,E,y,r,_,q,o⟩:=h;rw[s]at r o q;exact yK o z v y r q B i t g u j
def N4:Pe [V.Rc] [Wc]:=Ϡ rfl Ϥ
def T0(a:List Addr)(H:Hp):Ub T a H [ϛ] [V.Rc]:=Ub.cons (by rw[Ua]) Ub.nil
variable{P:Ia}{w:qb}{K:ϓ}{mg:Str->Option Value}{base:Heap}{ca:Nat->Addr}{tx:Tx}
def Ğ(h:FN K mg x c e i)(S:Ba N e (jd c))
  (n:∀ (f:Addr) (a:Value) (A:Za) (b:List zh) (s:ba) (H:Hp) (E:XK),pe k (A.deeper (Og x (jd c) s.heap.objs.size f a))->um ⟨K,ca,tx⟩ (Gq (Yl P w) P w K mg base N x (jd c) f a A b s H E) (Uj c) g) :
  Rv ⟨K,ca,tx⟩ P w mg base (k+1) x e i (ae N.length g):=by
 obtain⟨f,u,p,o,⟨v,y,t,kV,m,z,r,a,ct,q,rfl,lk,d⟩,j,l⟩:=h;exact⟨f,_,p,o,j,l,DC lk d S (n f a)⟩
def Rv.Qc{k:Nat}{x:Str}{c:List Str}{a:List Value}{b:List D->M D}(h:Rv T P w mg base k x c a b):Rv T P w mg base k x c a (λd=>L4.Qc (b d)):=by
 obtain⟨f,e,g,i,j,l,m⟩:=h;exact⟨f,e,g,i,j,l,ZG m⟩
def B1{D j z:Option Addr}{kV e m b ct:Value}{w:Nat}(X:K.In h)(G:h.Ns mainGlobals mg)
  (B:∀ (t:Addr) (kV e m:Value) (j:Option Addr) (b ct:Value) (s:ba) (o:Ad) (n:Nat) (i:List Value),s.heap.get? t=some o->o.data=Ϩ p.toArray n->((i++[]).length=r.length->Fh s (ϭ x x (aq g) (Uj g) (jd g) (jc t) kV e m j b ct) ⟨i,[]⟩ (r.zip (i++[])))/\
   ((i++p).length=r.length->Fh s (ϭ x x (aq g) (Uj g) (jd g) (jc t) kV e m j b ct) ⟨i,[]⟩ (r.zip (i++p))))
  (a:W.nsIn K mainGlobals x=some (some (jc f))) (l:K.lookup f=some ⟨C,D,.func (ϭ x x (aq g) (Uj g) (jd g) (jc t) kV e m j b ct),q⟩)
  (c:W.codeIn K b x=true) (k:Ϻ K (jc f)=true) (d:K.lookup t=some ⟨y,z,Ϩ p.toArray w,A⟩):FN K mg x g r p:=
 ⟨f,_,W.mg_of X G a,k,⟨C,D,_,kV,e,m,j,b,ct,q,rfl,l,c⟩,λs i u v=>(B t kV e m j b ct s _ w i (u _ _ d) rfl).1 v,λs i u v=>(B t kV e m j b ct s _ w i (u _ _ d) rfl).2 v⟩
end
noncomputable def Hz(l:List (Nat × Bool)):Nat->Option Bool:=λc=>l.lookup c
abbrev HV:List Value:=[ϙ "ValueError",ϙ "Exception",ϙ "BaseException",ϙ "object"]
def eK(K:ϓ)(a:Nat->Addr)(b:Value)(l:List (Nat × Bool)):Prop:=∀ p∈l,ϴ K (jc (a p.1)) b=some p.2
def ě{K:ϓ}:eK K a b []:=λ_ h=>nomatch h
def NV{K:ϓ}(h:ϴ K (jc (a c)) d=some b)(r:eK K a d l):eK K a d ((c,b)::l):=λp e=>by
 rcases Ma.mp e with rfl|e
 ·exact h
 ·exact r p e
theorem uL:∀ {l:List (Nat × Bool)} {c:Nat} {b:Bool},l.lookup c=some b->(c,b)∈l
 |[],_,_,h=>by simp at h
 |(n,d)::r,c,b,h=>by
  rw[Hb]at h;cases e:c == n with
  |true=>rw[e]at h;cases h;rw[eq_of_beq e];exact Ha
  |false=>rw[e]at h;exact Aa _ (uL h)
def G7{K:ϓ}(h:eK K a d l):∀ c b,Hz l c=some b->ϴ K (jc (a c)) d=some b:=λc b e=>h (c,b) (uL e)
def Se.Lb(h:Se T P w c a k x d b):Se T P w c a k x d (L4.Lb b):=by rw[Ls];exact h
def Rv.Lb(h:Rv T P w d a k x e b c):Rv T P w d a k x e b (L4.Lb c):=by rw[Ls];exact h
section
variable{μ:List Addr}{H:Hp}{σ:lb}
def Dm(σ:lb):D->Option (Nat × List (Str × D))
 | .obj c ns ds=>if ns.length=ds.length then some (c,ns.zip ds)else none
 | U n=>match σ[n]? with
  |some (Ϙ c a)=>some (c,a)
  |_=>none
 |_=>none
theorem VU:∀ {b:List Str} {ds:List D} {a:List (Str × V)},a.map (·.1)=b->Ub T μ H ds (a.map (·.2))->fv T μ H (b.zip ds) a
 |[],ds,[],_,h=>by
  cases ds with
  |nil=>exact Ϥ
  |cons d ds=>have:=h.length;simp at this
 |[],ds,f::a,e,_=>by simp at e
 |n::b,ds,[],e,_=>by simp at e
 |n::b,[],f::a,e,h=>by have:=h.length;simp at this
 |n::b,d::ds,f::a,e,h=>by
  simp only[Ga,Qu]at e;rw[Ga,Ub]at h;obtain⟨v,r,c,j,k⟩:=h;simp only[Qu]at c;obtain⟨g,i⟩:=c;subst i;exact Ϡ ⟨e.1.symm,by rw[g];exact j⟩ (VU e.2 k)
def aC(r:je T μ H σ)(h:Ua T μ H d v)(e:Dm σ d=some (c,k)):∃ a f b,v=ϕ a/\H a=some (.yc (T.ca c) f b)/\fv T μ H k b:=by
 cases d with
 |obj m ns ds=>
  unfold Dm at e;by_cases l:ns.length=ds.length
  ·simp only[l]at e;obtain⟨rfl,rfl⟩:=e;obtain⟨a,f,b,rfl,_,i,j,s⟩:=h;exact⟨a,f,b,rfl,i,VU j s⟩
  ·simp[l]at e
 |ref n=>
  unfold Dm at e;dsimp only at e;cases g:σ[n]? with
  |none=>rw[g]at e;cases e
  |some o=>
   rw[g]at e;obtain⟨a,rfl,_,q⟩:=r.at h g;cases o with
   |yc m p=>cases e;obtain⟨f,b,i,j⟩:=q;exact⟨a,f,b,rfl,i,j⟩
   |wa _=>cases e
   |Qb _=>cases e
   |ig _=>cases e
   |Bl _=>cases e
 |_=>cases e
theorem rF{f:Str}:∀ {b:List (Str × D)} {i:List (Str × V)},fv T μ H b i->(∀ d,b.lookup f=some d->∃ v,i.lookup f=some v/\Ua T μ H d v)/\(b.lookup f=none->i.lookup f=none)
 |_,_,Ϥ=>⟨λd e=>by simp at e,λ_=>rfl⟩
 |(g,x)::b,(o,v)::i,Ϡ ⟨e,h⟩ t=>by
  have j:=e;subst j;obtain⟨k,l⟩:=rF t;by_cases c:(f == g)=true
  ·refine⟨λd q=>?_,λq=>?_⟩
   ·rw[Hb,c]at q;cases q;exact⟨v,by rw[Hb,c],h⟩
   ·rw[Hb,c]at q;cases q
  ·have a:(f == g)=false:=by simpa using c
   refine⟨λd q=>?_,λq=>?_⟩
   ·rw[Hb,a]at q;obtain⟨w,m,n⟩:=k d q;exact⟨w,by rw[Hb,a];exact m,n⟩
   ·rw[Hb,a]at q;rw[Hb,a];exact l q
def Co(T:Tb)(a:List Nat)(f:Str):Prop:=∀ c,a.contains c=true->qq T.K (T.ca c)/\bi T.K (T.ca c) f
def Bs:Co T [] f:=λc h=>by simp at h
def oj(e:qq T.K (T.ca c))(g:bi T.K (T.ca c) f)(h:Co T b f):Co T (c::b) f:=λd a=>by
 rw[List.contains_cons,fg,Dh]at a;rcases a with rfl|a
 ·exact⟨e,g⟩
 ·exact h d a
def Mc(a:List Nat)(f:Str)(x:D):M D:=λσ=>match Dm σ x with
 |some (c,b)=>if a.contains c=true then (match b.lookup f with
  |some d=>Y d σ
  |none=>ϗ)else ϗ
 |none=>ϗ
def NY(F:T.K=X.K)(J:Co T k f)(L:FE T X e g)
  (G:ye e f X.env (Ec e X.env)=Ec e X.env:=by rfl):FE T X (Ϣ e f n) (Dd (Mc k f) g):=by
 intro j s R H Q I h;refine İ L G j s R H Q I ?_;obtain⟨μ,ρ,σ,E,ώ,N⟩:=h;refine⟨μ,ρ,σ,E,ώ,Jc.bind N λd o ό v V _ W t P b=>?_⟩;unfold Mc at b;cases l:Dm o d with
 |none=>rw[l]at b;exact b.elim
 |some p=>
  obtain⟨c,x⟩:=p;rw[l]at b;dsimp only at b;by_cases i:k.contains c=true
  ·rw[ma i]at b;obtain⟨a,u,S,rfl,z,A⟩:=aC t P l;cases m:x.lookup f with
   |none=>rw[m]at b;exact b.elim
   |some y=>
    rw[m]at b;obtain⟨w,B,C⟩:=(rF A).1 y m;obtain⟨q,r⟩:=J c i;rw[F]at q r;exact⟨a,_,u,S,w,rfl,z,q,r,B,Jc.here b t C⟩
  ·rw[ra i]at b;exact b.elim
noncomputable def Ip(f:Str)(v:D):List (Str × D)->List (Str × D)
 |[]=>[(f,v)]
 |(g,x)::r=>if g=f then (g,v)::r else (g,x)::Ip f v r
theorem YN{f:Str}{d:D}{v:V}(c:Ua T μ H d v):∀ {b:List (Str × D)} {i:List (Str × V)},fv T μ H b i->fv T μ H (Ip f d b) (Vp f v i)
 |_,_,Ϥ=>Ϡ ⟨rfl,c⟩ Ϥ
 |(g,x)::b,(k,w)::i,Ϡ ⟨e,h⟩ t=>by
  have j:=e;subst j;unfold Ip Vp;by_cases a:g=f
  ·rw[ma a,ma a];exact Ϡ ⟨rfl,c⟩ t
  ·rw[ra a,ra a];exact Ϡ ⟨rfl,h⟩ (YN c t)
def fv.mono(e:Ge μ H a b)(h:fv T μ H c d):fv T a b c d:=Paired.Ms h λ_ _ q=>⟨q.1,Ua.mono e _ _ q.2⟩
def fv.length(h:fv T μ H a b):a.length=b.length:=Paired.length h
def kC(b:List Nat)(f:Str)(d x:D):M Unit:=λσ=>match x with
 | U n=>(match σ[n]? with
  |some (Ϙ c a)=>if (b.contains c && decide (a.length<1000))=true then Y () (σ.set n (Ϙ c (Ip f d a)))else ϗ
  |_=>ϗ)
 |_=>ϗ
def WA(c:Ev)(b:List Nat)(f:Str)(d x:D):M Fl:=λσ=>match kC b f d x σ with
 | Y _ a=>Y (Ϛ c) a
 |_=>ϗ
def xL(a:Ev)(b:List Nat)(f:Str)(c:Ev->M D)(d:D):M Fl:=xs a (c a) (WA a b f d)
def Ho(b:List Nat)(f:Str)(d c:Ev->M D):Ev->M Fl:=λa=>xs a (d a) (xL a b f c)
def Fq(S:T.K=X.K)(ό:Co T m f)(W:FE T X o C)(hv:FE T X e F)
  (hs:dj e (some (Ϣ o f h)) k.line X.env=pure false:=by rfl):FS T X (.Assign [Ϣ o f h] e k) (Ho m f F C):=by
 intro j s Q H D I ϊ;refine Q4 W hv hs j s Q H D I ?_;obtain⟨μ,ρ,σ,i,hr,ϋ⟩:=ϊ;refine⟨μ,ρ,σ,i,hr,ϋ.xs i λd w u v H1 _ q r1 q1 p1=>?_⟩;refine⟨u,ρ,w,i.mono q,r1,p1.xs (i.mono q) λx y l vo A _ B P q2 b=>?_⟩;have V:=Ua.mono B _ _ q1;unfold WA kC at b;cases x with
 |ref n=>
  dsimp only at b;cases r:y[n]? with
  |none=>rw[r]at b;exact b.elim
  |some ob=>
   rw[r]at b;cases ob with
   |wa _=>exact b.elim
   |Qb _=>exact b.elim
   |ig _=>exact b.elim
   |Bl _=>exact b.elim
   |yc c E=>
    dsimp only at b;by_cases g:(m.contains c && decide (E.length<1000))=true
    ·rw[ma g]at b;rw[Na,Fc]at g;obtain⟨a,rfl,L,p,R,G,J⟩:=P.at q2 r;have ex:Ge l A l (Nc A a (.yc (T.ca c) p (Vp f v R))):=Jw (La L) G (λ_ z=>by cases z) (λ_ _ z=>by cases z);have t:=P.write (ob:=Ϙ c (Ip f d E)) L ⟨p,_,Ih,YN (Ua.mono ex _ _ V) (fv.mono ex J)⟩;obtain⟨N,ώ⟩:=ό c g.1;rw[S]at N ώ;exact⟨a,_,p,R,rfl,G,N,ώ,by rw[<-J.length];exact g.2,b _ (ϸ Q) _ t.1 t.2 ((i.mono q).mono B |>.mono t.1)⟩
    ·rw[ra g]at b;exact b.elim
 |_=>exact b.elim
noncomputable def gE(n:Nat):Fm D->Fm D
 | Y ϛ a=>Y (U n) a
 | Y _ _=>ϗ
 | .ex x a=>.ex x a
 | ϗ=>ϗ
def Lr(c n:Nat)(b:List D->M D)(a:List D):M D:=λσ=>if a.length+1=n then gE σ.length (b (U σ.length::a) (σ++[Ϙ c []]))else ϗ
def bv(c n:Nat)(a:List D->M D)(b:Ev->M (List D)):Ev->M D:=λd=>be (b d) (Lr c n a)
def Bi(T:Tb)(P:Ia)(w:qb)(g:Str->Option Value)(a:Heap)(k:Nat)(f:Addr)(b:List Str)(e:List D->M D):Prop:=
 ∃ d,(∀ c:List Value,c.length=b.length->bindArgs d ⟨c,[]⟩=pure (b.zip c))/\Ai P w T.K g a (Yl P w) k f d b (lr T b.length e)
def Y6(T:Tb)(P:Ia)(w:qb)(b:Str->Option Value)(a:Heap)(k:Nat)(x:Str)(c:Nat)(e:List Str)(d:List D->M D):Prop:=
 ∃ f,b x=some (jc (T.ca c))/\Mk T.K (T.ca c) f/\Bi T P w b a k f e d
def UP{ps:List Str}(r:je T μ H σ)(q:Ub T μ H h w)(p:Jc T E (Ua T) μ H (Lr c ps.length m h σ) Q) :
  ∀ x a,H x=none->H a=none->a≠x->lr T ps.length m (ϕ x::(w++[])) (Nc (Nc H a (.own x)) x (.yc (T.ca c) a [])) (λv z=>v=.Rc/\Q (ϕ x) z) E:=by
 intro x a B i o;unfold Lr at p;by_cases n:h.length+1=ps.length
 ·rw[ma n]at p;have b:Ge μ H μ (Nc H a (.own x)):=Wm i;have t:je T μ (Nc H a (.own x)) σ:=r.fresh i;have j:Nc H a (.own x) x=none:=by unfold Nc;rw[ra (yf o)];exact B
  have f:Ge μ (Nc H a (.own x)) (μ++[x]) (Nc (Nc H a (.own x)) x (.yc (T.ca c) a [])):=My j;have F:je T (μ++[x]) (Nc (Nc H a (.own x)) x (.yc (T.ca c) a [])) (σ++[Ϙ c []]):=t.push j ⟨a,[],Ih,Ϥ⟩;refine⟨μ++[x],σ++[Ϙ c []],U σ.length::h,Ub.cons (xF t) (by rw[Xh];exact Ub.mono (b.trans f) _ _ q),by rw[ub];exact n,F,?_⟩;cases e:m (U σ.length::h) (σ++[Ϙ c []])with
  |cc=>rw[e]at p;exact p.elim
  |ex y u=>rw[e]at p;exact λg l k s=>p g l ((b.trans f).trans k) s
  |ok d u=>
   rw[e]at p;intro g v l k s C;have A:d=ϛ:=by cases d<;>first|rfl|exact p.elim
   subst A;refine⟨C,p g (ϕ x) l ((b.trans f).trans k) s ?_⟩;exact Ua.mono k _ _ (xF t)
 ·rw[ra n]at p;exact p.elim
def LR(M:Mk X.K C f)(F:Ai X.prog X.w X.K X.mg X.base (Yl X.prog X.w) k f n ps y)(ώ:pe (k+1) X.A)(J:Ut X.K n ps g)(L:Pe d g)
  (I:Ab X b m H s) (r:Pe o c)
  (h:∀ x l,H x=none->H l=none->l≠x->y (ϕ x::(o++d)) (Nc (Nc H l (.own x)) x (.yc C l [])) (λv z=>v=.Rc/\Q (ϕ x) z) (XE X m)) :
  wpAny (model X.prog X.w) X.A (call (jc C) c) (EP X b m Q) X.xe s:=by
 have q:=h (s.heap.objs.size+1) s.heap.objs.size (I.Qd.fresh (Sk _)) (I.Qd.fresh (Ea _)) (Wa (Vd _));have j:=Ab.made (C:=C) I;have t:Pe (ϕ (s.heap.objs.size+1)::(o++d)) (jc (s.heap.objs.size+1)::(c++g)):=Ϡ rfl (r.append L);have N:(jc (s.heap.objs.size+1)::c++g).length=ps.length:=by
  have e:=t.length;rw[F.len _ _ _ _ q]at e;exact e.symm
 refine Lp (U0 I.Ak M.makes M.init (Dh.mp M.fn) (Tk (F.ae _ X.stack _ _ ⟨jc (s.heap.objs.size+1)::c,[]⟩ (jc (s.heap.objs.size+1)::(c++g)) _ _ (XE X m) (ώ.make C c [])
  (j.yF.make C c []) (J _ (jc (s.heap.objs.size+1)::c) j.Ak N) t q) λr T a=>?_))
 cases r with
 |error e=>obtain⟨D,n,p,i,P⟩:=a;exact P.IJ b _ _ e T j i
 |ok G=>
  cases G with
  |ret u=>
   obtain⟨v,p,B,S,E,R⟩:=j.after a;subst E;exact⟨S,⟨ϕ (s.heap.objs.size+1),p,B,rfl,R⟩⟩
  |next=>exact ϲ a
  |brk=>exact ϲ a
  |cont=>exact ϲ a
def XC(h:Y6 T X.prog X.w X.mg X.base k x c ps j)(F:T.K=X.K)(S:pe (k+1) X.A)(N:Gl X x)
  (G:FA T X (e::d) y) (m:(x == ("__debug__" : Str))=false:=by decide) (L:ya (e::d) X.env=(false,Ec e X.env)::ya d X.env:=by rfl) (n:(Cd a (ya d X.env)).any (·.1)=false:=by rfl) :
  FE T X (ϣ (ϟ x p) (e::d) [] a) (bv c ps.length j y):=by
 obtain⟨f,ώ,l,fd,J,z⟩:=h;rw[F]at l z;intro g s B H Q I R;obtain⟨μ,ρ,σ,E,o,P⟩:=R;refine wg (pC I N ώ ?_ m);refine W.callWith_K I.ok.mod.Cz l.kp (Le (G a g s B H (λt b=>∀ x i,b x=none->b i=none->i≠x->lr T ps.length j (ϕ x::(t++[])) (Nc (Nc b i (.own x)) x (.yc (T.ca c) i [])) (λv C=>v=.Rc/\Q (ϕ x) C) (XE X B)) I ⟨μ,ρ,σ,E,o,P.bind λds a0 ϊ t b _ e1 ϋ ό V=>UP ϋ ό V⟩) λus s1 ⟨t,b,u,r,q⟩=>⟨u.Ak,?_⟩) L n;exact LR l z S (.all J) Ϥ u r q
structure eO(T:Tb)(P:Ia)(w:qb)(mg:Str->Option Value)(base:Heap)(k:Nat)(m:Str)(c:Nat)(ps:List Str)(fn:List D->M D):Prop where
 cl:qq T.K (T.ca c)
 ex:∃ f,Eg T.K (T.ca c) m f/\Bi T P w mg base k f ps fn
abbrev Mt:=List (Nat × (List D->M D))
noncomputable def Ax:Mt->Nat->Option (List D->M D)
 |[],_=>none
 |(c,fn)::r,d=>if c == d then some fn else Ax r d
noncomputable def Ql(n:Nat)(b:List D->M D)(x:D)(a:List D):M D:=if a.length+1=n then b (x::a)else cc
def Bo(b:Mt)(n:Nat)(m:Str)(a:M (List D))(x:D):M D:=λσ=>match Dm σ x with
 |some (c,gs)=>(match Ax b c,gs.lookup m with
  |some fn,none=>be a (Ql n fn x) σ
  |_,_=>ϗ)
 |none=>ϗ
def jh(c:Mt)(n:Nat)(m:Str)(f:Ev->M D)(b:Ev->M (List D)):Ev->M D:=λa=>be (f a) (Bo c n m (b a))
theorem aO:∀ {a:Mt} {c:Nat} {fn:List D->M D},Ax a c=some fn->(c,fn)∈a
 |[],_,_,h=>by cases h
 |(d,g)::r,c,fn,h=>by
  unfold Ax at h;by_cases e:(d == c)=true
  ·rw[ma e]at h;cases h;rw[Dh.mp e];exact Ha
  ·rw[ra e]at h;exact Aa _ (aO h)
def n6(hK:T.K=X.K)(he:FE T X o f)(h:∀ q∈L,eO T X.prog X.w X.mg X.base k m q.1 ps q.2)(hr:pe k X.A)(ha:FA T X (e::n) P)
  (ϊ:ya (e::n) X.env=(false,Ec e X.env)::ya n X.env:=by rfl) (V:(Cd b (ya n X.env)).any (·.1)=false:=by rfl)
  (ht:Ec (ϣ (Ϣ o m i) (e::n) [] b) X.env=(do
   let ov <-Ec o X.env
   Vk i.atName
   let (f,first) <-Zg [ov] (on ov m pl)
   dz b f first (Cd b (ya (e::n) X.env)) (sk b (Ah [] X.env))):=by rfl) :
  FE T X (ϣ (Ϣ o m i) (e::n) [] b) (jh L ps.length m f P):=by
 intro j s J H Q I hq;obtain⟨μ,ρ,σ,hE,ϋ,hp⟩:=hq;have R:=hE;refine W.methodCall_KW (Le (he j s J H (λx t=>∃ a c G l C,x=ϕ a/\t a=some (.yc (T.ca c) G l)/\Ax L c=some C/\l.lookup m=none/\tL T X P J t λus N=>lr T ps.length C (x::(us++[])) N Q (XE X J)) I ⟨μ,ρ,σ,hE,ϋ,hp.bind λd F a0 v t _ e1 r1 q1 g=>?_⟩) λu s1 ⟨x,t,I1,rx,a,c,G,l,C,ex,ea,p,B,q⟩=>?_) ht
 ·unfold Bo at g;cases ώ:Dm F d with
  |none=>rw[ώ]at g;exact g.elim
  |some z=>
   obtain⟨c,gs⟩:=z;rw[ώ]at g;dsimp only at g;cases p:Ax L c with
   |none=>rw[p]at g;exact g.elim
   |some C=>
    cases B:gs.lookup m with
    |some y=>rw[p,B]at g;exact g.elim
    |none=>
     rw[p,B]at g;dsimp only at g;obtain⟨a,G,l,rfl,h1,h2⟩:=aC r1 q1 ώ;refine⟨a,c,G,l,C,rfl,h1,p,(rF h2).2 B,a0,ρ,F,R.mono e1,r1,g.bind λds a2 a1 us N _ e2 r2 q2 E=>?_⟩;unfold Ql at E;by_cases ό:ds.length+1=ps.length
     ·rw[ma ό]at E;exact⟨a1,a2,d::ds,Ub.cons (Ua.mono e2 _ _ q1) (by rw[Xh];exact q2),by rw[ub];exact ό,r2,E⟩
     ·rw[ra ό]at E;exact E.elim
 ·subst ex;obtain rfl:u=jc a:=rx;obtain⟨hC,f',S,fd,hb,hF⟩:=h _ (aO p);rw[hK]at hC S hF;refine eW I1 ea hC S B ?_;refine W.callWith_K I.ok.mod.Cz S.kp (Le (ha b j s1 J t _ I1 q) λus s2 ⟨l,N,I2,r,q2⟩=>⟨I2.Ak,?_⟩) ϊ V;exact vO (vs:=ϕ a::l) hF hr (.all hb) Ϥ I2 (Ϡ rfl r) q2
def t8(hK:T.K=X.K)(he:FE T X o f)(h:∀ q∈F,eO T X.prog X.w X.mg X.base k m q.1 ps q.2)(hr:pe k X.A)
  (ht:Ec (ϣ (Ϣ o m e) [] [] g) X.env=(do
   let ό <-Ec o X.env
   Vk e.atName
   let (f,first) <-Zg [ό] (on ό m pl)
   dz g f first (Cd g (ya [] X.env)) (sk g (Ah [] X.env))):=by rfl) :
  FE T X (ϣ (Ϣ o m e) [] [] g) (jh F ps.length m f Pa):=by
 intro B s P H Q I hq;obtain⟨μ,ρ,σ,hE,ώ,hp⟩:=hq;refine W.methodCall_KW (Le (he B s P H (λx p=>∃ a c E n l,x=ϕ a/\p a=some (.yc (T.ca c) E n)/\Ax F c=some l/\n.lookup m=none/\lr T ps.length l (x::([]++[])) p Q (XE X P)) I ⟨μ,ρ,σ,hE,ώ,hp.bind λd i C v p _ e1 ϋ V b=>?_⟩) λu s1 ⟨x,p,G,rx,a,c,E,n,l,ex,ϊ,j,r,q⟩=>?_) ht
 ·unfold Bo at b;cases J:Dm i d with
  |none=>rw[J]at b;exact b.elim
  |some z=>
   obtain⟨c,gs⟩:=z;rw[J]at b;dsimp only at b;cases j:Ax F c with
   |none=>rw[j]at b;exact b.elim
   |some l=>
    cases r:gs.lookup m with
    |some y=>rw[j,r]at b;exact b.elim
    |none=>
     rw[j,r]at b;dsimp only at b;obtain⟨a,E,n,rfl,h1,h2⟩:=aC ϋ V J;have t:Jc T (XE X P) (Ua T) C p (Ql ps.length l d [] i) Q:=b;unfold Ql at t;by_cases N:([]:List D).length+1=ps.length
     ·rw[ma N]at t;exact⟨a,c,E,n,l,rfl,h1,j,(rF h2).2 r,C,i,[d],Ub.cons V Ub.nil,N,ϋ,t⟩
     ·rw[ra N]at t;exact t.elim
 ·subst ex;obtain rfl:u=jc a:=rx;obtain⟨R,f',L,fd,hb,S⟩:=h _ (aO j);rw[hK]at R L S;refine eW G ϊ R L r ?_;exact W.callWith_K0 G.Ak L.kp (vO (vs:=[ϕ a]) S hr (.all hb) Ϥ G (Ϡ rfl Ϥ) q)
structure OkU(T:Tb)(P:Ia)(w:qb)(mg:Str->Option Value)(base:Heap)(k:Nat)(x m:Str)(c:Nat)(ps:List Str)(fn:List D->M D):Prop where
 gl:mg x=some (jc (T.ca c))
 sp:W.specialIn T.K (jc (T.ca c)) (xu "__getattribute__")=some (some (ϝ "type.__getattribute__"))
 ex:∃ f mc,W.readsIn T.K (T.ca c) mc=true/\W.findCls T.K (jc (T.ca c)) mc m=some (.val (jc f))/\Ϻ T.K (jc f)=true/\Bi T P w mg base k f ps fn
end
structure Wg(K:ϓ)(C:Addr)(x qual:Str)(st:Stmt)(ps:List Str)(f:Addr):Prop where
 ex:∃ fd,Pz K x qual st f fd/\∀ us:List Value,us.length=ps.length->bindArgs fd ⟨us,[]⟩=pure (ps.zip us)
section
variable{P:Ia}{w:qb}{K:ϓ}{mg:Str->Option Value}{base:Heap}{ca:Nat->Addr}{tx:Tx}
def RU(h:Wg K C x a d j f)(S:Ba N j (jd d))
  (m:∀ (b:Value) (A:Za) (c:List zh) (s:ba) (H:Hp) (E:XK),pe k (A.deeper (Og a (jd d) s.heap.objs.size f b))->um ⟨K,ca,tx⟩ (Gq (Yl P w) P w K mg base N a (jd d) f b A c s H E) (Uj d) g) :
  Bi ⟨K,ca,tx⟩ P w mg base (k+1) f j (ae N.length g):=by
 obtain⟨p,F,e⟩:=h.ex;obtain⟨q,r,kV,l,t,o,b,ct,n,rfl,lk,i⟩:=F.ex;exact⟨_,e,DC lk i S (m b)⟩
def Bi.Qc{T:Tb}{k:Nat}{f:Addr}{b:List Str}{a:List D->M D}(h:Bi T P w mg base k f b a):Bi T P w mg base k f b (λc=>L4.Qc (a c)):=by
 obtain⟨d,e,g⟩:=h;exact⟨d,e,ZG g⟩
def Bi.Lb(h:Bi T P w mg base k f b a):Bi T P w mg base k f b (L4.Lb a):=by rw[Ls];exact h
end
noncomputable def yh(s:Stmt)(j:Nat):Stmt:=match s with
 | .ClassDef _ _ _ b _ _ _ _ _ _ _=>b.getD j (.Pass ⟨0,0,0,0⟩)
 |s=>s
def Y0{K:ϓ}{kV d h b ct:Value}
  (n:∀ (kV d h:Value) (g:Option Addr) (b ct:Value) (m:List Value),m.length=j.length->bindArgs (ϭ x a (aq e) (Uj e) (jd e) Wc kV d h g b ct) ⟨m,[]⟩=pure (j.zip m))
  (l:K.lookup f=some ⟨o,p,.func (ϭ x a (aq e) (Uj e) (jd e) Wc kV d h g b ct),i⟩)
  (c:W.codeIn K b a=true) (k:Ϻ K (jc f)=true):Wg K C x a e j f:=⟨⟨_,EX l c k,n kV d h g b ct⟩⟩
section
variable{T:Tb}{P:Ia}{w:qb}{mg:Str->Option Value}{base:Heap}
def Lk(T:Tb)(P:Ia)(w:qb)(mg:Str->Option Value)(base:Heap)(k:Nat)(m:Str)(a:List Str)(b:Mt):Prop:=∀ q∈b,eO T P w mg base k m q.1 a q.2
def Jo:Lk T P w mg base k m a []:=λq h=>nomatch h
def Á(n:qq T.K (T.ca c))(o:Eg T.K (T.ca c) m f)(p:Bi T P w mg base j f e g)(r:j<=k)(h:Lk T P w mg base k m e i):Lk T P w mg base k m e ((c,g)::i):=λq d=>by
 rcases Ma.mp d with rfl|d
 ·obtain⟨l,a,b⟩:=p;exact⟨n,f,o,l,a,b.mono r⟩
 ·exact h q d
end
end L4
namespace L4
open L2
def nr{a b:c}(h:a=b):a=b:=h
section
variable{α β:Type}{ρ:Ev}{σ:lb}
@[simp] theorem Qg(a:α)(σ:lb)(k:α->M β):(Y a σ).bind k=k a σ:=rfl
@[simp] theorem yol(a:α)(σ:lb):ret a σ=Y a σ:=rfl
@[simp] theorem ot(m:M α)(k:α->M β)(σ:lb):be m k σ=(m σ).bind k:=rfl
@[simp] theorem K7(d:D):eC d ρ σ=Y d σ:=rfl
@[simp] theorem ZD(d:D)(r:Ev):da 0 (some d::r) σ=Y d σ:=rfl
@[simp] theorem zP(i:Nat)(o:Option D)(r:Ev):da (i+1) (o::r) σ=da i r σ:=rfl
@[simp] theorem zzj(o:D->D->M D)(a b:Ev->M D):Ja o a b ρ σ=(a ρ σ).bind (QK o (b ρ)):=rfl
@[simp] theorem zys(o:D->D->M D)(m:M D)(x:D):QK o m x σ=(m σ).bind (o x):=rfl
@[simp] theorem yjj(o:D->M D)(a:Ev->M D):Dd o a ρ σ=(a ρ σ).bind o:=rfl
@[simp] theorem ypk(b:Bool):zC (ϐ b) σ=Y b σ:=rfl
@[simp] theorem ysx(p q:M α):Ol p q true σ=p σ:=rfl
@[simp] theorem ysw(p q:M α):Ol p q false σ=q σ:=rfl
@[simp] theorem yde(c:Bool):YM c σ=Y (!c) σ:=rfl
@[simp] theorem zxi(k:Bool->M α)(b:Bool):xz k (ϐ b) σ=k b σ:=rfl
@[simp] theorem zue(c:Bool):TM c σ=Y (ϐ (!c)) σ:=rfl
@[simp] theorem yru(f:Ev->M D):eT f ρ σ=(f ρ σ).bind zC:=rfl
@[simp] theorem zyq(a b:Ev->M Bool):gu a b ρ σ=(a ρ σ).bind (Ol (b ρ) (ret false)):=rfl
@[simp] theorem yh7(a b:Ev->M Bool):Zq a b ρ σ=(a ρ σ).bind (Ol (ret true) (b ρ)):=rfl
@[simp] theorem zyr(a:Ev->M Bool):Cm a ρ σ=(a ρ σ).bind YM:=rfl
@[simp] theorem zzi(a b:Ev->M D):gj a b ρ σ=(a ρ σ).bind (xz (Ol (b ρ) (ret (ϐ false)))):=rfl
@[simp] theorem yjh(a b:Ev->M D):sI a b ρ σ=(a ρ σ).bind (xz (Ol (ret (ϐ true)) (b ρ))):=rfl
@[simp] theorem zzn(a:Ev->M D):rM a ρ σ=(a ρ σ).bind (xz TM):=rfl
@[simp] theorem yjd(t:Ev->M Bool)(a b:Ev->M D):Bz t a b ρ σ=(t ρ σ).bind (Ol (a ρ) (b ρ)):=rfl
@[simp] theorem jO:Pa ρ σ=Y [] σ:=rfl
@[simp] theorem OM(e:Ev->M D)(r:Ev->M (List D)):qa e r ρ σ=(e ρ σ).bind (nM (r ρ)):=rfl
@[simp] theorem lO(m:M (List D))(x:D):nM m x σ=(m σ).bind (GL x):=rfl
@[simp] theorem KO(x:D)(xs:List D):GL x xs σ=Y (x::xs) σ:=rfl
@[simp] theorem MY(a:Ev->M (List D)):wf a ρ σ=(a ρ σ).bind Fx:=rfl
@[simp] theorem ypm:Fx [] σ=Y (Ϗ []) σ:=rfl
@[simp] theorem ypn(a:D):Fx [a] σ=Y (Ϗ [a]) σ:=rfl
@[simp] theorem KY(a b:D):Fx [a,b] σ=Y (Ϗ [a,b]) σ:=rfl
@[simp] theorem ypp(a b c:D):Fx [a,b,c] σ=Y (Ϗ [a,b,c]) σ:=rfl
@[simp] theorem ypq(a b c d:D):Fx [a,b,c,d] σ=Y (Ϗ [a,b,c,d]) σ:=rfl
@[simp] theorem ypr(a b c d e:D):Fx [a,b,c,d,e] σ=Y (Ϗ [a,b,c,d,e]) σ:=rfl
@[simp] theorem yje(a:Ev->M (List D)):Zh a ρ σ=(a ρ σ).bind zy:=nr rfl
@[simp] theorem zzl(a:Ev->M (List D)):VA a ρ σ=(a ρ σ).bind AE:=rfl
@[simp] theorem yl8:AE [] σ=Y (U σ.length) (σ++[ϔ []]):=nr rfl
@[simp] theorem yt5(g:Int->Int->Int)(i j:Int):oI g (Z i) (Z j) σ=Y (Z (g i j)) σ:=nr rfl
@[simp] theorem yt1(g:Int->Int->Bool)(i j:Int):oB g (Z i) (Z j) σ=Y (ϐ (g i j)) σ:=nr rfl
theorem OF(h:C i j=true):vy C g (Z i) (Z j) σ=Y (Z (g i j)) σ:=by
 show (if C i j=true then ret _ else cc) σ=_;rw[ma h];rfl
@[simp] theorem ydj(i j:Int)(h:0<j)(a:j<1073741824):Zl (Z i) (Z j) σ=Y (Z (i / j)) σ:=OF (by simp[kM,h,a])
@[simp] theorem EC(i j:Int)(h:0<j):Qi (Z i) (Z j) σ=Y (Z (i % j)) σ:=OF (by simp[cM,h])
@[simp] theorem ydz(i j:Int)(h:0<=j):JF (Z i) (Z j) σ=Y (Z (i / 2 ^ j.toNat)) σ:=OF (by simp[HN,h])
theorem Dz(h:Bw i j=true):Hr (Z i) (Z j) σ=Y (Z (i ^ j.toNat)) σ:=OF h
@[simp] theorem iC:Hr (Z 10) (Z 12) σ=Y (Z 1000000000000) σ:=Dz (by simp[Bw])
@[simp] theorem p6:Hr (Z 10) (Z 6) σ=Y (Z 1000000) σ:=Dz (by simp[Bw])
@[simp] theorem p4:Hr (Z 10) (Z 4) σ=Y (Z 10000) σ:=Dz (by simp[Bw])
@[simp] theorem JU:Hr (Z 10) (Z 40) σ=Y (Z (10 ^ 40)) σ:=Dz (by simp[Bw])
@[simp] theorem ydw(i:Int):Oy (Z i) σ=Y (Z (-i)) σ:=nr rfl
@[simp] theorem zuk(i j:Int):Sh (Z i) (Z j) σ=Y (Z (i+j)) σ:=nr rfl
theorem zum{xs a:List D}(h:xs.length+a.length<=Ni):Sh (Ϗ xs) (Ϗ a) σ=Y (Ϗ (xs++a)) σ:=by show (if _ then _ else _:M D) σ=_;rw[ma h];rfl
def HD{xs a:List D}(h:xs.length+a.length<=Ni):Sh (O xs) (O a) σ=Y (O (xs++a)) σ:=by
 show uD (O xs) (O a) σ=_;unfold uD;simp only[xh];rw[ma h]
@[simp] theorem zuw(σ:lb):Uu ϛ ϛ σ=Y (ϐ true) σ:=nr rfl
@[simp] theorem zuu(b:Int):Uu (Z b) ϛ σ=Y (ϐ false) σ:=nr rfl
@[simp] theorem zux(b:List D):Uu (Ϗ b) ϛ σ=Y (ϐ false) σ:=nr rfl
@[simp] theorem zuv(b:List D):Uu (O b) ϛ σ=Y (ϐ false) σ:=nr rfl
@[simp] theorem zod(σ:lb):BC ϛ ϛ σ=Y (ϐ false) σ:=nr rfl
@[simp] theorem zoc(b:Int):BC (Z b) ϛ σ=Y (ϐ true) σ:=nr rfl
theorem nI(h:Jk σ 8 x y=some b):Uf x y σ=Y (ϐ b) σ:=by unfold Uf;rw[h]
def bG(h:Jk σ 8 x y=some b):Aj x y σ=Y (ϐ (!b)) σ:=by unfold Aj;rw[h]
@[simp] theorem ydk(i j:Int):Uf (Z i) (Z j) σ=Y (ϐ (i == j)) σ:=nI (by simp[Jk,kd,js,gm])
@[simp] theorem ydv(i j:Int):Aj (Z i) (Z j) σ=Y (ϐ (!(i == j))) σ:=bG (by simp[Jk,kd,js,gm])
@[simp] theorem ydl(i j:Str):Uf (ύ i) (ύ j) σ=Y (ϐ (i == j)) σ:=nI (by simp[Jk,kd,js,gm])
theorem GD{xs:List D}(h:dr xs k=some d):ib (Ϗ xs) (Z k) σ=Y d σ:=by simp[ib,Tj,h]
def ev{xs:List D}(h:dr xs k=some d):ib (O xs) (Z k) σ=Y d σ:=by simp[ib,Tj,h]
@[simp] theorem ys5(a:D)(r:List D):ib (Ϗ (a::r)) (Z 0) σ=Y a σ:=GD (Gv rfl)
@[simp] theorem ys6(a b:D)(r:List D):ib (Ϗ (a::b::r)) (Z 1) σ=Y b σ:=GD (Gv rfl)
@[simp] theorem ys7(a b c:D)(r:List D):ib (Ϗ (a::b::c::r)) (Z 2) σ=Y c σ:=GD (Gv rfl)
@[simp] theorem ys8(a b c d:D)(r:List D):ib (Ϗ (a::b::c::d::r)) (Z 3) σ=Y d σ:=GD (Gv rfl)
@[simp] theorem wX(xs:List D):yj [Ϗ xs] σ=Y (Z xs.length) σ:=nr rfl
@[simp] theorem sX(xs:List D):yj [O xs] σ=Y (Z xs.length) σ:=nr rfl
@[simp] theorem zuz(xs:List Int):yj [ϱ xs] σ=Y (Z xs.length) σ:=by simp[yj,Tj]
@[simp] theorem zkl(xs:List D):PB [O xs] σ=Y (Ϗ xs) σ:=nr rfl
@[simp] theorem zq4(o:List D->M D)(a:Ev->M (List D)):ah o a ρ σ=(a ρ σ).bind o:=rfl
@[simp] theorem yjc(n:Nat)(f:List D->M D)(a:List D)(b:Ev->M (List D)):Ld n f a b ρ σ=(b ρ σ).bind (Kt n f a):=rfl
@[simp] theorem yr7(f:List D->M D)(a:D):Kt 1 f [] [a] σ=f [a] σ:=by unfold Kt;rw[ma (by simp)];simp
@[simp] theorem yr8(f:List D->M D)(a b:D):Kt 2 f [] [a,b] σ=f [a,b] σ:=by unfold Kt;rw[ma (by simp)];simp
@[simp] theorem Ċ(f:List D->M D)(a b c:D):Kt 3 f [] [a,b,c] σ=f [a,b,c] σ:=by unfold Kt;rw[ma (by simp)];simp
@[simp] theorem ykg(f:List D->M D)(a b c:D):Kt 3 f [c] [a,b] σ=f [a,b,c] σ:=by unfold Kt;rw[ma (by simp)];simp
@[simp] theorem ysa(f:List D->M D)(a b c d:D):Kt 4 f [] [a,b,c,d] σ=f [a,b,c,d] σ:=by unfold Kt;rw[ma (by simp)];simp
@[simp] theorem ysb(f:List D->M D)(a b c d e:D):Kt 5 f [] [a,b,c,d,e] σ=f [a,b,c,d,e] σ:=by unfold Kt;rw[ma (by simp)];simp
@[simp] theorem yfh:dg ρ σ=Y (Ϛ ρ) σ:=rfl
@[simp] theorem dk(g h:Ev->M Fl):Zb g h ρ σ=(g ρ σ).bind (DD h):=rfl
@[simp] theorem jk(h:Ev->M Fl)(ρ:Ev):DD h (Ϛ ρ) σ=h ρ σ:=rfl
@[simp] theorem yfx(h:Ev->M Fl)(d:D):DD h (Ϯ d) σ=Y (Ϯ d) σ:=rfl
@[simp] theorem yfy(h:Ev->M Fl)(ρ:Ev)(x:Xn):DD h (.xc ρ x) σ=Y (.xc ρ x) σ:=rfl
noncomputable def cn(ρ:Ev)(k:α->M Fl):Fm α->Fm Fl
 | Y a b=>k a b
 | .ex x b=>Y (.xc ρ x) b
 | ϗ=>ϗ
@[simp] theorem qo(ρ:Ev)(m:M α)(k:α->M Fl):xs ρ m k σ=cn ρ k (m σ):=by unfold xs cn;cases m σ<;>rfl
@[simp] theorem ut(ρ:Ev)(k:α->M Fl)(a:α):cn ρ k (Y a σ)=k a σ:=rfl
@[simp] theorem ypz(ρ:Ev)(k:α->M Fl)(x:Xn):cn ρ k (.ex x σ)=Y (.xc ρ x) σ:=rfl
@[simp] theorem yfj(f:Ev->M D):pd f ρ σ=cn ρ MK (f ρ σ):=qo ..
@[simp] theorem ye3(d:D):MK d σ=Y (Ϯ d) σ:=rfl
@[simp] theorem TR(f:Ev->M D):Hu f ρ σ=cn ρ (fL ρ) (f ρ σ):=qo ..
@[simp] theorem jR(d:D):fL ρ d σ=Y (Ϛ ρ) σ:=rfl
@[simp] theorem yfl(i:Nat)(f:Ev->M D):He i f ρ σ=cn ρ (XF i ρ) (f ρ σ):=qo ..
@[simp] theorem yf1(i:Nat)(d:D):XF i ρ d σ=Y (Ϛ (ρ.set i (some d))) σ:=rfl
@[simp] theorem yon(t:Ev->M Bool)(a b:Ev->M Fl):Wf t a b ρ σ=cn ρ (Ol (a ρ) (b ρ)) (t ρ σ):=qo ..
@[simp] theorem yfa(f:Ev->M D)(a:D->Ev->Option Ev):SC f a ρ σ=cn ρ (jE a ρ) (f ρ σ):=qo ..
@[simp] theorem yh5(i j k:Nat)(a b c:D):jE (Jq 3 (ej (We i) (ej (We j) (ej (We k) mr)))) ρ (Ϗ [a,b,c]) σ=Y (Ϛ (((ρ.set i (some a)).set j (some b)).set k (some c))) σ:=rfl
@[simp] theorem yh6(i j:Nat)(a b:D):jE (Jq 2 (ej (We i) (ej (We j) mr))) ρ (Ϗ [a,b]) σ=Y (Ϛ ((ρ.set i (some a)).set j (some b))) σ:=rfl
@[simp] theorem zo5(c:Nat)(a:Ev->M (List D)):Ly c a ρ σ=cn ρ (jJ c ρ) (a ρ σ):=qo ..
@[simp] theorem zvs(c:Nat)(d:D):jJ c ρ [d] σ=Y (.xc ρ ⟨c⟩) σ:=rfl
@[simp] theorem yfm(g:Ev->M Fl)(a:List Hd):qI g a ρ σ=(g ρ σ).bind (dG a):=rfl
@[simp] theorem yg8(a:List Hd):dG a (Ϛ ρ) σ=Y (Ϛ ρ) σ:=rfl
@[simp] theorem yg9(a:List Hd)(x:Xn):dG a (.xc ρ x) σ=Nw ρ x a σ:=rfl
theorem JQ(e:h.t x.cls=some true):Nw ρ x (h::r) σ=hit h ρ x σ:=by unfold Nw;rw[e]
@[simp] theorem ylc(t:Nat->Option Bool)(g:Ev->M Fl)(x:Xn):hit ⟨t,none,g⟩ ρ x σ=(g ρ σ).bind JH:=rfl
@[simp] theorem ymf(d:D):JH (Ϯ d) σ=Y (Ϯ d) σ:=rfl
@[simp] theorem ï(n:Nat)(g:Ev->M Fl)(a:List D):ae n g a σ=bB (g (a.map some++List.replicate (n - a.length) none) σ):=rfl
@[simp] theorem ye7(d:D):bB (Y (Ϯ d) σ)=Y d σ:=rfl
@[simp] theorem ę:bB (Y (Ϛ ρ) σ)=Y ϛ σ:=rfl
@[simp] theorem ye8(x:Xn):bB (Y (.xc ρ x) σ)=.ex x σ:=rfl
@[simp] theorem ykl(f:M D):Qc f σ=mi σ (f σ):=nr rfl
@[simp] theorem vt(f:Ev->M D):qj f ρ σ=mi σ (f ρ σ):=nr rfl
theorem Az(h:cl d=true):fz k σ m d=some d:=by cases m<;>(unfold fz;rw[ma h])
def tW(h:cl d=true)(b:a.take σ.length=σ):mi σ (Y d a)=Y d σ:=by
 unfold mi;dsimp only;rw[ma b,Az h]
@[simp] theorem yaz:mi σ (.ex x σ)=.ex x σ:=by unfold mi;dsimp only;rw[ma gd]
@[simp] theorem zmz(h:cl d=true):mi σ (Y d σ)=Y d σ:=tW h gd
theorem DV{j j':lb}{xs:List D}(h:fh xs=true):mi σ (Y (U σ.length) (σ++[ϔ xs]++j))=Y (O xs) σ:=by
 unfold mi;dsimp only;rw[ma (by simp)];have e:fz σ.length (σ++[ϔ xs]++j) 6 (U σ.length)=some (O xs):=by
  unfold fz;dsimp only;rw[ra (qe _)];have:(σ++[ϔ xs]++j)[σ.length]?=some (ϔ xs):=by simp
  rw[this];dsimp only;have d:∀ a m,fh a=true->Io (fz σ.length (σ++[ϔ xs]++j) m) a=some a:=by
   intro a m;induction a with
   |nil=>intro _;rfl
   |cons y a f=>
    intro c;have b:cl y=true/\fh a=true:=by simpa [fh]using c
    unfold Io;rw[Az b.1,f b.2]
  rw[d xs 5 h];rfl
 rw[e]
@[simp] theorem Ŭ(i:Int):cl (Z i)=true:=by simp[cl]
@[simp] theorem yq2(i:Bool):cl (ϐ i)=true:=by simp[cl]
@[simp] theorem yi0(i:Str):cl (ύ i)=true:=by simp[cl]
@[simp] theorem yiv:cl ϛ=true:=by simp[cl]
@[simp] theorem yi2(xs:List D):cl (Ϗ xs)=fh xs:=by simp[cl]
@[simp] theorem yiu(xs:List D):cl (O xs)=fh xs:=by simp[cl]
@[simp] theorem yiy(n:Nat):cl (U n)=false:=by simp[cl]
@[simp] theorem zy5:fh []=true:=by simp[fh]
@[simp] theorem IY(d:D)(a:List D):fh (d::a)=(cl d && fh a):=by simp[fh]
theorem Mr:∀ {a:List D},(∀ d∈a,cl d=true)->fh a=true
 |[],_=>by simp
 |d::a,h=>by rw[IY,h d Ha,Mr λx b=>h x (Aa _ b)];rfl
def t1{f:a->D}{l:List a}(h:∀ x,cl (f x)=true):fh (l.map f)=true:=Mr λd b=>by obtain⟨x,_,rfl⟩:=va.mp b;exact h x
@[simp] theorem zqt(l:List Int):fh (l.map Z)=true:=t1 Ŭ
@[simp] theorem nL(xs a:List D):fh (xs++a)=(fh xs && fh a):=by
 induction xs with
 |nil=>simp
 |cons x xs b=>simp[b,Xz]
theorem VL(h:Vw i j=true):zA (Z i) (Z j) σ=Y (Z (i * j)) σ:=OF h
def aY(h:-(2 ^ 64)<i)(a:i<2 ^ 64):Vw i j=true:=by simp only[Vw,Ls,fg,Na,Fc];exact ϒ ⟨h,a⟩
def bX(h:-(2 ^ 64)<j)(a:j<2 ^ 64):Vw i j=true:=by simp only[Vw,Ls,fg,Na,Fc];exact ϖ ⟨h,a⟩
theorem Š{xs:List D}{k:Int}(a:0<=k)(h:k<xs.length):dr xs k=some (xs.getD k.toNat ϛ):=by
 obtain⟨n,rfl⟩:=Int.eq_ofNat_of_zero_le a;have b:n<xs.length:=by omega
 refine Gv ?_;show xs[n]?=some (xs.getD n ϛ);rw[yi,Pd b];rfl
def yqp{a:List Int}{k:Int}(b:0<=k)(h:k<a.length):dr (a.map Z) k=some (Z (a.getD k.toNat 0)):=by
 rw[Š b (by simpa using h)];have c:k.toNat<a.length:=by omega
 simp[c]
@[simp] theorem ytl(a:D):zy [a] σ=Y (O [a]) σ:=nr rfl
@[simp] theorem ytk:zy [] σ=Y (O []) σ:=nr rfl
@[simp] theorem ytm(a b:D):zy [a,b] σ=Y (O [a,b]) σ:=nr rfl
@[simp] theorem ytn(a b c:D):zy [a,b,c] σ=Y (O [a,b,c]) σ:=nr rfl
@[simp] theorem yto(a b c d:D):zy [a,b,c,d] σ=Y (O [a,b,c,d]) σ:=nr rfl
@[simp] theorem ytp(a b c d e f g h:D):zy [a,b,c,d,e,f,g,h] σ=Y (O [a,b,c,d,e,f,g,h]) σ:=nr rfl
@[simp] theorem Iz(xs:List D):gh (σ++[ϔ xs]) σ.length=some xs:=by simp[gh]
@[simp] theorem YB(a b:Ob):(σ++[a]).set σ.length b=σ++[b]:=by
 rw[Te _ _ (Ea _)];simp
@[simp] theorem zq7(o:D->List D->M D)(f:Ev->M D)(a:Ev->M (List D)):tz o f a ρ σ=(f ρ σ).bind (Vv o (a ρ)):=rfl
theorem jA{xs:List D}(h:xh σ x=some xs):Vv o m x σ=(m σ).bind (o x):=by unfold Vv;rw[h];rfl
def cH{xs:List D}(h:xs.length<1000):Vm (U σ.length) [d] (σ++[ϔ xs])=Y ϛ (σ++[ϔ (xs++[d])]):=by
 unfold Vm;simp only[Iz];rw[ma (show xs.length<Ni from h),YB]
def qN{ws:List Int}(h:Tj σ x=some (ws.map Z)):Bu neg (Z w) x σ=Y (ϐ (if neg then !(ws.any (·== w))else ws.any (·== w))) σ:=by
 have a:∀ l:List Int,(l.map Z).all Qy=true:=λl=>by simp[Qy,sc]
 have b:∀ l:List Int,((l.map Z).any λz=>Rz z (Z w))=l.any (·== w):=λl=>by simp[Rz,sc,gm,Function.comp_def]
 unfold Bu;rw[h];simp only[a,b,show Qy (Z w)=true from rfl,Bool.and_self,Yh]
@[simp] theorem zpl(xs:List D):Tj (σ++[ϔ xs]) (U σ.length)=some xs:=Iz xs
@[simp] theorem zpm(xs:List D):Tj σ (O xs)=some xs:=nr rfl
@[simp] theorem zpo(xs:List D):Tj σ (Ϗ xs)=some xs:=nr rfl
@[simp] theorem VF(f:Ev->M D):Bj f ρ σ=(f ρ σ).bind Oz:=nr rfl
@[simp] theorem m8(a:List D):Oz (Ϗ a) σ=Y (.seq a) σ:=nr rfl
@[simp] theorem zpj(a:List D):Oz (O a) σ=Y (.seq a) σ:=nr rfl
@[simp] theorem ygs(f:Ev->M D):Vx f ρ σ=(f ρ σ).bind mz:=nr rfl
theorem cL(h:-(2 ^ 62)<=j)(a:j<2 ^ 62):mz (Z j) σ=Y (.seq (kA j.toNat)) σ:=by
 unfold mz;dsimp only;rw[ma (by simp only[Bx,Ls,Na,Fc];exact⟨h,a⟩)]
@[simp] theorem DX(b:Ev->M uo)(c:D->Ev->Option Ev)(a:Ev->M Fl):Xv b c a ρ σ=cn ρ (nJ c a ρ) (b ρ σ):=qo ..
@[simp] theorem dR(c:D->Ev->Option Ev)(a:Ev->M Fl)(b:List D):nJ c a ρ (.seq b) σ=Zn c a b ρ σ:=nr rfl
@[simp] theorem zty(b:D->Ev->Option Ev)(a:Ev->M Fl):Zn b a [] ρ σ=Y (Ϛ ρ) σ:=nr rfl
theorem xT(h:c d ρ=some b):Zn c a (d::e) ρ σ=(a b σ).bind (Gx (Zn c a e)):=by
 show (match c d ρ with|none=>cc|some b=>be (a b) (Gx (Zn c a e))) σ=_;rw[h];rfl
@[simp] theorem yE(i:Nat)(a:Ev->M Fl)(d:D)(b:List D):Zn (We i) a (d::b) ρ σ=(a (ρ.set i (some d)) σ).bind (Gx (Zn (We i) a b)):=xT rfl
@[simp] theorem Mw(k:Ev->M Fl):Gx k (Ϛ ρ) σ=k ρ σ:=nr rfl
@[simp] theorem ztx(k:Ev->M Fl)(d:D):Gx k (Ϯ d) σ=Y (Ϯ d) σ:=nr rfl
theorem qJ(h:m σ=Y a b):Yp m σ=Y a b:=by unfold Yp;rw[h]
end
section
variable{α β:Type}{ρ:Ev}{σ:lb}
@[simp] theorem V9(a:List Int):Tj σ (ϱ a)=some (a.map Z):=nr rfl
theorem xU(b:0<=k)(h:k<a.length):ib (ϱ a) (Z k) σ=Y (Z (a.getD k.toNat 0)) σ:=by
 simp only[ib,V9,yqp b h]
@[simp] theorem zuq(c:BT)(i:Int):Kq c (Z i) σ=Y (ϐ (match c with | .int=>true|_=>false)) σ:=nr rfl
@[simp] theorem ydo(c:BT)(i:Bool):Kq c (ϐ i) σ=Y (ϐ (match c with | .int=>true | .bool=>true|_=>false)) σ:=nr rfl
@[simp] theorem zut(xs:List D):Kq .tuple (Ϗ xs) σ=Y (ϐ true) σ:=nr rfl
@[simp] theorem zmm(o d:D->D->M D)(a b c:Ev->M D):zL o d a b c ρ σ=(a ρ σ).bind (iL o d (b ρ) (c ρ)):=nr rfl
noncomputable def pl:Nat->D->Bool
 |_,ϛ=>true
 |_,ϐ _=>true
 |_,Z _=>true
 |_,ύ _=>true
 |n+1,Ϗ xs=>xs.all (pl n)
 |n+1,O xs=>xs.all (pl n)
 |_,_=>false
theorem AN{f:D->D->Option Bool}:∀ {xs:List D},(∀ x∈xs,f x x=some true)->Qp f xs xs=some true
 |[],_=>rfl
 |x::xs,h=>by unfold Qp;rw[h x Ha,AN λy a=>h y (Aa _ a)];rfl
theorem tH:∀ (n:Nat) (x:D),pl n x=true->Jk σ n x x=some true
 |0,x,h=>by cases x<;>simp[pl]at h<;>simp[Jk,kd,js,gm]
 |n+1,x,h=>by
  cases x with
  |Rc=>simp[Jk,kd,js,gm]
  |bl b=>simp[Jk,kd,js,gm]
  |int b=>simp[Jk,kd,js,gm]
  |str b=>simp[Jk,kd,js,gm]
  |Xa xs=>
   simp only[pl,Pb]at h;exact AN λy a=>tH n y (h y a)
  |wa xs=>
   simp only[pl,Pb]at h;exact AN λy a=>tH n y (h y a)
  |_=>simp[pl]at h
def bN(h:pl 8 x=true):Uf x x σ=Y (ϐ true) σ:=nI (tH 8 x h)
def ny(h:pl 8 x=true):Aj x x σ=Y (ϐ false) σ:=bG (tH 8 x h)
@[simp] theorem zv8(f b a:Ev->M D):KL f b a ρ σ=cn ρ (EG ρ b a) (f ρ σ):=qo ..
@[simp] theorem zme(o a:D->D->M D)(b c:M D)(x:D):iL o a b c x σ=(b σ).bind (IK o a c x):=nr rfl
@[simp] theorem zmg(o a:D->D->M D)(c:M D)(x y:D):IK o a c x y σ=(o x y σ).bind (pL a c y):=nr rfl
@[simp] theorem zmf(a:D->D->M D)(c:M D)(y:D)(b:Bool):pL a c y (ϐ b) σ=Ol (be c (a y)) (ret (ϐ false)) b σ:=nr rfl
@[simp] theorem zwr(b a:Ev->M D)(d:D):EG ρ b a d σ=cn ρ (nE ρ a d) (b ρ σ):=qo ..
@[simp] theorem zws(a:Ev->M D)(d x:D):nE ρ a d x σ=cn ρ (mF ρ d x) (a ρ σ):=qo ..
theorem AO(h:cl d=true):mi σ (Y d (σ++[a]))=Y d σ:=tW h (by simp)
@[simp] theorem zl3(f:a->Bool)(l:List a):bC (l.map λx=>ϐ (f x))=some (l.map f):=by
 induction l with
 |nil=>rfl
 |cons x l b=>simp[bC,b]
@[simp] theorem C0(l:List Int):Rw (l.map Z)=some l:=by
 induction l with
 |nil=>rfl
 |cons x l a=>simp[Rw,a]
theorem Ű{f:a->Bool}{l:List a}:GF [O (l.map λx=>ϐ (f x))] σ=Y (ϐ (l.all f)) σ:=by
 simp only[GF];simp
def w4(h:l.length<=1000):oE (O (l.map Z)) σ=Y (Z (Wv l).length) σ:=by
 simp only[oE,xh,Option.bind_some,C0];rw[ma (show l.length<=Ni from h)]
theorem MM:∀ (l s:List Int),(l.foldl PyProof.Rows.step_dedup s).length<=s.length+l.length/\((l.foldl PyProof.Rows.step_dedup s).length=s.length+l.length ↔ (l.Nodup/\∀ x∈l,x ∉ s))
 |[],s=>by simp
 |x::l,s=>by
  rw[Xg];by_cases h:s.any (·== x)=true
  ·have i:x∈s:=by simpa using h
   rw[show PyProof.Rows.step_dedup s x=s by unfold PyProof.Rows.step_dedup;rw[ma h]];obtain⟨j,g⟩:=MM l s;refine⟨by simp only[ub];omega,λe=>?_,λe=>absurd i (e.2 x Ha)⟩;simp only[ub]at e;omega
  ·have i:x ∉ s:=by simpa using h
   rw[show PyProof.Rows.step_dedup s x=s++[x] by unfold PyProof.Rows.step_dedup;rw[ra h]];obtain⟨j,g⟩:=MM l (s++[x]);simp only[Xc,ub,Yg]at j g;refine⟨by simp only[ub];omega,?_⟩;rw[ub,show s.length+(l.length+1)=s.length+(0+1)+l.length by omega,g,ze];constructor
   ·rintro ⟨a,b⟩;refine⟨⟨λk=>(b x k) (by simp),a⟩,λy f=>?_⟩;rcases Ma.mp f with rfl|f
    ·exact i
    ·exact λd=>b y f (by simp[d])
   ·rintro ⟨⟨a,b⟩,c⟩;refine⟨b,λy f d=>?_⟩;rcases Wb.mp d with d|d
    ·exact c y (Aa _ f) d
    ·rw[yb.mp d]at f;exact a f
def ā(l:List Int):((Wv l).length:Int)=(l.length:Int) ↔ l.Nodup:=by
 have:=(MM l []).2;simp only[Yg,Me,not_false_eq_true,implies_true,and_true]at this;unfold Wv;rw[<-this];omega
end
section
variable{ρ:Ev}{σ:lb}
@[simp] theorem zq6(c n:Nat)(a:List D->M D)(b:Ev->M (List D)):bv c n a b ρ σ=(b ρ σ).bind (Lr c n a):=nr rfl
theorem mU(h:a.length+1=n):Lr c n b a σ=gE σ.length (b (U σ.length::a) (σ++[Ϙ c []])):=by unfold Lr;rw[ma h]
@[simp] theorem AM(n:Nat):gE n (Y ϛ σ)=Y (U n) σ:=nr rfl
@[simp] theorem IS(a:List Nat)(f:Str)(c b:Ev->M D):Ho a f c b ρ σ=cn ρ (xL ρ a f b) (c ρ σ):=qo ..
@[simp] theorem FX(a:List Nat)(f:Str)(b:Ev->M D)(d:D):xL ρ a f b d σ=cn ρ (WA ρ a f d) (b ρ σ):=qo ..
theorem SS(h:cs.contains c=true)(a:fs.length<1000):WA ρ cs f d (U σ.length) (σ++[Ϙ c fs])=Y (Ϛ ρ) (σ++[Ϙ c (Ip f d fs)]):=by
 have e:kC cs f d (U σ.length) (σ++[Ϙ c fs])=Y () (σ++[Ϙ c (Ip f d fs)]):=by
  have:(σ++[Ϙ c fs])[σ.length]?=some (Ϙ c fs):=by simp
  unfold kC;simp only[this];rw[ma (by rw[h];simpa using a)];simp
 unfold WA;rw[e]
def uF(h:b.length=a.length):Dm σ (.obj c b a)=some (c,b.zip a):=by unfold Dm;dsimp only;rw[ma h]
def Hq(h:Dm σ x=some (c,b))(e:a.contains c=true)(g:b.lookup f=some d):Mc a f x σ=Y d σ:=by
 unfold Mc;rw[h];dsimp only;rw[ma e,g]
@[simp] theorem Ĕ(b:Mt)(n:Nat)(m:Str)(f:Ev->M D)(a:Ev->M (List D)):jh b n m f a ρ σ=(f ρ σ).bind (Bo b n m (a ρ)):=nr rfl
theorem Et(h:Dm σ x=some (c,gs))(f:Ax d c=some a)(e:gs.lookup m=none):Bo d n m b x σ=(b σ).bind (Ql n a x):=by
 unfold Bo;rw[h];dsimp only;rw[f,e];rfl
def BJ(h:a.length+1=n):Ql n b x a σ=b (x::a) σ:=by unfold Ql;rw[ma h]
@[simp] theorem yc5(a:List D->M D)(x:D):Ql 1 a x [] σ=a [x] σ:=BJ rfl
@[simp] theorem F8(b:List D->M D)(x a:D):Ql 2 b x [a] σ=b [x,a] σ:=BJ rfl
@[simp] theorem yc7(c:List D->M D)(x a b:D):Ql 3 c x [a,b] σ=c [x,a,b] σ:=BJ rfl
theorem l3(h:fh (a.map (·.2))=true):mi σ (Y (U σ.length) (σ++[Ϙ c a]))=Y (.obj c (a.map (·.1)) (a.map (·.2))) σ:=by
 unfold mi;dsimp only;rw[ma (by simp)];have e:fz σ.length (σ++[Ϙ c a]) 6 (U σ.length)=some (.obj c (a.map (·.1)) (a.map (·.2))):=by
  unfold fz;dsimp only;rw[ra (qe _)];have:(σ++[Ϙ c a])[σ.length]?=some (Ϙ c a):=by simp
  rw[this];dsimp only;have g:∀ b (m:Nat),fh b=true->Io (fz σ.length (σ++[Ϙ c a]) m) b=some b:=by
   intro b m;induction b with
   |nil=>intro _;rfl
   |cons y b i=>
    intro f;have d:cl y=true/\fh b=true:=by simpa using f
    unfold Io;rw[Az d.1,i d.2]
  rw[g _ 5 h];rfl
 rw[e]
@[simp] theorem yiw(c:Nat)(b:List Str)(a:List D):cl (.obj c b a)=fh a:=by simp[cl]
@[simp] theorem zu2(i j:Int):wy [Z i,Z j] σ=Y (Z (min i j)) σ:=nr rfl
@[simp] theorem zu1(i j:Int):nD [Z i,Z j] σ=Y (Z (max i j)) σ:=nr rfl
@[simp] theorem zus(i:Str):Kq .str (ύ i) σ=Y (ϐ true) σ:=nr rfl
@[simp] theorem zur(c:BT):Kq c ϛ σ=Y (ϐ false) σ:=by cases c<;>rfl
end
end L4
namespace L4
open Spec Calls Builtin Builtin.ObjectAttr Builtin.Getset_descriptor L2
structure ExK(K:ϓ)(C:Addr):Prop where
 g:W.findIn K (jc C) "__getattribute__" = some (some (ϝ "BaseException.__getattribute__"))
 g2:W.findIn K (jc C) "__getattr__" = some none
 mb:Ϲ K C (ϙ "BaseException")=some true
 d:W.hasDictIn K C=true
 a:W.findIn K (jc C) "__class__" = some (some (ϝ "object.__class__"))
 n:W.specialIn K (ϝ "object.__class__") "__get__" = some (some (ϝ "getset_descriptor.__get__"))
 t:W.takesIn K (ϝ "object.__class__")=some true
 m:Ϲ K C (ϙ "object")=some true
section
variable{prog:Ia}{w:qb}{A:Za}{E:Value->ba->Prop}{s:ba}{K:ϓ}{C ea:Addr}{hp:Heap}{Mo:Om}
def iz.plain(p:iz C a ea hp):ŗ C ea hp:=let ⟨o,b,c,_⟩:=p;⟨o,b,c⟩
end
inductive uy(X:Cx)(y:Str):V->Value->Prop where
 |own {a:Addr} (h:X.mg y=some (jc a)):uy X y (ϕ a) (jc a)
 |bt {n:String} (h:X.mg y=none) (hv:bootBuiltins y=some (ϙ n)) (hn:y ≠ "__name__"):uy X y (.ty n) (ϙ n)
def uy.rel(h:uy X y vc a):∀ u,de vc u->u=a:=by
 cases h with
 |own h=>exact λu q=>q
 |bt h c b=>exact λu q=>q
end L4
namespace L2
open Spec
section
variable{κ:Type}[DecidableEq κ]
noncomputable def Do(a:List (κ × V))(k:κ):Option V:=(a.find? λb=>decide (b.1=k)).map (·.2)
noncomputable def Kr(a:List (κ × V))(k:κ)(v:V):List (κ × V):=
 if (a.any λb=>decide (b.1=k))=true then a.map (λb=>if b.1=k then (b.1,v)else b)else a++[(k,v)]
noncomputable def By(a:List (κ × V))(k:κ):List (κ × V):=a.filter λb=>decide (b.1≠k)
def CJ{k:κ}(e:p.1=k):Do (p::r) k=some p.2:=by simp[Do,Ae,e]
def xH{k:κ}(e:¬ p.1=k):Do (p::r) k=Do r k:=by simp[Do,Ae,e]
theorem wW(k:κ):∀ a:List (κ × V),(a.any λb=>decide (b.1=k))=(Do a k).isSome
 |[]=>rfl
 |p::r=>by
  rw[zf];by_cases e:p.1=k
  ·simp only[CJ e,nb e,Bool.true_or,Option.isSome_some]
  ·rw[xH e,Oa e,yB];exact wW k r
def WO(a:List (κ × V))(k:κ)(v:V):(Kr a k v).length<=a.length+1:=by
 unfold Kr;split
 ·rw[Sa];omega
 ·rw[Xc,ub,Yg];omega
theorem uq.Qh(r:uq o u):o.isSome=u.isSome:=by
 cases o with
 |none=>cases u with
  |none=>rfl
  |some _=>exact(show False from r).elim
 |some _=>cases u with
  |none=>exact(show False from r).elim
  |some _=>rfl
def uq.getD(r:uq o u)(rd:de d a):de (o.getD d) (u.getD a):=by
 cases o with
 |none=>cases u with
  |none=>exact rd
  |some _=>exact(show False from r).elim
 |some _=>cases u with
  |none=>exact(show False from r).elim
  |some _=>exact r
def KV.val(r:KV a g)(k:κ):uq (Do a k) (wn g k):=by
 unfold KV at r;induction r with
 |nil=>exact ϻ
 |@cons p q ps d h t j=>
  obtain⟨f,i⟩:=h;by_cases e:p.1=k
  ·have c:q.1=k:=f.symm.trans e;have b:wn (q::d) k=some q.2:=by simp[wn,Ae,c]
   rw[CJ e,b];exact i
  ·have c:¬ q.1=k:=λz=>e (f.trans z);have b:wn (q::d) k=wn d k:=by simp[wn,Ae,c]
   rw[xH e,b];exact j
def KV.any(r:KV a c)(k:κ):(a.any λb=>decide (b.1=k))=c.any λb=>decide (b.1=k):=by
 unfold KV at r;induction r with
 |nil=>rfl
 |cons h t d=>rw[zf,zf,d,h.1]
def KV.fB(r:KV b d)(k:κ)(i:de y u) :
  KV (b.map λa=>if a.1=k then (a.1,y)else a) (d.map λa=>if a.1=k then (a.1,u)else a):=by
 unfold KV at r ⊢;induction r with
 |nil=>exact Ϥ
 |@cons p q ps j h t g=>
  rw[Ga,Ga];refine Ϡ ?_ g;obtain⟨c,f⟩:=h;by_cases e:p.1=k
  ·rw[ma e,ma (c.symm.trans e)];exact⟨c,i⟩
  ·rw[ra e,ra (λz=>e (c.trans z))];exact⟨c,f⟩
def KV.put(r:KV a b)(k:κ)(c:de y u):KV (Kr a k y) (stored b k u):=by
 unfold Kr stored;rw[r.any k];by_cases e:(b.any λd=>decide (d.1=k))=true
 ·rw[ma e,ma e];exact r.fB k c
 ·rw[ra e,ra e];exact Paired.snoc r ⟨rfl,c⟩
def KV.drop(r:KV c g)(k:κ):KV (By c k) (without g k):=by
 unfold KV at r ⊢;unfold By without;induction r with
 |nil=>exact Ϥ
 |@cons p q ps l h t f=>
  obtain⟨d,j⟩:=h;rw[Ud,Ud];by_cases e:p.1=k
  ·have a:¬ decide (p.1≠k)=true:=by simp[e]
   have b:¬ decide (q.1≠k)=true:=by simp[d.symm.trans e]
   rw[ra a,ra b];exact f
  ·have i:¬ q.1=k:=λz=>e (d.trans z);have a:decide (p.1≠k)=true:=by simp[e]
   have b:decide (q.1≠k)=true:=by simp[i]
   rw[ma a,ma b];exact Ϡ ⟨d,j⟩ f
def KV.keys{a:List (κ × V)}(r:KV a b):a.map (·.1)=b.map (·.1):=by
 unfold KV at r;induction r with
 |nil=>rfl
 |cons h t c=>rw[Ga,Ga,c,h.1]
def KV.length(r:KV a b):a.length=b.length:=Paired.length r
def TQ(a:List (κ × V))(k:κ):(By a k).length<=a.length:=ng _ _
end
def Nz(r:de (kV k) u):(jn P w).is k u=true:=by
 cases k with
 |inl i=>obtain⟨t,e⟩:=(show ∃ t,u=Ck i t from r);subst e;exact Ç P w i t
 |inr x=>obtain⟨t,e⟩:=(show ∃ t,u=Ur x t from r);subst e;exact k8 P w x t
theorem aS{P:Ia}{w:qb}:∀ {ks:List Nd} {us:List Value},Pe (ks.map kV) us->ItemsAre (jn P w) ks us
 |[],_,r=>by rw[kn]at r;cases r;exact .nil
 |k::ks,_,r=>by
  rw[Ga]at r;cases r with
  |cons h t=>exact .cons (Nz h) (aS t)
abbrev KT(H:Hp):List (List Nd × V)->List (List Nd × Addr × Value)->Prop:=Paired λp q=>p.1=q.1/\H q.2.1=some (.Xa (p.1.map kV))/\de p.2 q.2.2
def KT.val(r:KT H a xs)(k:List Nd):uq (Do a k) ((yu xs k).map (·.2)):=by
 induction r with
 |nil=>exact ϻ
 |@cons p q ps d h t i=>
  obtain⟨f,_,g⟩:=h;by_cases e:p.1=k
  ·have c:q.1=k:=f.symm.trans e;have b:yu (q::d) k=some q.2:=by simp[yu,Ae,c]
   rw[CJ e,b];exact g
  ·have c:¬ q.1=k:=λz=>e (f.trans z);have b:yu (q::d) k=yu d k:=by simp[yu,Ae,c]
   rw[xH e,b];exact i
def KT.fB(r:KT H a xs)(k:List Nd)(i:de y u) :
  KT H (a.map λc=>if c.1=k then (c.1,y)else c) (xs.map (putAt k u)):=by
 induction r with
 |nil=>exact Ϥ
 |@cons p q ps j h t g=>
  rw[Ga,Ga];refine Ϡ ?_ g;obtain⟨b,d,f⟩:=h;unfold putAt;by_cases e:p.1=k
  ·rw[ma e,ma (b.symm.trans e)];exact⟨b,d,i⟩
  ·rw[ra e,ra (λz=>e (b.trans z))];exact⟨b,d,f⟩
def KT.put(r:KT H a xs)(k:List Nd)(d:H b=some (.Xa (k.map kV)))(c:de y u) :
  KT H (Kr a k y) (storedH xs k b u):=by
 have e:(a.any λf=>decide (f.1=k))=(yu xs k).isSome:=by
  rw[wW,(r.val k).Qh,lm]
 unfold Kr storedH;rw[e];by_cases q:(yu xs k).isSome=true
 ·rw[ma q,ma q];exact r.fB k c
 ·rw[ra q,ra q];exact Paired.snoc r ⟨rfl,d,c⟩
def KT.keeps(r:KT H a xs)(e:∀ b d,H b=some (.Xa d)->c b=some (.Xa d)):KT c a xs:=
 Paired.Ms r λ_ _ z=>⟨z.1,e _ _ z.2.1,z.2.2⟩
section
variable{P:Ia}{w:qb}{H:Hp}{h:Heap}{a:Addr}
def CP(ok:xj P w H h)(e:Rd H a u):fm P w H h a u:=e.ok ok
def Fy(ok:xj P w H h)(e:Rd H a (Ϝ b)):b.length<=sizeLine/\(a == wh)=false/\∃ c,KV b c/\h.DictOf (jn P w) a c:=
 show fm P w H h a (Ϝ b)from CP ok e
def rJ(ok:xj P w H h)(e:H a=some (Ϝ b)):b.length<=sizeLine/\(a == wh)=false/\∃ c,KV b c/\h.DictOf (jn P w) a c:=Fy ok (ϒ e)
def dF(ok:xj P w H h)(e:H a=some (.Xa (ks.map kV))):(Br (jn P w)).is h ks a:=by
 obtain⟨_,b,r,o,c,d,n,f⟩:=(show fm P w H h a (.Xa (ks.map kV))from ok a _ e)
 exact⟨o,b.toArray,n,c,d,f,by simpa using aS r⟩
def vE(ok:xj P w H h)(e:Rd H a (.dT b)):b.length<=sizeLine/\(a == wh)=false/\
  ∃ xs,KT H b xs/\h.DictOfH (Br (jn P w)) a xs:=by
 obtain⟨z,y,xs,r,o,i,g,j,k,n,s,u⟩:=(show fm P w H h a (.dT b)from CP ok e)
 refine⟨z,y,xs,r,o,i,g,j,k,n,s,λx c=>?_,u⟩;have d:∀ {l:List (List Nd × V)} {m:List (List Nd × Addr × Value)},KT H l m->∀ x∈m,(Br (jn P w)).is h x.1 x.2.1:=by
  intro l m q;induction q with
  |nil=>intro x c;exact nomatch c
  |@cons p q ps A f t v=>
   intro x c;rcases Ma.mp c with e|c
   ·subst e;exact dF ok (by rw[<-f.1];exact f.2.1)
   ·exact v x c
 exact d r x c
def π(ok:xj P w H h)(e:H a=some (.dT b)):b.length<=sizeLine/\(a == wh)=false/\
  ∃ xs,KT H b xs/\h.DictOfH (Br (jn P w)) a xs:=vE ok (ϒ e)
end
def ek(H:Hp)(a:Addr)(y:V)(r:Option V):Prop:=
 (∃ c k,Rd H a (Ϝ c)/\y=kV k/\r=Do c k)\/∃ c k b,Rd H a (.dT c)/\y=ϕ b/\H b=some (.Xa (k.map kV))/\r=Do c k
def iA(H:Hp)(a:Addr)(y v:V)(d:Hp):Prop:=
 (∃ c k,H a=some (Ϝ c)/\y=kV k/\c.length<sizeLine/\d=Nc H a (Ϝ (Kr c k v)))\/
 ∃ c k b,H a=some (.dT c)/\y=ϕ b/\H b=some (.Xa (k.map kV))/\c.length<sizeLine/\d=Nc H a (.dT (Kr c k v))
def ek.k{H:Hp}{a:Addr}{b:List (Nd × V)}{k:Nd}(e:H a=some (Ϝ b)):ek H a (kV k) (Do b k):=ϒ ⟨b,k,ϒ e,rfl,rfl⟩
def ek.t{k:List Nd}(e:H a=some (.dT c))(d:H b=some (.Xa (k.map kV))):ek H a (ϕ b) (Do c k):=ϖ ⟨c,k,b,ϒ e,rfl,d,rfl⟩
def iA.k{H:Hp}{a:Addr}{b:List (Nd × V)}{k:Nd}{v:V}(e:H a=some (Ϝ b))(c:b.length<sizeLine):iA H a (kV k) v (Nc H a (Ϝ (Kr b k v))):=ϒ ⟨b,k,e,rfl,c,rfl⟩
def iA.t{k:List Nd}(e:H a=some (.dT c))(d:H b=some (.Xa (k.map kV)))(f:c.length<sizeLine) :
  iA H a (ϕ b) v (Nc H a (.dT (Kr c k v))):=ϖ ⟨c,k,b,e,rfl,d,f,rfl⟩
section
variable{pins:List (Addr × Ad)}{σ:St}{H:Hp}{s:ba}{a:Addr}{y v:V}{u r:Value}{o:Option V}{A:Za}{E:Value->ba->Prop}
def Ab.iW(I:Ab X pins σ H s):wh<s.heap.objs.size:=by
 have h:mainGlobals<s.heap.objs.size:=(I.mod.glob.keeps I.bk).lt;exact mu (by decide) h
def θ(D:A.units+1<cLine)(I:Ab X pins σ H s)(g:ek H a y (some v))(r:de y u)(h:∀ f t,Ab X pins σ H t->de v f->Q f t) :
  wpAny (model X.prog X.w) A (Gj (jc a) u) Q E s:=by
 rcases g with⟨q,k,e,j,l⟩|⟨q,k,b,e,j,x,l⟩
 ·subst j;obtain⟨z,B,F,c,i⟩:=Fy I.Qd e;obtain⟨f,n,d⟩:=uq.some_of (v:=v) (o:=wn F k) (by rw[l];exact c.val k);exact wpAny_getItem_of (Nz r) i.mapOf n (h f _ (I.tok _) d)
 ·subst j;cases (show u=jc b from r);obtain⟨z,B,xs,c,i⟩:=vE I.Qd e;obtain⟨f,n,d⟩:=uq.some_of (v:=v) (o:=(yu xs k).map (·.2)) (by rw[l];exact c.val k);obtain⟨p,C,m⟩:=Ra.mp n;refine wpAny_getItem_heap (lj D) (dF I.Qd x) i C ?_;rw[m];exact h f _ (I.tok _) d
def yyr(r:A.units+1<cLine)(I:Ab X pins σ H s)(g:ek H a y o)(m:de y u)(h:∀ n,Ab X pins σ H n->Q (.bool o.isSome) n) :
  wpAny (model X.prog X.w) A (gc .In u (jc a)) Q E s:=by
 rcases g with⟨j,k,e,f,l⟩|⟨j,k,b,e,f,p,l⟩
 ·subst f;obtain⟨z,i,t,c,d⟩:=Fy I.Qd e;refine wpAny_in_of (Nz m) i d.mapOf ?_;rw[<-(c.val k).Qh,<-l];exact h _ (I.tok _)
 ·subst f;cases (show u=jc b from m);obtain⟨z,i,xs,c,d⟩:=vE I.Qd e;refine wpAny_in_heap (lj r) (dF I.Qd p) i d ?_;have q:=(c.val k).Qh;rw[lm]at q;rw[<-q,<-l];exact h _ (I.tok _)
def m9(r:A.units+1<cLine)(I:Ab X pins σ H s)(g:ek H a y o)(m:de y u)(h:∀ n,Ab X pins σ H n->Q (.bool (!o.isSome)) n) :
  wpAny (model X.prog X.w) A (gc .NotIn u (jc a)) Q E s:=by
 rcases g with⟨j,k,e,f,l⟩|⟨j,k,b,e,f,p,l⟩
 ·subst f;obtain⟨z,i,t,c,d⟩:=Fy I.Qd e;refine wpAny_notIn_of (Nz m) i d.mapOf ?_;rw[<-(c.val k).Qh,<-l];exact h _ (I.tok _)
 ·subst f;cases (show u=jc b from m);obtain⟨z,i,xs,c,d⟩:=vE I.Qd e;refine wpAny_notIn_heap (lj r) (dF I.Qd p) i d ?_;have q:=(c.val k).Qh;rw[lm]at q;rw[<-q,<-l];exact h _ (I.tok _)
def IF(I:Ab X pins σ H s)(i:jF (H a))(h:Gg a s.heap h')(g:∃ q,h'.get? a=some q)(c:fm X.prog X.w (Nc H a d) h' a d) :
  Ab X pins σ (Nc H a d) { s with heap:=h',toks:=t' }:=
 I.write (x:=a) (e:=a) i (ϒ rfl) (λb q f z=>(h.2 b f).trans z) g c
def zE(z:b.length<=sizeLine)(h:(a == wh)=false)(c:KV b d)(g:e.DictOf (jn P w) a d) :
  fm P w f e a (Ϝ b):=⟨z,h,d,c,g⟩
def k7(T:A.units+1<cLine)(I:Ab X pins σ H s)(g:iA H a y v C)(J:de y u)(G:de v r)(h:∀ K,Ab X pins σ C K->Q () K) :
  wpAny (model X.prog X.w) A (xx (jc a) u r) Q E s:=by
 rcases g with⟨d,k,e,o,l,n⟩|⟨d,k,b,e,o,D,l,n⟩
 ·subst o n;obtain⟨z,p,ό,f,m⟩:=rJ I.Qd e;have B:ό.length<=sizeLine:=by rw[<-f.length];exact z
  have t:(Kr d k v).length<=sizeLine:=by have:=WO d k v;omega
  refine wpAny_setItem_pairs (hsz:=B) (Nz J) m λh' i x=>h _ ?_;have S:∃ q,h'.get? a=some q:=let ⟨q,_,_,j,_⟩:=i;⟨q,j⟩;exact IF I (by rw[e];exact ϻ) x S (zE t p (f.put k G) i)
 ·subst o n;cases (show u=jc b from J);obtain⟨z,p,xs,f,m⟩:=π I.Qd e;have B:xs.length<=sizeLine:=by rw[<-Paired.length f];exact z
  have t:(Kr d k v).length<=sizeLine:=by have:=WO d k v;omega
  refine wpAny_setItem_heap (hsz:=B) (lj T) (dF I.Qd D) m λh' i x=>h _ ?_;obtain⟨q,M,L,j,N,ώ,P,_,R⟩:=i;refine IF I (by rw[e];exact ϻ) x ⟨q,j⟩ ⟨t,p,_,(f.put k D G).keeps λc V F=>?_,q,M,L,j,N,ώ,P,R⟩;rw[we (BL F e (λz=>nomatch z))];exact F
end
section
variable{pins:List (Addr × Ad)}{σ:St}{H:Hp}{s:ba}{a:Addr}{kvs:List (Nd × V)}{k:Nd}{u:Value}{A:Za}{E:Value->ba->Prop}
def zmi(I:Ab X pins σ H s)(e:H a=some (Ϝ kvs))(n:de (kV k) u)(l:(Do kvs k).isSome=true)(h:∀ f,Ab X pins σ (Nc H a (Ϝ (By kvs k))) f->Q () f) :
  wpAny (model X.prog X.w) A (delItem (jc a) u) Q E s:=by
 obtain⟨z,g,o,b,d⟩:=rJ I.Qd e;refine wpAny_delItem_slot d.typeIs (by decide) Tp
  (yq Tp d.typeIs PySem.F.entry_dict_delitem (PySem.F.args_dict_delitem_2 _ _) (meets_dict_delitem_pairs (jn X.prog X.w) a (Nz n)) ⟨o,d,by rw[<-b.length];exact z,by rw[<-(b.val k).Qh];exact l,λh' c m=>h _ ?_⟩)
 have i:∃ q,h'.get? a=some q:=let ⟨q,_,_,j,_⟩:=c;⟨q,j⟩;exact IF I (by rw[e];exact ϻ) m i (zE (Fb (TQ kvs k) z) g (b.drop k) c)
def ľ(I:Ab X pins σ H s)(e:H a=some (Ϝ kvs))(j:de (kV k) u)(l:Do kvs k=some v)(n:b=[]\/∃ x,b=[x])
  (h:∀ f p,Ab X pins σ (Nc H a (Ϝ (By kvs k))) p->de v f->Q f p):wpAny (model X.prog X.w) A (call (ϝ "dict.pop") (jc a::u::b)) Q E s:=by
 obtain⟨z,B,r,c,m⟩:=rJ I.Qd e;obtain⟨f,K,g⟩:=uq.some_of (v:=v) (o:=wn r k) (by rw[<-l];exact c.val k);have D:(keyPart u).isSome=true:=by
  cases k with
  |inl i=>obtain⟨t,q⟩:=(show ∃ t,u=Ck i t from j);subst q;rfl
  |inr x=>obtain⟨t,q⟩:=(show ∃ t,u=Ur x t from j);subst q;rfl
 have y:argsOk "dict.pop" ⟨jc a::u::b,[]⟩:=by
  rcases n with q|⟨x,q⟩
  ·subst q;exact PySem.F.args_dict_pop_2 _ _
  ·subst q;exact PySem.F.args_dict_pop_3 _ _ _
 refine yq Sr m.typeIs PySem.F.entry_dict_pop y (meets_dict_pop_there (jn X.prog X.w) a (Nz j) b n D)
  ⟨r,f,m,by rw[<-c.length];exact z,K,λh' d J=>h f _ ?_ g⟩
 have C:∃ q,h'.get? a=some q:=let ⟨q,_,_,G,_⟩:=d;⟨q,G⟩;exact IF I (by rw[e];exact ϻ) J C (zE (Fb (TQ kvs k) z) B (c.drop k) d)
end
def pN(i:Ya):Prop:=∀ b a,Wr i false b a=operate [b,a] (Gj b a)
def Q5{T t:String}
  (p:typeLookup (ϙ T) "__getitem__" = pure (some (ϝ t))) (q:pN b)
  (h:wpAny (model a w) A (Ec c j) (λo f=>wpAny (model a w) A (Ec b j) (λi d=>d.TypeIs o T/\wpAny (model a w) A (Gj o i) Q E d) E f) E s) :
  wpAny (model a w) A (Ec (ϥ c b m) j) Q E s:=by
 refine vB (Pc h (λo f k=>Pc k (λi d e=>?_) λ_ _ x=>x) λ_ _ x=>x);obtain⟨n,e⟩:=e;unfold GY;refine ga ?_;rw[getitemInPython_of_ne n.not_modules];refine ga (wpAny_specialOf n p ?_);have Uh:wpAny (model a w) A (Wr b false o i) (λr g=>wpAny (model a w) A (letTemporaryGo c o r >>= λ_=>pure r) Q E g) E d:=by
  rw[q o i];exact wpAny_operating (Pc e (λr g l=>ga (wpAny_letTemporaryGo (za l))) λ_ _ x=>x)
 first
  |exact za (ga Uh)
  |exact ga (za (ga Uh))
  |exact ga Uh
def SY(I:Ab X c σ H s)(g:ek H a y o):s.TypeIs (jc a) "dict":=by
 rcases g with⟨f,k,e,_,_⟩|⟨f,k,b,e,_,_,_⟩
 ·obtain⟨_,_,h,_,d⟩:=Fy I.Qd e;exact d.typeIs
 ·obtain⟨_,_,xs,_,d⟩:=vE I.Qd e;exact d.typeIs
noncomputable def Õ(td ty:TE):TE:=λσ H Q=>td σ H λx c=>ty σ c λy b=>∃ a v,x=ϕ a/\ek b a y (some v)/\Q v b
section
variable{o i e value:Ya}{pos pos' tpos:Re}{td ty tv:TE}
def R0(p:X.A.units+1<cLine)(m:PE X o td)(l:PE X i ty)(n:pN i):PE X (ϥ o i pos) (Õ td ty):=by
 intro b s e H Q I h;refine Q5 PySem.F.slot_dict_getitem.lookup n (Le (m b s e H _ I h) λu s1 ⟨x,H1,j,t,q⟩=>Le (l b s1 e H1 _ j q) λz s2 ⟨y,f,d,w,a,v,ex,g,r⟩=>?_);subst ex;obtain rfl:u=jc a:=t;exact⟨SY d g,θ p d g w λC B k c=>⟨v,f,k,c,r⟩⟩
end
def NZ(h:Heap)(a:wh<h.objs.size):fm P w H (h.push { cls:=ϙ "dict",data:=.dict #[] }) h.objs.size (Ϝ []):=
 ⟨uv _,Ye.mpr (yf (Wa a)),[],Ϥ,ZO h⟩
def Ů:TE:=λ_ H Q=>∀ p,H p=none->Q (ϕ p) (Nc H p (Ϝ []))
section
variable{pos:Re}
def wR:PE X (.Dict [] [] pos) Ů:=λb s c H Q I h=>
 wpAny_Dict_empty ⟨ϕ s.heap.objs.size,_,I.laid (a:=s.heap.objs.size) (o:=Ϝ []) (t':=s.toks) (λ_ _ q=>ua _ q) (Ea _) (NZ s.heap I.iW),rfl,h _ (I.Qd.fresh (Ea _))⟩
end
section
variable{pins:List (Addr × Ad)}{σ:St}{H:Hp}{s:ba}{a:Addr}{kvs:List (Nd × V)}{A:Za}{E:Value->ba->Prop}
def ù(I:Ab X pins σ H s)(e:Rd H a (Ϝ kvs))(h:∀ p g,H p=none->Ab X pins σ (Nc H p (Ϝ kvs)) g->Q (jc p) g):wpAny (model X.prog X.w) A (call (ϙ "dict") [jc a]) Q E s:=by
 obtain⟨z,j,l,c,i⟩:=Fy I.Qd e;refine kt_call_dict j i (by rw[<-c.length];exact z) λh' d k=>?_;refine h _ _ (I.Qd.fresh (Ea _)) (I.laid (a:=s.heap.objs.size) (o:=Ϝ kvs) (t':=s.toks) (λb q f=>?_) (Ea _) (zE z (Ye.mpr (yf (Wa I.iW))) c d));exact(k.2 b (Wa (Fa f))).trans (ua _ f)
end
end L2
namespace L4
open Spec L2
noncomputable def Xm:D->Option Nd
 | Z i=>some (Ϟ i)
 | ύ x=>some (.inr x)
 |_=>none
noncomputable def Ik(b:lb):D->Option (List (Nd × D))
 | Ϫ ks xs=>if ks.length=xs.length then some (ks.zip xs)else none
 | U n=>(match b[n]? with
  |some (ϑ a)=>some a
  |some (.ig a)=>some a
  |_=>none)
 |_=>none
noncomputable def jl(a:List (Nd × D))(k:Nd):Option D:=(a.find? λb=>decide (b.1=k)).map (·.2)
noncomputable def vr(a:List (Nd × D))(k:Nd)(d:D):List (Nd × D):=
 if a.any (λb=>decide (b.1=k))then a.map λb=>if b.1=k then (b.1,d)else b else a++[(k,d)]
section
variable{μ:List Addr}{H:Hp}
def ZC(h:Ua T μ H y v)(e:Xm y=some k):v=kV k:=by
 cases y<;>simp[Xm]at e<;>subst e<;>rw[Ua]at h<;>exact h
theorem CH:∀ {ks:List Nd} {ds:List D} {a:List (Nd × V)},a.map (·.1)=ks->Ub T μ H ds (a.map (·.2))->Xl T μ H (ks.zip ds) a
 |ks,[],a,c,b=>by
  rw[Ub]at b;have:a=[]:=by simpa using b
  subst this;rw[<-c];exact Ϥ
 |ks,d::ds,a,c,b=>by
  obtain⟨v,r,e,f,g⟩:=b;cases a with
  |nil=>cases e
  |cons p a=>
   cases e;rw[<-c];exact Ϡ ⟨rfl,f⟩ (CH rfl g)
def SA(r:je T μ H σ)(h:Ua T μ H x v)(e:Ik σ x=some f):∃ a b,v=ϕ a/\Rd H a (Ϝ b)/\Xl T μ H f b:=by
 cases x with
 |Qb ks xs=>
  obtain⟨a,b,rfl,_,c,d,i⟩:=h;unfold Ik at e;dsimp only at e;split at e
  ·cases e;exact⟨a,b,rfl,c,CH d i⟩
  ·cases e
 |ref n=>
  unfold Ik at e;dsimp only at e;cases q:σ[n]? with
  |none=>rw[q]at e;cases e
  |some o=>
   rw[q]at e;cases o with
   |Qb g=>
    cases e;obtain⟨a,rfl,_,b,c,d⟩:=r.at h q;exact⟨a,b,rfl,ϒ c,d⟩
   |ig g=>
    cases e;obtain⟨a,rfl,_,ob,b,c,d⟩:=r.at h q;exact⟨a,b,rfl,ϖ ⟨ob,c⟩,d⟩
   |_=>cases e
 |_=>cases e
def UB(h:Xl T μ H a c)(k:Nd):(jl a k=none/\Do c k=none)\/∃ d v,jl a k=some d/\Do c k=some v/\Ua T μ H d v:=by
 induction h with
 |nil=>exact ϒ ⟨rfl,rfl⟩
 |@cons p q ps l h t j=>
  obtain⟨g,i⟩:=h;by_cases e:p.1=k
  ·have b:=g.symm.trans e;exact ϖ ⟨p.2,q.2,by unfold jl;rw[Ae,nb e];rfl,CJ b,i⟩
  ·have b:=λz=>e (g.trans z);have f:jl (p::ps) k=jl ps k:=by unfold jl;rw[Ae,Oa e]
   rw[f,xH b];exact j
def ď(h:Xl T μ H a c)(k:Nd):(a.any λb=>decide (b.1=k))=(c.any λb=>decide (b.1=k)):=by
 induction h with
 |nil=>rfl
 |@cons p q e f h t d=>rw[zf,zf,d,h.1]
theorem US{d e:Type}{F:d->e->Prop}{f:d->d}{g:e->e}(c:∀ a b,F a b->F (f a) (g b)):∀ {l:List d} {m:List e},Paired F l m->Paired F (l.map f) (m.map g)
 |_,_,Ϥ=>Ϥ
 |_,_,Ϡ h t=>Ϡ (c _ _ h) (US c t)
theorem yS{d e:Type}{F:d->e->Prop}{a:d}{b:e}(c:F a b):∀ {l:List d} {m:List e},Paired F l m->Paired F (l++[a]) (m++[b])
 |_,_,Ϥ=>Ϡ c Ϥ
 |_,_,Ϡ h t=>Ϡ h (yS c t)
def tU(h:Xl T μ H a c)(k:Nd)(b:Ua T μ H d v):Xl T μ H (vr a k d) (Kr c k v):=by
 unfold vr Kr;rw[ď h k];split
 ·refine US (λp q h=>?_) h;by_cases e:p.1=k
  ·rw[ma e,ma (h.1.symm.trans e)];exact⟨h.1,b⟩
  ·rw[ra e,ra (λz=>e (h.1.trans z))];exact h
 ·exact yS ⟨rfl,b⟩ h
def Xl.mono(e:Ge μ H b c)(h:Xl T μ H a d):Xl T b c a d:=Paired.Ms h λ_ _ z=>⟨z.1,Ua.mono e _ _ z.2⟩
def _root_.L2.ek.kr(e:Rd H a (Ϝ b)):ek H a (kV k) (Do b k):=ϒ ⟨b,k,e,rfl,rfl⟩
def vm(x y:D):M D:=λb=>match Xm y with
 |some k=>(match Ik b x with
  |some a=>(match jl a k with
   |some d=>Y d b
   |none=>ϗ)
  |none=>ϗ)
 |none=>ϗ
def Nu(hu:X.A.units+9<cLine)(F:FE T X o p)(E:FE T X i fi)(K:pN i):FE T X (ϥ o i g) (Ja vm p fi):=by
 intro c s S H Q I h;refine R0 (by omega) F E K c s S H Q I ?_;obtain⟨μ,ρ,σ,q,J,G⟩:=h;refine⟨μ,ρ,σ,q,J,G.bind λx m l v ϋ _ t R ώ N=>⟨l,ρ,m,q.mono t,R,N.bind λy n W u ϊ _ z r P b=>?_⟩⟩;unfold vm at b;cases f:Xm y with
 |none=>rw[f]at b;exact b.elim
 |some k=>
  rw[f]at b;cases e:Ik n x with
  |none=>rw[e]at b;exact b.elim
  |some L=>
   rw[e]at b;dsimp only at b;obtain⟨a,vs,rfl,B,C⟩:=SA r (Ua.mono z _ _ ώ) e;obtain rfl:=ZC P f;rcases UB C k with⟨j,_⟩|⟨d,w,j,ό,V⟩
   ·rw[j]at b;exact b.elim
   ·rw[j]at b;exact⟨a,w,rfl,by rw[<-ό];exact ek.kr B,Jc.here b r V⟩
noncomputable def bT:R2:=λy x H Q=>∃ a o,x=ϕ a/\ek H a y o/\Q (Ϭ o.isSome) H
def EL(f:X.A.units+9<cLine):ni X (gc .In) bT:=by
 intro b s k H y x i u Q I e d h;obtain⟨a,o,rfl,g,q⟩:=h;obtain rfl:u=jc a:=d;exact yyr (by omega) I g e λj c=>⟨Ϭ o.isSome,H,c,rfl,q⟩
def Ov(y x:D):M D:=λb=>match Xm y with
 |some k=>(match Ik b x with
  |some a=>Y (ϐ (jl a k).isSome) b
  |none=>ϗ)
 |none=>ϗ
theorem EK:im T bT Ov:=by
 intro E μ H σ y x u v Q r q p h;unfold Ov at h;cases c:Xm y with
 |none=>rw[c]at h;exact h.elim
 |some k=>
  rw[c]at h;cases b:Ik σ x with
  |none=>rw[b]at h;exact h.elim
  |some j=>
   rw[b]at h;obtain⟨a,l,rfl,g,i⟩:=SA r p b;obtain rfl:=ZC q c;refine⟨a,Do l k,rfl,ek.kr g,Jc.here h r ?_⟩;rcases UB i k with⟨e,f⟩|⟨d,w,e,f,m⟩
   ·rw[e,f];rfl
   ·rw[e,f];rfl
noncomputable def ψ:YG:=λx y v H Q=>∃ a b,x=ϕ a/\iA H a y v b/\Q b
def ĝ(l:X.A.units+9<cLine):DO X ψ:=by
 intro b s p H o i v e m u Q I j f k h;obtain⟨a,c,rfl,g,q⟩:=h;obtain rfl:e=jc a:=j;exact k7 (by omega) I g f k λn d=>⟨c,d,q⟩
def eu(c:Ev)(d x:D)(y:D):M Fl:=λb=>match x with
 | U n=>(match Xm y with
  |some k=>(match b[n]? with
   |some (ϑ a)=>if a.length<Ni then Y (Ϛ c) (b.set n (ϑ (vr a k d)))else ϗ
   |_=>ϗ)
  |none=>ϗ)
 |_=>ϗ
def yN(a:Ev)(b:Ev->M D)(d x:D):M Fl:=xs a (b a) (eu a d x)
def ZK(a:Ev)(c b:Ev->M D)(d:D):M Fl:=xs a (c a) (yN a b d)
def Xu(f c b:Ev->M D):Ev->M Fl:=λa=>xs a (f a) (ZK a c b)
def Ew(hu:X.A.units+9<cLine)(he:FE T X e f)(ho:FE T X o Q)(hi:FE T X i fi)
  (ϊ:∀ v,Pm (ϥ o i b) X.env v=(do
   let t <-Zg [v] (Ec o X.env);let F <-Zg [v,t] (Ec i X.env)
   Vk b
   Zg [v,t,F] (xx t F v)
   release [v,t,F] []):=by intro _;rfl)
  (hs:So [ϥ o i b] e p.line X.env=pure false:=by rfl) (hw:To [ϥ o i b] e X.env=pure none:=by rfl)
  (ϋ:(sf [ϥ o i b] X.env).map (·.2)=[Pm (ϥ o i b) X.env]:=by rfl):FS T X (.Assign [ϥ o i b] e p) (Xu f Q fi):=by
 intro m s V H D I hq;refine SM he (sQ ho hi (ĝ hu) ϊ) hs hw ϋ m s V H D I ?_;obtain⟨μ,ρ,σ,g,hr,hp⟩:=hq;refine⟨μ,ρ,σ,g,hr,hp.xs g λd L J v H1 _ j r1 q1 p1=>?_⟩;refine⟨J,ρ,L,g.mono j,r1,p1.xs (g.mono j) λx N K vo H2 _ r r2 q2 p2=>?_⟩;refine⟨K,ρ,N,(g.mono j).mono r,r2,p2.xs ((g.mono j).mono r) λy ώ q vi P _ u ό q3 c=>?_⟩;have hd:=Ua.mono u _ _ (Ua.mono r _ _ q1);have hx:=Ua.mono u _ _ q2;unfold eu at c;cases x with
 |ref n=>
  dsimp only at c;cases w:Xm y with
  |none=>rw[w]at c;exact c.elim
  |some k=>
   rw[w]at c;cases B:ώ[n]? with
   |none=>rw[B]at c;exact c.elim
   |some ob=>
    rw[B]at c;cases ob with
    |Qb h=>
     dsimp only at c;by_cases E:h.length<Ni
     ·rw[ma E]at c;obtain⟨a,rfl,S,W,R,C⟩:=ό.at hx B;obtain rfl:=ZC q3 w;have G:=ό.write (ob:=ϑ (vr h k d)) S ⟨_,Ih,by
       have ex:Ge q P q (Nc P a (Ϝ (Kr W k v))):=Jw (La S) R (λ_ z=>by cases z) (λ_ _ z=>by cases z);exact tU (Xl.mono ex C) k (Ua.mono ex _ _ hd)⟩
      have l:W.length=h.length:=by unfold Xl at C;exact(Paired.length C).symm
      exact⟨a,_,rfl,iA.k R (by rw[l];exact gb E (by decide)),c _ (ϸ V) _ G.1 G.2 (((g.mono j).mono r).mono u |>.mono G.1)⟩
     ·rw[ra E]at c;exact c.elim
    |_=>exact c.elim
 |_=>exact c.elim
noncomputable def aw:Ev->M D:=λ_ a=>Y (U a.length) (a++[ϑ []])
def Jy:FE T X (.Dict [] [] b) aw:=by
 intro a s f H Q I h;obtain⟨μ,i,j,g,d,e⟩:=h;refine wR a s f H Q I λp c=>?_;exact e (μ++[p]) (ϕ p) _ (My c) (d.push c ⟨[],Ih,Ϥ⟩) (xF d)
def Z9:FE T X (.Dict [] [] c) (eC (Ϫ [] [])):=by
 intro a s i H Q I h;obtain⟨μ,k,l,j,d,g⟩:=h;refine wR a s i H Q I λp b=>?_;exact g μ (ϕ p) _ (Wm b) (d.fresh b) (by rw[Ua];exact⟨p,[],rfl,λf=>(by obtain⟨u,e,_⟩:=d.mem f;rw[b]at e;cases e),(ϒ Ih),rfl,Ub.nil⟩)
def gN:List V->Hp->VK->Prop:=λxs H Q=>∃ a b,xs=[ϕ a]/\Rd H a (Ϝ b)/\∀ p,H p=none->Q (ϕ p) (Nc H p (Ϝ b))
def iP:Gp X (ϙ "dict") gN:=by
 intro b s j H xs k Q I r h;obtain⟨a,f,rfl,e,q⟩:=h;obtain⟨u,rfl,g⟩:=Yv r;cases g;exact ù I e λp i d c=>⟨ϕ p,_,c,rfl,q p d⟩
def oC(c:List D):M D:=λb=>match c with
 |[x]=>(match Ik b x with
  |some a=>Y (Ϫ (a.map (·.1)) (a.map (·.2))) b
  |none=>ϗ)
 |_=>ϗ
theorem mW:∀ {a:List (Nd × D)} {b:List (Nd × V)},Xl T μ H a b->b.map (·.1)=a.map (·.1)/\Ub T μ H (a.map (·.2)) (b.map (·.2))
 |_,_,Ϥ=>⟨rfl,Ub.nil⟩
 |_,_,Ϡ h t=>by
  obtain⟨c,d⟩:=mW t;exact⟨by rw[Ga,Ga,c,h.1],Ub.cons h.2 d⟩
def Φ:jt T gN oC:=by
 intro E μ H σ e s Q r p h
 match e with
 |[]=>exact h.elim
 |[x]=>
  unfold oC at h;dsimp only at h;cases c:Ik σ x with
  |none=>rw[c]at h;exact h.elim
  |some j=>
   rw[c]at h;obtain⟨v,q,rfl,k,m⟩:=p;subst m;obtain⟨a,ws,rfl,f,g⟩:=SA r k c;refine⟨a,ws,rfl,f,λl b=>?_⟩;obtain⟨n,o⟩:=mW g;exact h μ (ϕ l) _ (Wm b) (r.fresh b) (by rw[Ua];exact⟨l,ws,rfl,λi=>(by obtain⟨u,d,_⟩:=r.mem i;rw[b]at d;cases d),(ϒ Ih),n,Ub.mono (Wm b) _ _ o⟩)
 |_::_::_=>exact h.elim
end
structure InK(K:ϓ)(C:Addr):Prop where
 cl:L2.qq K C
 a:W.findIn K (jc C) "__class__" = some (some (ϝ "object.__class__"))
 n:W.specialIn K (ϝ "object.__class__") "__get__" = some (some (ϝ "getset_descriptor.__get__"))
 t:W.takesIn K (ϝ "object.__class__")=some true
 m:Ϲ K C (ϙ "object")=some true
noncomputable def gJ(b:List D):M D:=λa=>match b with
 |[x]=>(match x with
  | Z i=>Y (Z i) a
  | ϐ k=>Y (Z (if k then 1 else 0)) a
  |_=>ϗ)
 |_=>ϗ
def ñ:jt T (λxs H Q=>(∃ i,xs=[ϡ i]/\Q (ϡ i) H)\/∃ k,xs=[Ϭ k]/\Q (ϡ (if k then 1 else 0)) H) gJ:=by
 intro E d H σ xs c Q r p h
 match xs with
 |[]=>exact h.elim
 |[x]=>
  obtain⟨v,w,rfl,a,b⟩:=p;rw[Ub]at b;subst b;cases x with
  |int i=>rw[Ua]at a;subst a;exact ϒ ⟨i,rfl,Jc.here h r (by rw[Ua])⟩
  |bl k=>rw[Ua]at a;subst a;exact ϖ ⟨k,rfl,Jc.here h r (by rw[Ua])⟩
  |_=>exact h.elim
 |_::_::_=>exact h.elim
inductive OE(X:Cx):List (Option Ya)->List Ya->List (Str × Str)->Prop
 |nil:OE X [] [] []
 |cons {k v:Ya} {x y:Str} {ks:List (Option Ya)} {vs:List Ya} {l:List (Str × Str)}:PE X k (tC (.str x))->PE X v (tC (.str y))->OE X ks vs l->OE X (some k::ks) (v::vs) ((x,y)::l)
def OE.all{ks vs l}(h:OE X ks vs l):ks.all (·.isSome)=true/\ks.length=vs.length/\ks.length=l.length:=by
 induction h with
 |nil=>exact⟨rfl,rfl,rfl⟩
 |cons _ _ _ a=>exact⟨by simpa using a.1,by simpa using a.2.1,by simpa using a.2.2⟩
noncomputable def CF(o:Int->Int->Int)(i:Nat)(c:Ev)(x d:D):M Fl:=λe=>match x,d with
 | Z a,Z b=>Y (Ϛ (c.set i (some (Z (o a b))))) e
 |_,_=>ϗ
def wz(o:Int->Int->Int)(i:Nat)(f:Ev->M D):Ev->M Fl:=λa=>match a[i]? with
 |some (some x)=>xs a (f a) (CF o i a x)
 |_=>λ_=>ϗ
def kR(h:a[i]?=some (some x)):wz o i f a b=cn a (CF o i a x) (f a b):=by
 unfold wz;rw[h];exact qo ..
@[simp] theorem zyp(o:Int->Int->Int)(i:Nat)(ρ:Ev)(a b:Int)(σ:lb):CF o i ρ (Z a) (Z b) σ=Y (Ϛ (ρ.set i (some (Z (o a b))))) σ:=nr rfl
section
variable{e:Ya}{f:Ev->M D}{pos:Re}
def XQ(E:DN X n (kQ o))(z:X.N.Nodup)(C:X.N[i]?=some x)(J:Loc X.env.scope x)(A:FE T X e f)(B:X.fn x=true\/X.env.scope.names.lookup x=some .local:=by first|exact .inl rfl|exact .inr rfl|assumption) :
  FS T X (.AugAssign (ϟ x j) n e pos) (wz o i f):=by
 intro h s p H D I G;refine x9 z C J A E B h s p H D I ?_;obtain⟨M,r,σ,l,F,c⟩:=G;unfold wz at c;cases k:r[i]? with
 |none=>rw[k]at c;exact c.elim
 |some q=>
  cases q with
  |none=>rw[k]at c;exact c.elim
  |some d=>
   rw[k]at c;obtain⟨v,u,w⟩:=l.2 i d k;refine⟨v,u,M,r,σ,l,F,c.xs l λy P ώ R Q _ t L K m=>?_⟩;cases d with
   |int a=>
    cases y with
    |int b=>
     subst w K;exact⟨a,b,rfl,rfl,Jc.here (g:=ϸ (p.set i (some (ϡ (o a b))))) m L ((l.mono t).set i (by rw[Ua]))⟩
    |_=>exact m.elim
   |_=>exact m.elim
end
def cA(o:D->List D->M D)(m:M (List D))(x:D):M D:=λa=>match Ik a x with
 |some _=>be m (o x) a
 |none=>ϗ
def kJ(o:D->List D->M D)(f:Ev->M D)(b:Ev->M (List D)):Ev->M D:=λa=>be (f a) (cA o (b a))
def IQ:V->List V->Hp->VK->Prop:=λx c H Q=>∃ a b k d,x=ϕ a/\c=[kV k,d]/\H a=some (Ϝ b)/\b.length<sizeLine/\
 (∀ v,Do b k=some v->Q v H)/\(Do b k=none->Q d (Nc H a (Ϝ (Kr b k d))))
def qy(x:D)(xs:List D):M D:=λb=>match x,xs with
 | U n,[y,d]=>(match Xm y with
  |some k=>(match b[n]? with
   |some (ϑ a)=>if a.length<Ni then (match jl a k with
    |some e=>Y e b
    |none=>Y d (b.set n (ϑ (vr a k d))))else ϗ
   |_=>ϗ)
  |none=>ϗ)
 |_,_=>ϗ
section
variable{o e:Ya}{es:List Ya}{f:Ev->M D}{fs:Ev->M (List D)}{name:Str}{apos cpos:Re}{id:String}{r:V->List V->Hp->VK->Prop}{g:D->List D->M D}
def j9:Tv X "dict.setdefault" IQ:=by
 intro m s L H x N v M Q I J G h;obtain⟨a,b,k,d,rfl,rfl,j,K,o,p⟩:=h;cases J;obtain⟨u,r,rfl,E,n⟩:=G.two;obtain⟨z,l,ws,c,i⟩:=rJ I.Qd j;have D:ws.length<=sizeLine:=by rw[<-c.length];exact z
 have g:(Kr b k d).length<=sizeLine:=by have:=WO b k d;omega
 refine yq zo i.typeIs PySem.F.entry_dict_setdefault (PySem.F.args_dict_setdefault_3 _ _ _) (kt_meets_setdefault (jn X.prog X.w) a (Nz E) l r) ⟨ws,i,D,λw C=>?_,λy h' f B=>?_⟩
 ·have q:=c.val k;rw[C]at q;cases e:Do b k with
  |none=>rw[e]at q;exact absurd q (by simp[uq])
  |some x=>rw[e]at q;exact⟨x,H,I.tok _,q,o x e⟩
 ·have q:=c.val k;rw[y]at q;cases e:Do b k with
  |some x=>rw[e]at q;exact absurd q (by simp[uq])
  |none=>
   have t:∃ q,h'.get? a=some q:=let ⟨q,_,_,A,_⟩:=f;⟨q,A⟩;exact⟨d,_,IF I (by rw[j];exact ϻ) B t (zE g l (c.put k n) f),n,p e⟩
def GV(I:Ab X b σ H s)(g:Rd H p (Ϝ c)):s.TypeIs (jc p) "dict"/\∀ a,jc p=jc a->∃ d,s.heap.get? a=some d/\d.dict=none:=by
 obtain⟨_,_,_,_,o,_,_,e,ex,_⟩:=Fy I.Qd g;refine⟨⟨o,e,ex.1⟩,λa f=>?_⟩;cases f;exact⟨o,e,ex.2.1⟩
def Ż(r:V->List V->Hp->VK->Prop)(d:TE):TE:=λσ H Q=>d σ H λx c=>(∃ a b,x=ϕ a/\Rd c a (Ϝ b))/\r x [] c Q
def R7(r:V->List V->Hp->VK->Prop)(e:TE)(t:TA):TE:=λσ H Q=>e σ H λx c=>(∃ a b,x=ϕ a/\Rd c a (Ϝ b))/\t σ c λxs d=>r x xs d Q
def XV(q:Np "dict")(e:Slot "dict" name id)(f:Dr (ϝ id)=pure (ϙ "method_descriptor"))(m:Tv X id r)(n:PE X o i)
  (c:ye o name X.env (Ec o X.env)=Ec o X.env:=by rfl) (d:(apos.endLine == cpos.line)=true:=by rfl):PE X (ϣ (Ϣ o name apos) [] [] cpos) (Ż r i):=by
 intro b s σ H Q I h;refine wpAny_Call_method0_late c d (Le (n b s σ H _ I h) λv s1 ſ=>?_);obtain⟨x,H1,g,u,ty,t⟩:=ſ;obtain⟨a,p,rfl,l⟩:=ty;cases u;obtain⟨j,k⟩:=GV g l;exact⟨"dict",id,q,e,f,j,k,zj rfl (PySem.evalArgs_none (m b s1 σ H1 (ϕ a) [] (jc a) [] Q g rfl Ϥ t))⟩
def ì(D:Np "dict")(i:Slot "dict" name id)(j:Dr (ϝ id)=pure (ϙ "method_descriptor"))(z:Tv X id r)(A:PE X o m)(w:PA X (e::es) t)
  (d:ye o name X.env (Ec o X.env)=Ec o X.env:=by rfl)
  (g:((Cd cpos (ya (e::es) X.env)).all (λx=>!x.1) && (sk cpos (Ah [] X.env)).all (λx=>x.1.isSome)
   && decide ((e::es).length+([]:List Wk).length+(if ([]:List Wk).isEmpty then 0 else 1)<30))=true:=by rfl)
  (f:(apos.endLine == cpos.line)=true:=by rfl) (B:ya (e::es) X.env=(false,Ec e X.env)::ya es X.env:=by rfl) (c:(Cd cpos (ya es X.env)).any (·.1)=false:=by rfl) :
  PE X (ϣ (Ϣ o name apos) (e::es) [] cpos) (R7 r m t):=by
 intro b s σ H Q I h;refine lx d g f rfl (Le (A b s σ H _ I h) λv s1 ſ=>?_);obtain⟨x,H1,k,G,ty,E⟩:=ſ;obtain⟨a,C,rfl,y⟩:=ty;cases G;obtain⟨q,u⟩:=GV k y;refine⟨"dict",id,D,i,j,q,u,?_⟩;have l:=w cpos b s1 σ H1 _ k E;rw[B]at l ⊢;refine zj (by show (false || (Cd cpos (ya es X.env)).any (·.1))=false;rw[c]<;>rfl) (pk ?_);exact Le l λus s2 ⟨K,n,p,J,F⟩=>z b s2 σ n (ϕ a) K (jc a) us Q p rfl J F
def pP(P:Np "dict")(l:Slot "dict" name id)(q:Dr (ϝ id)=pure (ϙ "method_descriptor"))(J:Tv X id r)(N:rA T r g)(K:FE T X o f)(G:FA T X (e::es) fs)
  (c:ye o name X.env (Ec o X.env)=Ec o X.env:=by rfl)
  (i:((Cd cpos (ya (e::es) X.env)).all (λx=>!x.1) && (sk cpos (Ah [] X.env)).all (λx=>x.1.isSome)
   && decide ((e::es).length+([]:List Wk).length+(if ([]:List Wk).isEmpty then 0 else 1)<30))=true:=by rfl)
  (d:(apos.endLine == cpos.line)=true:=by rfl) (p:ya (e::es) X.env=(false,Ec e X.env)::ya es X.env:=by rfl) (b:(Cd cpos (ya es X.env)).any (·.1)=false:=by rfl) :
  FE T X (ϣ (Ϣ o name apos) (e::es) [] cpos) (kJ g f fs):=by
 intro j s ό H Q I h;refine ì P l q J K G c i d p b j s ό H Q I ?_;obtain⟨W,ρ,σ,y,M,L⟩:=h;refine⟨W,ρ,σ,y,M,L.bind λx m t v ϋ _ D A z k=>?_⟩;unfold cA at k;cases n:Ik m x with
 |none=>rw[n]at k;exact k.elim
 |some xs=>
  rw[n]at k;obtain⟨a,V,rfl,F,ϊ⟩:=SA A z n;refine⟨⟨a,V,rfl,F⟩,t,ρ,m,y.mono D,A,k.bind λC w u ws B _ E S ώ R=>?_⟩;exact N _ u B w x C (ϕ a) ws Q S (Ua.mono E _ _ z) ώ R
def Y2:rA T IQ qy:=by
 intro E G H σ x xs v M Q r p q h;cases x with
 |ref n=>
  match xs with
  |[]=>exact h.elim
  |[_]=>exact h.elim
  |[y,d]=>
   obtain⟨w,z,rfl,J,K⟩:=q;obtain⟨D,g,rfl,B,C⟩:=K;rw[Ub]at C;subst C;unfold qy at h;cases m:Xm y with
   |none=>simp only[m]at h;exact h.elim
   |some k=>
    simp only[m]at h;cases b:σ[n]? with
    |none=>simp only[b]at h;exact h.elim
    |some ob=>
     cases ob with
     |Qb f=>
      simp only[b]at h;by_cases o:f.length<Ni
      ·rw[ma o]at h;obtain⟨a,rfl,A,s,u,i⟩:=r.at p b;obtain rfl:=ZC J m;have j:s.length=f.length:=by unfold Xl at i;exact(Paired.length i).symm
       refine⟨a,s,k,D,rfl,rfl,u,by rw[j];exact vT o,λv e=>?_,λe=>?_⟩
       ·rcases UB i k with⟨l,g⟩|⟨I,L,l,g,F⟩
        ·rw[g]at e;cases e
        ·rw[g]at e;cases e;rw[l]at h;exact Jc.here h r F
       ·rcases UB i k with⟨l,g⟩|⟨I,L,l,g,F⟩
        ·rw[l]at h;have t:=r.write (ob:=ϑ (vr f k d)) A ⟨_,Ih,by
          have ex:Ge G H G (Nc H a (Ϝ (Kr s k D))):=Jw (La A) u (λ_ z=>by cases z) (λ_ _ z=>by cases z);exact tU (Xl.mono ex i) k (Ua.mono ex _ _ B)⟩
         exact h _ _ _ t.1 t.2 (Ua.mono t.1 _ _ B)
        ·rw[g]at e;cases e
      ·rw[ra o]at h;exact h.elim
     |wa N=>simp only[b]at h;exact h.elim
     |yc c fs=>simp only[b]at h;exact h.elim
     |ig _=>simp only[b]at h;exact h.elim
     |Bl _=>simp only[b]at h;exact h.elim
  |_::_::_::_=>exact h.elim
 |_=>exact h.elim
end
def Cy(a:lb)(x:D):List D->Option (List Bool)
 |[]=>some []
 |y::c=>match Jk a 7 y x,Cy a x c with
  |some b,some bs=>some (b::bs)
  |_,_=>none
def vD(a:Bool)(x y:D):M D:=λb=>match Tj b y with
 |some xs=>(match Cy b x xs with
  |some bs=>Y (ϐ (if a then !(bs.any id)else bs.any id)) b
  |none=>ϗ)
 |none=>ϗ
theorem iV{c:lb}{x:D}:∀ {xs:List D} {bs:List Bool},Cy c x xs=some bs->bs.length=xs.length/\∀ (j:Nat) (d:D) (b:Bool),xs[j]?=some d->bs[j]?=some b->Jk c 7 d x=some b
 |[],bs,h=>by cases h;exact⟨rfl,λj d b h=>by simp at h⟩
 |y::m,bs,h=>by
  unfold Cy at h;cases a:Jk c 7 y x with
  |none=>rw[a]at h;cases h
  |some n=>
   cases e:Cy c x m with
   |none=>rw[a,e]at h;cases h
   |some i=>
    rw[a,e]at h;cases h;obtain⟨k,l⟩:=iV e;refine⟨by simp[k],λj d b g f=>?_⟩;cases j with
    |zero=>simp at g f;subst g;subst f;exact a
    |succ j=>exact l j d b (by simpa using g) (by simpa using f)
open Classical in
def Jv(a:List Value)(b:List Bool)(u:Value):Bool:=decide (∃ j:Nat,a[j]?=some u/\b[j]?=some true)
def SJ:Jv a b u=true ↔ ∃ j:Nat,a[j]?=some u/\b[j]?=some true:=by unfold Jv;exact @decide_eq_true_iff _ (Classical.propDecidable _)
def vS{a:List Value}(k:c.length=a.length):a.toArray.any (Jv a c)=c.any id:=by
 rw[show a.toArray.any (Jv a c)=a.any (Jv a c) by simp,Bool.eq_iff_iff,Oe,Oe];constructor
 ·rintro ⟨u,_,i⟩;obtain⟨j,_,h⟩:=SJ.mp i;exact⟨true,La h,rfl⟩
 ·rintro ⟨b,d,g⟩;cases (g);obtain⟨j,f,h⟩:=Bv d;have e:j<a.length:=by omega
  exact⟨a[j],Ro e,SJ.mpr ⟨j,by simp,by simp[f,h]⟩⟩
def yjg(m:c.length=a.length)(h:∀ (j:Nat) (u:Value) (b:Bool),a[j]?=some u->c[j]?=some b->ke A s u x b)(w:Value)(l:w∈a):ke A s w x (Jv a c w):=by
 cases e:Jv a c w with
 |true=>obtain⟨j,g,i⟩:=SJ.mp e;exact h j w true g i
 |false=>
  obtain⟨j,f,rfl⟩:=Bv l;have d:j<c.length:=by omega
  have k:c[j]=false:=by
   cases q:c[j]with
   |false=>rfl
   |true=>exact absurd (SJ.mpr ⟨j,Pd f,by rw[Pd d,q]⟩) (by rw[e];decide)
  exact h j _ false (Pd f) (by rw[Pd d,k])
def Ĝ(G:T.K=X.K)(ό:X.A.units+9<cLine)(I:Ab X l R H s)(r:je T t H σ)(L:Ua T t H x v)(M:Ua T t H y u)(ώ:de v m)(N:de u o)
  {xs:List D} (e:Tj σ y=some xs) (F:Cy σ x xs=some a) :
  (Q (.bool (a.any id)) s->wpAny (model X.prog X.w) X.A (gc .In m o) Q X.xe s)/\(Q (.bool (!a.any id)) s->wpAny (model X.prog X.w) X.A (gc .NotIn m o) Q X.xe s):=by
 obtain⟨p,S,rfl,B,f⟩:=ZA r M e;rw[G]at f;obtain⟨W,J⟩:=iV F;cases N;have i:∀ {its:List Value},Pe S its->(a.length=its.length/\∀ w∈its,ke X.A.in1 s w m (Jv its a w)):=fun {its} q=>by
  have l1:=B.length;have l2:=q.length;have g:a.length=its.length:=by omega
  refine⟨g,yjg g λj w b c n=>?_⟩;obtain⟨z,C,P⟩:=LG q c;obtain⟨d,E,rd⟩:=mM B C;exact QJ I r 7 X.A.in1 d x z v w m b (by show X.A.units+1+7+1<cLine;omega) rd L P ώ (J j d b E n)
 rcases f with f|f
 ·obtain⟨its,q,pl,_⟩:=L2.Ab.list I f;obtain⟨g,k⟩:=i q;refine⟨λh=>iy (Jv its a) pl.isList (λw c=>k w (by simpa using c)) ?_,λh=>wv (Jv its a) pl.isList (λw c=>k w (by simpa using c)) ?_⟩<;>rw[vS g]<;>exact h
 ·obtain⟨its,q,pl,_⟩:=L2.Ab.tuple I f;obtain⟨g,k⟩:=i q;refine⟨λh=>kx (Jv its a) pl (λw c=>k w (by simpa using c)) ?_,λh=>Ou (Jv its a) pl (λw c=>k w (by simpa using c)) ?_⟩<;>rw[vS g]<;>exact h
def ym7(f:T.K=X.K)(g:X.A.units+9<cLine):ni X (gc .In) (rD T (vD false)):=by
 intro c s m H v u o n Q I l k h;obtain⟨E,p,d,x,y,r,i,j,a⟩:=h;unfold vD at a;cases e:Tj d y with
 |none=>rw[e]at a;exact a.elim
 |some xs=>
  rw[e]at a;dsimp only at a;cases b:Cy d x xs with
  |none=>rw[b]at a;exact a.elim
  |some bs=>
   rw[b]at a;exact(Ĝ f g I r i j l k e b).1 ⟨Ϭ (bs.any id),H,I,rfl,Jc.here a r (by rw[Ua];rfl)⟩
noncomputable def Jz:Ev->M Fl:=λ_ _=>ϗ
section
variable{pins:List (Addr × Ad)}{σ:St}{H:Hp}{s:ba}{h':Heap}
def FF(e:H b=some u)(n:H a=none):b≠a:=λz=>by rw[z,n]at e;cases e
def _root_.L2.Ab.Qw{its:List Addr}(I:Ab X pins σ H s)(k:∀ b u,b ∉ its->s.heap.get? b=some u->h'.get? b=some u)(h:∀ b∈its,Kn X pins H b)(j:s.heap.objs.size<=p)(i:fm X.prog X.w (Nc H p o) h' p o) :
  Ab X pins σ (Nc H p o) { s with heap:=h',toks:=t' }:=by
 have d:=I.Qd.fresh j;have f:∀ b u,H b=some u->b ∉ its:=λb u e z=>by rw[(h b z).1]at e;cases e
 refine I.step (λb g=>?_) (λb o _ _ a e _=>k b o a e) (λb o _ _ a e _=>⟨o.slots,k b o a e⟩) (λb u _ q n=>by rw[we (Wa (gb (Fa q) j))];exact n)
  (λb o a e=>⟨o,k b o a e⟩) (λb xs q=>by rw[we (FF q d)];exact q) (λb u xs q=>by rw[we (FF q d)];exact q) (λb ps q=>⟨#[],by rw[we (FF q d),q];simp⟩) (λm C=>?_) (λb u e=>?_) I.bare
 ·obtain⟨E,x,F,y,A,B⟩:=h b g;exact⟨y,x,A,B⟩
 ·obtain⟨o,t,l,D,r⟩:=C;exact⟨o,t,l,k _ o (λz=>(h _ z).2.1 rfl) D,r⟩
 ·by_cases g:b=p
  ·subst g;rw[Ih]at e;cases e;exact i
  ·rw[we g]at e;refine(I.Qd b u e).Rl (λc v a q=>k c v ?_ q) (λc q=>by rw[we (FF q d)];exact q) λc xs q=>by rw[we (FF q d)];exact q
   rcases a with z|z
   ·rw[z];exact f b u e
   ·exact f c _ z
def _root_.L2.Ab.Pw{its:List Addr}(I:Ab X pins σ H s)(k:∀ b u,b ∉ its->s.heap.get? b=some u->h'.get? b=some u)(f:∀ b∈its,Kn X pins H b):Ab X pins σ H { s with heap:=h',toks:=t' }:=by
 have d:∀ b u,H b=some u->b ∉ its:=λb u e z=>by rw[(f b z).1]at e;cases e
 refine I.step (λb t=>?_) (λb o _ _ a e _=>k b o a e) (λb o _ _ a e _=>⟨o.slots,k b o a e⟩) (λb u _ q n=>n)
  (λb o a e=>⟨o,k b o a e⟩) (λb xs q=>q) (λb u xs q=>q) (λb ps q=>⟨#[],by rw[q];simp⟩) (λm w=>?_) (λb u e=>?_) I.bare
 ·obtain⟨y,i,A,j,l,p⟩:=f b t;exact⟨j,i,l,p⟩
 ·obtain⟨o,h,g,x,r⟩:=w;exact⟨o,h,g,k _ o (λz=>(f _ z).2.1 rfl) x,r⟩
 ·refine(I.Qd b u e).Rl (λc v a q=>k c v ?_ q) (λ_ q=>q) λ_ _ q=>q;rcases a with z|z
  ·rw[z];exact d b u e
  ·exact d c _ z
end
def Tq{h:Heap}(e:h.get? a=some o)(f:h.get? b=some i)(c:o.cls=ϙ n)(d:i.cls=ϙ g)(j:n≠g):a≠b:=λz=>by
 subst z;rw[e]at f;cases f;rw[c]at d;injection d with q;exact j q
def eQ(K:ϓ)(l:Addr):It:=
 ⟨λi H=>∃ xs x,ug K H l xs/\xs[i]?=some x,λi H v a=>∃ p x,H p=none/\v=ϕ p/\(∀ xs,ug K H l xs->xs[i]?=some x)/\a=Nc H p (.Xa [ϡ i,x]),λi H=>∃ xs,ug K H l xs/\i=xs.length⟩
def yV(K:ϓ)(l m:Addr):It:=
 ⟨λi H=>∃ xs a x y,ug K H l xs/\ug K H m a/\xs[i]?=some x/\a[i]?=some y,λi H v b=>∃ p x y,H p=none/\v=ϕ p/\(∀ xs,ug K H l xs->xs[i]?=some x)/\(∀ a,ug K H m a->a[i]?=some y)/\b=Nc H p (.Xa [x,y]),
  λi H=>∃ xs a,ug K H l xs/\ug K H m a/\i=min xs.length a.length⟩
def zpz{P:Ia}{w:qb}{K:PySem.W.Frag}{j:List Ya}{kk:Nat}{G:Re}(l e r:Addr):Ss P w K (ϵ j kk G) (eQ K l) [e,r] e (λi h=>(∃ a,IsEnum h e r i a)/\h.IsListIter r l i) where
 mem:=by simp
 obj:=λi h g b f=>by
  obtain⟨⟨a,s1⟩,o,s2,c,d⟩:=g;simp only[Ma,Me,Qo]at f;rcases f with rfl|rfl
  ·exact⟨_,s1,λv z=>by cases z⟩
  ·exact⟨o,s2,λv z=>by rw[d]at z;cases z⟩
 keep:=λi h h' g k=>by
  obtain⟨⟨a,s1⟩,s2⟩:=g;exact⟨⟨a,k e (by simp) _ s1⟩,s2.at λo q=>k r (by simp) o q⟩
 item:=by
  intro X R ϋ ώ ό i F s σ H E I L g V;subst R ϋ ώ;obtain⟨xs,x,M,ϊ⟩:=V;obtain⟨its,rv,p,hz⟩:=I.list M;obtain⟨u,hu,ru⟩:=rv.get ϊ;obtain⟨⟨a,s1⟩,s2⟩:=g;obtain⟨oa,ea,ca,_⟩:=id p.isList;obtain⟨ob,J,cb,_⟩:=id s2;have a1:l≠e:=Tq ea s1 ca rfl (by decide);have a2:l≠r:=Tq ea J ca cb (by decide);have a0:e≠r:=Tq s1 J rfl cb (by decide);have W:=WalksT.enumerate (prog:=X.prog) (w:=X.w) (I.ok.hd ό) e r l a0 a1 a2 its.toArray;have hi:i<its.toArray.size:=by
   have:=(aa.mp hu).1;simpa using this
  refine W.item i s _ E hi ⟨⟨a,s1⟩,s2,p.isList⟩ λT a3 h' tk S hT B m hk=>?_;obtain⟨t,y,N,rfl⟩:=S;have ey:y=u:=by
   have:its.toArray[i]?=some u:=by simpa using hu
   rw[this]at N;cases N;rfl
  subst ey;refine⟨jc T,rfl,W.go j kk G i T { s with heap:=h',toks:=tk } _ E m λh2 hS D=>?_⟩;have C:=W.apart i T h' m;have n:h2.IsTuple T #[Ck i t,y]:=by
   obtain⟨o,e1,c1⟩:=B;exact⟨o,D T o C e1,c1⟩
  have hn:H T=none:=I.Qd.fresh hT;refine⟨ϕ T,Nc H T (.Xa [ϡ i,x]),I.Qw (λb o f q=>D b o f (hk b o f q)) L hT ?_,rfl,⟨T,x,hn,rfl,λys N=>by rw[I.Pl N M];exact ϊ,rfl⟩,⟨hS.1,hS.2.1⟩,λb f=>?_⟩
  ·exact⟨(show 2<=sizeLine by decide),[Ck i t,y],Ϡ ⟨t,rfl⟩ (Ϡ ru Ϥ),n⟩
  ·rw[we (λz=>C (by rw[<-z];exact f))];exact(L b f).1
 done:=by
  intro X R ϋ ώ ό i F s σ H E I L g V;subst R ϋ ώ;obtain⟨xs,M,ϊ⟩:=V;obtain⟨its,rv,p,hz⟩:=I.list M;obtain⟨⟨a,s1⟩,s2⟩:=g;have hl:=rv.length;exact wpAny_pyNext_enum_end (I.ok.hd ό) s1 s2 p.isList (by simp;omega) λh' J=>⟨rfl,I.Pw (λb o f q=>J b o (λz=>f (by simp[z])) q) L⟩
 self:=λA i s Q E g h=>by
  obtain⟨⟨a,s1⟩,s2⟩:=g;exact iD s1 h
def VX{l m z TI TO q r:Addr}{xs B:Array Value}(s:TI≠TO)(t:q≠r)(w:h.IsList l xs)(x:h.IsList m B)(s1:IsZip h z TI TO f)(s2:fP h TI a b)(j:fP h TO c d)(y:h.IsListIter q l u)(A:h.IsListIter r m v):ZipApart z TI TO q r l m:=by
 obtain⟨C,o,k,_⟩:=w;obtain⟨D,p,n,_⟩:=x;obtain⟨E,g,e,_⟩:=y;obtain⟨F,i,c5,_⟩:=A;exact⟨Tq s2 s1 rfl rfl (by decide),Tq j s1 rfl rfl (by decide),Tq g s1 e rfl (by decide),Tq i s1 c5 rfl (by decide),s,Tq s2 g rfl e (by decide),Tq s2 i rfl c5 (by decide),Tq j g rfl e (by decide),Tq j i rfl c5 (by decide),t,
  Tq o s1 k rfl (by decide),Tq o j k rfl (by decide),Tq o g k e (by decide),Tq o i k c5 (by decide),Tq p s1 n rfl (by decide),Tq p j n rfl (by decide),Tq p g n e (by decide),Tq p i n c5 (by decide)⟩
def q7{P:Ia}{w:qb}{K:PySem.W.Frag}{F:List Ya}{kk:Nat}{a1:Re}(l m z TI TO f g:Addr)(d1:TI≠TO)(d2:f≠g) :
  Ss P w K (ϵ F kk a1) (yV K l m) [z,TI,TO,f,g] z (λi h=>IsZip h z TI TO Wc/\fP h TI (jc f) (jc g)/\(∃ a b,fP h TO a b)/\h.IsListIter f l i/\h.IsListIter g m i) where
 mem:=by simp
 obj:=λi h B b e=>by
  obtain⟨s1,s2,⟨a,c,j⟩,⟨o4,n,c4,d4⟩,⟨o5,r,c5,d5⟩⟩:=B;simp only[Ma,Me,Qo]at e;rcases e with rfl|rfl|rfl|rfl|rfl
  ·exact⟨_,s1,λv z=>by cases z⟩
  ·exact⟨_,s2,λv z=>by cases z⟩
  ·exact⟨_,j,λv z=>by cases z⟩
  ·exact⟨o4,n,λv z=>by rw[d4]at z;cases z⟩
  ·exact⟨o5,r,λv z=>by rw[d5]at z;cases z⟩
 keep:=λi h h' B k=>by
  obtain⟨s1,s2,⟨a,c,j⟩,n,r⟩:=B;exact⟨k z (by simp) _ s1,k TI (by simp) _ s2,⟨a,c,k TO (by simp) _ j⟩,n.at λo q=>k f (by simp) o q,r.at λo q=>k g (by simp) o q⟩
 item:=by
  intro X hP hw hK hc i a0 s σ H E I hf B hg;subst hP hw hK;obtain⟨xs,ys,x,y,hq,t,hx,hy⟩:=hg;obtain⟨its,rv,p,ϋ⟩:=I.list hq;obtain⟨d,L,ϊ,a4⟩:=I.list t;obtain⟨u,hu,ru⟩:=rv.get hx;obtain⟨u2,S,a6⟩:=L.get hy;obtain⟨s1,s2,⟨a,c,j⟩,n,r⟩:=B;have D:=VX d1 d2 p.isList ϊ.isList s1 s2 j n r;have W:=zB (prog:=X.prog) (w:=X.w) (I.ok.hd hc) z TI TO f g l m D its.toArray d.toArray;have hi:i<min its.toArray.size d.toArray.size:=by
   have h1:=(aa.mp hu).1;have h2:=(aa.mp S).1;simp;omega
  refine W.item i s _ E hi ⟨s1,s2,⟨a,c,j⟩,n,r,p.isList,ϊ.isList⟩ λT a7 h' tk a2 hT N G hk=>?_;obtain⟨v1,v2,ό,V,rfl⟩:=a2;have e1:v1=u:=by
   have:its.toArray[i]?=some u:=by simpa using hu
   rw[this]at ό;cases ό;rfl
  have e2:v2=u2:=by
   have:d.toArray[i]?=some u2:=by simpa using S
   rw[this]at V;cases V;rfl
  subst e1;subst e2;refine⟨jc T,rfl,W.go F kk a1 i T { s with heap:=h',toks:=tk } _ E G λh2 M ώ=>?_⟩;have a3:=W.apart i T h' G;have J:h2.IsTuple T #[v1,v2]:=by
   obtain⟨o,e1,c1⟩:=N;exact⟨o,ώ T o a3 e1,c1⟩
  have hn:H T=none:=I.Qd.fresh hT;have C:∀ b,b ∉ [z,TI,TO,f,g]->b ∉ [z,TO,f,g]:=λb e R=>e (by simp at R ⊢;rcases R with h|h|h|h<;>simp[h]);have a5:∀ b∈[z,TI,TO,f,g],b<s.heap.objs.size:=λb e=>by
   simp only[Ma,Me,Qo]at e;rcases e with rfl|rfl|rfl|rfl|rfl
   ·exact Fa s1
   ·exact Fa s2
   ·exact Fa j
   ·obtain⟨o,q,_⟩:=n;exact Fa q
   ·obtain⟨o,q,_⟩:=r;exact Fa q
  refine⟨ϕ T,Nc H T (.Xa [x,y]),I.Qw (λb o e q=>ώ b o (C b e) (hk b o (C b e) q)) hf hT ?_,rfl,⟨T,x,y,hn,rfl,λzs ϋ=>by rw[I.Pl ϋ hq];exact hx,λzs ϋ=>by rw[I.Pl ϋ t];exact hy,rfl⟩,⟨M.1,M.2.1,M.2.2.1,M.2.2.2.1,M.2.2.2.2.1⟩,λb e=>?_⟩
  ·exact⟨(show (2:Nat)<=sizeLine by decide),[v1,v2],Ϡ ru (Ϡ a6 Ϥ),J⟩
  ·rw[we (Wa (gb (a5 b e) hT))];exact(hf b e).1
 done:=by
  intro X hP hw hK hc i a0 s σ H E I hf B hg;subst hP hw hK;obtain⟨xs,ys,hq,t,hx⟩:=hg;obtain⟨its,rv,p,ϋ⟩:=I.list hq;obtain⟨d,L,ϊ,a4⟩:=I.list t;obtain⟨s1,s2,⟨a,c,j⟩,n,r⟩:=B;have D:=VX d1 d2 p.isList ϊ.isList s1 s2 j n r;have W:=zB (prog:=X.prog) (w:=X.w) (A:=X.A) (I.ok.hd hc) z TI TO f g l m D its.toArray d.toArray;have hl:=rv.length;have a8:=L.length;have ei:i=min its.toArray.size d.toArray.size:=by simp;omega
  subst ei;have C:∀ b,b ∉ [z,TI,TO,f,g]->b ∉ [z,TO,f,g]:=λb e R=>e (by simp at R ⊢;rcases R with h|h|h|h<;>simp[h]);exact W.done s _ E ⟨s1,s2,⟨a,c,j⟩,n,r,p.isList,ϊ.isList⟩ λh' tk hk=>⟨rfl,I.Pw (t':=tk) (λb o e q=>hk b o (C b e) q) hf⟩
 self:=λA i s Q E B h=>qG B.1 h
abbrev NX:=Nat->lb->Option (Option D)
def GB(T:Tb)(c:List Addr)(f:Hp)(nx:NX)(J:It):Prop:=∀ a H e i,Ge c f a H->je T a H e->match nx i e with
 |none=>True
 |some none=>J.stop i H
 |some (some d)=>J.go i H/\∀ x b,J.MB i H x b->Ge a H a b/\je T a b e/\Ua T a b d x
def FZ(T:Tb)(X:Cx)(f:Ev->M NX):TI:=λb H R=>∃ a c d,pi T a H c b/\je T a H d/\Jc T (XE X b) (GB T) a H (f c d) R
abbrev Fz(T:Tb)(X:Cx)(b a:Ya)(f:Ev->M NX):Prop:=PI X b a (FZ T X f)
def Ft(nx:NX)(e:D->Ev->Option Ev)(a:Ev->M Fl):Nat->Nat->Ev->M Fl
 |0,_,_=>cc
 |k+1,i,f=>λc=>match nx i c with
  |none=>ϗ
  |some none=>Y (Ϛ f) c
  |some (some d)=>match e d f with
   |none=>ϗ
   |some b=>be (a b) (Gx (Ft nx e a k (i+1))) c
def WM(b:D->Ev->Option Ev)(a:Ev->M Fl)(c:Ev)(nx:NX):M Fl:=Ft nx b a 1001 0 c
def Lx(b:Ev->M NX)(d:D->Ev->Option Ev)(a:Ev->M Fl):Ev->M Fl:=λc=>xs c (b c) (WM d a c)
section
variable{tgt iter:Ya}{body:List Stmt}{src:Ev->M NX}{t:D->Ev->Option Ev}{g:Ev->M Fl}{pos:Re}
def qE(M:Cr (model X.prog X.w) X.A X.env X.xe)(hc:X.Lc=true)(hi:Fz T X tgt iter src)(hg:FG T X tgt t)(hb:um T X body g)
  (hs:∀ x,Eh iter X.env x=pure x:=by intro _;rfl):FS T X (.For tgt iter body [] pos) (Lx src t g):=by
 intro v s st H D I hq;refine XU M hc hi hg hb hs v s st H D I ?_;obtain⟨b,e,q,F,hr,M⟩:=hq;refine⟨b,e,q,F,hr,M.xs F λnx R n J ό _ ϊ r1 q1 p1=>?_⟩;have ώ:=p1;refine⟨λi m k r=>∃ b e q,Ge n ό b r/\pi T b r e k/\je T b r q/\Jc T EN (Ko T) b r (Ft nx t g m i e q) (zn X D),⟨1001,n,e,R,ϯ _ _,F.mono ϊ,r1,ώ⟩,?_⟩;rintro i m k r ⟨p,z,c,ex,u,V,a⟩;cases m with
 |zero=>exact a.elim
 |succ m=>
  unfold Ft at a;have C:=q1 p r c i ex V;cases E:nx i c with
  |none=>simp only[E]at a;exact a.elim
  |some o=>
   cases o with
   |none=>
    simp only[E]at a C;exact ϒ ⟨C,Jc.here (g:=ϸ k) a V u⟩
   |some d=>
    simp only[E]at a C;obtain⟨L,hy⟩:=C;refine ϖ ⟨L,λl f=>∃ b e q,Ge n ό b f/\pi T b f e l/\je T b f q/\Jc T EN (Ko T) b f (Ft nx t g m (i+1) e q) (zn X D),λl f h=>⟨m,Vd _,h⟩,λx f y=>?_⟩;obtain⟨j,W,hx⟩:=hy x f y;cases N:t d z with
    |none=>simp only[N]at a;exact a.elim
    |some B=>
     simp only[N]at a;exact⟨p,c,z,d,B,u.mono j,W,hx,N,λl G=>⟨p,B,c,G,W,(Jc.mono j a).bind λfl S P gl H4 _ e4 ϋ q4 p4=>uK ϋ q4 p4 λQ a0 K p5=>⟨P,Q,S,(ex.trans j).trans e4,K,ϋ,p5⟩⟩⟩
end
def Hy(a:D):NX:=λi σ=>match xh σ a with
 |some xs=>(match xs[i]? with
  |some x=>some (some (Ϗ [Z (i:Int),x]))
  |none=>if i=xs.length then some none else none)
 |none=>none
def DE(a b:D):NX:=λi σ=>match xh σ a with
 |some xs=>(match xh σ b with
  |some c=>(match xs[i]? with
   |some x=>(match c[i]? with
    |some y=>some (some (Ϗ [x,y]))
    |none=>if i=min xs.length c.length then some none else none)
   |none=>if i=min xs.length c.length then some none else none)
  |none=>none)
 |none=>none
def VC(d:D):M NX:=λa=>match xh a d with
 |some _=>Y (Hy d) a
 |none=>ϗ
def fM(f:Ev->M D):Ev->M NX:=λa=>be (f a) VC
def cO(a b:D):M NX:=λσ=>match xh σ a with
 |some _=>(match xh σ b with
  |some _=>Y (DE a b) σ
  |none=>ϗ)
 |none=>ϗ
def SX(m:M D)(a:D):M NX:=be m (cO a)
def EI(f g:Ev->M D):Ev->M NX:=λa=>be (f a) (SX (g a))
section
variable{elts:List Ya}{kk:Nat}{p0 p pos:Re}{f g:Ev->M D}
def Į:bootBuiltins "enumerate" = some (ϙ "enumerate"):=by decide +kernel
def D3:bootBuiltins "zip" = some (ϙ "zip"):=by decide +kernel
def ą(K:ϓ)(b:TA):TI:=λd H R=>b d H λc a=>∃ l xs,c=[ϕ l]/\ug K a l xs/\R (eQ K l) a
def ÿ(o:Gl X "enumerate")(t:X.mg "enumerate" = none)(n:PA X [a] j)(v:ya [a] X.env=[(false,Ec a X.env)]:=by rfl):PI X (ϵ elts kk p0) (ϣ (ϟ "enumerate" p) [a] [] pos) (ą X.K j):=by
 intro d s σ H R I h;refine Call_ (Ny I o t Į (re (Le (n pos d s σ H _ I h) λus s1 ſ=>?_) v rfl));obtain⟨C,H1,f,x,w⟩:=ſ;obtain⟨l,xs,e,u,q⟩:=w;subst e;cases x with
 |cons r y=>
  cases y;cases r;obtain⟨its,B,pl,A⟩:=f.list u;refine call_enumerate_list pl.isList λh' g k z m=>iD g ?_;refine⟨s1.heap.objs.size+1,[s1.heap.objs.size+1,s1.heap.objs.size],_,_,H1,rfl,f.kept m,zpz l _ _,⟨⟨_,g⟩,k⟩,λb i=>?_,q⟩;have c:s1.heap.objs.size<=b:=by simp at i;rcases i with rfl|rfl<;>omega
  exact f.Yr c (f.Qd.fresh c)
def ä(N:Gl X "enumerate")(ώ:X.mg "enumerate" = none)(h:FE T X e f)(w:ya [e] X.env=[(false,Ec e X.env)]:=by rfl):Fz T X (ϵ elts kk p0) (ϣ (ϟ "enumerate" p) [e] [] pos) (fM f):=by
 intro k s V H R I S;refine ÿ N ώ (Tw h Qz w) w k s V H R I ?_;obtain⟨ϋ,ρ,σ,M,Q,P⟩:=S;refine⟨ϋ,ρ,σ,M,Q,P.bind λd r ϊ v H1 _ e1 C B j=>?_⟩;unfold VC at j;cases m:xh r d with
 |none=>rw[m]at j;exact j.elim
 |some ds=>
  rw[m]at j;obtain⟨l,W,rfl,J,h2⟩:=C.ls B m;refine⟨l,W,rfl,ug.of J,Jc.here j C λa0 E t i ex D=>?_⟩;unfold Hy;cases n:xh t d with
  |none=>trivial
  |some xs=>
   obtain⟨l',ws,F,L,u⟩:=D.ls (Ua.mono ex _ _ B) n;cases F;have b:ug X.K E l ws:=ug.of L;dsimp only;cases G:xs[i]? with
   |none=>
    by_cases o:i=xs.length
    ·rw[ma o];exact⟨ws,b,by rw[o];exact u.length⟩
    ·rw[ra o];trivial
   |some d'=>
    obtain⟨x,A,ό⟩:=u.get G;refine⟨⟨ws,x,b,A⟩,λz H' y=>?_⟩;obtain⟨q,x',a,rfl,c,rfl⟩:=y;have g:=c ws b;rw[A]at g;cases g;refine⟨Wm a,D.fresh a,?_⟩;exact⟨q,_,rfl,Ih,Ub.cons (by rw[Ua]) (Ub.cons (Ua.mono (Wm a) _ _ ό) Ub.nil)⟩
def Ù(K:ϓ)(b:TA):TI:=λe H R=>b e H λc a=>∃ l m xs d,c=[ϕ l,ϕ m]/\ug K a l xs/\ug K a m d/\R (yV K l m) a
def ı(B:Gl X "zip")(C:X.mg "zip" = none)(A:PA X [a,b] u)(E:ya [a,b] X.env=[(false,Ec a X.env),(false,Ec b X.env)]:=by rfl)(f:ya [b] X.env=[(false,Ec b X.env)]:=by rfl):PI X (ϵ elts kk p0) (ϣ (ϟ "zip" p) [a,b] [] pos) (Ù X.K u):=by
 intro g s σ H R I h;refine Call_ (Ny I B C D3 (re (Le (A pos g s σ H _ I h) λus s1 ⟨Q,H1,c,L,G⟩=>?_) (by rw[E,f]) (by rw[f];rfl)));obtain⟨l,m,xs,S,e,D,i,q⟩:=G;subst e;cases L with
 |cons r k=>
  cases k with
  |cons J k=>
   cases k;cases r;cases J;obtain⟨its,P,pl,ώ⟩:=c.list D;obtain⟨t,M,j,F⟩:=c.list i;refine call_zip_2 pl.isList j.isList λh' n v w x y N z=>qG n ?_;refine⟨s1.heap.objs.size+4,[s1.heap.objs.size+4,s1.heap.objs.size+2,s1.heap.objs.size+3,s1.heap.objs.size,s1.heap.objs.size+1],_,_,H1,rfl,c.kept z,q7 l m (s1.heap.objs.size+4) (s1.heap.objs.size+2) (s1.heap.objs.size+3) s1.heap.objs.size (s1.heap.objs.size+1) (show (s1.heap.objs.size+2)≠s1.heap.objs.size+3 by omega) (show s1.heap.objs.size≠s1.heap.objs.size+1 by omega),⟨n,v,⟨_,_,w⟩,x,y⟩,λb o=>?_,q⟩;have d:s1.heap.objs.size<=b:=by simp at o;rcases o with rfl|rfl|rfl|rfl|rfl<;>omega
   exact c.Yr d (c.Qd.fresh d)
def uZ(hg:Gl X "zip")(hm:X.mg "zip" = none)(h:FE T X e f)(h':FE T X b g)(ϊ:ya [e,b] X.env=[(false,Ec e X.env),(false,Ec b X.env)]:=by rfl)(u:ya [b] X.env=[(false,Ec b X.env)]:=by rfl) :
  Fz T X (ϵ elts kk p0) (ϣ (ϟ "zip" p) [e,b] [] pos) (EI f g):=by
 intro C s st H R I hw;refine ı hg hm (Tw h (Tw h' Qz u) (by rw[ϊ,u])) ϊ u C s st H R I ?_;obtain⟨μ,ρ,σ,ϋ,hr,hp⟩:=hw;refine⟨μ,ρ,σ,ϋ,hr,hp.bind λd Q P v H1 _ e1 r1 q1 p1=>⟨P,ρ,Q,ϋ.mono e1,r1,p1.bind λό F a2 v2 H2 _ e2 N q2 n=>?_⟩⟩;unfold cO at n;cases L:xh F d with
 |none=>rw[L]at n;exact n.elim
 |some ds=>
  rw[L]at n;cases o:xh F ό with
  |none=>rw[o]at n;exact n.elim
  |some a1=>
   rw[o]at n;have D:=Ua.mono e2 _ _ q1;obtain⟨l,vs,rfl,h1,h2⟩:=N.ls D L;obtain⟨m,ws,rfl,h3,h4⟩:=N.ls q2 o;refine⟨l,m,vs,ws,rfl,ug.of h1,ug.of h3,Jc.here n N λa3 S G i ex ώ=>?_⟩;unfold DE;cases fl:xh G d with
   |none=>trivial
   |some xs=>
    obtain⟨l',E,b,h5,V⟩:=ώ.ls (Ua.mono ex _ _ D) fl;cases b;cases M:xh G ό with
    |none=>trivial
    |some ys=>
     obtain⟨m',a,b,h7,W⟩:=ώ.ls (Ua.mono ex _ _ q2) M;cases b;have j:ug X.K S l E:=ug.of h5;have k:ug X.K S m a:=ug.of h7;have l1:=V.length;have l2:=W.length;dsimp only;cases ei:xs[i]? with
     |none=>
      by_cases t:i=min xs.length ys.length
      ·rw[ma t];exact⟨E,a,j,k,by rw[t,l1,l2]⟩
      ·rw[ra t];trivial
     |some d'=>
      cases J:ys[i]? with
      |none=>
       by_cases t:i=min xs.length ys.length
       ·rw[ma t];exact⟨E,a,j,k,by rw[t,l1,l2]⟩
       ·rw[ra t];trivial
      |some a0=>
       obtain⟨x,hx,rx⟩:=V.get ei;obtain⟨y,hy,ry⟩:=W.get J;refine⟨⟨E,a,x,y,j,k,hx,hy⟩,λz H' yy=>?_⟩;obtain⟨q,x',y',c,rfl,w,r,rfl⟩:=yy;have A:=w E j;rw[hx]at A;cases A;have B:=r a k;rw[hy]at B;cases B;refine⟨Wm c,ώ.fresh c,?_⟩;exact⟨q,_,rfl,Ih,Ub.cons (Ua.mono (Wm c) _ _ rx) (Ub.cons (Ua.mono (Wm c) _ _ ry) Ub.nil)⟩
end
open PySem.Builtin.Str (occurrences partsBetween subAt)
end L4
namespace L4
open Spec L2
def wK(ρ:Ev)(c:Nat)(f:Str)(x:D)(a:Int)(y:D):M Fl:=λσ=>match y with
 | Z b=>(match x with
  | U n=>(match σ[n]? with
   |some (Ϙ e d)=>if (e == c && decide (d.length<1000))=true then Y (Ϛ ρ) (σ.set n (Ϙ c (Ip f (Z (a+b)) d)))else ϗ
   |_=>ϗ)
  |_=>ϗ)
 |_=>ϗ
def QA(b:Ev)(e:List Nat)(f:Str)(h:Ev->M D)(x:D):M Fl:=λd=>match Dm d x with
 |some (c,g)=>if e.contains c=true then (match g.lookup f with
  |some (Z a)=>xs b (h b) (wK b c f x a) d
  |_=>ϗ)else ϗ
 |none=>ϗ
def EH(b:List Nat)(f:Str)(d c:Ev->M D):Ev->M Fl:=λa=>xs a (c a) (QA a b f d)
def XW(hK:T.K=X.K)(hc:Co T G f)(ho:FE T X o W)(hv:FE T X e ϋ):FS T X (.AugAssign (Ϣ o f A) .Add e ώ) (EH G f ϋ W):=by
 intro v s st H D I hq;refine sZ ho hv E9 v s st H D I ?_;obtain⟨μ,ρ,σ,t,hr,hp⟩:=hq;refine⟨μ,ρ,σ,t,hr,hp.xs t λx E R vo H1 _ J r1 q1 d=>?_⟩;unfold QA at d;cases L:Dm E x with
 |none=>rw[L]at d;exact d.elim
 |some p=>
  obtain⟨c,fs⟩:=p;rw[L]at d;dsimp only at d;by_cases l:G.contains c=true
  ·rw[ma l]at d;obtain⟨a,dx,vs,rfl,h1,h2⟩:=aC r1 q1 L;cases N:fs.lookup f with
   |none=>rw[N]at d;exact d.elim
   |some y=>
    rw[N]at d;cases y with
    |int i=>
     obtain⟨w,h3,h4⟩:=(rF h2).1 _ N;obtain⟨k1,k2⟩:=hc c l;rw[hK]at k1 k2;refine⟨a,_,dx,vs,w,rfl,h1,k1,k2,h3,R,ρ,E,t.mono J,r1,d.xs (t.mono J) λz S C vz ό _ V r2 q2 b=>?_⟩;unfold wK at b;cases z with
     |int j=>
      refine⟨i,j,pr h4,pr q2,?_⟩;have P:=Ua.mono V _ _ q1;cases x with
      |ref n=>
       dsimp only at b;cases k:S[n]? with
       |none=>rw[k]at b;exact b.elim
       |some ob=>
        rw[k]at b;cases ob with
        |wa _=>exact b.elim
        |Qb _=>exact b.elim
        |ig _=>exact b.elim
        |Bl _=>exact b.elim
        |yc F m=>
         dsimp only at b;by_cases g:(F == c && decide (m.length<1000))=true
         ·rw[ma g]at b;rw[Na,Fc,Dh]at g;obtain⟨u,hl⟩:=g;subst u;obtain⟨a',ea,ϊ,h,B,q,r⟩:=r2.at P k;cases ea;have ex:Ge C ό C (Nc ό a (.yc (T.ca F) h (Vp f (ϡ (i+j)) B))):=Jw (La ϊ) q (λ_ z=>by cases z) (λ_ _ z=>by cases z);have Q:=r2.write (ob:=Ϙ F (Ip f (Z (i+j)) m)) ϊ ⟨h,_,Ih,YN (by rw[Ua]) (fv.mono ex r)⟩;exact⟨h,B,q,by rw[<-r.length];exact hl,b _ (ϸ st) _ Q.1 Q.2 ((t.mono J).mono V |>.mono Q.1)⟩
         ·rw[ra g]at b;exact b.elim
      |_=>exact b.elim
     |_=>exact b.elim
    |_=>exact d.elim
  ·rw[ra l]at d;exact d.elim
def Nx(y x:D):M D:=λb=>match Xm y with
 |some k=>(match Ik b x with
  |some a=>Y (ϐ (!(jl a k).isSome)) b
  |none=>ϗ)
 |none=>ϗ
noncomputable def VR:R2:=λy x H Q=>∃ a o,x=ϕ a/\ek H a y o/\Q (Ϭ (!o.isSome)) H
def UX(f:X.A.units+9<cLine):ni X (gc .NotIn) VR:=by
 intro b s k H y x i u Q I e d h;obtain⟨a,o,rfl,g,q⟩:=h;obtain rfl:u=jc a:=d;exact m9 (by omega) I g e λj c=>⟨Ϭ (!o.isSome),H,c,rfl,q⟩
theorem wU:im T VR Nx:=by
 intro E n H σ y x u v Q r q p h;unfold Nx at h;cases c:Xm y with
 |none=>rw[c]at h;exact h.elim
 |some k=>
  rw[c]at h;cases b:Ik σ x with
  |none=>rw[b]at h;exact h.elim
  |some j=>
   rw[b]at h;obtain⟨a,l,rfl,g,i⟩:=SA r p b;obtain rfl:=ZC q c;refine⟨a,Do l k,rfl,ek.kr g,Jc.here h r ?_⟩;rcases UB i k with⟨e,f⟩|⟨d,w,e,f,m⟩
   ·rw[e,f];rfl
   ·rw[e,f];rfl
def Dx(T:Tb)(P:Ia)(w:qb)(g:Str->Option Value)(a:Heap)(k:Nat)(f:Addr)(b:List Str)(d:List Value)(e:List D->M D):Prop:=
 ∃ c,Ut T.K c b []/\Ut T.K c b d/\Ai P w T.K g a (Yl P w) k f c b (lr T b.length e)
structure Ww(K:ϓ)(C:Addr)(x qual:Str)(st:Stmt)(ps:List Str)(dv:List Value)(f:Addr):Prop where
 ex:∃ fd,(∃ (oc:Value) (od:Option Addr) (dV kV doc pm:Value) (an:Option Addr) (cdv ct:Value) (osl:Array (Option Value)),
  fd=ϭ x qual (aq st) (Uj st) (jd st) dV kV doc pm an cdv ct/\K.lookup f=some ⟨oc,od,.func fd,osl⟩/\W.codeIn K cdv qual=true)/\Ut K fd ps []/\Ut K fd ps dv
section
variable{P:Ia}{w:qb}{K:ϓ}{mg:Str->Option Value}{base:Heap}{ca:Nat->Addr}{tx:Tx}
def Ω(h:Ww K C x a d i j f)(S:Ba N i (jd d))
  (o:∀ (b:Value) (A:Za) (c:List zh) (s:ba) (H:Hp) (E:XK),pe k (A.deeper (Og a (jd d) s.heap.objs.size f b))->um ⟨K,ca,tx⟩ (Gq (Yl P w) P w K mg base N a (jd d) f b A c s H E) (Uj d) g) :
  Dx ⟨K,ca,tx⟩ P w mg base (k+1) f i j (ae N.length g):=by
 obtain⟨t,⟨u,v,r,kV,n,y,q,b,ct,p,rfl,lk,e⟩,l,m⟩:=h.ex;exact⟨_,l,m,DC lk e S (o b)⟩
def Dx.Lb(h:Dx T P w mg base k f c a b):Dx T P w mg base k f c a (L4.Lb b):=by rw[Ls];exact h
def Dx.Qc{T:Tb}{k:Nat}{f:Addr}{c:List Str}{a:List Value}{b:List D->M D}(h:Dx T P w mg base k f c a b):Dx T P w mg base k f c a (λd=>L4.Qc (b d)):=by
 obtain⟨e,g,i,j⟩:=h;exact⟨e,g,i,ZG j⟩
def L7{B i w:Option Addr}{kV e j a ct:Value}
  (z:∀ (t:Addr) (kV e j:Value) (i:Option Addr) (a ct:Value) (s:ba) (o:Ad) (n:Nat) (h:List Value),s.heap.get? t=some o->o.data=Ϩ k.toArray n->((h++[]).length=p.length->Fh s (ϭ x b (aq g) (Uj g) (jd g) (jc t) kV e j i a ct) ⟨h,[]⟩ (p.zip (h++[])))/\
   ((h++k).length=p.length->Fh s (ϭ x b (aq g) (Uj g) (jd g) (jc t) kV e j i a ct) ⟨h,[]⟩ (p.zip (h++k))))
  (l:K.lookup f=some ⟨A,B,.func (ϭ x b (aq g) (Uj g) (jd g) (jc t) kV e j i a ct),m⟩)
  (c:W.codeIn K a b=true) (d:K.lookup t=some ⟨v,w,Ϩ k.toArray u,y⟩):Ww K C x b g p k f:=
 ⟨⟨_,⟨A,B,_,kV,e,j,i,a,ct,m,rfl,l,c⟩,λs h q r=>(z t kV e j i a ct s _ u h (q _ _ d) rfl).1 r,λs h q r=>(z t kV e j i a ct s _ u h (q _ _ d) rfl).2 r⟩⟩
end
noncomputable def Mx(a:List Nat)(b:Ev):Ev:=none::none::a.map λi=>(b[i]?).getD none
def qA(a:List Nat)(b:St):St:=none::none::a.map λi=>(b[i]?).getD none
def ê(a:List Nat)(h:pi T c H f b):pi T c H (Mx a f) (qA a b):=by
 have q:=OR a h;refine⟨by simp[Mx,qA],λi d e=>?_⟩;cases i with
 |zero=>simp[Mx]at e
 |succ j=>exact q.2 j d e
section
variable{pins:List (Addr × Ad)}{st:St}{H:Hp}{s:ba}{x z0:Str}{M':List Str}{ix:List Nat}{scope:Scope}{fp:List Addr}
def PZ(I:Ab X pins st H s)(L:ip X x M' ix scope)(r:∀ b∈fp,Kn X pins H b/\b<s.heap.objs.size)(P:h'.Ns s.heap.objs.size m)
  (F:∀ b o,s.heap.get? b=some o->h'.get? b=some o) :
  Ab (Uv X (x::z0::M') scope (wk X.env scope.names []) s.heap.objs.size s H fp) [] (qA ix st) H { s with heap:=h',toks:=t' }:=by
 have f:∀ n c,(wk X.env scope.names []).lookup n=some c->X.env.cells.lookup n=some c:=λn c e=>dM X.env scope.names [] n c (λ_ _ q=>by simp at q) e;have w:H s.heap.objs.size=none:=I.Qd.fresh (Ea _);refine⟨⟨I.ok.mod,L.kind,I.ok.glob,I.ok.blt,Ea _,λa b c t d=>I.ok.inj a b c (f a c t) (f b c d),λa ha=>?_,λa c h=>(by cases h),I.ok.hd,I.ok.frames,ϒ rfl,λb A=>⟨Wa (r b A).2,λa c e=>?_⟩,λb o e=>I.bs b o e,Fb I.ok.Pt I.sz,λb o e A=>?_,λb A z=>?_,I.stack,I.Hl⟩,
  rfl,I.bare,Un.kept F,⟨m,P,λi y v W G e3=>?_⟩,λa c e=>?_,w,λa c e=>I.lh a c (f a c e),λp hp=>absurd (show p∈[]from hp) (by simp),I.Qd.kept F,?_⟩
 ·
  have K:(scope.names.map λ(n,k)=>if (k == Vb && X.env.scope.kind == Ϧ && X.env.kindOf n == some Jd)then (n,Jd)else (n,k)).lookup a=some Jd\/(scope.names.map λ(n,k)=>if (k == Vb && X.env.scope.kind == Ϧ && X.env.kindOf n == some Jd)then (n,Jd)else (n,k)).lookup a=some Vb:=ha;have T:scope.names.lookup a=some Vb:=by
   rcases K with z|z
   ·obtain⟨k0,t,d⟩:=OK z;rcases d with d|⟨d,_⟩
    ·subst d;exact absurd rfl (fG L _ (Qx t))
    ·rw[d]at t;exact t
   ·obtain⟨k0,t,d⟩:=OK z;rcases d with d|⟨_,d⟩
    ·rw[<-d]at t;exact t
    ·cases d
  exact OD X.env scope.names [] a (Qx T) (gA I L _ (Qx T) rfl)
 ·exact(r b A).1.2.2.2.2.1 a c (f a c e)
 ·rcases(r b A).1.2.2.2.1 with z|z
  ·exact I.ok.Qs b o e z
  ·exact absurd (gb (Fa e) (Fb I.ok.Pt z)) (qe _)
 ·rcases Ma.mp (I.fu b z)with q|q
  ·exact(r b A).1.2.1 q
  ·exact(r b A).1.2.2.1 q
 ·
  cases i with
  |zero=>simp[qA]at G
  |succ i=>
  cases i with
  |zero=>simp[qA]at G
  |succ j=>
   have B:M'[j]?=some y:=W;have g:(ix.map λi=>(st[i]?).getD none)[j]?=some (some v):=G;rw[Ta]at g;cases J:ix[j]? with
   |none=>rw[J]at g;cases g
   |some D=>
    rw[J]at g;have E:(st[D]?).getD none=some v:=Yb g;have ϋ:st[D]?=some (some v):=by
     cases q:st[D]? with
     |none=>rw[q]at E;cases E
     |some o=>rw[q]at E;exact Dc some E
    have ϊ:X.N[D]?=some y:=by
     have z:=Dc (λl=>l[j]?) L.at_;simp only[Ta,J,B]at z;exact Yb z
    have q:=Pb.mp L.wQ y (La B);simp only[Na,fg]at q;have ό:X.env.scope.names.lookup y=some Jd\/X.env.scope.names.lookup y=some Vb:=by
     rcases q.1 with z|z
     ·exact ϒ (eq_of_beq z)
     ·exact ϖ (eq_of_beq z)
    have R:scope.names.lookup y=some Vb:=eq_of_beq q.2;obtain⟨m0,a0,ώ⟩:=I.loc;obtain⟨u,ru,lu⟩:=ώ D y v ϊ ϋ (by rcases ό with z|z;exact ϖ (ϒ z);exact ϖ (ϖ z));refine⟨u,ru,ϖ ⟨mQ (env:=X.env) R,?_⟩⟩;rcases lu with⟨z,_⟩|⟨_,c,ec,zc⟩
    ·rcases ό with k|k
     ·rw[show X.env.kindOf y=X.env.scope.names.lookup y from rfl,k]at z;cases z
     ·rw[show X.env.kindOf y=X.env.scope.names.lookup y from rfl,k]at z;cases z
    ·obtain⟨V,C⟩:=OD X.env scope.names [] y (Qx R) (gA I L _ (Qx R) rfl);have S:=f y V C;rw[ec]at S;cases S;obtain⟨o,Q,M⟩:=zc;exact⟨c,C,o,F _ _ Q,M⟩
 ·obtain⟨v,o,Q,M⟩:=I.cell a c (f a c e);exact⟨v,o,F _ _ Q,M⟩
 ·simp[qA,Uv];have z:=Dc List.length L.at_;simpa using z
end
noncomputable def Ux(l:List Int):List Int:=l.mergeSort λa b=>decide (a<=b)
def VD(l:List Int):(Ux l).Perm l:=List.mergeSort_perm l _
def jP(l:List Int):(Ux l).Pairwise (·<=·):=by
 have:=List.pairwise_mergeSort (le:=λa b:Int=>decide (a<=b)) (λa b c d e=>by simp at *;omega) (λa b=>by simp;omega) l;exact this.imp λh=>by simpa using h
theorem RO:∀ {l m:List Int},l.Perm m->l.Pairwise (·<=·)->m.Pairwise (·<=·)->l=m
 |[],m,h,_,_=>by rw[List.nil_perm]at h;exact h.symm
 |a::l,[],h,_,_=>by have:=h.length_eq;simp at this
 |a::l,b::m,h,c,d=>by
  rw[List.pairwise_cons]at c d;have f:=h.subset Ha;have g:=h.symm.subset Ha;have e:a=b:=by
   rcases Ma.mp f with e|f
   ·exact e
   ·rcases Ma.mp g with e|g
    ·exact e.symm
    ·have:=c.1 b g;have:=d.1 a f;omega
  subst e;rw[RO (zaE h) c.2 d.2]
def AK(K:ϓ):List V->Hp->VK->Prop:=λxs H Q=>∃ (p:Addr) (is:List Int),xs=[ϕ p]/\ug K H p (is.map ϡ)/\is.length<64/\∀ l,H l=none->Q (ϕ l) (Nc H l (ϰ ((Ux is).map ϡ)))
def Λ:Gp X (ϝ "sorted") (AK X.K):=by
 intro d s σ H xs x Q I r h;obtain⟨p,b,rfl,n,c,q⟩:=h;obtain⟨u,rfl,t⟩:=Yv r;cases t;obtain⟨its,f,pl,v⟩:=I.list n;have a:=f.length;rw[Sa]at a;refine sorted_ints pl.isList (bY f) (by omega) λout o g i j=>?_;obtain⟨e,l⟩:=sortedAll_at s.heap its out;have k:=RO (i.trans (VD b).symm) j (jP b);subst k;have m:=(VD b).length_eq;exact⟨ϕ (s.heap.objs.size+1),_,I.laid (λ_ _=>sortedAll_old) (Sk _) (show fm X.prog X.w _ _ _ (ϰ ((Ux b).map ϡ))from⟨by rw[Sa,m];exact Fb (Zf c) (by decide),out.toList,e,XJ g,by rw[nu];exact l⟩),rfl,q _ (I.Qd.fresh (Sk _))⟩
def VN(xs:List D):M D:=λa=>match xs with
 |[x]=>(match xh a x with
  |some b=>(match Rw b with
   |some is=>if is.length<64 then iF ((Ux is).map Z) a else ϗ
   |none=>ϗ)
  |none=>ϗ)
 |_=>ϗ
theorem ML{b:List Addr}{H:Hp}:∀ a:List Int,Ub T b H (a.map Z) (a.map ϡ)
 |[]=>Ub.nil
 |i::a=>Ub.cons (by rw[Ua]) (ML a)
def Ř(m:T.K=X.K):jt T (AK X.K) VN:=by
 intro E q H σ xs o Q r p h
 match xs with
 |[]=>exact h.elim
 |[x]=>
  obtain⟨v,w,rfl,j,d⟩:=p;rw[Ub]at d;subst d;unfold VN at h;cases e:xh σ x with
  |none=>simp only[e]at h;exact h.elim
  |some k=>
   simp only[e]at h;cases a:Rw k with
   |none=>simp only[a]at h;exact h.elim
   |some is=>
    simp only[a]at h;by_cases c:is.length<64
    ·rw[ma c]at h;obtain⟨b,n,rfl,f,g⟩:=r.ls j e;obtain rfl:=OG g a;exact⟨b,is,rfl,ug.of f,c,λl i=>iJ h r (ML _) i⟩
    ·rw[ra c]at h;exact h.elim
 |_::_::_=>exact h.elim
def apart(n:Nat):D->Bool
 | U m=>!(m == n)
 |_=>true
def zhy:bootBuiltins "sorted" = some (ϝ "sorted"):=by decide +kernel
theorem ZU:∀ {ks:List Nd} {a:List Value},a.length=ks.length->(∀ (j:Nat) (v:Value) (k:Nd),a[j]?=some v->ks[j]?=some k->de (kV k) v)->Pe (ks.map kV) a
 |[],[],_,_=>Ϥ
 |[],_::_,h,_=>by simp at h
 |_::_,[],h,_=>by simp at h
 |k::ks,v::a,h,b=>Ϡ (b 0 v k rfl rfl) (ZU (by simpa using h) λj v k c d=>b (j+1) v k c d)
def v9(h:(jn P w).is k v=true):de (kV k) v:=by
 rcases Kw h with⟨i,t,rfl,rfl⟩|⟨x,t,rfl,rfl⟩
 ·exact⟨t,rfl⟩
 ·exact⟨t,rfl⟩
theorem vX:∀ {a:List (Nd × V)} {ws:List (Nd × Value)},KV a ws->ws.map (·.1)=a.map (·.1)
 |[],_,h=>by cases h;rfl
 |p::a,_,h=>by
  cases h with
  |cons q h=>simp only[Ga];rw[vX h,q.1]
def UF:Nd->D
 | Ϟ i=>Z i
 | .inr x=>ύ x
end L4
namespace L4
open Spec Calls W PyProof.V
def Ď
  (K:KdlSrc j w v r d n P u) (B:A.handled=none) (m:u s.heap) (C:n<=sizeLine)
  (Uh:∀ (a:Heap) (i:Nat) (acc:Array Value),(∀ b o,s.heap.get? b=some o->a.get? b=some o)->s.heap.objs.size<=a.objs.size->ItemsOf P acc n->R acc.toList { s with heap:=a,toks:=i }) :
  wpAny (model j w) A (collect (jc r)) R E s:=by
 have lt:=K.there _ m;let S:Addr:=s.heap.objs.size;let ϊ:CB->ba->Prop:=λq t=>∃ (a:Heap) (i:Nat) (acc:Array Value) (c:Nat),q=.ok (.ret (jc S))/\t={ s with heap:=a,toks:=i }/\(∀ b o,s.heap.get? b=some o->a.get? b=some o)/\
  a.get? S=some { cls:=ϙ "list",dict:=none,data:=Ϩ acc c,slots:=#[] }/\ItemsOf P acc n
 have h:∀ {a:Heap} {i c:Nat} {acc:Array Value},(∀ b o,s.heap.get? b=some o->a.get? b=some o)->a.get? S=some { cls:=ϙ "list",dict:=none,data:=Ϩ acc c,slots:=#[] }->ItemsOf P acc n->R acc.toList { s with heap:=a,toks:=i }:=
  λl g k=>Uh _ _ _ l (Zf (Fa g)) k
 have p:(s.heap.push { cls:=ϙ "list",data:=Ϩ ([]:List Value).toArray }).get? S=some { cls:=ϙ "list",data:=Ϩ #[] }:=Db _ rfl;have ae:=kdl_extend (A:=A) (s:={ s with heap:=s.heap.push { cls:=ϙ "list",data:=Ϩ ([]:List Value).toArray } }) (R:=ϊ) K B (K.keep _ _ m λb _ o e=>ua _ e) S (vh lt.1) (vh lt.2) (jc S) 0 p
  (λa i acc c l g k=>⟨a,i,acc,c,rfl,rfl,λb o e=>l b o (Wa (Fa e)) (ua _ e),g,k⟩) C
 refine ga (wpAny_runValue (Gi entry_proto_collect' ?_));refine ga (Jf (za ⟨Sj PySem.F.plain_list_iadd _,Gi entry_list_iadd' ?_⟩));refine Pc ae (λf t x=>?_) (λe t x=>by obtain⟨_,_,_,_,z,_⟩:=x;cases z);cases f with
 |done f=>
  obtain⟨a,i,acc,c,e,rfl,l,g,k⟩:=x;cases e;exact ga (sB g (za (h l g k)))
 |again D=>
  refine⟨x.1,Tk x.2 λq s2 y=>?_⟩;obtain⟨a,i,acc,c,rfl,rfl,l,g,k⟩:=y;exact ga (sB g (za (h l g k)))
end L4
namespace L4
open Spec L2
def sM:List V->Hp->VK->Prop:=λxs H Q=>∃ (a:Addr) (b:List (Nd × V)) (is:List Int),xs=[ϕ a]/\Rd H a (Ϝ b)/\b.map (·.1)=is.map Ϟ/\is.length<64/\∀ l,H l=none->Q (ϕ l) (Nc H l (ϰ ((Ux is).map ϡ)))
theorem VS:∀ {a:List Int} {b:List Value},Pe ((a.map (Ϟ:Int->Nd)).map kV) b->zq b a
 |[],_,h=>by cases h;exact .nil
 |i::a,_,h=>by
  cases h with
  |cons q h=>
   obtain⟨t,rfl⟩:=q;exact .cons i t (VS h)
def zmc(hc:X.Lc=true):Gp X (ϝ "sorted") sM:=by
 intro N s σ H xs us Q I r h;obtain⟨a,f,g,rfl,ϋ,i,n,q⟩:=h;obtain⟨u,rfl,rx⟩:=Yv r;cases rx;obtain⟨z,hd,ws,C,S⟩:=Fy I.Qd ϋ;obtain⟨F,p⟩:=S.dictAt;have G:=vX C;have a4:ws.length=f.length:=by have:=Dc List.length G;simpa using this
 have a0:f.length=g.length:=by have:=Dc List.length i;simpa using this
 have K:ws.length<=sizeLine:=by omega
 refine Calls.call_function_entry kind_sorted plain_sorted entry_sorted (args_sorted1 _) ?_;unfold yx.«sorted»;refine ga (m:=checkCount "sorted" 1 1 _) (za ?_);refine ga (Ď (A:=X.A.in1) (W.kdl_dict (knd:=jn X.prog X.w) (kvs:=ws) (ep:=F) hd) (I.ok.hd hc) p K λh' tk acc M l c=>?_);have J:acc.toList.length=ws.length:=by rw[Wh];exact c.1
 have L:Pe ((ws.map (·.1)).map kV) acc.toList:=ZU (by rw[Sa];exact J) λj v k T D=>by
  obtain⟨k',x,hx,t⟩:=c.2 j v (by rw[<-yt];exact T);rw[Ta,hx]at D;cases D;exact v9 t
 rw[G,i]at L;have ϊ:=VS L;refine ga (FY ?_ (by rw[J];exact K));have d:(h'.push (Sm "list" acc.toList.toArray 0)).get? h'.objs.size=some (Sm "list" acc.toList.toArray 0):=Db _ rfl;refine ga (ge (zr slot_list_sort ⟨_,d,rfl⟩ entry_list_sort (list_sort_tree d ϊ (by omega) λout B ώ P R=>⟨_,rfl,?_⟩) (args_list_sort _)));refine za ⟨_,rfl,?_⟩;have ό:B=Ux g:=RO (P.trans (VD g).symm) R (jP g);subst ό;have y:=(VD g).length_eq;obtain⟨e,he⟩:=sortedHeap_at (out:=out) d;exact⟨ϕ h'.objs.size,_,I.laid (t':=tk) (λb o E=>by
  have lt:b<h'.objs.size:=Fa (M b o E);rw[sortedHeap_old (Wa lt) (by rw[size_push'];exact bj lt)];exact ua _ (M b o E)) l (show fm X.prog X.w _ _ _ (ϰ ((Ux g).map ϡ))from⟨by rw[Sa,y];exact Fb (Zf n) (by decide),out.toList,e,XJ ώ,by rw[nu];exact he⟩),rfl,q _ (I.Qd.fresh l)⟩
def qz:List (Nd × D)->Option (List Int)
 |[]=>some []
 |(Ϟ i,_)::r=>(qz r).map (i::·)
 |_::_=>none
theorem JR{c:List Addr}{H:Hp}:∀ {a:List (Nd × D)} {us:List (Nd × V)} {is:List Int},Xl T c H a us->qz a=some is->us.map (·.1)=is.map Ϟ
 |[],_,is,h,e=>by unfold Xl at h;cases h;cases e;rfl
 |(k,d)::a,_,is,h,e=>by
  cases h with
  |cons q h=>
   cases k with
   |inr x=>cases e
   |inl i=>
    unfold qz at e;cases b:qz a with
    |none=>rw[b]at e;cases e
    |some f=>
     rw[b]at e;cases e;simp only[Ga];rw[JR h b,<-q.1]
def DH(xs:List D):M D:=λb=>match xs with
 |[x]=>(match Ik b x with
  |some a=>(match qz a with
   |some is=>if is.length<64 then iF ((Ux is).map Z) b else ϗ
   |none=>ϗ)
  |none=>ϗ)
 |_=>ϗ
def g7:jt T sM DH:=by
 intro E o H σ xs n Q r p h
 match xs with
 |[]=>exact h.elim
 |[x]=>
  obtain⟨v,w,rfl,k,f⟩:=p;rw[Ub]at f;subst f;unfold DH at h;cases e:Ik σ x with
  |none=>simp only[e]at h;exact h.elim
  |some d=>
   simp only[e]at h;cases b:qz d with
   |none=>simp only[b]at h;exact h.elim
   |some is=>
    simp only[b]at h;by_cases c:is.length<64
    ·rw[ma c]at h;obtain⟨a,m,rfl,g,i⟩:=SA r k e;exact⟨a,m,is,rfl,g,JR i b,c,λl j=>iJ h r (ML _) j⟩
    ·rw[ra c]at h;exact h.elim
 |_::_::_=>exact h.elim
def wT(K:ϓ):List V->Hp->VK->Prop:=λxs H Q=>AK K xs H Q\/sM xs H Q
def Ε(d:X.Lc=true):Gp X (ϝ "sorted") (wT X.K):=by
 intro a s c H xs b Q I r h;rcases h with h|h
 ·exact Λ a s c H xs b Q I r h
 ·exact zmc d a s c H xs b Q I r h
def dC(xs:List D):M D:=λa=>match xs with
 |[x]=>(match xh a x with
  |some _=>VN [x] a
  |none=>DH [x] a)
 |_=>ϗ
def O5(d:T.K=X.K):jt T (wT X.K) dC:=by
 intro E c H a xs b Q r p h
 match xs with
 |[]=>exact h.elim
 |[x]=>
  unfold dC at h;cases e:xh a x with
  |some f=>simp only[e]at h;exact ϒ (Ř d E c H a [x] b Q r p h)
  |none=>simp only[e]at h;exact ϖ (g7 E c H a [x] b Q r p h)
 |_::_::_=>exact h.elim
inductive VO(T:Tb)(X:Cx):List (Option Ya)->List Ya->List Nd->(Ev->M (List D))->Prop
 |nil:VO T X [] [] [] Pa
 |cons {k v:Ya} {kk:Nd} {f:Ev->M D} {ks:List (Option Ya)} {vs:List Ya} {kks:List Nd} {fs:Ev->M (List D)} (hk:FE T X k (eC (UF kk))) (hv:FE T X v f) (r:VO T X ks vs kks fs):VO T X (some k::ks) (v::vs) (kk::kks) (qa f fs)
end L4
namespace L4
def rC(xs:Array Nat):Prop:=∀ i k:Nat,∀ a b:Nat,i<k->xs[i]?=some a->xs[k]?=some b->a<b
def Cut(xs:Array Nat)(j p:Nat):Prop:=p<=xs.size/\(∀ i a:Nat,i<p->xs[i]?=some a->a<j)/\∀ i a:Nat,p<=i->xs[i]?=some a->j<=a
def zqf{xs:Array Nat}(p:rC xs)(j:Nat):∀ (c lo b:Nat),b - lo<=c->lo<=b->b<=xs.size->(∀ i a:Nat,i<lo->xs[i]?=some a->a<j)->(∀ i a:Nat,b<=i->xs[i]?=some a->j<=a)->Cut xs j (Bq xs j c lo b):=by
 intro c;induction c with
 |zero=>
  intro lo b t u h k l;have e:lo=b:=by omega
  subst e;exact⟨h,k,l⟩
 |succ f r=>
  intro lo b t u h k l;unfold Bq;by_cases o:lo<b
  ·rw[ma o];dsimp only;have q:(lo+b) / 2<xs.size:=by omega
   have g:=Fi q;have s:xs.getD ((lo+b) / 2) j=xs[(lo+b) / 2]:=by simp[q]
   rw[s];by_cases m:xs[(lo+b) / 2]<j
   ·rw[ma m];refine r _ _ (by omega) (by omega) h (λi a n d=>?_) l;by_cases e:i=(lo+b) / 2
    ·subst e;rw[g]at d;cases d;exact m
    ·have:=p i ((lo+b) / 2) a _ (by omega) d g;omega
   ·rw[ra m];refine r _ _ (by omega) (by omega) (by omega) k (λi a n d=>?_);by_cases e:i=(lo+b) / 2
    ·subst e;rw[g]at d;cases d;omega
    ·have:=p ((lo+b) / 2) i _ a (by omega) g d;omega
  ·rw[ra o];have e:lo=b:=by omega
   subst e;exact⟨h,k,l⟩
def R5{xs:Array Nat}(c:rC xs)(j:Nat):Cut xs j (lw xs j):=by
 exact zqf c j _ _ _ (by omega) (by omega) (Ea _) (λi a h=>by omega) (λi a h b=>by
  have:=(Zd.mp b).1;omega)
def Ţ{xs:Array Nat}(d:p<=xs.size)(i:Nat):(ul xs p x)[i]?=if i<p then xs[i]? else if i=p then some x else xs[i - 1]?:=by
 unfold ul;have s1:(xs.extract 0 p).size=p:=by simp;omega
 rw[Array.getElem?_append,Array.size_push,s1];by_cases a:i<p
 ·rw[ma (by omega),ma a,Ru,ra (by rw[s1];omega),Xs];simp;omega
 ·rw[ra a];by_cases b:i=p
  ·subst b;rw[ma (by omega),ma rfl,Ru,ma (by rw[s1])]
  ·rw[ra (by omega),ra b,Xs];by_cases c:i - 1<xs.size
   ·rw[ma (by omega)];congr 1;omega
   ·rw[ra (by omega),Array.getElem?_eq_none (by omega)]
def w5{xs:Array Nat}(m:rC xs)(l:Cut xs x p)(t:¬ xs[p]?=some x):rC (ul xs p x):=by
 have r:∀ i a:Nat,p<=i->xs[i]?=some a->x<a:=λi a s c=>by
  have g:=l.2.2 i a s c;rcases Nat.lt_or_ge x a with h|h
  ·exact h
  ·have e:a=x:=by omega
   subst e;by_cases o:i=p
   ·subst o;exact absurd c t
   ·have v:=(Zd.mp c).1;have u:p<xs.size:=by omega
    have q:=Fi u;have:=m p i _ _ (by omega) q c;have:=l.2.2 p _ (Ea _) q;omega
 intro i k a b n c d;rw[Ţ l.1]at c d;by_cases g:i<p
 ·rw[ma g]at c;by_cases j:k<p
  ·rw[ma j]at d;exact m i k a b n c d
  ·rw[ra j]at d;by_cases f:k=p
   ·rw[ma f]at d;cases d;exact l.2.1 i a g c
   ·rw[ra f]at d;exact m i (k - 1) a b (by omega) c d
 ·rw[ra g]at c;have j:¬ k<p:=by omega
  rw[ra j,ra (by omega)]at d;by_cases f:i=p
  ·rw[ma f]at c;cases c;exact r (k - 1) b (by omega) d
  ·rw[ra f]at c;exact m (i - 1) (k - 1) a b (by omega) c d
structure Lu(b:Bool)(t:Gh):Prop where
 led:t.led = !b
 lL:rC t.place
 bU:t.dummies=#[]
def ybq(j:Nat):ly #[] j=false:=by
 unfold ly;simp
theorem Lu.put(h:Lu b t)(a:¬ t.place[lw t.place j]?=some j):Lu b (t.put j).1:=by
 unfold SetTable.put;refine⟨h.led,w5 h.lL (R5 h.lL j) a,?_⟩;rw[h.bU,ybq];rfl
def Lu.plain(h:Lu b t):Lu b { t with plain:=p }:=⟨h.led,h.lL,h.bU⟩
def ō(n:Nat):rC (Array.range n):=by
 intro i k a c e b d;have l1:=(Zd.mp b).1;have l2:=(Zd.mp d).1;simp only[Array.size_range]at l1 l2;simp[l1]at b;simp[l2]at d;omega
def Lu.QE(h:Lu b t)(n:Nat):Lu b (t.standIn n):=⟨h.led,ō n,rfl⟩
def Lu.or(h:Lu b t)(n:Nat):Lu b (t.orStandIn n):=by
 unfold SetTable.orStandIn;split
 ·exact h
 ·exact h.QE n
def Lu.fresh(b:Bool):Lu b (nw 0 0 (!b)):=⟨rfl,λi k a c _ d _=>by simp[nw]at d,rfl⟩
end L4
namespace L4
open Spec
section
variable{prog:Ia}{w:qb}{A:Za}{E:Value->ba->Prop}{s:ba}
set_option maxHeartbeats 3200000 in
end
def sN(h:Heap)(a:Addr)(c:Array (Int × Value))(b:Nat)(t:Gh):Prop:=∃ o,h.get? a=some o/\o.ExactSet/\o.data=.set c b t
def NE(h:Heap)(I a:Addr)(first:Value)(i n b:Nat):Prop:=∃ o,h.get? I=some o/\o.cls=ϙ "set_iterator"/\o.data=ϫ #[first,Tf i,jc a,Tf n,Tf b]
section
variable{prog:Ia}{w:qb}{A:Za}{E:Value->ba->Prop}{s:ba}{I a:Addr}{es:Array (Int × Value)}{ep:Nat}{t:Gh}{i:Nat}
def NE.ty(h:NE s.heap I a first i n ep):s.TypeIs (jc I) "set_iterator":=let ⟨o,b,c,_⟩:=h;⟨o,b,c⟩
end
section
variable{prog:Ia}{w:qb}{A:Za}{E:Value->ba->Prop}{s:ba}{I a p:Addr}{es:Array (Int × Value)}{ep:Nat}{t:Gh}{i:Nat}
def sL(h:Heap)(p:Addr)(a:List Nat):Prop:=∃ o n,h.get? p=some o/\o.data=Ϩ (a.map λ(i:Nat)=>Tf i).toArray n
end
section
variable{prog:Ia}{w:qb}{A:Za}{I a p:Addr}{es:Array (Int × Value)}{ep:Nat}{t:Gh}
def NE.keep(x:NE h I a first i n ep)(k:∀ o,h.get? I=some o->b.get? I=some o):NE b I a first i n ep:=let ⟨o,e,r⟩:=x;⟨o,k o e,r⟩
def sN.keep(x:sN h a es ep t)(k:∀ o,h.get? a=some o->b.get? a=some o):sN b a es ep t:=let ⟨o,e,r⟩:=x;⟨o,k o e,r⟩
def sL.keep{h a:Heap}(x:sL h p ps)(k:∀ o,h.get? p=some o->a.get? p=some o):sL a p ps:=let ⟨o,n,e,r⟩:=x;⟨o,n,k o e,r⟩
end
end L4
namespace L4
open Spec L2
def yml(x:D)(xs:List D):M D:=λa=>match x,xs with
 | U n,[]=>(match a[n]? with
  |some (ϑ _)=>Y ϛ (a.set n (ϑ []))
  |_=>ϗ)
 |_,_=>ϗ
def iE(c:List D):M D:=λb=>match c with
 |[x]=>(match Ik b x with
  |some a=>Y (U b.length) (b++[ϑ a])
  |none=>ϗ)
 |_=>ϗ
def U7:jt T gN iE:=by
 intro E k H σ d n Q r p h
 match d with
 |[]=>exact h.elim
 |[x]=>
  unfold iE at h;dsimp only at h;cases b:Ik σ x with
  |none=>rw[b]at h;exact h.elim
  |some g=>
   rw[b]at h;obtain⟨v,m,rfl,i,j⟩:=p;subst j;obtain⟨a,ws,rfl,e,f⟩:=SA r i b;refine⟨a,ws,rfl,e,λl c=>?_⟩;exact h (k++[l]) (ϕ l) _ (My c) (r.push c ⟨ws,Ih,Paired.Ms f λ_ _ z=>⟨z.1,Ua.mono (My c) _ _ z.2⟩⟩) (xF r)
 |_::_::_=>exact h.elim
section
variable{pins:List (Addr × Ad)}{σ:St}{H:Hp}{s:ba}
def _root_.L2.Ab.freeze(I:Ab X pins σ H s)(g:H a=some (Ϝ d))(e:s.heap.get? a=some i):Ab X pins σ (Nc H a (ϩ i (Ϝ d))) s:=by
 have f:∀ b u,H b=some u->u≠ Ϝ d->b≠a:=λb u q n z=>by rw[z,g]at q;exact n (Yb q).symm
 refine I.step (ch:=[]) (λ_ z=>nomatch z) (λb o _ _ _ q _=>q) (λb o _ _ _ q _=>⟨o.slots,q⟩) (λb o _ q n=>?_) (λb o _ q=>⟨o,q⟩)
  (λb xs q=>by rw[we (f b _ q (λz=>by cases z))];exact q) (λb u xs q=>by rw[we (f b _ q (λz=>by cases z))];exact q) (λb ps q=>⟨#[],by rw[we (f b _ q (λz=>by cases z)),q];simp⟩) (λm j=>j) (λb u q=>?_) I.bare
 ·rw[we (λz=>by rw[z,g]at n;cases n)];exact n
 ·by_cases h:b=a
  ·subst h;rw[Ih]at q;cases q;exact⟨e,I.Qd b _ g⟩
  ·rw[we h]at q;exact(I.Qd b u q).Rl (λc v _ z=>z) (λc z=>by rw[we (f c _ z (λy=>by cases y))];exact z) λc xs z=>by rw[we (f c _ z (λy=>by cases y))];exact z
def TK(I:Ab X pins σ H s)(k:H a=some (ϩ g (Ϝ b))):∃ f d c,KV b f/\g.data=.dict d c/\s.heap.DictAt (jn X.prog X.w) a f c:=by
 obtain⟨e,_,_,f,h,o,d,c,j,ex,i,r⟩:=I.Qd a _ k;rw[e]at j;cases j;exact⟨f,d,c,h,i,g,d,e,ex,i,r⟩
end
def Itm(d:Addr)(b:Ad)(a:List (Nd × V)):It:=
 ⟨λi H=>H d=some (ϩ b (Ϝ a))/\∃ x,a[i]?=some x,λi H v c=>∃ p k x,H p=none/\v=ϕ p/\a[i]?=some (k,x)/\c=Nc H p (.Xa [kV k,x]),λi H=>H d=some (ϩ b (Ϝ a))/\i=a.length⟩
theorem uT{d:Type}:∀ {c:List (d × V)} {g:List (d × Value)} (r:KV c g) (i:Nat) {k:d} {x:V},c[i]?=some (k,x)->∃ u,g[i]?=some (k,u)/\de x u
 |_,_,Ϥ,i,_,_,h=>by simp at h
 |_,_,Ϡ (b:=q) a b,0,k,x,h=>by
  simp only[sj,qk]at h;obtain⟨e,f⟩:=a;rw[h]at e f;exact⟨q.2,by simp only[sj,qk];exact pY e.symm rfl,f⟩
 |_,_,Ϡ a b,i+1,k,x,h=>by
  exact uT b i h
def xZ(h:(jn P w).is k v=true):de (kV k) v:=by
 rcases Kw h with⟨i,t,rfl,rfl⟩|⟨x,t,rfl,rfl⟩
 ·exact⟨t,rfl⟩
 ·exact⟨t,rfl⟩
def QZ{P:Ia}{w:qb}{K:ϓ}{m:List Ya}{kk:Nat}{T:Re}(d e:Addr)(od:Ad)(y:List (Nd × V))(a0:d≠e){es:Array DictEntry}{ό:Nat}(r:od.data=.dict es ό) :
  Ss P w K (ϵ m kk T) (Itm d od y) [e] e (λi h=>∃ ok j,IsItemIter h e d i y.length ό ok j) where
 mem:=by simp
 obj:=λi h f b c=>by
  obtain⟨ok,j,s1⟩:=f;obtain rfl:b=e:=by simpa using c
  exact⟨_,s1,λv z=>by cases z⟩
 keep:=λi h h' f k=>by
  obtain⟨ok,j,s1⟩:=f;exact⟨ok,j,k e (by simp) _ s1⟩
 item:=by
  intro X J S G ϋ i B s σ H E I C f N;subst J S G;obtain⟨M,⟨k,x⟩,hx⟩:=N;obtain⟨vs,F,D,a,l,R⟩:=TK I M;rw[r]at l;cases l;obtain⟨u,hu,ru⟩:=uT a i hx;obtain⟨ok,j,s1⟩:=f;rw[a.length]at s1;refine wpAny_pyNext_items_item s1 R hu λg h' p ho hT a1 hk=>?_;have n:s.heap.objs.size≠e:=vh (Fa s1);refine⟨jc s.heap.objs.size,rfl,wpAny_letOwnedTupleGo_items ho λh2 ώ t=>?_⟩;have hn:H s.heap.objs.size=none:=I.Qd.fresh (Ea _);have L:h2.get? s.heap.objs.size=some { cls:=ϙ "tuple",data:=Ϩ #[g,u] }:=t.extBut _ _ n hT;refine⟨ϕ s.heap.objs.size,Nc H s.heap.objs.size (.Xa [kV k,x]),I.Qw (λb o c q=>t.extBut b o (λz=>c (by simp[z])) (hk b o (λz=>c (by simp[z])) q)) C (Ea _) ?_,rfl,⟨_,k,x,hn,rfl,hx,rfl⟩,⟨g,u,by rw[a.length];exact ώ⟩,λb c=>?_⟩
  ·exact⟨(show 2<=sizeLine by decide),[g,u],Ϡ (xZ p) (Ϡ ru Ϥ),⟨_,L,rfl,_,rfl⟩⟩
  ·obtain rfl:b=e:=by simpa using c
   rw[we (λz=>n z.symm)];exact(C b c).1
 done:=by
  intro X J S G ϋ i B s σ H E I C f N;subst J S G;obtain⟨M,ϊ⟩:=N;obtain⟨vs,F,D,a,l,R⟩:=TK I M;rw[r]at l;cases l;obtain⟨ok,j,s1⟩:=f;rw[a.length]at s1 ϊ;exact wpAny_pyNext_items_end (I.ok.hd ϋ) s1 R (by rw[ϊ];simp) λh' eb=>⟨rfl,I.Pw (t':=s.toks) (its:=[e]) (λb o c q=>eb b o (λz=>c (by simp[z])) q) C⟩
 self:=λA i s Q E f h=>by
  obtain⟨ok,j,s1⟩:=f;exact W.kcp_self s1 h
def Xp(l a:Addr):Heap->Prop:=λh=>h.IsItemsView l a
def Ľ:V->List V->Hp->VK->Prop:=λx xs H Q=>∃ a b,x=ϕ a/\xs=[]/\Rd H a (Ϝ b)/\∀ l,H l=none->Q (ϕ l) (Nc H l (ϧ (Xp l a)))
theorem pH(h:H a=some o):Nc H a o=H:=by
 funext b;unfold Nc;split
 ·next e=>rw[e,h]
 ·rfl
def LK(h:Heap)(o:Ad)(a:o.data≠.freed):(h.push o).get? h.objs.size=some o:=by
 obtain⟨c,d,x,b⟩:=o;simp[Heap.get?,Heap.push];cases x<;>first|rfl|exact absurd rfl a
section
variable{elts:List Ya}{kk:Nat}{p0:Re}
def lU:Tv X "dict.items" Ľ:=by
 intro f s u H x A v y Q I n m h;obtain⟨a,j,rfl,rfl,g,q⟩:=h;cases n;cases m;obtain⟨z,i,ws,l,d⟩:=Fy I.Qd g;refine yq Vi d.typeIs PySem.F.entry_dict_items (PySem.F.args_dict_items_1 _) (meets_dict_items (jn X.prog X.w) a i) ⟨⟨ws,d⟩,?_⟩;refine⟨ϕ s.heap.objs.size,_,I.laid (λb o e=>ua _ e) (Ea _) ?_,rfl,q _ (I.Qd.fresh (Ea _))⟩;refine⟨⟨_,LK _ _ (λz=>by cases z),rfl,rfl⟩,⟨_,LK _ _ (λz=>by cases z)⟩,λr t p k=>?_⟩;obtain⟨o,e,c⟩:=p;exact⟨o,k o e,c⟩
def J1(e:TE):TI:=λσ H R=>e σ H λv c=>∃ l a b,v=ϕ l/\c l=some (ϧ (Xp l a))/\Rd c a (Ϝ b)/\∀ d,c a=some (Ϝ b)\/c a=some (ϩ d (Ϝ b))->R (Itm a d b) (Nc c a (ϩ d (Ϝ b)))
def ZS(B:PE X f t):PI X (ϵ elts kk p0) f (J1 t):=by
 intro i s σ H R I h;refine Le (B i s σ H _ I h) λv s1 ſ=>?_;obtain⟨x,H1,k,F,E⟩:=ſ;obtain⟨l,a,c,rfl,C,d,q⟩:=E;cases F;obtain⟨g,p,m⟩:∃ g,(H1 a=some (Ϝ c)\/H1 a=some (ϩ g (Ϝ c)))/\Ab X i σ (Nc H1 a (ϩ g (Ϝ c))) s1:=by
  rcases d with d|⟨g,d⟩
  ·obtain⟨_,_,G,j,o,y,w,e,_⟩:=k.Qd a _ d;exact⟨o,ϒ d,k.freeze d e⟩
  ·exact⟨g,ϖ d,by rw[pH d];exact k⟩
 obtain⟨G,y,w,j,u,r⟩:=TK m Ih;have D:=(k.Qd l _ C).1;have n:=Wa r.lt_size;refine wpAny_pyIter_items D r ?_;refine⟨s1.heap.objs.size,[s1.heap.objs.size],_,Itm a g c,_,rfl,m.kept (λb o e=>ua _ e),QZ a _ g c n u,⟨Wc,Wc,by rw[j.length];exact LK _ _ (λz=>by cases z)⟩,λb A=>?_,q g p⟩;obtain rfl:b=s1.heap.objs.size:=by simpa using A
 exact m.Yr (Ea _) (m.Qd.fresh (Ea _))
noncomputable def iv(a:List (Nd × D)):NX:=λi _=>match a[i]? with
 |some p=>some (some (Ϗ [UF p.1,p.2]))
 |none=>if i=a.length then some none else none
def DG(d:D):M NX:=λa=>match d with
 | Ϫ ks xs=>if ks.length=xs.length then Y (iv (ks.zip xs)) a else ϗ
 |_=>ϗ
def LB(f:Ev->M D):Ev->M NX:=λa=>be (f a) DG
def OQ(k:Nd):Ua T a H (UF k) (kV k):=by
 cases k<;>(unfold UF kV;rw[Ua])
def kP(d:H a=some (Ϝ c)):Ge μ H μ (Nc H a (ϩ od (Ϝ c))):=by
 have f:∀ b u,H b=some u->u≠ Ϝ c->b≠a:=λb u q n z=>by rw[z,d]at q;exact n (Yb q).symm
 refine⟨⟨[],by simp⟩,λp xs h=>by rw[we (f p _ h (λz=>by cases z))];exact h,λp o u h=>by rw[we (f p _ h (λz=>by cases z))];exact h,λp o h n=>⟨?_,n⟩⟩;by_cases e:p=a
 ·subst e;rw[d]at h;cases h;exact⟨_,Ih,ϖ (ϒ ⟨od,c,rfl,rfl⟩)⟩
 ·exact⟨o,by rw[we e];exact h,ϒ rfl⟩
theorem mO{c e:Type}{R:c->e->Prop}:∀ {xs:List c} {d:List e},Paired R xs d->∀ (i:Nat) {x:c},xs[i]?=some x->∃ y,d[i]?=some y/\R x y
 |_,_,Ϥ,i,_,h=>by simp at h
 |_,_,Ϡ a b,0,x,h=>by
  simp only[sj,qk]at h ⊢;subst h;exact⟨_,rfl,a⟩
 |_,_,Ϡ a b,i+1,x,h=>by
  exact mO b i h
def uO(h:FE T X e f)(n:ye e "items" X.env (Ec e X.env)=Ec e X.env:=by rfl)(t:(k.endLine == m.line)=true:=by rfl) :
  Fz T X (ϵ elts kk p0) (ϣ (Ϣ e "items" k) [] [] m) (LB f):=by
 intro J s st H R I hw;refine ZS (XV Vg Vi Pq lU h n t) J s st H R I ?_;obtain⟨μ,ρ,σ,hE,hr,hp⟩:=hw;refine⟨μ,ρ,σ,hE,hr,hp.bind λd K g v j _ e1 r1 q1 x=>?_⟩;unfold DG at x;cases d with
 |Qb ks xs=>
  dsimp only at x;by_cases ϋ:ks.length=xs.length
  ·rw[ma ϋ]at x;obtain⟨a,c,rfl,hn,o,P,S⟩:=q1;refine⟨⟨a,c,rfl,o⟩,a,c,rfl,rfl,o,λl u=>?_⟩;have ό:a≠l:=by rcases o with o|⟨_,o⟩<;>exact ur o u
   have ώ:Rd (Nc j l (ϧ (Xp l a))) a (Ϝ c):=by unfold Rd;rw[we ό];exact o
   refine⟨l,a,c,rfl,Ih,ώ,λC B=>?_⟩;have x1:Ge g j g (Nc j l (ϧ (Xp l a))):=Wm u;have A:je T g (Nc j l (ϧ (Xp l a))) K:=r1.fresh u;obtain⟨x2,V⟩:Ge g j g (Nc (Nc j l (ϧ (Xp l a))) a (ϩ C (Ϝ c)))/\je T g (Nc (Nc j l (ϧ (Xp l a))) a (ϩ C (Ϝ c))) K:=by
    rcases B with B|B
    ·have y:=kP (μ:=g) (od:=C) B;exact⟨x1.trans y,A.keep y (λb L=>we (λz=>hn (by rw[<-z];exact L))) (A.tb.out (λb L=>we L) (ϖ ⟨_,B⟩))⟩
    ·rw[pH B];exact⟨x1,A⟩
   have h3:Nc (Nc j l (ϧ (Xp l a))) a (ϩ C (Ϝ c)) a=some (ϩ C (Ϝ c)):=Ih;refine Jc.here (Jc.mono x2 x) V λa0 H2 a1 i ex r2=>?_;have W:=ex.Qc _ _ _ h3;have G:=Xl.mono (x2.trans ex) (CH P S);unfold iv;cases ei:(ks.zip xs)[i]? with
   |none=>
    by_cases N:i=(ks.zip xs).length
    ·rw[ma N];exact⟨W,by rw[N];exact Paired.length G⟩
    ·rw[ra N];trivial
   |some p=>
    obtain⟨q,ϊ,Q,rx⟩:=mO G i ei;refine⟨⟨W,q,ϊ⟩,λz H' y=>?_⟩;obtain⟨r,k',x',w,rfl,E,rfl⟩:=y;rw[ϊ]at E;cases E;refine⟨Wm w,r2.fresh w,?_⟩;rw[Ua,Q];exact⟨r,_,rfl,Ih,Ub.cons (OQ _) (Ub.cons (Ua.mono (Wm w) _ _ rx) Ub.nil)⟩
  ·rw[ra ϋ]at x;exact x.elim
 |_=>exact x.elim
end
def zm(nx:NX)(n:Nat)(e:D->Ev->Option Ev)(fi:Ev->M Bool)(b:Ev->M D):Nat->Nat->Ev->M Unit
 |0,_,_=>cc
 |k+1,i,g=>λf=>match nx i f with
  |none=>ϗ
  |some none=>Y () f
  |some (some d)=>match e d g with
   |none=>ϗ
   |some a=>be (Yp (fi a)) (λc=>if c=true then be (Yp (b a)) λy=>be (Vm (U n) [y]) λ_=>zm nx n e fi b k (i+1) a else zm nx n e fi b k (i+1) a) f
def PN(d:D->Ev->Option Ev)(c:Ev->M Bool)(b:Ev->M D)(e:Ev)(nx:NX):M D:=λa=>
 be (zm nx a.length d c b 1001 0 e) (λ_=>ret (U a.length)) (a++[ϔ []])
def dm(a:Ev->M NX)(e:List Nat)(f:D->Ev->Option Ev)(d:Ev->M Bool)(c:Ev->M D):Ev->M D:=λb=>be (a b) (PN f d c (Mx e b))
def fY {st:St}
  (hc:X.Lc=true) (L:ip X x M' ix a)
  (d7:∀ cl C ώ G ex,FG T (Uv X (x::z0::M') a cl C ώ G ex) a9 S)
  (d4:∀ cl C ώ G ex,YE T (Uv X (x::z0::M') a cl C ώ G ex) b2 fi)
  (c6:∀ cl C ώ G ex,FE T (Uv X (x::z0::M') a cl C ώ G ex) b1 H)
  (I3:Ab X b6 st H3 s3) (c7:∀ b∈fp,Kn X b6 H3 b/\b<s3.heap.objs.size) (d6:I.Ns s3.heap.objs.size m) (kp:∀ b o,s3.heap.get? b=some o->I.get? b=some o)
  (TT:Ss X.prog X.w X.K a9 J fp it tn) (b5:tn 0 I) (so:GB T P H3 nx J) (hE:pi T P H3 ρ st) (r3:je T P H3 c3) (hn:P[n]?=some D0)
  (p3:Jc T E (Ua T) P H3 (be (zm nx n S fi H 1001 0 (Mx ix ρ)) (λ_=>ret (U n)) c3) Q)
  (Uh:∀ (s6:ba) (q:Hp) (m6:Str->Option Value),s6.heap.Ns s3.heap.objs.size m6->q s3.heap.objs.size=none->Un (Hk X.stack) fp H3 q s3.heap s6.heap->s6.os=s3.os->xj X.prog X.w q s6.heap->Yi s6.gens->Q (ϕ D0) q->RR (.ok .next) s6) :
  codeAny (model X.prog X.w) X.A (.compStart (.ListComp b1 [⟨a9,a4,b2,0⟩] a b9) 0 (jc it) (jc D0) (compEnvC a (wk X.env a.names []) s3.heap.objs.size X.env))
   RR { s3 with heap:=I,toks:=t' }:=by
 have I4:=PZ (z0:=z0) (t':=t') I3 L c7 d6 kp;let ϋ:Cx:=Uv X (x::z0::M') a (wk X.env a.names []) s3.heap.objs.size s3 H3 fp;have a8:∀ {q:Hp},(∀ b∈fp,q b=none)->∀ b∈fp,Kn ϋ [] q b:=fun {q} hn b hb=>⟨hn b hb,(I4.ok.eB b hb).1,I4.ok.Cs b hb,ϒ hb,(I4.ok.eB b hb).2,λp hp=>absurd (show p∈([]:List (Addr × Ad))from hp) (by simp)⟩
 have Zn:codeAny (model X.prog X.w) X.A (.compLoop (.ListComp b1 [⟨a9,a4,b2,0⟩] a b9) 0 (jc it) (jc D0) ϋ.env) RR { s3 with heap:=I,toks:=t' }:=by
  refine codeAny_loop rfl (λk s'=>∃ i g q h t F,Ab ϋ [] F q s'/\tn i s'.heap/\(∀ b∈fp,q b=none)/\Ge P H3 g q/\pi T g q t F/\je T g q h/\
   Jc T E (Ua T) g q (be (zm nx n S fi H k i t) (λ_=>ret (U n)) h) Q) ?_ 1001 ⟨0,P,H3,c3,Mx ix ρ,qA ix st,I4,b5,λb hb=>(c7 b hb).1.1,ϯ _ _,ê ix hE,r3,p3⟩
  rintro k s' ⟨i,g,q,h,t,F,I',c9,c4,ϊ,b8,r',p'⟩;show wpAny _ X.A ((compTurn (.ListComp b1 [⟨a9,a4,b2,0⟩] a b9) 0 (jc it) (jc D0) ϋ.env).onRaise (λx=>do Bh x ϋ.env;theTreesLotGoes x)) _ _ s';refine wpAny_noted ?_;refine Pc (E:=λ_ _=>False) ?_ (λ_ _ z=>z) (λ_ _ z=>z.elim);refine ga (sv ?_);cases k with
  |zero=>exact p'.elim
  |succ k=>
   have b4:=so g q h i ϊ r';cases en:nx i h with
   |none=>
    have e1:zm nx n S fi H (k+1) i t h=ϗ:=by unfold zm;simp only[en]
    rw[DI (m':=cc) e1]at p';exact p'.elim
   |some od=>
    rw[en]at b4;cases od with
    |none=>
     have e1:zm nx n S fi H (k+1) i t h=Y () h:=by unfold zm;simp only[en]
     rw[DI (m':=ret ()) e1]at p';refine ga (Le (TT.done ϋ rfl rfl rfl hc i [] s' F q (λ_ _=>False) I' (a8 c4) c9 b4) λr s6 ⟨er,I6⟩=>?_);subst er;refine za ?_;obtain⟨m6,d5,_⟩:=I6.loc;exact Uh s6 q m6 d5 I6.free I6.base I6.os I6.Qd I6.bare (Jc.here p' r' (by rw[Ua];exact⟨_,rfl,ϊ.get hn⟩))
    |some d=>
     refine ga (Le (TT.item ϋ rfl rfl rfl hc i [] s' F q (λ_ _=>False) I' (a8 c4) c9 b4.1) λr s6 ſ=>?_);obtain⟨u,er,h6⟩:=ſ;subst er;refine ga (Le h6 λ_ s7 ſ=>?_);obtain⟨xv,H7,I7,r7,y7,c2,d3⟩:=ſ;obtain⟨b7,d8,hd⟩:=b4.2 xv H7 y7;replace p':=Jc.mono b7 p';replace b8:=b8.mono b7;replace ϊ:=ϊ.trans b7;replace r':=d8;cases et:S d t with
     |none=>
      have e1:zm nx n S fi H (k+1) i t h=ϗ:=by unfold zm;simp only[en,et]
      rw[DI (m':=cc) e1]at p';exact p'.elim
     |some l=>
      have e1:zm nx n S fi H (k+1) i t h=be (Yp (fi l)) (λc=>if c=true then be (Yp (H l)) λy=>be (Vm (U n) [y]) λ_=>zm nx n S fi H k (i+1) l else zm nx n S fi H k (i+1) l) h:=by
       conv=>lhs;unfold zm
       simp only[en,et]
      rw[DI e1,rO]at p';have d1:=I7.pinned (a8 d3) (TT.obj _ _ c2);refine ga (Le (d7 _ _ _ _ _ _ s7 F H7 xv u (λN H8=>H8=H7/\pi T g H7 l N) d1 r7 ⟨g,h,t,d,l,b8,r',hd,et,λN a3=>⟨rfl,a3⟩⟩) λ_ s8 ſ=>?_);obtain⟨N,H8,I8,d2,a3⟩:=ſ;subst d2;refine ga (Le (d4 _ _ _ _ _ _ s8 N H8 (λc H9=>∃ V a0,Ge g H8 V H9/\je T V H9 a0/\Jc T E (Ua T) V H9 (be (if c=true then be (Yp (H l)) λy=>be (Vm (U n) [y]) λ_=>zm nx n S fi H k (i+1) l else zm nx n S fi H k (i+1) l) (λ_=>ret (U n)) a0) Q) I8
       ⟨g,l,h,a3,r',p'.yw λc a0 V c' H9 _ e9 r9 q9 p9=>by cases q9;exact⟨V,a0,e9,r9,p9⟩⟩) λc s9 ⟨H9,I9,V,a0,e9,r9,p9⟩=>?_)
      have a2:∀ {a7:ba} {s:Hp} {f:List Addr} {j:lb},Ab ϋ ([]++GE fp s7.heap) N s a7->Ge g H8 f s->je T f s j->Jc T E (Ua T) f s (be (zm nx n S fi H k (i+1) l) (λ_=>ret (U n)) j) Q->
        ∃ m,m<k+1/\∃ i g q h t F,Ab ϋ [] F q a7/\tn i a7.heap/\(∀ b∈fp,q b=none)/\Ge P H3 g q/\pi T g q t F/\je T g q h/\Jc T E (Ua T) g q (be (zm nx n S fi H m i t) (λ_=>ret (U n)) h) Q:=by
       intro a7 s f j a1 W a6 a5;refine⟨k,Vd _,i+1,f,s,j,l,N,a1.Ml,TT.keep _ _ _ c2 (λb hb o e=>(a1.pin (b,o) (xb _ (xb _ (WJ hb e)))).1),λb hb=>?_,ϊ.trans W,a3.mono W,a6,a5⟩;obtain⟨o,e,_⟩:=TT.obj _ _ c2 b hb;exact(a1.pin (b,o) (xb _ (xb _ (WJ hb e)))).2.1
      cases c with
      |false=>
       exact za ⟨rfl,a2 I9 e9 r9 p9⟩
      |true=>
       rw[ma rfl,rO]at p9;refine ga (ga (Le (c6 _ _ _ _ _ _ s9 N H9 (λv ό=>∃ y B R,Ge g H8 B ό/\je T B ό R/\Ua T B ό y v/\Jc T E (Ua T) B ό (be (Vm (U n) [y]) (λ_=>be (zm nx n S fi H k (i+1) l) (λ_=>ret (U n))) R) Q) I9
        ⟨V,l,a0,a3.mono e9,r9,p9.yw λy R B v ό _ b0 c1 c0 b3=>⟨y,B,R,e9.trans b0,c1,c0,by rw[rO]at b3;exact b3⟩⟩) λw d9 ⟨v,ό,d0,c8,y,B,R,b0,c1,c0,b3⟩=>?_))
       have c5:=ã (Q:=λ_ s=>∃ f j,Ge g H8 f s/\je T f s j/\Jc T E (Ua T) f s (be (zm nx n S fi H k (i+1) l) (λ_=>ret (U n)) j) Q) c1 ((ϊ.trans b0).get hn) c0
        (b3.bind λ_ j f e0 s _ W a6 e2 a5=>⟨f,j,b0.trans W,a6,a5⟩)
       refine ga (Le (WE (X:=ϋ) _ d9 N ό (ϕ D0) [v] (jc D0) [w] _ d0 rfl (Ϡ c8 Ϥ) c5) λ_ a7 ſ=>?_);obtain⟨e0,s,a1,_,f,j,W,a6,a5⟩:=ſ;exact za (za ⟨rfl,a2 a1 W a6 a5⟩)
 exact codeAny_compStart_list Zn (TT.self X.A 0 _ _ _ b5 Zn)
def Gu{V:Ev->M D}
  (hc:X.Lc=true) (L:ip X x M' ix a) (K:Fz T X z k P)
  (a3:∀ cl C d c ex,FG T (Uv X (x::z0::M') a cl C d c ex) z tg)
  (ϊ:∀ cl C d c ex,YE T (Uv X (x::z0::M') a cl C d c ex) ώ fi)
  (E:∀ cl C d c ex,FE T (Uv X (x::z0::M') a cl C d c ex) A V)
  (hs:∀ y,Eh k X.env y=pure y:=by intro _;rfl) :
  FE T X (.ListComp A [⟨z,k,ώ,0⟩] a a5) (dm P ix tg fi V):=by
 intro u s st H Q I h;obtain⟨S,ρ,σ,hE,hr,hp⟩:=h;refine Cv rfl hs (UL X.env a (gA I L)) L.kind (λy hy e=>?_) ?_
 ·have q:=Pb.mp L.names y hy;rw[e]at q;exact eq_of_beq q
 have h1:=K u s st H (λJ l=>∃ nx f g,Ge S H f l/\je T f l g/\GB T f l nx J/\Jc T (XE X st) (Ua T) f l (be (zm nx g.length tg fi V 1001 0 (Mx ix ρ)) (λ_=>ret (U g.length)) (g++[ϔ []])) Q) I
  ⟨S,ρ,σ,hE,hr,hp.bind λnx a7 a6 J H1 _ e1 r1 q1 p1=>⟨nx,a6,a7,e1,r1,q1,p1⟩⟩
 refine Le h1 λv s1 h2=>Le h2 λa8 s2 h3=>?_;obtain⟨it,fp,tn,J,l,rfl,I2,TT,R,f2,nx,f,g,ό,r2,so,p2⟩:=h3;refine Jf (Mm (fG L) (by intro y hy;simp at hy) (λN p t=>?_) L.kind);have I3:=I2.nB (t':=s2.toks) Ϥ (by simp);have B:l s2.heap.objs.size=none:=I2.Qd.fresh (Ea _);have r3:=r2.push (ob:=ϔ []) B ⟨[],Ih,Ub.nil⟩;have w:Ge f l (f++[s2.heap.objs.size]) (Nc l s2.heap.objs.size (ϰ [])):=My B;have a2:s2.heap.objs.size<(s2.heap.push { cls:=ϙ "list",data:=Ϩ [].toArray }).objs.size:=by rw[nh];exact Vd _
 have kp:∀ b o,(s2.heap.push { cls:=ϙ "list",data:=Ϩ [].toArray }).get? b=some o->N.get? b=some o:=λb o e=>t.extBut b o (Wa (Fa e)) (ua _ e);have j:∀ b∈fp,Kn X u (Nc l s2.heap.objs.size (ϰ [])) b/\b<(s2.heap.push { cls:=ϙ "list",data:=Ϩ [].toArray }).objs.size:=λb m=>by
  obtain⟨o,e,_⟩:=TT.obj 0 _ R b m;have lt:=Fa e;exact⟨⟨by rw[we (Wa lt)];exact(f2 b m).1,(f2 b m).2⟩,mu lt a2⟩
 refine fY (n:=g.length) (D0:=s2.heap.objs.size) hc L a3 ϊ E I3 j p kp TT (TT.keep 0 _ _ R λb m o e=>kp b o (ua _ e))
  (λS H σ i ex r=>so S H σ i (w.trans ex) r) ((hE.mono ό).mono w) r3 (by rw[<-r2.len];simp) (p2.mono w) (λs6 H' m6 a0 W a4 a1 F ϋ hq=>⟨m6,a0,λh7 G=>?_⟩)
 have hu:=yhe a4 G (Ea _);have I7:=L2.Ab.Aw (s':={ s6 with heap:=h7 }) (ch:=fp) I3 a1 hu (zs3 F G W) ϋ (λb m=>⟨(j b m).1.2.2.2.1,(j b m).1.2.1,(j b m).1.2.2.2.2.1,(j b m).1.2.2.2.2.2⟩);exact⟨ϕ s2.heap.objs.size,H',I7,rfl,hq⟩
def RF(K:ϓ)(b:Str->Option Value)(x:Str)(c:List Str):Prop:=∃ a,b x=some (jc a)/\RB K a c
noncomputable def nA:List Value->List Str->Bool
 |[],[]=>true
 | .str y _::a,x::ss=>(y == x) && nA a ss
 |_,_=>false
def qO(K:ϓ)(a:Addr)(c:List Str):Bool:=match K.lookup a with
 |some o=>(o.cls == ϙ "tuple") && (match o.data with
  | Ϩ b _=>decide (b.size<=sizeLine) && nA b.toList c
  |_=>false)
 |none=>false
theorem rS:∀ {a:List Value} {ss:List Str},nA a ss=true->Pe (ss.map V.str) a
 |[],[],_=>Ϥ
 |[],_::_,h=>by simp[nA]at h
 |v::a,[],h=>by cases v<;>simp[nA]at h
 |v::a,x::ss,h=>by
  cases v with
  |str y t=>
   simp only[nA,Na]at h;obtain rfl:=eq_of_beq h.1;exact Ϡ ⟨t,rfl⟩ (rS h.2)
  |_=>simp[nA]at h
def RB.of{K:ϓ}(h:qO K a f=true):RB K a f:=by
 unfold qO at h;cases e:K.lookup a with
 |none=>rw[e]at h;cases h
 |some o=>
  rw[e]at h;simp only[Na]at h;obtain⟨g,b⟩:=h;cases c:o.data with
  |seq d n=>
   rw[c]at b;simp only[Na,Fc]at b;exact⟨o,d,n,e,eq_of_beq g,c,b.1,rS b.2⟩
  |_=>rw[c]at b;cases b
def aK(a:Bool)(b:List Str)(x:D):M D:=λc=>match x with
 | ύ z=>Y (ϐ (if a then !HC (.str z) (b.map V.str)else HC (.str z) (b.map V.str))) c
 |_=>ϗ
section
variable{e:Ya}{f:Ev->M D}{x:Str}{p pos:Re}{ss:List Str}
def ļ(ss:List Str):(ss.map V.str).all Cj=true:=by simp[Cj]
def È(j:RB X.K a ss)(h:tF T X (Dd (aK b ss) f) g H Q):QB (mJ X.K b) (tF T X f) (tC (ϕ a)) g H Q:=by
 obtain⟨n,ρ,σ,i,l,k⟩:=h;refine⟨n,ρ,σ,i,l,k.bind λd p o v q _ r m e c=>?_⟩;cases d with
 |str z=>rw[Ua]at e;subst e;exact⟨a,ss.map V.str,rfl,ϖ (ϖ j),rfl,ļ ss,Jc.here c m (by rw[Ua])⟩
 |_=>exact c.elim
def t7(m:Gl X x)(i:RF X.K X.mg x ss)(c:FE T X e f)(l:(x == ("__debug__" : Str))=false:=by decide):FT T X (.Compare e [.In] [ϟ x p] pos) (eT (Dd (aK false ss) f)):=by
 obtain⟨a,n,j⟩:=i;intro b s y H Q I h;refine gM kO c (UM m n (v:=ϕ a) rfl l) rfl b s y H Q I ?_;refine È j ?_;obtain⟨z,ρ,σ,c,r,o⟩:=h;refine⟨z,ρ,σ,c,r,o.bind λd B A v C _ D w t u=>?_⟩;obtain⟨k,g,q⟩:=XN t u;exact⟨k,g,q.here w rfl⟩
end
noncomputable def XD(a:List (Nd × D))(k:Nd):List (Nd × D):=a.filter λb=>decide (b.1≠k)
theorem WV{e:List Addr}{H:Hp}(k:Nd):∀ {c:List (Nd × D)} {us:List (Nd × V)},Xl T e H c us->Xl T e H (XD c k) (By us k)
 |[],_,h=>by unfold Xl at h;cases h;exact Ϥ
 |p::c,_,h=>by
  cases h with
  |@cons _ q _ us a b=>
   have d:=WV k b;unfold XD By at *;rw[Ud,Ud,a.1];split
   ·exact Ϡ a d
   ·exact d
def JW:V->List V->Hp->VK->Prop:=λx c H Q=>∃ a b k v,x=ϕ a/\c=[kV k]/\H a=some (Ϝ b)/\Do b k=some v/\Q v (Nc H a (Ϝ (By b k)))
def K5:Tv X "dict.pop" JW:=by
 intro b s n H x p v o Q I l j h;obtain⟨a,f,k,y,rfl,rfl,d,e,q⟩:=h;cases l;obtain⟨u,rfl,i⟩:=j.one;exact ľ I d i e (ϒ rfl) λr m c g=>⟨y,_,c,g,q⟩
def XA(x:D)(xs:List D):M D:=λb=>match x,xs with
 | U n,[y]=>(match Xm y with
  |some k=>(match b[n]? with
   |some (ϑ a)=>(match jl a k with
    |some d=>Y d (b.set n (ϑ (XD a k)))
    |none=>ϗ)
   |_=>ϗ)
  |none=>ϗ)
 |_,_=>ϗ
def yZ:rA T JW XA:=by
 intro E g H σ x xs v C Q r p q h;cases x with
 |ref n=>
  match xs with
  |[]=>exact h.elim
  |[y]=>
   unfold XA at h;cases b:Xm y with
   |none=>simp only[b]at h;exact h.elim
   |some k=>
    simp only[b]at h;cases c:σ[n]? with
    |none=>rw[c]at h;exact h.elim
    |some ob=>
     rw[c]at h;cases ob with
     |Qb d=>
      dsimp only at h;obtain⟨a,rfl,l,o,i,j⟩:=r.at p c;obtain⟨w,z,rfl,t,m⟩:=q;rw[Ub]at m;subst m;obtain rfl:=ZC t b;rcases UB j k with⟨f,_⟩|⟨B,s,f,u,A⟩
      ·rw[f]at h;exact h.elim
      ·rw[f]at h;have ex:Ge g H g (Nc H a (Ϝ (By o k))):=Jw (La l) i (λ_ z=>by cases z) (λ_ _ z=>by cases z);have e:=r.write (ob:=ϑ (XD d k)) l ⟨_,Ih,Xl.mono ex (WV k j)⟩;exact⟨a,o,k,s,rfl,rfl,i,u,h g s _ e.1 e.2 (Ua.mono e.1 _ _ A)⟩
     |wa _=>exact h.elim
     |yc _ _=>exact h.elim
     |ig _=>exact h.elim
     |Bl _=>exact h.elim
  |_::_::_=>exact h.elim
 |_=>cases xs<;>exact h.elim
def Q9{K:ϓ}(X:K.In h)(G:h.Ns mainGlobals c)(a:W.nsIn K mainGlobals x=some (some (jc C)))(b:qO K C d=true):RF K c x d:=⟨C,W.mg_of X G a,RB.of b⟩
section
variable{prog:Ia}{w:qb}{A:Za}{E:Value->ba->Prop}{l q I S:Addr}{n:Nat}{P:Nat->Value->Prop}{R:CB->ba->Prop}{Q:Value->ba->Prop}
def zn0(G:Nat->Value->Int->ba->Prop)(hh:A.handled=none)(ϊ:l≠I)(H:S≠I)(a7:l≠S)
  (hl:∀ j d a s,G j d a s->∃ y:List Value,y.length=n/\(∀ (j:Nat) v,y[j]?=some v->P j v)/\s.heap.IsList l y.toArray)
  (u:∀ j d a s B tk,G j d a s->(∀ b o,b≠I->b≠S->s.heap.get? b=some o->B.get? b=some o)->G j d a { s with heap:=B,toks:=tk })
  (Qj:∀ j d a s v oI oS,G j d a s->P j v->s.heap.get? I=some oI->s.heap.get? S=some oS->(∀ v,oI.data≠.cell v)->(∀ v,oS.data≠.cell v)->
   wpAny (model prog w) A.in1 (call (jc q) [v]) (λx s'=>∃ k t,x=Ck k t/\s'.heap.get? I=some oI/\s'.heap.get? S=some oS/\G (j+1) (if k<a then v else d) (if k<a then k else a) s') (λ_ _=>False) s)
  (hR:∀ d a s,G n d a s->R (.ok (.ret d)) s) :
  ∀ (r j:Nat) (s:ba) (d:Value) (a:Int) (tb:Tok) (c:Nat),n - j=r->j<=n->G j d a s->s.heap.get? S=some (Sm "list" #[d,Ck a tb] c)->s.heap.IsListIter I l j->
   codeAny (model prog w) A (.builtin "min.loop" ⟨[jc I,jc q,jc S],[]⟩) R s:=by
 have a6:(toString "min"++toString ".loop" : String) = "min.loop":=by decide
 intro r;induction r with
 |zero=>
  intro j s d a tb c hr hj g V hit;have X:j=n:=by omega
  obtain⟨y,ώ,a3,K⟩:=hl j d a s g;have W:=xq (prog:=prog) (w:=w) (A:=A.in1) hh I l ϊ y.toArray;have N:y.toArray.size=n:=(Da ..).trans ώ;refine Gi mj ?_;rw[Around.under_plainId Sf _];show wpAny _ A.in1 (seqItems? (jc S) >>= _) _ _ _;refine ga (qu V rfl ?_);show wpAny _ A.in1 (tryCatch (pyNext (jc I)) _ >>= _) _ _ _;refine ga (ag (W.done _ _ _ ⟨by rw[N,<-X];exact hit,K⟩ λB a4 J=>?_));have m:∀ b o,b≠I->s.heap.get? b=some o->B.get? b=some o:=λb o n e=>J b o (by simpa using n) e;have D:=m S _ H V;have s1:=tj B S (eh λ_=>(#[]:Array Value));refine ga ?_;refine Ys D rfl (ga (Tr (za ?_)));subst X;exact hR d a _ (u _ _ _ s _ _ g λb o n1 n2 e=>by rw[s1.2 b n2];exact m b o n1 e)
 |succ r ih=>
  intro j s d a tb c hr hj g V hit;have L:j<n:=by omega
  obtain⟨y,ώ,a3,K⟩:=hl j d a s g;have W:=xq (prog:=prog) (w:=w) (A:=A.in1) hh I l ϊ y.toArray;have N:y.toArray.size=n:=(Da ..).trans ώ;refine Gi mj ?_;refine ga (qu V rfl ?_);refine ga (ag (W.item j _ _ _ (by rw[N];exact L) ⟨hit,K⟩ λv B a4 hP a2 J=>?_));have m:∀ b o,b≠I->s.heap.get? b=some o->B.get? b=some o:=λb o n e=>J b o (by simpa using n) e;have hv:P j v:=a3 j v (by simpa using hP);obtain⟨Q,a0,a1,M⟩:=id a2.1;have g1:=u _ _ _ s B a4 g λb o n1 n2 e=>m b o n1 e;have D:=m S _ H V;refine ga (ag (ge (Pc (Qj j d a _ v Q _ g1 hv a0 D (λv z=>by rw[M]at z;cases z) (λv z=>by cases z)) (λx p he=>?_) λ_ _ hF=>hF.elim)));obtain⟨C,T,rfl,ό,E,g2⟩:=he;have ϋ:p.heap.IsListIter I l (j+1):=⟨Q,ό,a1,M⟩
  refine ga (ag (ge (ga (CmpOf.ints_lt (prog:=prog) (w:=w) (A:=A.in1) (P:=λ(i:Nat) v=>∃ t,v=Ck (if i=0 then C else a) t) (λi=>if i=0 then C else a) (λi v h=>h) 0 1 _ _ _ _ _ ⟨T,rfl⟩ ⟨tb,rfl⟩ ?_))));refine ga (ge (ie ?_));refine ga (Tr (za ?_));by_cases f:C<a
  ·have s1:=tj p.heap S (eh λ_=>#[v,Ck C T]);obtain⟨c2,a5⟩:∃ c2,(p.heap.update S (eh λ_=>#[v,Ck C T])).get? S=some (Sm "list" #[v,Ck C T] c2):=⟨_,lK E λ_=>#[v,Ck C T]⟩
   rw[ma f,ma f]at g2;simp only[f,decide_true,Yh,Yz,Rr];refine ga ?_;refine Ys E rfl (ga (Tr ?_));refine za ⟨Sj Sf _,ih (j+1) _ v C T c2 (by omega) L (u _ _ _ p _ _ g2 λb o n1 n2 e=>by rw[s1.2 b n2];exact e) a5 ⟨Q,(s1.2 I H.symm).trans ό,a1,M⟩⟩
  ·rw[ra f,ra f]at g2;simp only[f,decide_false,ew,Rr,Yh,Yz];refine ga (Tr ?_);exact za ⟨Sj Sf _,ih (j+1) _ d a tb c (by omega) L (u _ _ _ p _ _ g2 λb o _ _ e=>e) E ϋ⟩
def zt7(R:ba->Prop)(G:Addr->Addr->Nat->Value->Int->ba->Prop)(hh:A.handled=none)(g0:R s){f:List Value}(a6:f.length=n)(a5:∀ (j:Nat) v,f[j]?=some v->P j v)(h:s.heap.IsList l f.toArray)(H:0<n)
  (ό:∀ s h' tk,R s->(∀ b o,s.heap.get? b=some o->h'.get? b=some o)->R { s with heap:=h',toks:=tk })
  (first:∀ (I S:Addr) (s1:ba) v oI oS,s.heap.objs.size<=I->s.heap.objs.size<=S->S≠I->(∃ s0,R s0/\(∀ b o,b≠I->s0.heap.get? b=some o->s1.heap.get? b=some o)/\(s1={ s0 with heap:=s1.heap,toks:=s1.toks }))->P 0 v->s1.heap.get? I=some oI->s1.heap.get? S=some oS->(∀ v,oI.data≠.cell v)->(∀ v,oS.data≠.cell v)->
   wpAny (model prog w) A.in1 (call (jc q) [v]) (λx i=>∃ k t,x=Ck k t/\i.heap.get? I=some oI/\i.heap.get? S=some oS/\G I S 1 v k i) (λ_ _=>False) s1)
  (hl:∀ I S j c a s,G I S j c a s->∃ f:List Value,f.length=n/\(∀ (j:Nat) v,f[j]?=some v->P j v)/\s.heap.IsList l f.toArray)
  (D:∀ I S j c a s h' tk,G I S j c a s->(∀ b o,b≠I->b≠S->s.heap.get? b=some o->h'.get? b=some o)->G I S j c a { s with heap:=h',toks:=tk })
  (Qj:∀ I S j c a s v oI oS,G I S j c a s->P j v->s.heap.get? I=some oI->s.heap.get? S=some oS->(∀ v,oI.data≠.cell v)->(∀ v,oS.data≠.cell v)->
   wpAny (model prog w) A.in1 (call (jc q) [v]) (λx i=>∃ k t,x=Ck k t/\i.heap.get? I=some oI/\i.heap.get? S=some oS/\G I S (j+1) (if k<a then v else c) (if k<a then k else a) i) (λ_ _=>False) s)
  (hQ:∀ I S c a s,G I S n c a s->Q c s) :
  wpAny (model prog w) A (call (ϝ "min") [jc l] [(xu "key",jc q)]) Q E s:=by
 obtain⟨ol,a3,_⟩:=id h;have C:=Fa a3;refine kmk_tree PySem.F.kind_min PySem.F.plain_min PySem.F.entry_min (kmk_min_key _ _) ?_;refine ga (wpAny_of_eq (rfl) ?_);refine ga (za ?_);refine ga (wq h ?_);refine ga (FY ?_ (uv _));have X:(s.heap.push { cls:=ϙ "list_iterator",data:=ϫ #[jc l,Ck 0 0] }).objs.size=s.heap.objs.size+1:=size_push' ..;have B:=Wa C;have d:(s.heap.push { cls:=ϙ "list_iterator",data:=ϫ #[jc l,Ck 0 0] }).objs.size≠s.heap.objs.size:=by rw[X];exact vh (Vd _)
 have a1:l≠(s.heap.push { cls:=ϙ "list_iterator",data:=ϫ #[jc l,Ck 0 0] }).objs.size:=by rw[X];exact Wa (bj C)
 have r:s.heap.objs.size<=(s.heap.push { cls:=ϙ "list_iterator",data:=ϫ #[jc l,Ck 0 0] }).objs.size:=by rw[X];exact Sk _
 refine za ⟨Sj Sf _,?_⟩;have gI:((s.heap.push { cls:=ϙ "list_iterator",data:=ϫ #[jc l,Ck 0 0] }).push (Sm "list" #[] 0)).get? s.heap.objs.size=some { cls:=ϙ "list_iterator",data:=ϫ #[jc l,Ck 0 0] }:=
  ua _ (Db _ rfl)
 have gS:((s.heap.push { cls:=ϙ "list_iterator",data:=ϫ #[jc l,Ck 0 0] }).push (Sm "list" #[] 0)).get? (s.heap.push { cls:=ϙ "list_iterator",data:=ϫ #[jc l,Ck 0 0] }).objs.size=some (Sm "list" #[] 0):=Db _ rfl;have y:∀ b o,s.heap.get? b=some o->((s.heap.push { cls:=ϙ "list_iterator",data:=ϫ #[jc l,Ck 0 0] }).push (Sm "list" #[] 0)).get? b=some o:=λb o e=>ua _ (ua _ e);generalize (s.heap.push { cls:=ϙ "list_iterator",data:=ϫ #[jc l,Ck 0 0] }).objs.size=S at *;generalize ((s.heap.push { cls:=ϙ "list_iterator",data:=ϫ #[jc l,Ck 0 0] }).push (Sm "list" #[] 0))=hp at *;have W:=xq (prog:=prog) (w:=w) (A:=A.in1) hh s.heap.objs.size l B f.toArray;have a4:=(Da ..).trans a6;refine Gi mj ?_;refine ga (qu gS rfl ?_);refine ga (ag (W.item 0 _ _ _ (by rw[a4];exact H) ⟨⟨_,gI,rfl,rfl⟩,h.at λo e=>y _ _ e⟩ λv h' a7 hP L a0=>?_));have u:=λb o n e=>a0 b o (by simpa using n) e;have hv:=a5 0 v (by simpa using hP);obtain⟨N,J,a2,K⟩:=id L.1;have ϋ:=u S _ d gS;refine ga (ag (ge (Pc (first s.heap.objs.size S _ v N _ (Ea _) r d ⟨{ s with heap:=hp,toks:=s.toks },ό s hp _ g0 y,λb o n e=>u b o n e,rfl⟩ hv J ϋ (λv z=>by rw[K]at z;cases z) (λv z=>by cases z)) (λx m he=>?_) λ_ _ hF=>hF.elim)));obtain⟨M,ώ,rfl,V,p,g2⟩:=he;have s1:=tj m.heap S (eh λ_=>#[v,Ck M ώ]);obtain⟨T,ϊ⟩:∃ T,(m.heap.update S (eh λ_=>#[v,Ck M ώ])).get? S=some (Sm "list" #[v,Ck M ώ] T):=⟨_,lK p λ_=>#[v,Ck M ώ]⟩
 refine ga ?_;refine Ys p rfl ?_;exact za ⟨Sj Sf _,zn0 (G _ _) hh B d a1 (hl _ _) (D _ _) (Qj _ _) (λc a s g=>hQ _ _ c a s g) _ 1 _ v M ώ T rfl H (D _ _ _ _ _ m _ _ g2 λb o n1 n2 e=>by rw[s1.2 b n2];exact e) ϊ ⟨N,(s1.2 _ d.symm).trans V,a2,K⟩⟩
end
noncomputable def pF(X:Cx)(A:Za)(d:List Str)(b:Str)(a:Scope)(q:Addr)(c:Value)(cl:List (Str × Addr))(s₀:ba)(H₀:Hp):Cx:=
 { X with A:=A.deeper (W.envX b a s₀.heap.objs.size q c cl),N:=d,s₀:=s₀,H₀:=H₀,env:=W.envX b a s₀.heap.objs.size q c cl,outer:=X.stack,stack:=W.envX b a s₀.heap.objs.size q c cl::X.stack,ex:=[],fn:=λ_=>false,Lc:=true,pn:=[],xe:=λ_ _=>False }
noncomputable def NL(a:List Nat)(d:D)(b:Ev):Ev:=some d::a.map λi=>(b[i]?).getD none
noncomputable def aE(a:List Nat)(v:V)(b:St):St:=some v::a.map λi=>(b[i]?).getD none
def ycg(a:List Nat)(h:pi T b H ρ c)(e:Ua T b H d v):pi T b H (NL a d ρ) (aE a v c):=by
 have z:=(OR a h).set 0 e;exact z
section
variable{pins:List (Addr × Ad)}{st:St}{H:Hp}{s:ba}{x:Str}{M':List Str}{ix:List Nat}{scope:Scope}{A:Za}{qual:Str}{q:Addr}{cd:Value}{v:V}{u:Value}
def znn(I:Ab X pins st H s)(L:ip X x M' ix scope)(hx:scope.names.lookup x=some .local)(hA:A.frames=some X.stack)(M:A.handled=none)(rv:de v u)(P:h'.Ns s.heap.objs.size m)(hm:m x=some u)
  (E:∀ b o,s.heap.get? b=some o->h'.get? b=some o) :
  Ab (pF X A (x::M') qual scope q cd (wk X.env scope.names []) s H) [] (aE ix v st) H { s with heap:=h',toks:=t' }:=by
 have f:∀ n c,(wk X.env scope.names []).lookup n=some c->X.env.cells.lookup n=some c:=λn c e=>dM X.env scope.names [] n c (λ_ _ q=>by simp at q) e;have r:H s.heap.objs.size=none:=I.Qd.fresh (Ea _);have t:∀ b:Addr,b ∉ (pF X A (x::M') qual scope q cd (wk X.env scope.names []) s H).ex:=λb z=>absurd (show b∈[]from z) (by simp);refine⟨⟨I.ok.mod,L.kind,rfl,rfl,Ea _,λa b c h1 h2=>I.ok.inj a b c (f a c h1) (f b c h2),λa ha=>?_,λa c h=>(by cases h),λ_=>M,xt hA,ϖ ⟨rfl,rfl⟩,λb J=>absurd J (t b),λb o e=>I.bs b o e,Fb I.ok.Pt I.sz,λb o e=>t b,λb J=>absurd J (t b),I.stack,I.Hl⟩,
  rfl,I.bare,Un.kept E,⟨m,P,λi y C S T e3=>?_⟩,λa c e=>?_,r,λa c e=>I.lh a c (f a c e),λp hp=>absurd (show p∈[]from hp) (by simp),I.Qd.kept E,?_⟩
 ·have G:scope.names.lookup a=some Jd\/scope.names.lookup a=some Vb:=ha;rcases G with z|z
  ·exact absurd rfl (fG L _ (Qx z))
  ·exact OD X.env scope.names [] a (Qx z) (gA I L _ (Qx z) rfl)
 ·cases i with
  |zero=>
   have g:some x=some y:=S;have d:some (some v)=some (some C):=T;cases g;cases d;exact⟨u,rv,ϒ ⟨hx,hm⟩⟩
  |succ j=>
   have g:M'[j]?=some y:=S;have d:(ix.map λi=>(st[i]?).getD none)[j]?=some (some C):=T;rw[Ta]at d;cases F:ix[j]? with
   |none=>rw[F]at d;cases d
   |some B=>
    rw[F]at d;have D:(st[B]?).getD none=some C:=Yb d;have ϋ:st[B]?=some (some C):=by
     cases q:st[B]? with
     |none=>rw[q]at D;cases D
     |some o=>rw[q]at D;exact Dc some D
    have ϊ:X.N[B]?=some y:=by
     have z:=Dc (λl=>l[j]?) L.at_;simp only[Ta,F,g]at z;exact Yb z
    have q:=Pb.mp L.wQ y (La g);simp only[Na,fg]at q;have V:X.env.scope.names.lookup y=some Jd\/X.env.scope.names.lookup y=some Vb:=by
     rcases q.1 with z|z
     ·exact ϒ (eq_of_beq z)
     ·exact ϖ (eq_of_beq z)
    have R:scope.names.lookup y=some Vb:=eq_of_beq q.2;obtain⟨m0,a0,ώ⟩:=I.loc;obtain⟨u2,ru,lu⟩:=ώ B y C ϊ ϋ (by rcases V with z|z;exact ϖ (ϒ z);exact ϖ (ϖ z));refine⟨u2,ru,ϖ ⟨ϖ R,?_⟩⟩;rcases lu with⟨z,_⟩|⟨_,c,ec,zc⟩
    ·rcases V with k|k
     ·rw[show X.env.kindOf y=X.env.scope.names.lookup y from rfl,k]at z;cases z
     ·rw[show X.env.kindOf y=X.env.scope.names.lookup y from rfl,k]at z;cases z
    ·obtain⟨W,w⟩:=OD X.env scope.names [] y (Qx R) (gA I L _ (Qx R) rfl);have ό:=f y W w;rw[ec]at ό;cases ό;obtain⟨o,Q,K⟩:=zc;exact⟨c,w,o,E _ _ Q,K⟩
 ·obtain⟨v,o,Q,K⟩:=I.cell a c (f a c e);exact⟨v,o,E _ _ Q,K⟩
 ·have z:=Dc List.length L.at_;simp[aE,pF];simpa using z
def N8(I:Ab X pins st H s)(L:ip X x M' ix scope)(D:scope.names.lookup x=some .local)(N:A.frames=some X.stack)(p:A.handled=none)(n:A.depth<recursionLimit)
  (P:s.heap.get? q=some (ϳ d qual a c scope (wk X.env scope.names []) F h i)) (l:s.heap.CodeRec (jc h) qual)
  (f:bindArgs (W.kla_fn d qual a c scope (wk X.env scope.names []) F (jc h) i) ⟨[u],[]⟩=pure [(x,u)]) (m:scope.isCoroutine=false) (j:scope.isGenerator=false) (ό:de v u)
  (ώ:PE (pF X A (x::M') qual scope q (jc h) (wk X.env scope.names []) s H) c t) (S:t (aE ix v st) H Q) :
  wpAny (model X.prog X.w) A (call (jc q) [u]) (λr G=>CE X.stack X.prog X.w H s Q r G) (λ_ _=>False) s:=by
 refine Lp (W.kla_callFunE n P rfl m j rfl l ?_);rw[f];refine za (Mm (fG L) (λy T=>?_) (λE B k=>⟨?_,?_⟩) L.kind)
 ·have e:y=(x,u):=by simpa using T
  subst e;exact D
 ·exact(I.nolimit).fresh _ k
 ·have g:=λb o e=>k.extBut b o (Wa (Fa e)) (ua _ e);refine W.kla_codeExpr ?_;have M:=znn (qual:=qual) (q:=q) (cd:=jc h) (t':=s.toks+1) I L D N p ό B (by simp) g;refine Pc (ώ [] _ (aE ix v st) H Q M S) (λϋ G z=>?_) λ_ _ z=>z.elim;obtain⟨V,K,J,C,R⟩:=z;exact⟨V,K,J.os,J.bare,J.base,J.Qd,C,R⟩
end
noncomputable def pD(K:ϓ)(c P:Addr):Bool:=match K.lookup c with
 |some o=>(match o.cls,o.data with
  | ϙ n,ϫ a=>n == "code" && (match (a[11]?:Option Value)with|some (jc p)=>p == P|_=>false) && (match a.getD 11 Wc with | jc p=>p == P|_=>false) && (match a.getD 18 Wc with | .str _ _=>true|_=>false) &&
   (match a.getD 7 Wc with | Ck _ _=>true|_=>false) && (match a.getD 9 Wc with | .bool _=>true|_=>false) && (match a.getD 10 Wc with | Ck _ _=>true|_=>false) && (c != P)
  |_,_=>false)
 |none=>false
def F7{K:ϓ}(X:K.In h)(e:pD K c P=true):W.CodeHd h c P:=by
 unfold pD at e;split at e
 ·next o v=>
  split at e
  ·next n G t u=>
   simp only[Na]at e;obtain⟨⟨⟨⟨⟨⟨⟨j,a⟩,b⟩,d⟩,f⟩,g⟩,i⟩,k⟩:=e;split at a;case h_2=>cases a
   next H l=>
   split at b;case h_2=>cases b
   next I m=>
   split at d;case h_2=>cases d
   next z D p=>
   split at f;case h_2=>cases f
   next A E q=>
   split at g;case h_2=>cases g
   next B r=>
   split at i;case h_2=>cases i
   next C F s=>
   have x:=eq_of_beq a;have y:=eq_of_beq b;subst x;subst y;have w:=eq_of_beq j;subst w;exact⟨o,G,z,D,A,E,B,C,F,X _ _ v,t,u,l,m,p,q,r,s,by simpa using k⟩
  ·cases e
 ·cases e
def è(I:Ab X i E H s)(h:H P=some (.mo ps))(x:Heap.ExtBut P s.heap h')(m:s.heap.objs.size<=f)(N:f<h'.objs.size)
  (p:Iv d f h') (r:h'.get? P=some (W.tabObj (ps++a))) :
  Ab X i E (Nc (Nc H P (.mo (ps++a))) f (ϧ (Iv d f))) { s with heap:=h',toks:=tk }:=by
 have j:=I.Qd.fresh m;have B:f≠P:=λz=>by rw[z,h]at j;cases j
 have A:∀ b,H b=none->b≠P:=λb n z=>by rw[z,h]at n;cases n
 have w:∀ b u,H b=some u->b≠P->Nc (Nc H P (.mo (ps++a))) f (ϧ (Iv d f)) b=some u:=λb u e n=>by
  rw[we (ur e j),we n];exact e
 have Q:Nc (Nc H P (.mo (ps++a))) f (ϧ (Iv d f)) P=some (.mo (ps++a)):=by rw[we B.symm,Ih]
 refine I.un ⟨λb o e n _ _=>x b o (A b n) e,λb o e n _ _=>⟨o.slots,x b o (A b n) e⟩,λb o e n _=>?_,λb o e _=>?_,λb xs e=>w b _ e (λz=>by rw[z,h]at e;cases e),λb o u e=>w b _ e (λz=>by rw[z,h]at e;cases e),λb S e=>?_⟩ λb u e=>?_
 ·have:b≠f:=λz=>by subst z;exact absurd (Fa e) (px.mpr m)
  rw[we this,we (A b n)];exact n
 ·by_cases g:b=P
  ·subst g;exact⟨_,r⟩
  ·exact⟨o,x b o g e⟩
 ·by_cases g:b=P
  ·subst g;rw[h]at e;cases e;exact⟨a,Q⟩
  ·exact⟨#[],by rw[Array.append_empty];exact w b _ e g⟩
 ·by_cases l:b=f
  ·subst l;rw[Ih]at e;cases e;obtain⟨o,R,t,D,K,L⟩:=p;exact⟨⟨o,R,t,D,K,L⟩,⟨o,D⟩,λa1 a2 ⟨ώ,C,t',F,G,J⟩ k=>⟨ώ,C,t',k _ F,G,J⟩⟩
  ·rw[we l]at e;by_cases g:b=P
   ·subst g;rw[Ih]at e;cases e;exact r
   ·rw[we g]at e;refine(I.Qd b u e).Rl (λc v M q=>x c v ?_ q) (λc q=>w c _ q (λz=>by rw[z,h]at q;cases q)) λc xs q=>w c _ q (λz=>by rw[z,h]at q;cases q);rcases M with z|z
    ·rw[z];exact g
    ·intro y;rw[y,h]at z;cases z
section
variable{pins:List (Addr × Ad)}{st:St}{H:Hp}{s:ba}{μ:List Addr}{σ:lb}{x:Str}{M':List Str}{ix:List Nat}{scope:Scope}{params:Arguments}{body:Ya}{pos:Re}{c:Addr}{t:Tab}
structure zz(T:Tb)(X:Cx)(t:Tab)(c:Addr)(pos:Re):Prop where
 mem:t∈T.tx.qr
 inj:∀ t'∈T.tx.qr,t'.P=t.P->t'=t
 code:X.env.code=jc c
 hd:pD X.K c t.P=true
 line:t.line=pos.line
 col:t.col=pos.col
 qual:t.qual=X.env.qual++"<lambda>"
 bm:X.mg "__builtins__" = some (jc T.tx.bm)
 bb:T.tx.bm≠builtinsNs
def Ă(I:Ab X pins st H s)(L:ip X x M' ix scope)(r:je T μ H σ)(g:zz T X t c pos)(M:defaultsOf params X.env=([],[])) :
  wpAny (model X.prog X.w) X.A (Ec (.Lambda params body scope pos) X.env) (λv s'=>∃ q d i B,v=jc q/\Ab X ((q,ϳ "<lambda>" t.qual params body scope (wk X.env scope.names []) ((X.mg "__name__").getD Wc) d i)::pins) st B s'/\Ge μ H μ B/\je T μ B σ/\d ∉ μ/\B d=some (ϧ (Iv t.qual d))) X.xe s:=by
 obtain⟨⟨b3,b5,V⟩,ό,ps,E,a9⟩:=r.tb t g.mem;have j:s.heap.get? t.P=some (W.tabObj ps):=I.Qd _ _ E;have l:s.heap.Ns mainGlobals X.mg:=I.ok.mod.glob.keeps I.bk;have a7:mainGlobals≠t.P:=λz=>by
  obtain⟨o,es,ep,e,hd,_⟩:=l;rw[z,j]at e;cases e;cases hd
 obtain⟨_,⟨ob,S,o2,o3,o4⟩,_⟩:=I.Qd _ _ V;have G:T.tx.bm≠t.P:=λz=>by rw[z,j]at S;cases S;cases o2
 have ϋ:T.tx.bm≠mainGlobals:=λz=>by
  obtain⟨o,es,ep,e,hd,_⟩:=l;rw[z,e]at S;cases S;rw[hd]at o4;cases o4
 have hB:s.heap.BuiltinsAt X.mg t.P:=⟨T.tx.bm,ob,g.bm,g.bb,ϋ,G,S,o2,o3,o4⟩
 have K:=UL X.env scope (gA I L);have C:W.CodeHd s.heap c t.P:=(F7 I.ok.mod.Cz g.hd).keeps I.bk;have f:∀ {h':Heap} {y:Nat} {B:Hp} {o:Ad},Ab X pins st B { s with heap:=h',toks:=y }->o.isFreed=false->(∀ v,o.data≠.cell v)->Ab X ((h'.objs.size,o)::pins) st B { s with heap:=h'.push o,toks:=y }:=fun {h' y B o} J hf hc=>by
  have J2:=J.kept (h':=h'.push o) (t':=y) λb u e=>ua _ e;refine J2.Wj λp m=>?_;rcases Ma.mp m with rfl|m
  ·exact⟨Db _ hf,J.Qd.fresh (Ea _),vh J.lt,J.JD (Ea _),hc⟩
  ·exact J2.pin p (xb _ m)
 refine W.kla_eval M ?_;rw[<-g.qual];rcases a9 with rfl|⟨c1,rfl,ϊ,a0⟩
 ·refine W.kla_makeFunction K I.ok.glob l g.code C j trivial rfl a7 hB λd i h' y hx N a8 ώ b0=>?_;have a6:Iv t.qual d h':=by
   obtain⟨c2,o,vs,tt,e,h1,h2,h3⟩:=ώ;cases e;exact⟨o,vs,tt,h1,h2,h3⟩
  have J:=è (tk:=y) I E hx N a8 a6 b0;have k:H d=none:=I.Qd.fresh N;have b1:d≠t.P:=λz=>by rw[z,E]at k;cases k
  have D:d ∉ μ:=λz=>by obtain⟨u,R,_⟩:=r.mem z;rw[k]at R;cases R
  have F:∀ b u,H b=some u->b≠t.P->Nc (Nc H t.P (.mo (#[]++#[Tf pos.line,Tf pos.col,jc d]))) d (ϧ (Iv t.qual d)) b=some u:=λb u e n=>by
   rw[we (ur e k),we n];exact e
  have uP:Nc (Nc H t.P (.mo (#[]++#[Tf pos.line,Tf pos.col,jc d]))) d (ϧ (Iv t.qual d)) t.P=some (.mo (#[]++#[Tf pos.line,Tf pos.col,jc d])):=by rw[we b1.symm,Ih]
  have uc:Nc (Nc H t.P (.mo (#[]++#[Tf pos.line,Tf pos.col,jc d]))) d (ϧ (Iv t.qual d)) d=some (ϧ (Iv t.qual d)):=Ih;have e:Ge μ H μ (Nc (Nc H t.P (.mo (#[]++#[Tf pos.line,Tf pos.col,jc d]))) d (ϧ (Iv t.qual d))):=by
   refine⟨⟨[],by simp⟩,λp xs h=>F p _ h (λz=>by rw[z,E]at h;cases h),λp o u h=>F p _ h (λz=>by rw[z,E]at h;cases h),λp o h n=>⟨?_,n⟩⟩;by_cases m:p=t.P
   ·subst m;rw[E]at h;cases h;exact⟨_,uP,ϖ (ϖ ⟨_,_,rfl,rfl⟩)⟩
   ·exact⟨o,F p o h m,ϒ rfl⟩
  refine⟨_,d,i,_,rfl,f J rfl (λv z=>by cases z),e,r.keep e (λa ha=>?_) λt' Q=>?_,D,uc⟩
  ·obtain⟨u,R,_⟩:=r.mem ha;rw[R];exact F a u R λz=>ό (by rw[<-z];exact ha)
  ·obtain⟨⟨a1,b2,a2⟩,a3,qs,a4,a5⟩:=r.tb t' Q;refine⟨⟨a1,b2,F _ _ a2 G⟩,a3,?_⟩;by_cases m:t'.P=t.P
   ·have et:=g.inj t' Q m;subst et;exact⟨_,uP,ϖ ⟨d,by rw[g.line,g.col];rfl,D,uc⟩⟩
   ·refine⟨qs,F _ _ a4 m,a5.imp id λ⟨c3,z1,z2,z3⟩=>⟨c3,z1,z2,F _ _ z3 (λz=>by rw[z,E]at z3;cases z3)⟩⟩
 ·refine W.kla_makeFunctionHit (cv:=jc c1) K I.ok.glob l g.code C j ?_ ?_ hB λi h' y hk b4=>?_
  ·exact trivial
  ·rw[g.line,g.col];simp[codeAmong,Tf]
  ·have J:=I.kept (h':=h') (t':=y) hk;exact⟨_,c1,i,H,rfl,f J rfl (λv z=>by cases z),ϯ _ _,r,ϊ,a0⟩
end
def Py(a:Ev->M D)(rest:Ev):List D->D->Int->M D
 |[],b,_=>ret b
 |d::ds,b,c=>be (Yp (a (some d::rest))) λk=>match k with
  | Z k=>if k<c then Py a rest ds d k else Py a rest ds b c
  |_=>cc
def RA(a:Ev->M D)(rest:Ev)(b:List D):M D:=match b with
 |[O (x::xs)]=>be (Yp (a (some x::rest))) λk=>match k with
  | Z k=>Py a rest xs x k
  |_=>cc
 |_=>cc
def NI(d:List Nat)(b:Ev->M D)(c:Ev->M (List D)):Ev->M D:=λa=>be (c a) (RA b (d.map λi=>(a[i]?).getD none))
def RP(I:Ab X a t H s)(k:∀ b o,b≠i->b≠j->s.heap.get? b=some o->h'.get? b=some o)(g:Kn X a H i)(l:Kn X a H j):Ab X a t H { s with heap:=h',toks:=t' }:=by
 have f:∀ b u,H b=some u->b≠i/\b≠j:=λb u e=>⟨(λz=>by rw[z,g.1]at e;cases e),(λz=>by rw[z,l.1]at e;cases e)⟩
 have p:∀ {b:Addr},b ∉ [i,j]->b≠i/\b≠j:=fun {b} h=>⟨λz=>h (by simp[z]),λz=>h (by simp[z])⟩
 refine I.step (λb y=>?_) (λb o _ _ d e _=>k b o (p d).1 (p d).2 e) (λb o _ _ d e _=>⟨o.slots,k b o (p d).1 (p d).2 e⟩) (λ_ _ _ _ n=>n)
  (λb o d e=>⟨o,k b o (p d).1 (p d).2 e⟩) (λ_ _ e=>e) (λ_ _ _ e=>e) (λb ps e=>⟨#[],by rw[e];simp⟩) (λm A=>?_) (λb u e=>?_) I.bare
 ·have e:b=i\/b=j:=by simpa using y
  rcases e with rfl|rfl
  ·exact⟨g.2.2.2.1,g.2.1,g.2.2.2.2.1,g.2.2.2.2.2⟩
  ·exact⟨l.2.2.2.1,l.2.1,l.2.2.2.2.1,l.2.2.2.2.2⟩
 ·obtain⟨o,x,w,B,r⟩:=A;exact⟨o,x,w,k _ o (yf g.2.1) (yf l.2.1) B,r⟩
 ·refine(I.Qd b u e).Rl (λc v d q=>?_) (λ_ q=>q) λ_ _ q=>q;rcases d with z|z
  ·rw[z]at q ⊢;exact k b v (f b u e).1 (f b u e).2 q
  ·exact k c v (f c _ z).1 (f c _ z).2 q
def gX
  (ό:pe (k+2) X.A) (L:ip X x M' ix f) (hx:f.names.lookup x=some .local) (Lm:zz T X t c b3) (hg:Gl X "min") (hm:X.mg "min" = none)
  (c5:defaultsOf l X.env=([],[])) (d5:f.isCoroutine=false) (c6:f.isGenerator=false)
  (b8:∀ (cl:List (Str × Addr)) (pm cd ώ u:Value),bindArgs (W.kla_fn "<lambda>" t.qual l F f cl pm cd ώ) ⟨[u],[]⟩=pure [(x,u)])
  (ha:FA T X [e] fs)
  (hb:∀ (A:Za) (q:Addr) (cd:Value) (b4:ba) (c2:Hp),pe k (A.deeper (W.envX t.qual f b4.heap.objs.size q cd (wk X.env f.names [])))->FE T (pF X A (x::M') t.qual f q cd (wk X.env f.names []) b4 c2) F fe)
  (he:Cd a6 (ya [e] X.env)=(false,Ec e X.env)::Cd a6 (ya [] X.env):=by rfl)
  (b0:(Cd a6 (ya [e] X.env)).any (·.1)=false:=by rfl) :
  FE T X (ϣ (ϟ "min" p) [e] [⟨some "key",.Lambda l F f b3,kp⟩] a6) (NI ix fe fs):=by
 intro m s ϊ H Q I h;refine wg (Ny I hg hm (show bootBuiltins "min" = some (ϝ "min")from rfl) ?_);obtain⟨μ,ρ,σ,hE,hr,hp⟩:=h;refine callWith_kw (Le (ha a6 m s ϊ H (λvs H1=>∃ K a9 ds,Ge μ H K H1/\je T K H1 a9/\Ub T K H1 ds vs/\Jc T (XE X ϊ) (Ua T) K H1 (RA fe (ix.map λi=>(ρ[i]?).getD none) ds a9) Q) I ⟨μ,ρ,σ,hE,hr,hp.bind λds a9 K vs H1 _ e1 r1 q1 p1=>⟨K,a9,ds,e1,r1,q1,p1⟩⟩) λus s1 ⟨vs,H1,I1,rv,K,a9,ds,e1,r1,q1,p1⟩=>kws_cons (Le (Ă I1 L r1 Lm c5) λlv s2 ⟨q,c',ώ,H2,c9,I2,e2,r2,d2,d3⟩=>kws_nil ?_)) he b0;subst c9;show wpAny _ _ (call (ϝ "min") us [(xu "key",jc q)]) _ _ _;have d0:pi T K H2 ρ ϊ:=(hE.mono e1).mono e2;generalize c0:(ix.map λi=>(ρ[i]?).getD none)=rest at *;obtain⟨x0,xs,rfl⟩:∃ x0 xs,ds=[O (x0::xs)]:=by
  unfold RA at p1;split at p1
  ·exact⟨_,_,rfl⟩
  ·exact p1.elim
 rw[Ub]at q1;obtain⟨v0,rr,rfl,q2,q3⟩:=q1;rw[Ub]at q3;subst q3;obtain⟨a,ws,rfl,c4,d1,d7⟩:=q2;obtain⟨u0,rfl,d9⟩:=Pe.one rv;obtain rfl:u0=jc a:=d9;have p2:=Jc.mono e2 p1;have b2:H2 a=some (ϰ ws):=(e2.pj _ _ d1 c4).1;have a5:Ub T K H2 (x0::xs) ws:=Ub.mono e2 _ _ d7;have a3:(x0::xs).length=ws.length:=a5.length;have wa:∀ {G:Hp} {ϋ:ba} {pn:List (Addr × Ad)},Ab X pn ϊ G ϋ->G a=some (ϰ ws)->∃ its:List Value,its.length=ws.length/\(∀ (j:Nat) v,its[j]?=some v->∃ w,ws[j]?=some w/\de w v)/\ϋ.heap.IsList a its.toArray:=fun {G ϋ pn} J z=>by
  obtain⟨_,its,n,rv,ho⟩:=J.Qd _ _ z;refine⟨its,rv.length.symm,λj v hv=>?_,⟨_,ho,rfl,⟨_,rfl⟩⟩⟩;have hj:j<ws.length:=by rw[rv.length];exact(aa.mp hv).1
  obtain⟨u,hu,ru⟩:=rv.get (i:=j) (x:=ws[j]) (by simp[hj]);rw[hv]at hu;cases hu;exact⟨ws[j],by simp[hj],ru⟩
 have c8:∀ {E:List Addr} {G:Hp} {N:lb} {ϋ:ba} {d:D} {w:V} {v:Value} {I S:Addr} {oI oS:Ad} {kk:Int->M D},Ab X ((q,ϳ "<lambda>" t.qual l F f (wk X.env f.names []) ((X.mg "__name__").getD Wc) c' ώ)::m) ϊ G ϋ->Ge K H2 E G->je T E G N->Ua T E G d w->de w v->
   Kn X ((q,ϳ "<lambda>" t.qual l F f (wk X.env f.names []) ((X.mg "__name__").getD Wc) c' ώ)::m) G I->Kn X ((q,ϳ "<lambda>" t.qual l F f (wk X.env f.names []) ((X.mg "__name__").getD Wc) c' ώ)::m) G S->
   ϋ.heap.get? I=some oI->ϋ.heap.get? S=some oS->(∀ v,oI.data≠.cell v)->(∀ v,oS.data≠.cell v)->
   Jc T (XE X ϊ) (Ua T) E G (be (Yp (fe (some d::rest))) (λk=>match k with | Z k=>kk k|_=>cc) N) Q->
   wpAny (model X.prog X.w) X.A.in1 (call (jc q) [v]) (λy a8=>∃ k t',y=Ck k t'/\a8.heap.get? I=some oI/\a8.heap.get? S=some oS/\∃ r C B,Ab X ((q,ϳ "<lambda>" t.qual l F f (wk X.env f.names []) ((X.mg "__name__").getD Wc) c' ώ)::m) ϊ C a8/\Ge E G r C/\je T r C B/\
    Kn X ((q,ϳ "<lambda>" t.qual l F f (wk X.env f.names []) ((X.mg "__name__").getD Wc) c' ώ)::m) C I/\Kn X ((q,ϳ "<lambda>" t.qual l F f (wk X.env f.names []) ((X.mg "__name__").getD Wc) c' ώ)::m) C S/\Jc T (XE X ϊ) (Ua T) r C (kk k B) Q) (λ_ _=>False) ϋ:=by
  intro E G N ϋ d w v I S oI oS kk J ex r' rd e0 fI fS gI gS cI cS po;generalize c7:ϳ "<lambda>" t.qual l F f (wk X.env f.names []) ((X.mg "__name__").getD Wc) c' ώ=ob at *;have b9:ϋ.heap.CodeRec (jc c') t.qual:=by
   obtain⟨⟨o,e3,tt,h1,h2,h3⟩,_⟩:=J.Qd _ _ (ex.pj _ _ d3 d2).1;exact⟨c',o,e3,tt,rfl,h1,h2,h3⟩
  have hq:=(J.pin (q,ob) (xb _ (.head _))).1;have J2:Ab X ((I,oI)::(S,oS)::(q,ob)::m) ϊ G ϋ:=J.Wj λp hp=>by
   rcases Ma.mp hp with rfl|hp
   ·exact⟨gI,fI.1,fI.2.1,fI.2.2.1,cI⟩
   ·rcases Ma.mp hp with rfl|hp
    ·exact⟨gS,fS.1,fS.2.1,fS.2.2.1,cS⟩
    ·exact J.pin p (xb _ hp)
  have hd:X.A.in1.handled=none:=ό.hd;refine Pc (N8 (A:=X.A.in1) (t:=tF T _ fe) (v:=w) (Q:=λy C=>∃ k r B,y=ϡ k/\Ge E G r C/\je T r C B/\Jc T (XE X ϊ) (Ua T) r C (kk k B) Q) J2 L hx J.ok.frames hd (pe.in1 ό).depth (by rw[<-c7]at hq;exact hq) b9 (b8 _ _ _ _ _) d5 c6 e0 (hb _ _ _ _ _ ((pe.in1 ό).deeper _)) ⟨E,NL ix d ρ,N,ycg ix (d0.mono ex) rd,r',?_⟩) (λy a8 d4=>?_) λ_ _ z=>z
  ·unfold NL;rw[c0];refine po.yw λy B r g C _ b5 c1 d8 b1=>?_;cases y with
   |int k=>
    exact⟨k,r,B,d8,b5,c1,b1⟩
   |_=>exact b1.elim
  ·obtain⟨yv,C,J3,ry,k,r,B,rfl,b5,c1,b1⟩:=J2.after d4;obtain⟨t',rfl⟩:=ry;have pI:=J3.pin (I,oI) (xb _ (.head _));have pS:=J3.pin (S,oS) (xb _ (.tail _ (.head _)));have J4:Ab X ((q,ob)::m) ϊ C a8:=J3.Wj λp hp=>J3.pin p (xb _ (.tail _ (.tail _ hp)));exact⟨k,t',rfl,pI.1,pS.1,r,C,B,J4,b5,c1,⟨pI.2.1,fI.2⟩,⟨pS.2.1,fS.2⟩,b1⟩
 obtain⟨its,hn,hP,d6⟩:=wa I2 b2;generalize c7:ϳ "<lambda>" t.qual l F f (wk X.env f.names []) ((X.mg "__name__").getD Wc) c' ώ=ob at *;refine zt7 (n:=ws.length) (P:=λj v=>∃ w,ws[j]?=some w/\de w v) (λϋ=>Ab X ((q,ob)::m) ϊ H2 ϋ)
  (λI S j vb kb ϋ=>Kn X ((q,ob)::m) H2 I/\Kn X ((q,ob)::m) H2 S/\∃ E G N b wb,Ab X ((q,ob)::m) ϊ G ϋ/\Ge K H2 E G/\je T E G N/\Ua T E G b wb/\de wb vb/\Kn X ((q,ob)::m) G I/\Kn X ((q,ob)::m) G S/\Jc T (XE X ϊ) (Ua T) E G (Py fe rest ((x0::xs).drop j) b kb N) Q)
  ό.hd I2 hn hP d6 (by rw[<-a3];simp) (λs0 h' tk g k=>g.kept k) ?_ ?_ ?_ ?_ ?_
 ·
  intro I S s3 v oI oS hI hS e5 ⟨s0,g0,hk,es⟩ ⟨w,hw,a7⟩ gI gS cI cS;have fI:Kn X ((q,ob)::m) H2 I:=I2.Yr hI (I2.Qd.fresh hI);have fS:Kn X ((q,ob)::m) H2 S:=I2.Yr hS (I2.Qd.fresh hS);have J:Ab X ((q,ob)::m) ϊ H2 s3:=by
   rw[es];exact RP g0 (λb o n _ e=>hk b o n e) fI fS
  have rd:∃ w',ws[0]?=some w'/\Ua T K H2 x0 w':=a5.get (i:=0) rfl;obtain⟨w',a4,rd⟩:=rd;rw[hw]at a4;cases a4;refine Pc (c8 (kk:=λk=>Py fe rest xs x0 k) J (ϯ _ _) r2 rd a7 fI fS gI gS cI cS p2) (λy s4 z=>?_) λ_ _ z=>z;obtain⟨k,t',rfl,b6,b7,r,C,B,J4,e4,r4,f1,f2,p4⟩:=z;exact⟨k,t',rfl,b6,b7,fI,fS,r,C,B,x0,w,J4,e4,r4,Ua.mono e4 _ _ rd,a7,f1,f2,p4⟩
 ·intro I S j vb kb ϋ ⟨_,_,E,G,N,b,wb,J,ex,r',rb,a0,f1,f2,p'⟩;exact wa J (ex.pj _ _ b2 c4).1
 ·intro I S j vb kb ϋ h' tk ⟨a1,a2,E,G,N,b,wb,J,ex,r',rb,a0,f1,f2,p'⟩ k;exact⟨a1,a2,E,G,N,b,wb,RP J k f1 f2,ex,r',rb,a0,f1,f2,p'⟩
 ·intro I S j vb kb ϋ v oI oS ⟨a1,a2,E,G,N,b,wb,J,ex,r',rb,a0,f1,f2,p'⟩ ⟨w,hw,a7⟩ gI gS cI cS;have hj:j<(x0::xs).length:=by rw[a3];exact(aa.mp hw).1
  obtain⟨w',a4,rd⟩:=a5.get (i:=j) (d:=(x0::xs)[j]) (by rw[Pd hj]);rw[hw]at a4;cases a4;rw[Ig hj]at p';generalize (x0::xs)[j]=d at *;generalize e6:(x0::xs).drop (j+1)=c3 at *;refine Pc (c8 (kk:=λk=>if k<kb then Py fe rest c3 d k else Py fe rest c3 b kb) J ex r' (Ua.mono ex _ _ rd) a7 f1 f2 gI gS cI cS p') (λy s4 z=>?_) λ_ _ z=>z;obtain⟨k,t',rfl,b6,b7,r,C,B,J4,e4,r4,f3,f4,p4⟩:=z;refine⟨k,t',rfl,b6,b7,a1,a2,r,C,B,?_⟩;by_cases hk:k<kb
  ·rw[ma hk]at p4;rw[ma hk,ma hk];exact⟨d,w,J4,ex.trans e4,r4,Ua.mono (ex.trans e4) _ _ rd,a7,f3,f4,p4⟩
  ·rw[ra hk]at p4;rw[ra hk,ra hk];exact⟨b,wb,J4,ex.trans e4,r4,Ua.mono e4 _ _ rb,a0,f3,f4,p4⟩
 ·intro I S vb kb ϋ ⟨_,_,E,G,N,b,wb,J,ex,r',rb,a0,f1,f2,p'⟩;rw[<-a3,List.drop_length]at p';have q':Q wb G:=Jc.here (R:=Ua T) p' r' rb;exact⟨wb,G,J.Wj (λp hp=>J.pin p (xb _ (.tail _ hp))),a0,q'⟩
noncomputable def yz(K:ϓ)(x:Str):Addr:=((W.tabIn K x).getD (0,0)).1
noncomputable def Iy(K:ϓ)(x:Str):Addr:=((W.tabIn K x).getD (0,0)).2
noncomputable def Gz(K:ϓ):Addr:=match W.nsIn K mainGlobals "__builtins__" with
 |some (some (jc a))=>a
 |_=>0
theorem X2{K:ϓ}(h:(W.tabIn K x).isSome=true):W.tabIn K x=some (yz K x,Iy K x):=by
 unfold yz Iy;cases e:W.tabIn K x with
 |none=>rw[e]at h;cases h
 |some p=>rfl
def YK(K:ϓ)(xs:List Str):Bool:=
 W.noTabs K && (match W.nsIn K mainGlobals "__builtins__" with
  |some (some (jc a))=>(K.lookup a).isNone && (a != builtinsNs)
  |_=>false) && xs.all λx=>(W.tabIn K x).isSome && pD K (yz K x) (Iy K x)
structure Ay(K:ϓ)(xs:List Str):Prop where
 no:W.noTabs K=true
 bm:W.nsIn K mainGlobals "__builtins__" = some (some (jc (Gz K)))
 bk:K.lookup (Gz K)=none
 bb:Gz K≠builtinsNs
 tab:∀ x∈xs,W.tabIn K x=some (yz K x,Iy K x)
 hd:∀ x∈xs,pD K (yz K x) (Iy K x)=true
def Ť{K:ϓ}{xs:List Str}(h:YK K xs=true):Ay K xs:=by
 unfold YK at h;rw[Na,Na]at h;obtain⟨⟨g,b⟩,e⟩:=h;split at b
 ·next a f=>
  have c:Gz K=a:=by unfold Gz;rw[f]
  rw[Na]at b;refine⟨g,by rw[c];exact f,by rw[c];exact Option.isNone_iff_eq_none.mp b.1,by rw[c];simpa using b.2,λx d=>?_,λx d=>?_⟩
  ·have z:=Pb.mp e x d;rw[Na]at z;exact X2 z.1
  ·have z:=Pb.mp e x d;rw[Na]at z;exact z.2
 ·cases b
def aI(K:ϓ)(d:Str->Option Value)(x:Str)(e:Stmt)(c:List Str):Prop:=
 ∃ f a,d x=some (jc f)/\Pz K x x e f a/\(∀ b:List Value,b.length=c.length->bindArgs a ⟨b,[]⟩=pure (c.zip b))/\a.code=jc (yz K x)
def R9{K:ϓ}{c xs:List Str}(X:K.In h)(G:h.Ns mainGlobals a)(i:Cg K a x d c)(l:Ay K xs)(m:x∈xs):aI K a x d c:=by
 obtain⟨f,p,b,F,j⟩:=i;obtain⟨q,r,kV,g,s,o,e,ct,n,rfl,lk,k⟩:=F.ex;exact⟨f,_,b,F,j,W.law_code X G (l.tab x m) b (X _ _ lk) rfl⟩
def XX{K:ϓ}(h:aI K j x c ps)(S:Ba N ps (jd c))
  (o:∀ (f:Addr) (A:Za) (b:List zh) (s:ba) (H:Hp) (E:XK),pe k (A.deeper (Og x (jd c) s.heap.objs.size f (jc (yz K x))))->um ⟨K,l,tx⟩ (Gq (Yl P w) P w K j a N x (jd c) f (jc (yz K x)) A b s H E) (Uj c) g) :
  Se ⟨K,l,tx⟩ P w j a (k+1) x ps (ae N.length g):=by
 obtain⟨f,u,q,F,d,p⟩:=h;obtain⟨v,y,kV,n,z,t,m,ct,r,rfl,lk,i⟩:=F.ex;have e:=p;subst e;exact⟨f,_,q,F.kp,d,DC lk i S (o f)⟩
def zno{K:ϓ}
  (KX:K.In f.heap) (a9:f.heap.Ns mainGlobals mg) (B:f.heap.Ns builtinsNs mb) (a5:∀ x:Str,x ≠ "__name__"->mb x=bootBuiltins x) (ϊ:f.heap.NoLimit) (hg:f.gens=#[])
  (G:f.heap.get? a=some { cls:=ϙ "list",data:=Ϩ J.toArray }) (hi:zq J ns) (hl:ns.length<=63) (hr:pe k Aq)
  (hK:W.noTabs K=true) (j:f.heap.get? tx.bm=some ob) (X:ob.cls=ϙ "module") (a6:ob.dict=some builtinsNs) (ώ:ob.data=.plain) (a4:K.lookup tx.bm=none)
  (ό:∀ t∈tx.qr,∃ c,W.CodeHd f.heap c t.P/\f.heap.get? t.P=some (W.tabObj #[]))
  (F:∀ T:Heap,Ai P w K mg T (Yl P w) k fa fd [x] (lr ⟨K,ca,tx⟩ 1 fn)) (N:∀ (s:ba) (u:Value),Fh s fd ⟨[u],[]⟩ [(x,u)])
  (tr:∀ ns:List Int,ns.length<=63->∃ σ,fn [ϱ ns] []=Y (ϐ true) σ) :
  codeAny (model P w) Aq (.call (jc fa) ⟨[jc a],[]⟩) (λr A=>r=.ok (.ret (.bool true))/\OldK f.heap A.heap/\A.os=f.os/\Yi A.gens) f:=by
 have rv:=XJ hi;have a0:=hi.length;have ϋ:ns.length<=sizeLine:=Fb hl (by decide);have C:∀ L:Bool,(L=true->K.lookup a=none)->(L=false->K.lookup a=some { cls:=ϙ "list",data:=Ϩ J.toArray })->
   codeAny (model P w) Aq (.call (jc fa) ⟨[jc a],[]⟩) (λr A=>r=.ok (.ret (.bool true))/\OldK f.heap A.heap/\A.os=f.os/\Yi A.gens) f:=by
  intro L a7 a8;obtain⟨H,c1,c2,c3,c4⟩:∃ H:Hp,(∀ t∈tx.qr,H t.P=some (.mo #[]))/\(H tx.bm=some (ϩ ob (ϧ (qH tx.bm))))/\(L=true->H a=some (ϩ { cls:=ϙ "list",data:=Ϩ J.toArray } (ϰ (ns.map ϡ))))/\
    ∀ b u,H b=some u->(u=.mo #[]/\∃ t∈tx.qr,b=t.P)\/(b=tx.bm/\u=ϩ ob (ϧ (qH tx.bm)))\/(b=a/\L=true/\u=ϩ { cls:=ϙ "list",data:=Ϩ J.toArray } (ϰ (ns.map ϡ))):=by
   refine⟨λb=>if b=tx.bm then some (ϩ ob (ϧ (qH tx.bm)))else if b=a then (if L=true then some (ϩ { cls:=ϙ "list",data:=Ϩ J.toArray } (ϰ (ns.map ϡ)))else none)else if b∈tx.qr.map (·.P)then some (.mo #[])else none,λt g=>?_,ma rfl,λh=>?_,λb u e=>?_⟩
   ·obtain⟨c,_,l⟩:=ό t g;have n1:t.P≠tx.bm:=λz=>by rw[z,j]at l;cases l;cases X
    have n2:t.P≠a:=λz=>by rw[z,G]at l;cases l
    dsimp only;rw[ra n1,ra n2,ma (va.mpr ⟨t,g,rfl⟩)]
   ·have n1:a≠tx.bm:=λz=>by rw[z,j]at G;cases G;cases ώ
    dsimp only;rw[ra n1,ma rfl,ma h]
   ·dsimp only at e;split at e
    ·next a2=>cases e;exact ϖ (ϒ ⟨a2,rfl⟩)
    ·split at e
     ·next a3=>
      split at e
      ·next h=>cases e;exact ϖ (ϖ ⟨a3,h,rfl⟩)
      ·cases e
     ·split at e
      ·next hm=>cases e;obtain⟨t,g,rfl⟩:=va.mp hm;exact ϒ ⟨rfl,t,g,rfl⟩
      ·cases e
  have b0:xj P w H f.heap:=λb u e=>by
   rcases c4 b u e with⟨rfl,t,g,rfl⟩|⟨rfl,rfl⟩|⟨rfl,_,rfl⟩
   ·obtain⟨c,_,l⟩:=ό t g;exact l
   ·exact⟨j,⟨ob,j,X,a6,ώ⟩,⟨ob,j⟩,λh1 h2 ⟨o,e1,E⟩ k=>⟨o,k _ e1,E⟩⟩
   ·exact⟨G,by rw[Sa];exact ϋ,J,_,rv,G⟩
  have i:∀ {b:Addr} {o:Ad},f.heap.get? b=some o->H b=none->(kz f.heap H).get? b=some o:=λe n=>zs2 e n;have b2:∀ {b:Addr} {o:Ad} {es:Array DictEntry} {ep:Nat},f.heap.get? b=some o->o.data=.dict es ep->H b=none:=fun {b o es ep} e d=>by
   cases q:H b with
   |none=>rfl
   |some u=>
    rcases c4 b u q with⟨_,t,g,rfl⟩|⟨rfl,_⟩|⟨rfl,_,_⟩
    ·obtain⟨c,_,l⟩:=ό t g;rw[l]at e;cases e;cases d
    ·rw[j]at e;cases e;rw[ώ]at d;cases d
    ·rw[G]at e;cases e;cases d
  have R:∀ {b:Addr} {m:Str->Option Value},f.heap.Ns b m->(kz f.heap H).Ns b m:=fun {b m} ⟨o,es,ep,e,d,r⟩=>⟨o,es,ep,i e (b2 e d),d,r⟩
  have a1:=λb o e=>i (KX b o e) (by
   cases q:H b with
   |none=>rfl
   |some u=>
    rcases c4 b u q with⟨_,t,g,rfl⟩|⟨rfl,_⟩|⟨rfl,h,_⟩
    ·obtain⟨c,_,l⟩:=ό t g;have E:=KX _ _ e;rw[l]at E;cases E;have h2:=Pb.mp hK (t.P,_) (W.mem_of_lookupK e);exact absurd (show false=true from h2) Eb
    ·rw[a4]at e;cases e
    ·rw[a7 h]at e;cases e)
  have hM:Mod K mg (kz f.heap H):=⟨a1,R a9,⟨mb,R B,a5⟩,let ⟨mc,h1,h2⟩:=ϊ;⟨mc,R h1,h2⟩⟩
  have e0:Jp P w K mg (kz f.heap H) Aq [] f H:=⟨rfl,hM,λb o e=>j0 e,oG (R4 _ _),trivial,λb B=>absurd (show b∈[]from B) (by simp),b0,.of_eq hg⟩
  have hS:VH K H a ns:=by
   cases L with
   |true=>exact ϒ ⟨_,c3 rfl⟩
   |false=>exact ϖ ⟨_,J.toArray,_,a8 rfl,rfl,rfl,rfl,by rw[Da,a0];exact ϋ,by simpa using rv⟩
  obtain⟨σ,ef⟩:=tr ns hl;have b1:lr ⟨K,ca,tx⟩ 1 fn [ϕ a] H (λv _=>v=Ϭ true) λ_ _ _=>False:=by
   refine⟨[],[],[ϱ ns],Ub.cons (by rw[Ua];exact⟨a,rfl,hS⟩) Ub.nil,rfl,⟨rfl,List.nodup_nil,λn o q=>by simp at q,λt g=>⟨⟨by simp,ob,c2⟩,by simp,#[],c1 t g,ϒ rfl⟩⟩,?_⟩;rw[ef];intro b4 v H' _ _ r;exact r
  refine Tk ((F _).ae Aq [] f H ⟨[jc a],[]⟩ [jc a] [ϕ a] _ _ hr e0 (N f (jc a)) (Ϡ rfl Ϥ) b1) λr A h=>?_;cases r with
  |error e=>obtain⟨_,_,_,_,z⟩:=h;exact z.elim
  |ok f2=>
   cases f2 with
   |next=>exact ϲ h
   |brk=>exact ϲ h
   |cont=>exact ϲ h
   |ret u=>
    obtain⟨v,H',os,S,un,y,r',q⟩:=h;have q':v=Ϭ true:=q;subst q';obtain rfl:u=Ul true:=r';have I:∀ b o,f.heap.get? b=some o->(¬ ∃ t∈tx.qr,b=t.P)->A.heap.get? b=some o:=λb o e n=>by
     cases q:H b with
     |none=>exact un.keep b o e q (by intro z;exact absurd (show b∈[]from z) (by simp)) (by simp)
     |some u=>
      rcases c4 b u q with⟨_,z⟩|⟨rfl,rfl⟩|⟨rfl,_,rfl⟩
      ·exact absurd z n
      ·obtain⟨E,_⟩:=y _ _ (un.Ki _ _ _ q);rw[j]at e;cases e;exact E
      ·obtain⟨E,_⟩:=y _ _ (un.Ki _ _ _ q);rw[G]at e;cases e;exact E
    have p:∀ t∈tx.qr,∃ ps,A.heap.get? t.P=some (W.tabObj ps):=λt g=>by
     obtain⟨b3,z⟩:=un.uj _ _ (c1 t g);exact⟨_,y _ _ z⟩
    refine⟨rfl,⟨λb o e=>?_,λb o e=>?_⟩,os,S⟩
    ·by_cases B:∃ t∈tx.qr,b=t.P
     ·obtain⟨t,g,rfl⟩:=B;obtain⟨c,hc,l⟩:=ό t g;obtain⟨ps,Q⟩:=p t g;rw[l]at e;cases e;exact ϖ (ϒ ⟨(hc.tab l).isCodeTable,rfl,#[],ps,rfl,by rw[Array.empty_append];exact Q⟩)
     ·exact ϒ (I b o e B)
    ·by_cases B:∃ t∈tx.qr,b=t.P
     ·obtain⟨t,g,rfl⟩:=B;obtain⟨ps,Q⟩:=p t g;exact⟨_,Q⟩
     ·exact⟨o,I b o e B⟩
 cases hk:K.lookup a with
 |some o=>
  have e:=KX a o hk;rw[G]at e;cases e;exact C false (λh=>by cases h) λ_=>hk
 |none=>exact C true (λ_=>hk) λh=>by cases h
def TY{l:W.OpenLaw}{K:Params->ϓ}(xs:List Str)
  (hn:l.most=some 63) (B:d.params.defaults=[]) (hr:pe k Aq) (hY:∀ (w:qb) (h:Heap),E w h->(K w.params).In h)
  (hK:∀ w:qb,YK (K w.params) xs=true) (p:(xs.all λx=>((recsOf q).find? λe=>e.name == x).isSome)=true)
  (F:∀ (w:qb) (v:Str->Option Value) (h:Heap),(K w.params).In h->h.Ns mainGlobals v->Ay (K w.params) xs->∃ H j,(∀ t∈j,∃ x∈xs,t.P=Iy (K w.params) x)/\eN ⟨K w.params,H,⟨j,Gz (K w.params)⟩⟩ l.prog w v k d.name [x] fn)
  (tr:∀ ns:List Int,ns.length<=63->∃ σ,fn [ϱ ns] []=Y (ϐ true) σ) :
  W.WalkO q i R E l.row.toRowW d [] (λf Q=>PySem.call f Q):=by
 refine Att.ms hn B λw N ώ v mb fa o pm cd a0 a Q ns G ϋ ho hd a2 C n c m hg=>?_;have r:=hY w _ ϋ;have TT:=Ť (hK w);obtain⟨H,j,hP,f0,a1,J,g3,g4⟩:=F w v _ r G.T.g TT;rw[C]at J;cases J;obtain⟨bm,ob,S,b2,ό,V,X,ϊ⟩:=G.T.bmain;have I:=W.mg_of r G.T.g TT.bm;rw[S]at I;cases I;refine zno r G.T.g G.T.b G.T.builtins G.T.nolimit hg n c m hr TT.no ό V X ϊ TT.bk (λt ht=>?_) g4 (λs u=>.of_eq (g3 [u] rfl)) tr;obtain⟨y,L,e⟩:=hP t ht;have z:=Pb.mp p y L;obtain⟨d',A⟩:=xf.mp z;have:=W.tab_of G.T r A (TT.tab y L);rw[e];exact⟨_,this.1,this.2⟩
theorem YZ(h:(a.P == b.P)=false):∀ t∈(⟨[a,b],f⟩:Tx).qr,∀ d∈(⟨[a,b],f⟩:Tx).qr,d.P=t.P->d=t:=by
 have n:a.P≠b.P:=by simpa using h
 intro t g d c e;simp only[Ma,Me,Qo]at g c;rcases g with rfl|rfl<;>rcases c with rfl|rfl
 ·rfl
 ·exact absurd e.symm n
 ·exact absurd e n
 ·rfl
def mB(x:D)(xs:List D):M D:=λa=>match x,xs with
 | U n,[y]=>(match gh a n with
  |some b=>(match xh a y with
   |some zs=>if b.length+zs.length<=Ni then Y ϛ (a.set n (ϔ (b++zs)))else ϗ
   |none=>ϗ)
  |none=>ϗ)
 |_,_=>ϗ
section
variable{T:Tb}
def mZ:rA T SW mB:=by
 intro E t H σ x xs v f Q r p q h;cases x with
 |ref n=>
  match xs with
  |[]=>exact h.elim
  |[y]=>
   obtain⟨w,z,rfl,A,l⟩:=q;rw[Ub]at l;subst l;unfold mB at h;cases c:gh σ n with
   |none=>simp only[c]at h;exact h.elim
   |some s=>
    simp only[c]at h;cases d:xh σ y with
    |none=>simp only[d]at h;exact h.elim
    |some zs=>
     simp only[d]at h;by_cases e:s.length+zs.length<=Ni
     ·rw[ma e]at h;obtain⟨a,f,rfl,k,g,i⟩:=r.wa p c;obtain⟨b,m,rfl,u,j⟩:=r.ls A d;have o:=r.write (ob:=ϔ (s++zs)) k ⟨_,Ih,by
       have ex:Ge t H t (Nc H a (ϰ (f++m))):=Jw (La k) g (λ_ z=>by cases z) (λ_ _ z=>by cases z);exact Ub.append (Ub.mono ex _ _ i) (Ub.mono ex _ _ j)⟩
      exact⟨a,b,f,m,rfl,rfl,g,u,by rw[<-i.length,<-j.length];exact aB e,h _ _ _ o.1 o.2 (by rw[Ua])⟩
     ·rw[ra e]at h;exact h.elim
  |_::_::_=>exact h.elim
 |_=>exact h.elim
end
section
variable{x y:Str}{p pos:Re}{ss:List Str}
def PX(e:Gl X x)(b:RF T.K X.mg x ss)(d:(x == ("__debug__" : Str))=false:=by decide):FE T X (ϟ x p) (eC (.gt ss)):=by
 obtain⟨a,f,c⟩:=b;exact FC (UM e f (v:=ϕ a) rfl d) λ_ _=>by rw[Ua];exact⟨a,rfl,c⟩
def Se.alias(h:Se T P w b a k x ps c)(e:b y=b x):Se T P w b a k y ps c:=by
 obtain⟨f,d,g,i⟩:=h;exact⟨f,d,e.trans g,i⟩
end
section
variable{T:Tb}{μ μ':List Addr}{H H':Hp}{σ:lb}{a:Addr}
mutual
theorem Ua.chg(j:∀ b,b≠a->H' b=H b)(l:a∈μ)(r:∀ xs,H a≠some (.Xa xs))(s:∀ o xs,H a≠some (ϩ o (ϰ xs))):∀ (d:D) (v:V),Ua T μ H d v->Ua T μ H' d v
 | ϛ,v,h=>by simpa [Ua]using h
 | ϐ b,v,h=>by simpa [Ua]using h
 | Z i,v,h=>by simpa [Ua]using h
 | ύ x,v,h=>by simpa [Ua]using h
 | Ϗ ds,v,h=>by
  rw[Ua]at h ⊢;obtain⟨p,m,g,e,k⟩:=h;exact⟨p,m,g,by rw[j p (λz=>r _ (by rw[<-z];exact e))];exact e,Ub.chg j l r s ds m k⟩
 | ϱ ns,v,h=>by
  rw[Ua]at h ⊢;obtain⟨p,g,e⟩:=h;refine⟨p,g,?_⟩;rcases e with⟨o,e⟩|e
  ·exact ϒ ⟨o,by rw[j p (λz=>s _ _ (by rw[<-z];exact e))];exact e⟩
  ·exact ϖ e
 | U n,v,h=>by rw[Ua]at h ⊢;exact h
 | O ds,v,h=>by
  rw[Ua]at h ⊢;obtain⟨p,m,g,f,e,k⟩:=h;exact⟨p,m,g,f,by rw[j p (λz=>f (by rw[z];exact l))];exact e,Ub.chg j l r s ds m k⟩
 | Ϫ ks ds,v,h=>by
  rw[Ua]at h ⊢;obtain⟨p,m,g,f,e,t,k⟩:=h;exact⟨p,m,g,f,by unfold Rd at e ⊢;rw[j p (λz=>f (by rw[z];exact l))];exact e,t,Ub.chg j l r s ds _ k⟩
 | .obj c ns ds,v,h=>by
  rw[Ua]at h ⊢;obtain⟨p,A,m,g,f,e,t,k⟩:=h;exact⟨p,A,m,g,f,by rw[j p (λz=>f (by rw[z];exact l))];exact e,t,Ub.chg j l r s ds _ k⟩
 | .Du c,v,h=>by
  rw[Ua]at h ⊢;obtain⟨p,y,g,f,e,k⟩:=h;refine⟨p,y,g,f,by rw[j p (λz=>f (by rw[z];exact l))];exact e,λn q=>?_⟩;obtain⟨u,B,w,C⟩:=k n q;exact⟨u,B,w,by rw[j u (λz=>w (by rw[z];exact l))];exact C⟩
 | .gt ss,v,h=>by rw[Ua]at h ⊢;exact h
theorem Ub.chg(j:∀ b,b≠a->H' b=H b)(i:a∈μ)(f:∀ xs,H a≠some (.Xa xs))(g:∀ o xs,H a≠some (ϩ o (ϰ xs))):∀ (c:List D) (e:List V),Ub T μ H c e->Ub T μ H' c e
 |[],e,h=>by simpa [Ub]using h
 |d::c,e,h=>by
  rw[Ub]at h ⊢;obtain⟨v,r,k,l,m⟩:=h;exact⟨v,r,k,Ua.chg j i f g d v l,Ub.chg j i f g c r m⟩
end
def WI(i:∀ b,b≠a->H' b=H b)(g:a∈μ)(e:∀ xs,H a≠some (.Xa xs))(f:∀ o xs,H a≠some (ϩ o (ϰ xs))){xs:List (c × D)}{d:List (c × V)}(h:Paired (λ(p:c × D) (q:c × V)=>p.1=q.1/\Ua T μ H p.2 q.2) xs d) :
  Paired (λ(p:c × D) (q:c × V)=>p.1=q.1/\Ua T μ H' p.2 q.2) xs d:=L2.Paired.Ms h λp q z=>⟨z.1,Ua.chg i g e f _ _ z.2⟩
theorem Sq.chg(d:∀ b,b≠a->H' b=H b)(j:a∈μ)(g:∀ xs,H a≠Option.some (.Xa xs))(i:∀ o xs,H a≠Option.some (ϩ o (ϰ xs)))(f:b≠a):∀ {o:Ob},Sq T μ H b o->Sq T μ H' b o
 | ϔ ds,⟨e,h,r⟩=>⟨e,(d b f).trans h,Ub.chg d j g i _ _ r⟩
 | ϑ k,⟨e,h,r⟩=>⟨e,(d b f).trans h,WI d j g i r⟩
 | Ϙ c n,⟨l,e,h,r⟩=>⟨l,e,(d b f).trans h,WI d j g i r⟩
 | .ig k,⟨m,e,h,r⟩=>⟨m,e,(d b f).trans h,WI d j g i r⟩
 | .Bl ks,⟨e,h,r⟩=>⟨e,(d b f).trans h,r⟩
def je.chg(r:je T μ H σ)(g:∀ b,b≠a->H' b=H b)(d:μ[n]?=some a)(i:∀ xs,H a≠some (.Xa xs))(j:∀ o xs,H a≠some (ϩ o (ϰ xs)))(l:Sq T μ H' a ob):je T μ H' (σ.set n ob):=by
 have f:=La d;refine⟨by simp[r.len],r.nd,λm x h=>?_,r.tb.out g (ϒ f)⟩;rw[qd]at h;by_cases c:n=m
 ·subst c;rw[ma rfl]at h;split at h
  ·cases h;exact⟨a,d,l⟩
  ·cases h
 ·rw[ra c]at h;obtain⟨b,e,k⟩:=r.obs m x h;exact⟨b,e,k.chg g f i j (λz=>c (by subst z;exact gO r.nd d e))⟩
end
def _root_.L2.Ab.Ey(I:Ab X d l H s)(f:H a=some (ϩ A (Ϝ g)))(m:∀ o u,X.H₀ a≠some (ϩ o u)):Ab X d l (Nc H a (Ϝ g)) s:=by
 have i:∀ b u,H b=some u->(∀ o w,u≠ ϩ o w)->b≠a:=λb u q n z=>by rw[z,f]at q;exact n _ _ (Yb q).symm
 refine⟨I.ok,I.os,I.bare,⟨I.base.keep,I.base.slot,λb o e n t=>?_,I.base.there,λb xs e=>?_,λb o u e=>?_,λb ps e=>?_⟩,I.loc,I.cell,?_,λx c e=>?_,λp r=>?_,λb u e=>?_,I.len⟩
 ·have:=I.base.free b o e n t;rw[we (λz=>by rw[z,f]at this;cases this)];exact this
 ·have:=I.base.Mj b xs e;rw[we (i b _ this (λ_ _ z=>by cases z))];exact this
 ·have:=I.base.Ki b o u e;rw[we (λz=>m o u (by rw[<-z];exact e))];exact this
 ·obtain⟨h,this⟩:=I.base.uj b ps e;exact⟨h,by rw[we (i b _ this (λ_ _ z=>by cases z))];exact this⟩
 ·rw[we (λz=>by have:=I.free;rw[z,f]at this;cases this)];exact I.free
 ·have:=I.lh x c e;rw[we (λz=>by rw[z,f]at this;cases this)];exact this
 ·obtain⟨B,j,C⟩:=I.pin p r;exact⟨B,by rw[we (λz=>by rw[z,f]at j;cases j)];exact j,C⟩
 ·by_cases k:b=a
  ·subst k;rw[Ih]at e;cases e;exact(I.Qd b _ f).2
  ·rw[we k]at e;refine(I.Qd b u e).Rl (λc v _ z=>z) (λc z=>?_) λc xs z=>?_
   ·rw[we (i c _ z (λ_ _ y=>by cases y))];exact z
   ·rw[we (i c _ z (λ_ _ y=>by cases y))];exact z
section
variable{elts:List Ya}{kk:Nat}{p0:Re}
def IN(o:H a=some (ϩ l (Ϝ c)))(s:Xl T m H f c):GB T m H (iv f) (Itm a l c):=by
 intro v A w i ex t;have j:=ex.Qc _ _ _ o;have e:=Xl.mono ex s;unfold iv;cases n:f[i]? with
 |none=>
  by_cases g:i=f.length
  ·rw[ma g];exact⟨j,by rw[g];exact Paired.length e⟩
  ·rw[ra g];trivial
 |some p=>
  obtain⟨q,k,h,u⟩:=mO e i n;refine⟨⟨j,q,k⟩,λz x y=>?_⟩;obtain⟨r,B,C,b,rfl,d,rfl⟩:=y;rw[k]at d;cases d;refine⟨Wm b,t.fresh b,?_⟩;rw[Ua,h];exact⟨r,_,rfl,Ih,Ub.cons (OQ _) (Ub.cons (Ua.mono (Wm b) _ _ u) Ub.nil)⟩
def MJ(d:D):M NX:=λb=>match d with
 | Ϫ ks xs=>if ks.length=xs.length then Y (iv (ks.zip xs)) b else ϗ
 | U n=>(match b[n]? with
  |some (ϑ a)=>Y (iv a) (b.set n (.ig a))
  |some (.ig a)=>Y (iv a) b
  |_=>ϗ)
 |_=>ϗ
def II(f:Ev->M D):Ev->M NX:=λa=>be (f a) MJ
def w9(h:FE T X e f)(J:ye e "items" X.env (Ec e X.env)=Ec e X.env:=by rfl)(K:(x.endLine == A.line)=true:=by rfl) :
  Fz T X (ϵ elts kk p0) (ϣ (Ϣ e "items" x) [] [] A) (II f):=by
 intro Q s st H R I hw;refine ZS (XV Vg Vi Pq lU h J K) Q s st H R I ?_;obtain⟨μ,ρ,σ,hE,hr,hp⟩:=hw;refine⟨μ,ρ,σ,hE,hr,hp.bind λd w c v i _ e1 V q1 p=>?_⟩;unfold MJ at p;cases d with
 |Qb ks xs=>
  dsimp only at p;by_cases hl:ks.length=xs.length
  ·rw[ma hl]at p;obtain⟨a,j,rfl,ό,q,ϊ,a0⟩:=q1;refine⟨⟨a,j,rfl,q⟩,a,j,rfl,rfl,q,λl g=>?_⟩;have u:a≠l:=by rcases q with q|⟨_,q⟩<;>exact ur q g
   have ϋ:Rd (Nc i l (ϧ (Xp l a))) a (Ϝ j):=by unfold Rd;rw[we u];exact q
   refine⟨l,a,j,rfl,Ih,ϋ,λC m=>?_⟩;have E:Ge c i c (Nc i l (ϧ (Xp l a))):=Wm g;have k:je T c (Nc i l (ϧ (Xp l a))) w:=V.fresh g;obtain⟨x2,a1⟩:Ge c i c (Nc (Nc i l (ϧ (Xp l a))) a (ϩ C (Ϝ j)))/\je T c (Nc (Nc i l (ϧ (Xp l a))) a (ϩ C (Ϝ j))) w:=by
    rcases m with m|m
    ·have y:=kP (μ:=c) (od:=C) m;exact⟨E.trans y,k.keep y (λb W=>we (λz=>ό (by rw[<-z];exact W))) (k.tb.out (λb W=>we W) (ϖ ⟨_,m⟩))⟩
    ·rw[pH m];exact⟨E,k⟩
   exact Jc.here (Jc.mono x2 p) a1 (IN Ih (Xl.mono x2 (CH ϊ a0)))
  ·rw[ra hl]at p;exact p.elim
 |ref n=>
  dsimp only at p;cases S:w[n]? with
  |none=>rw[S]at p;exact p.elim
  |some o=>
   rw[S]at p;obtain⟨a,rfl,ό,P⟩:=V.at q1 S;cases o with
   |Qb j=>
    obtain⟨r,G,L⟩:=P;have q:Rd i a (Ϝ r):=ϒ G;refine⟨⟨a,r,rfl,q⟩,a,r,rfl,rfl,q,λl g=>?_⟩;have u:=ur G g;have t:Nc i l (ϧ (Xp l a)) a=some (Ϝ r):=by rw[we u];exact G
    refine⟨l,a,r,rfl,Ih,ϒ t,λC _=>?_⟩;have E:Ge c i c (Nc i l (ϧ (Xp l a))):=Wm g;have k:je T c (Nc i l (ϧ (Xp l a))) w:=V.fresh g;have ώ:Ge c (Nc i l (ϧ (Xp l a))) c (Nc (Nc i l (ϧ (Xp l a))) a (ϩ C (Ϝ r))):=Jw (La ό) t (λ_ z=>by cases z) (λ_ _ z=>by cases z);have B:=Xl.mono (E.trans ώ) L;have wr:=k.write (ob:=.ig j) ό ⟨C,r,Ih,B⟩ (λkv z=>by rw[S]at z;cases z);exact Jc.here (Jc.mono (E.trans ώ) p) wr.2 (IN Ih B)
   |ig j=>
    obtain⟨N,r,G,L⟩:=P;have q:Rd i a (Ϝ r):=ϖ ⟨N,G⟩;refine⟨⟨a,r,rfl,q⟩,a,r,rfl,rfl,q,λl g=>?_⟩;have u:a≠l:=ur G g;have t:Nc i l (ϧ (Xp l a)) a=some (ϩ N (Ϝ r)):=by rw[we u];exact G
    refine⟨l,a,r,rfl,Ih,ϖ ⟨N,t⟩,λC m=>?_⟩;have E:Ge c i c (Nc i l (ϧ (Xp l a))):=Wm g;have k:je T c (Nc i l (ϧ (Xp l a))) w:=V.fresh g;rcases m with m|m
    ·rw[t]at m;cases m
    ·rw[pH m];exact Jc.here (Jc.mono E p) k (IN m (Xl.mono E L))
   |_=>exact p.elim
 |_=>exact p.elim
def ID{c:Type}(ok:c->Bool)(n:Nat):Fm c->Fm c
 | Y a σ=>if ok a=true then (match σ[n]? with
  |some (.ig b)=>Y a (σ.set n (ϑ b))
  |_=>ϗ)else ϗ
 |_=>ϗ
def QI{b:Type}(ok:b->Bool)(m:M D)(g:M b):M b:=λa=>match m a with
 | Y (U n) _=>(match a[n]? with
  |some (ϑ _)=>ID ok n (g a)
  |_=>g a)
 |_=>g a
noncomputable def QO:Fl->Bool
 | .xc _ _=>false
 |_=>true
def lH(f:Ev->M D)(g:Ev->M Fl):Ev->M Fl:=λa=>QI QO (f a) (g a)
def zxj(ex:Ge f H b c)(d:a∈f)(g:H a=some (Ϝ e))(k:c a=some (ϩ j (Ϝ i))):Ge f H b (Nc c a (Ϝ i)):=by
 refine⟨ex.pre,λp xs h=>?_,λp o u h=>?_,λp o h n=>?_⟩
 ·rw[we (λz=>by rw[z,g]at h;cases h)];exact ex.Xa p xs h
 ·rw[we (λz=>by rw[z,g]at h;cases h)];exact ex.Qc p o u h
 ·rw[we (λz=>n (by rw[z];exact d))];exact ex.keep p o h n
def n8(D:y[n]?=some a)(I:H a=some (Ϝ v))
  (G:∀ (c:List Addr) (e:Hp) (d:s) (g:w) (k:Ad) (f:List (Nd × V)),a∈c->e a=some (ϩ k (Ϝ f))->ok d=true->R c e d g->R c (Nc e a (Ϝ f)) d g) (h:Jc T E R y H (ID ok n o) Q) :
  Jc T E R y H o (λg e=>∃ k f,e a=some (ϩ k (Ϝ f))/\Q g (Nc e a (Ϝ f))/\∃ c d,ok d=true/\R c e d g):=by
 cases o with
 |cc=>exact h
 |ex x q=>exact h.elim
 |ok d q=>
  unfold ID at h;dsimp only at h;by_cases i:ok d=true
  ·rw[ma i]at h;cases t:q[n]? with
   |none=>rw[t]at h;exact h.elim
   |some ob=>
    rw[t]at h;cases ob with
    |ig K=>
     intro c g e ex r F;obtain⟨a',m,k,f,p,u⟩:=r.obs n _ t;have j:=ex.get D;rw[j]at m;cases m;have l:=La j;have C:∀ b,b≠a->Nc e a (Ϝ f) b=e b:=λb J=>we J;have A:∀ xs,e a≠some (.Xa xs):=λxs z=>by rw[p]at z;cases z
     have B:∀ o xs,e a≠some (ϩ o (ϰ xs)):=λo xs z=>by rw[p]at z;cases z
     exact⟨k,f,p,h c g _ (zxj ex (La D) I p) (r.chg C j A B ⟨f,Ih,WI C l A B u⟩) (G c e d g k f l p i F),c,d,i,F⟩
    |_=>exact h.elim
  ·rw[ra i]at h;exact h.elim
def UI(f:a∈c)(g:e a=some (ϩ k (Ϝ i)))(d:D)(v:V)(h:Ua T c e d v):Ua T c (Nc e a (Ϝ i)) d v:=
 Ua.chg (λb j=>we j) f (λxs z=>by rw[g]at z;cases z) (λo xs z=>by rw[g]at z;cases z) d v h
def ž(h:FS T X s g):FS T X s (lH f g):=by
 intro t N ώ H D I l;obtain⟨P,ρ,σ,K,G,A⟩:=l;have p:=λq=>h t N ώ H D I ⟨P,ρ,σ,K,G,q⟩;unfold lH QI at A;split at A
 ·rename_i n _ _
  split at A
  ·rename_i ό Q
   obtain⟨a,S,W,L,_⟩:=G.obs n _ Q;have F:∀ o u,X.H₀ a≠some (ϩ o u):=λo u z=>by have:=I.base.Ki a o u z;rw[L]at this;cases this
   have q:=n8 S L (λJ e d y k c r j x m=>by
    cases d with
    |xc _ _=>cases x
    |nx E=>cases y<;>first|exact m.elim|exact⟨m.1,λi d q=>let ⟨v,B,C⟩:=m.2 i d q;⟨v,B,UI r j _ _ C⟩⟩
    |bk E=>cases y<;>first|exact m.elim|exact⟨m.1,λi d q=>let ⟨v,B,C⟩:=m.2 i d q;⟨v,B,UI r j _ _ C⟩⟩
    |ct E=>cases y<;>first|exact m.elim|exact⟨m.1,λi d q=>let ⟨v,B,C⟩:=m.2 i d q;⟨v,B,UI r j _ _ C⟩⟩
    |rt ϋ=>cases y<;>first|exact m.elim|exact UI r j _ _ m) A
   refine Pc (h t N ώ H ⟨λb e=>∃ k c,e a=some (ϩ k (Ϝ c))/\D.nx b (Nc e a (Ϝ c)),λv e=>∃ k c,e a=some (ϩ k (Ϝ c))/\D.rt v (Nc e a (Ϝ c)),λb e=>∃ k c,e a=some (ϩ k (Ϝ c))/\D.bk b (Nc e a (Ϝ c)),λb e=>∃ k c,e a=some (ϩ k (Ϝ c))/\D.ct b (Nc e a (Ϝ c))⟩ I ⟨P,ρ,σ,K,G,q.imp λy e z=>?_⟩) (λR ϊ z=>?_) λ_ _ z=>z
   ·obtain⟨k,c,j,l,J,d,x,m⟩:=z;cases y with
    |nx b=>exact⟨k,c,j,l⟩
    |rt v=>exact⟨k,c,j,l⟩
    |bk b=>exact⟨k,c,j,l⟩
    |ct b=>exact⟨k,c,j,l⟩
    |xc b cls fd=>cases d<;>first|exact m.elim|cases x
   ·cases R with
    |next=>obtain⟨b,e,w,k,c,j,l⟩:=z;exact⟨b,_,w.Ey j F,l⟩
    |brk=>obtain⟨b,e,w,k,c,j,l⟩:=z;exact⟨b,_,w.Ey j F,l⟩
    |cont=>obtain⟨b,e,w,k,c,j,l⟩:=z;exact⟨b,_,w.Ey j F,l⟩
    |ret u=>obtain⟨v,b,e,w,V,k,c,j,l⟩:=z;exact⟨v,b,_,w.Ey j F,V,l⟩
  ·exact p A
 ·exact p A
end
def LA:um T X a Jz:=λpins s st H D I ⟨c,d,σ,_,_,b⟩=>b.elim
open Classical in
def DP(d b c:List Addr):Prop:=(∃ r,b=d++r)/\(∀ (n:Nat) (a:Addr),d[n]?=some a->c[n]?=some a)/\∀ a∈c,a∈b
section
variable{T:Tb}{μ μ' μ2:List Addr}{H H':Hp}{σ σ':lb}
mutual
theorem NO.down(e:DP μ μ' μ2):∀ (d:D) (v0 v:V),Ua T μ H d v0->Ua T μ' H' d v->Ua T μ2 H' d v
 | ϛ,v0,v,_,h=>by simpa [Ua]using h
 | ϐ b,v0,v,_,h=>by simpa [Ua]using h
 | Z i,v0,v,_,h=>by simpa [Ua]using h
 | ύ x,v0,v,_,h=>by simpa [Ua]using h
 | Ϗ ds,v0,v,c,h=>by
  rw[Ua]at h c ⊢;obtain⟨p,m,g,f,j⟩:=h;obtain⟨G,l,_,_,w⟩:=c;exact⟨p,m,g,f,Zr.down e ds l m w j⟩
 | ϱ ns,v0,v,_,h=>by rw[Ua]at h ⊢;exact h
 | U n,v0,v,c,h=>by
  rw[Ua]at h c ⊢;obtain⟨a,g,f⟩:=h;obtain⟨b,_,t⟩:=c;refine⟨a,g,?_⟩;have j:=e.2.1 _ _ t;obtain⟨⟨r,rfl⟩,_⟩:=e;rw[zb (aa.mp t).1]at f;rw[t]at f;cases f;exact j
 | O ds,v0,v,c,h=>by
  rw[Ua]at h c ⊢;obtain⟨a,m,g,f,j,o⟩:=h;obtain⟨_,l,_,_,_,s⟩:=c;exact⟨a,m,g,λz=>f (e.2.2 _ z),j,Zr.down e ds l m s o⟩
 | Ϫ ks ds,v0,v,c,h=>by
  rw[Ua]at h c ⊢;obtain⟨a,m,g,f,j,u,o⟩:=h;obtain⟨_,l,_,_,_,_,s⟩:=c;exact⟨a,m,g,λz=>f (e.2.2 _ z),j,u,Zr.down e ds _ _ s o⟩
 | .obj k ns ds,v0,v,c,h=>by
  rw[Ua]at h c ⊢;obtain⟨a,B,m,g,f,j,u,o⟩:=h;obtain⟨_,_,l,_,_,_,_,s⟩:=c;exact⟨a,B,m,g,λz=>f (e.2.2 _ z),j,u,Zr.down e ds _ _ s o⟩
 | .Du k,v0,v,_,h=>by
  rw[Ua]at h ⊢;obtain⟨a,A,g,f,j,o⟩:=h;exact⟨a,A,g,λz=>f (e.2.2 _ z),j,λn q=>let ⟨y,C,E,F⟩:=o n q;⟨y,C,λz=>E (e.2.2 _ z),F⟩⟩
 | .gt ss,v0,v,_,h=>by rw[Ua]at h ⊢;exact h
theorem Zr.down(e:DP μ μ' μ2):∀ (b:List D) (a f:List V),Ub T μ H b a->Ub T μ' H' b f->Ub T μ2 H' b f
 |[],a,f,_,h=>by simpa [Ub]using h
 |d::b,a,f,c,h=>by
  rw[Ub]at h c ⊢;obtain⟨v,r,j,k,l⟩:=h;obtain⟨m,r0,_,g,i⟩:=c;exact⟨v,r,j,NO.down e d m v g k,Zr.down e b r0 r i l⟩
end
end
noncomputable def cU(a b:List D):M (List D):=ret (b++a)
def lC(a:List D)(b:Ev->M (List D)):Ev->M (List D):=λc=>be (b c) (cU a)
def zry(hm:X.mg x=some (jc (T.ca c)))(y:Mk T.K (T.ca c) f)(P:Ut T.K N ps b)
  (ώ:Ai X.prog X.w T.K X.mg X.base (Yl X.prog X.w) k f N ps (lr T ps.length h)) (hv:Pe d b) (B:∀ u H,Ub T u H a d) (ό:T.K=X.K) (hr:pe (k+1) X.A) (hg:Gl X x)
  (ϋ:FA T X (e::l) i) (z:(x == ("__debug__" : Str))=false:=by decide) (ϊ:ya (e::l) X.env=(false,Ec e X.env)::ya l X.env:=by rfl) (E:(Cd g (ya l X.env)).any (·.1)=false:=by rfl) :
  FE T X (ϣ (ϟ x p) (e::l) [] g) (bv c ps.length h (lC a i)):=by
 rw[ό]at y ώ P;intro m s G H Q I hq;obtain⟨u,n,σ,S,F,hp⟩:=hq;have C:Jc T (XE X G) (Ua T) u H (be (i n) (λo=>Lr c ps.length h (o++a)) σ) Q:=by
  have:bv c ps.length h (lC a i) n σ=be (i n) (λo=>Lr c ps.length h (o++a)) σ:=by
   unfold bv lC cU be;cases i n σ<;>rfl
  rw[<-this];exact hp
 refine wg (pC I hg hm ?_ z);refine W.callWith_K I.ok.mod.Cz y.kp (Le (ϋ g m s G H (λJ j=>∀ x t,j x=none->j t=none->t≠x->lr T ps.length h (ϕ x::(J++d)) (Nc (Nc j t (.own x)) x (.yc (T.ca c) t [])) (λv R=>v=.Rc/\Q (ϕ x) R) (XE X G)) I ⟨u,n,σ,S,F,C.bind λo a1 a0 J j _ e1 r1 p1 q1=>?_⟩) λus s1 ⟨J,j,L,r,q⟩=>⟨L.Ak,?_⟩) ϊ E
 ·have:=UP r1 (Ub.append p1 (B _ _)) q1;rw[Xh]at this;exact this
 ·exact LR y ώ hr P hv L r q
def Ĺ(C:X.mg x=some (jc (T.ca c)))(t:Mk T.K (T.ca c) f)(h:Dx T X.prog X.w X.mg X.base k f ps n o)(y:a=[]\/a=n)(F:Pe d a)(l:∀ G H,Ub T G H b d)(s:T.K=X.K)(E:pe (k+1) X.A)(B:Gl X x)
  (u:FA T X (e::g) q) (j:(x == ("__debug__" : Str))=false:=by decide) (z:ya (e::g) X.env=(false,Ec e X.env)::ya g X.env:=by rfl) (m:(Cd i (ya g X.env)).any (·.1)=false:=by rfl) :
  FE T X (ϣ (ϟ x p) (e::g) [] i) (bv c ps.length o (lC b q)):=by
 obtain⟨I,J,v,r⟩:=h;exact zry C t (by rcases y with rfl|rfl<;>assumption) r F l s E B u j z m
structure fF(P:Ia)(w:qb)(K:ϓ)(mg:Str->Option Value)(base:Heap)(k:Nat)(f:Addr)(fd:Kf)(ps:List Str)(sp:Sp):Prop where
 len:∀ vs H Q E,sp vs H Q E->vs.length=ps.length
 ae:∀ (A:Za) (outer:List zh) (s:ba) (H:Hp) (args:Args) (us:List Value) (vs:List V) (Q:VK) (E:XK),pe k { A with handled:=none }->Jp P w K mg base A outer s H->Fh s fd args (ps.zip us)->Pe vs us->sp vs H Q E->
  codeAny (model P w) A (.call (jc f) args) (CR (Yl P w) outer P w H s Q E) s
section
variable{P:Ia}{w:qb}{K:ϓ}{mg:Str->Option Value}{base:Heap}{ca:Nat->Addr}{tx:Tx}{T:Tb}{k:Nat}{f:Addr}{ps:List Str}
def nO(T:Tb)(P:Ia)(w:qb)(mg:Str->Option Value)(base:Heap)(k:Nat)(x:Str)(ps:List Str)(c:List D->M D):Prop:=
 ∃ f b,mg x=some (jc f)/\Ϻ T.K (jc f)=true/\(∀ a:List Value,a.length=ps.length->bindArgs b ⟨a,[]⟩=pure (ps.zip a))/\fF P w T.K mg base k f b ps (lr T ps.length c)
def nO.Lb(h:nO T P w mg base k x ps a):nO T P w mg base k x ps (L4.Lb a):=by rw[Ls];exact h
end
open Classical in
open Classical in
open Classical in
def i9{f:List Addr}{g:Hp}{c:uo}{J:It}(h:tJ T f g c J):GB T f g c.nx J:=λk H σ i ex r=>by
 have q:=h k H σ i ex r;cases e:c.nx i σ with
 |none=>trivial
 |some o=>
  rw[e]at q;cases o with
  |none=>exact q
  |some d=>exact⟨q.1,λx j y=>let ⟨a,b⟩:=q.2 x j y;by subst a;exact⟨ϯ _ _,r,b⟩⟩
noncomputable def XT(s:uo):M NX:=ret s.nx
def Fo(f:Ev->M uo):Ev->M NX:=λa=>be (f a) XT
def Tt(h:FI T X c a f):Fz T X c a (Fo f):=by
 intro b s n H R I i;obtain⟨o,q,r,d,g,e⟩:=i;exact h b s n H R I ⟨o,q,r,d,g,e.bind λm t p J u _ v l k j=>Jc.here j l (i9 k)⟩
def sV{K m E:Ya}
  (hN:X.N.Nodup) (hi:X.N[i]?=some y) (hx:Loc X.env.scope y)
  (hc:X.Lc=true) (L:ip X x M' ix f) (ϊ:Fz T X E m Q)
  (b7:∀ cl C k j ex,FG T (Uv X (x::z0::M') f cl C k j ex) E tg)
  (b0:∀ cl C k j ex,YE T (Uv X (x::z0::M') f cl C k j ex) P fi)
  (W:∀ cl C k j ex,FE T (Uv X (x::z0::M') f cl C k j ex) K fe)
  (hs:∀ y,Eh m X.env y=pure y:=by intro _;rfl)
  (b5:dj (.ListComp K [⟨E,m,P,0⟩] f a3) (some (ϟ y py)) G.line X.env=pure true:=by rfl)
  (hf:X.fn y=true\/X.env.scope.names.lookup y=some .local:=by first|exact .inl rfl|exact .inr rfl|assumption) :
  FS T X (.Assign [ϟ y py] (.ListComp K [⟨E,m,P,0⟩] f a3) G) (He i (dm Q ix tg fi fe)):=by
 intro F s R H D I h;obtain⟨μ,ρ,σ,hE,hr,b3⟩:=h;have hp:Jc T (XE X R) (Ua T) μ H (dm Q ix tg fi fe ρ σ) (λv ό=>D.nx (R.set i (some v)) ό):=b3.xs hE λd a6 a5 v ό _ e1 r1 q1 p1=>Jc.here (g:=ϸ (R.set i (some v))) p1 r1 ((hE.mono e1).set i q1);rw[exec_Assign_Name_used _ _ _ _ b5];refine ga (sv (ga ?_));refine ga (Pc (Cv rfl hs (UL X.env f (gA I L)) L.kind (λy hy e=>?_)
  ?_) (λ_ s' hq=>za (za hq)) λ_ _ e=>e)
 ·have q:=Pb.mp L.names y hy;rw[e]at q;exact eq_of_beq q
 have h1:=ϊ F s R H (λJ w=>∃ nx l u,Ge μ H l w/\je T l w u/\GB T l w nx J/\Jc T (XE X R) (Ua T) l w (be (zm nx u.length tg fi fe 1001 0 (Mx ix ρ)) (λ_=>ret (U u.length)) (u++[ϔ []])) (λv ό=>D.nx (R.set i (some v)) ό)) I
  ⟨μ,ρ,σ,hE,hr,hp.bind λnx a6 a5 J ό _ e1 r1 q1 p1=>⟨nx,a5,a6,e1,r1,q1,p1⟩⟩
 refine Le h1 λv s1 h2=>Le h2 λc0 s2 h3=>?_;obtain⟨it,fp,tn,J,w,rfl,I2,TT,a4,f2,nx,l,u,a7,r2,so,p2⟩:=h3;refine Jf (Mm (fG L) (by intro y hy;simp at hy) (λa0 A B=>?_) L.kind);have S:=I2.nB (t':=s2.toks) Ϥ (by simp);have V:w s2.heap.objs.size=none:=I2.Qd.fresh (Ea _);have r3:=r2.push (ob:=ϔ []) V ⟨[],Ih,Ub.nil⟩;have ώ:Ge l w (l++[s2.heap.objs.size]) (Nc w s2.heap.objs.size (ϰ [])):=My V;have b6:s2.heap.objs.size<(s2.heap.push { cls:=ϙ "list",data:=Ϩ [].toArray }).objs.size:=by rw[nh];exact Vd _
 have kp:∀ b o,(s2.heap.push { cls:=ϙ "list",data:=Ϩ [].toArray }).get? b=some o->a0.get? b=some o:=λb o e=>B.extBut b o (Wa (Fa e)) (ua _ e);have t:∀ b∈fp,Kn X F (Nc w s2.heap.objs.size (ϰ [])) b/\b<(s2.heap.push { cls:=ϙ "list",data:=Ϩ [].toArray }).objs.size:=λb n=>by
  obtain⟨o,e,_⟩:=TT.obj 0 _ a4 b n;have lt:=Fa e;exact⟨⟨by rw[we (Wa lt)];exact(f2 b n).1,(f2 b n).2⟩,mu lt b6⟩
 refine fY hc L b7 b0 W S t A kp TT (TT.keep 0 _ _ a4 λb n o e=>kp b o (ua _ e))
  (λμ H σ i ex r=>so μ H σ i (ώ.trans ex) r) ((hE.mono a7).mono ώ) r3 (by rw[<-r2.len];simp) (p2.mono ώ) (λs6 H' m6 b1 a8 b8 b2 ϋ a9 hq=>?_)
 have I6:=L2.Ab.Aw (s':=s6) (ch:=fp) S b2 b8 ϋ a9 (λb n=>⟨(t b n).1.2.2.2.1,(t b n).1.2.1,(t b n).1.2.2.2.2.1,(t b n).1.2.2.2.2.2⟩);have a2:X.env.locals<(s2.heap.push { cls:=ϙ "list",data:=Ϩ ([]:List Value).toArray }).objs.size:=S.lt;have a1:∀ z c,X.env.cells.lookup z=some c->c<(s2.heap.push { cls:=ϙ "list",data:=Ϩ ([]:List Value).toArray }).objs.size:=λz c e=>by
  obtain⟨v,q⟩:=S.cell z c e;exact q.lt
 refine aD (iR (v:=ϕ s2.heap.objs.size) I6 hN hi hx rfl (λs7 I7 ſ=>?_) hf);obtain⟨a,sb,ha⟩:=ſ;have b9:a≠(s2.heap.push { cls:=ϙ "list",data:=Ϩ ([]:List Value).toArray }).objs.size:=by
  rcases ha with rfl|ha
  ·exact Wa a2
  ·exact Wa (a1 _ _ ha)
 refine⟨m6,b1.sameBut sb (yf b9),λh8 b4=>?_⟩;refine⟨R.set i (some (ϕ s2.heap.objs.size)),H',?_,hq⟩;exact I7.turned (t':=s7.toks) (it:=(s2.heap.push { cls:=ϙ "list",data:=Ϩ ([]:List Value).toArray }).objs.size) (λb o n e=>(b4.2 b n).trans e) a8 (vh a2) (ϖ (Fb S.sz (Ea _))) (λz c e=>Wa (a1 z c e)) (λp hp=>Wa (Fa (S.pin p hp).1))
section
variable{P:Ia}{w:qb}
def KS(c h:Heap):Prop:=∀ b o a n,c.get? b=some o->o.data=Ϩ a n->h.get? b=some o
def KS.keeps{es ep}(x:KS i h)(k:h.get? d=some o)(j:o.data=.dict es ep)(l:Gg d h g):KS i g:=λb m f n e a=>by
 have q:=x b m f n e a;have c:b≠d:=by
  rintro rfl;rw[k]at q;cases q;rw[j]at a;exact nomatch a
 exact(l.2 b c).trans q
def NT(P:Ia)(w:qb)(e:Heap):Nat->Value->Int->Nat->Prop
 |0,v,x,n=>∃ k,(jn P w).is k v=true/\x=(jn P w).hash k/\n=1
 |d+1,v,x,n=>(∃ k,(jn P w).is k v=true/\x=(jn P w).hash k/\n=1)\/
  ∃ a o b m,∃ c:List (Value × Int × Nat),v=jc a/\e.get? a=some o/\o.cls=ϙ "tuple"/\o.data=Ϩ b m/\b.toList=c.map (·.1)/\(∀ p∈c,NT P w e d p.1 p.2.1 p.2.2)/\
   x=reduceHash (BG (c.map (·.2.1)))/\n=(c.map (·.2.2)).sum+1
structure NQ(P:Ia)(w:qb)(h0:Heap)(a0:Addr)(x0:Int)(n0:Nat)(t:Nd):Prop where
 nt:NT P w h0 5 (jc a0) x0 n0
 hd:∃ o v0 its m,h0.get? a0=some o/\o.cls=ϙ "tuple"/\o.data=Ϩ its m/\its.toList.head?=some v0/\(jn P w).is t v0=true
end
open Classical in
structure Op(K:ϓ)(C:Addr):Prop where
 f:W.findIn K (jc C) "__eq__" = some (some (ϝ "object.__eq__"))
 o:Ϲ K C (ϙ "object")=some true
section
variable{prog:Ia}{w:qb}{K:ϓ}{A:Za}{E:Value->ba->Prop}{h:Heap}{g:Array Nm}{d:az}{t:Nat}{os:zx}{x y C D:Addr}{ox oy:Ad}
def mV{M:Om}(X:K.In h)(f:W.findIn K (jc C) a=some r)(e:h.get? x=some ox)(b:ox.cls=jc C)(c:Q r ⟨h,g,d,t,os⟩):wpAny M A (specialOf (jc x) a) Q E ⟨h,g,d,t,os⟩:=by
 unfold specialOf;repeat (first|(with_reducible refine Ie e ?_;rw[b])|(with_reducible refine W.Looks.at (W.looks_findIn X f) ?_)|wp_step)
 exact c
def MT(X:K.In h)(c:Op K C)(n:h.get? x=some ox)(l:ox.cls=jc C)(r:h.get? y=some oy)(i:x≠y)(q:Q .notImplemented ⟨h,g,d,t,os⟩) :
  wpAny (model prog w) A (call (ϝ "object.__eq__") [jc x,jc y]) Q E ⟨h,g,d,t,os⟩:=by
 refine Lp (Yy Mp.eq.plain mK ?_);have j:=aP (jc x) (jc y);have f:=W.looks_mroIn (M:=model prog w) X c.o;have b:ox.cls≠ ϙ "tuple":=by rw[l];intro e;cases e
 simp only[CG,bP,nK];refine ga ?_;unfold isInstance;have s:∀ (k:Unit->ba->Prop),k () ⟨h,g,d,t,os⟩->wpAny (model prog w) A (match Hh "object.__eq__" with|some sig=>ph "object.__eq__" sig ⟨[jc x,jc y],[]⟩|none=>pure ()) k E ⟨h,g,d,t,os⟩:=λk m=>by
  cases a:Hh "object.__eq__" with
  |none=>exact za m
  |some sig=>
   simp only[argsOk,a]at j;have p:ph "object.__eq__" sig ⟨[jc x,jc y],[]⟩=pure ():=j;show wpAny _ A (ph "object.__eq__" sig ⟨[jc x,jc y],[]⟩) k E _;rw[p];exact za m
 repeat (first|(with_reducible refine Ie n ?_;rw[l])|(with_reducible refine W.Looks.at f ?_)|(with_reducible refine Uk i n r b ?_)|wp_step)
 exact q
def BH(X:K.In h)(c:Op K C)(e:h.get? x=some ox)(b:ox.cls=jc C)(j:h.get? y=some oy)(a:x≠y)(i:Q none ⟨h,g,d,t,os⟩) :
  wpAny (model prog w) A (zu (jc x) "__eq__" (jc y)) Q E ⟨h,g,d,t,os⟩:=by
 simp only[zu];refine ga ?_;simp only[aA,bA];refine ge (ga (ga (mV X c.f e b ?_)));simp only[Mp.eq.bind];refine ga (rG (wpAny_ite ?_));split
 ·exact ga (za (za (ga (MT X c e b j a (za (za i))))))
 ·exact ag (ga (za (za (ga (MT X c e b j a (za (za i)))))))
def v6(X:K.In h)(c:Op K C)(o:Op K D)(q:Ϲ K D (jc C)=some false)(j:h.get? x=some ox)(k:ox.cls=jc C)(f:h.get? y=some oy)(a:oy.cls=jc D)(i:C≠D)(r:A.units<cLine)(p:Q (.bool false) ⟨h,g,d,t,os⟩) :
  wpAny (model prog w) A (gc .Eq (jc x) (jc y)) Q E ⟨h,g,d,t,os⟩:=by
 have b:x≠y:=λe=>by
  subst e;rw[j]at f;cases f;rw[k]at a;cases a;exact i rfl
 have m:ox.cls≠ ϙ "tuple":=by rw[k];intro e;cases e
 have n:=W.looks_mroIn (M:=model prog w) X q;have l:(jc C != jc D)=true:=by simp[i]
 show wpAny (model prog w) A (Um .Eq (jc x) (jc y)) Q E _;simp only[Um,AB,vx];repeat (first|with_reducible refine su r ?_|(with_reducible refine Ie j ?_;rw[k])|(with_reducible refine Ie f ?_;rw[a])|(rw[l,ma rfl];with_reducible refine ga (W.Looks.at n ?_))|(with_reducible refine W.Looks.at n ?_)|(with_reducible refine BH X c j k f b ?_)|(with_reducible refine BH X o f a j (yf b) ?_)|(with_reducible refine Uk b j f m ?_)|wp_step)
 exact p
end
def FV(K:ϓ):R2:=λv u H Q=>∃ x y C D a b c gs,v=ϕ x/\u=ϕ y/\H x=some (.yc C a c)/\H y=some (.yc D b gs)/\Op K C/\Op K D/\Ϲ K D (jc C)=some false/\C≠D/\Q (Ϭ false) H
def WH(K:ϓ)(a:Nat->Addr)(l:List (Nat × Nat)):Prop:=∀ p∈l,Op K (a p.1)/\Op K (a p.2)/\Ϲ K (a p.2) (jc (a p.1))=some false/\a p.1≠a p.2
def GZ{K:ϓ}:WH K a []:=λ_ h=>nomatch h
def lM{K:ϓ}(a:Op K (e c))(b:Op K (e d))(m:Ϲ K (e d) (jc (e c))=some false)(n:e c≠e d)(r:WH K e l):WH K e ((c,d)::l):=λp f=>by
 rcases Ma.mp f with rfl|f
 ·exact⟨a,b,m,n⟩
 ·exact r p f
def ym5(F:X.A.units+9<cLine):ni X (gc .Eq) (FV X.K):=by
 intro b s J H v u r E Q I B z h;obtain⟨x,y,C,D,f,i,j,gs,rfl,rfl,k,l,c,e,n,a,q⟩:=h;obtain rfl:r=jc x:=B;obtain rfl:E=jc y:=z;obtain⟨_,_,_,o,_⟩:=(show fm X.prog X.w H s.heap x (.yc C f j)from I.Qd x _ k)
 obtain⟨_,_,_,p,_⟩:=(show fm X.prog X.w H s.heap y (.yc D i gs)from I.Qd y _ l)
 have m:=I.Ak;obtain⟨h,g,d,t,G⟩:=s;exact v6 m c e n o rfl p rfl a (by omega) ⟨Ϭ false,H,I,rfl,q⟩
def SH(x y:D):M D:=λa=>match x,y with
 | .gt ss,.gt c=>(match Qp (Jk a 0) (ss.map ύ) (c.map ύ)with
  |some b=>Y (ϐ b) a
  |none=>ϗ)
 |_,_=>ϗ
def ű(C:T.K=X.K)(S:X.A.units+9<cLine):ni X (gc .Eq) (rD T SH):=by
 intro c s N H v u j W Q I M L h;obtain⟨E,k,σ,x,y,r,g,i,a⟩:=h;unfold SH at a;cases x with
 |gt ss=>
  cases y with
  |gt ts=>
   dsimp only at a;cases e:Qp (Jk σ 0) (ss.map ύ) (ts.map ύ)with
   |none=>rw[e]at a;exact a.elim
   |some b=>
    rw[e]at a;rw[Ua]at g i;obtain⟨p,rfl,d⟩:=g;obtain⟨q,rfl,f⟩:=i;rw[C]at d f;cases M;cases L;obtain⟨ό,F,ώ,_⟩:=L2.Ab.tuple I (ϖ d);obtain⟨V,G,P,_⟩:=L2.Ab.tuple I (ϖ f);obtain⟨z,B⟩:=bM (A:=X.A.in1) (λx y v w j R b l m n o t=>QJ I r 0 X.A.in1 x y v w j R b (by show X.A.units+1+0+1<cLine;omega) l m n o t) (GI (T:=T) (μ:=k) (H:=H) ss) (GI ts) F G e;have J:ri X.A s (jc p) (jc q) b:=by rw[B];exact .tuples ώ P (by omega) z
    exact J X.prog X.w X.xe (EP X c N Q) ⟨Ϭ b,H,I,rfl,Jc.here a r (by rw[Ua])⟩
  |_=>exact a.elim
 |_=>exact a.elim
section
variable{prog:Ia}{w:qb}{K:ϓ}{A:Za}{E:Value->ba->Prop}{h:Heap}{g:Array Nm}{d:az}{t:Nat}{os:zx}{x y C:Addr}{ox oy:Ad}
def LU(X:K.In h)(c:Op K C)(m:h.get? x=some ox)(j:ox.cls=jc C)(l:Q (.bool true) ⟨h,g,d,t,os⟩) :
  wpAny (model prog w) A (call (ϝ "object.__eq__") [jc x,jc x]) Q E ⟨h,g,d,t,os⟩:=by
 refine Lp (Yy Mp.eq.plain mK ?_);have e:=aP (jc x) (jc x);have b:=W.looks_mroIn (M:=model prog w) X c.o;simp only[CG,bP,nK];refine ga ?_;unfold isInstance;have n:∀ (k:Unit->ba->Prop),k () ⟨h,g,d,t,os⟩->wpAny (model prog w) A (match Hh "object.__eq__" with|some sig=>ph "object.__eq__" sig ⟨[jc x,jc x],[]⟩|none=>pure ()) k E ⟨h,g,d,t,os⟩:=λk f=>by
  cases a:Hh "object.__eq__" with
  |none=>exact za f
  |some sig=>
   simp only[argsOk,a]at e;have i:ph "object.__eq__" sig ⟨[jc x,jc x],[]⟩=pure ():=e;show wpAny _ A (ph "object.__eq__" sig ⟨[jc x,jc x],[]⟩) k E _;rw[i];exact za f
 repeat (first|(with_reducible refine Ie m ?_;rw[j])|(with_reducible refine W.Looks.at b ?_)|(with_reducible refine wpAny_isSame_ref_self ?_)|wp_step)
 exact l
def Q0(X:K.In h)(c:Op K C)(b:h.get? x=some ox)(a:ox.cls=jc C)(e:Q (some (.bool true)) ⟨h,g,d,t,os⟩) :
  wpAny (model prog w) A (zu (jc x) "__eq__" (jc x)) Q E ⟨h,g,d,t,os⟩:=by
 simp only[zu];refine ga ?_;simp only[aA,bA];refine ge (ga (ga (mV X c.f b a ?_)));simp only[Mp.eq.bind];refine ga (rG (wpAny_ite ?_));split
 ·exact ga (za (za (ga (LU X c b a (za (za e))))))
 ·exact ag (ga (za (za (ga (LU X c b a (za (za e)))))))
end
open Classical in
def f8{K:ϓ}{a:Nat->Addr}:∀ c∈([]:List Nat),Op K (a c):=λ_ h=>nomatch h
def KN{K:ϓ}{b:Nat->Addr}(a:Op K (b c))(r:∀ x∈l,Op K (b x)):∀ x∈c::l,Op K (b x):=λx d=>by
 rcases Ma.mp d with rfl|d
 ·exact a
 ·exact r x d
def fA(x:D)(xs:List D):M D:=λb=>match x,xs with
 | U n,[Z i]=>(match gh b n with
  |some a=>if 0<=i/\i<1000 then (match a[i.toNat]? with
   |some y=>Y y (b.set n (ϔ (a.take i.toNat++a.drop (i.toNat+1))))
   |none=>ϗ)else ϗ
  |none=>ϗ)
 |_,_=>ϗ
def t0:rA T LS fA:=by
 intro E D H σ x xs v b Q r p q h;cases x with
 |ref n=>
  match xs with
  |[Z i]=>
   rw[Ub]at q;obtain⟨w,z,rfl,A,B⟩:=q;rw[Ub]at B;subst B;rw[Ua]at A;subst A;unfold fA at h;cases c:gh σ n with
   |none=>simp only[c]at h;exact h.elim
   |some j=>
    simp only[c]at h;by_cases m:0<=i/\i<1000
    ·rw[ma m]at h;cases f:j[i.toNat]? with
     |none=>simp only[f]at h;exact h.elim
     |some y=>
      simp only[f]at h;obtain⟨a,b,rfl,s,k,g⟩:=r.wa p c;obtain⟨u,t,J⟩:=g.get f;have G:=(aa.mp t).1;have ex:∀ l,Ge D H D (Nc H a (ϰ l)):=λl=>Jw (La s) k (λ_ z=>by cases z) (λ_ _ z=>by cases z);have C:=r.write (o:=ϰ (b.take i.toNat++b.drop (i.toNat+1))) (ob:=ϔ (j.take i.toNat++j.drop (i.toNat+1))) s ⟨_,Ih,Ub.append (Ub.take _ (Ub.mono (ex _) _ _ g)) (Ub.drop _ (Ub.mono (ex _) _ _ g))⟩;have F:b.eraseIdx i.toNat=b.take i.toNat++b.drop (i.toNat+1):=List.eraseIdx_eq_take_drop_succ ..;refine⟨a,b,i,i.toNat,u,rfl,rfl,k,by omega,by omega,?_,t,?_⟩
      ·unfold jw;have I:¬ i<0:=by omega
       simp[I];omega
      ·rw[F];exact h _ _ _ C.1 C.2 (Ua.mono (ex _) _ _ J)
    ·rw[ra m]at h;exact h.elim
  |[]=>exact h.elim
  |d::e::l=>cases d<;>exact h.elim
  |[ϛ]=>exact h.elim
  |[ϐ _]=>exact h.elim
  |[ύ _]=>exact h.elim
  |[Ϗ _]=>exact h.elim
  |[O _]=>exact h.elim
  |[U _]=>exact h.elim
  |[ϱ _]=>exact h.elim
  |[.obj ..]=>exact h.elim
  |[.Du ..]=>exact h.elim
  |[Ϫ ..]=>exact h.elim
  |[.gt ..]=>exact h.elim
 |_=>cases xs<;>exact h.elim
section
variable{prog:Ia}{w:qb}{K:ϓ}{A:Za}{E:Value->ba->Prop}{h:Heap}{g:Array Nm}{d:az}{t:Nat}{os:zx}{x y C:Addr}{ox oy:Ad}
def zzv(X:K.In h)(c:Op K C)(f:h.get? x=some ox)(i:ox.cls=jc C)(l:h.get? y=some oy)(j:oy.cls=jc C)(o:A.units<cLine)(p:x=y->Q (.bool true) ⟨h,g,d,t,os⟩)(b:x≠y->Q (.bool false) ⟨h,g,d,t,os⟩) :
  wpAny (model prog w) A (gc .Eq (jc x) (jc y)) Q E ⟨h,g,d,t,os⟩:=by
 have m:ox.cls≠ ϙ "tuple":=by rw[i];intro e;cases e
 have k:(jc C != jc C)=false:=by simp
 show wpAny (model prog w) A (Um .Eq (jc x) (jc y)) Q E _;by_cases a:x=y
 ·have n:=p a;subst a;simp only[Um,AB,vx];repeat (first|with_reducible refine su o ?_|(with_reducible refine Ie f ?_;rw[i])|(rw[k,ra Eb])|(with_reducible refine Q0 X c f i ?_)|wp_step)
  exact n
 ·have b:=b a;simp only[Um,AB,vx];repeat (first|with_reducible refine su o ?_|(with_reducible refine Ie f ?_;rw[i])|(with_reducible refine Ie l ?_;rw[j])|(rw[k,ra Eb])|(with_reducible refine BH X c f i l a ?_)|(with_reducible refine BH X c l j f (yf a) ?_)|(with_reducible refine Uk a f l m ?_)|wp_step)
  exact b
end
def HH(K:ϓ)(a:Nat->Addr)(b c:Value)(l:List (Nat × Bool)):Prop:=∀ p∈l,W.exmAny K (jc (a p.1)) [b,c]=some p.2
def ybu{K:ϓ}:HH K a b c []:=λ_ h=>nomatch h
def gT{K:ϓ}(h:ϴ K (jc (a c)) d=some b)(i:ϴ K (jc (a c)) e=some g)(r:HH K a d e l):HH K a d e ((c,b || g)::l):=λp f=>by
 rcases Ma.mp f with rfl|f
 ·simp[W.exmAny,h,i]
 ·exact r p f
def ŭ{K:ϓ}(h:HH K a d f l):∀ c b,Hz l c=some b->W.exmAny K (jc (a c)) [d,f]=some b:=λc b e=>h (c,b) (uL e)
def ε(K:ϓ):R2:=λv u H Q=>FV K v u H Q\/∃ x y C a b c gs,v=ϕ x/\u=ϕ y/\H x=some (.yc C a c)/\H y=some (.yc C b gs)/\Op K C/\(x=y->Q (Ϭ true) H)/\(x≠y->Q (Ϭ false) H)
noncomputable def Ā:Fm Fl->Fm Fl
 | Y (Ϯ v) σ=>Y (Ϯ v) σ
 |_=>ϗ
def UK(A R:M Fl):D->D->M Fl
 | U i,U j=>λa=>if i=j then Ā (A a)else R a
 |_,_=>λ_=>ϗ
def bK(l:List (Nat × Nat))(b:List Nat)(A R:M Fl)(x y:D):M Fl:=λa=>match Dm a x,Dm a y with
 |some (c,_),some (d,_)=>if (c,d)∈l then R a else if c=d/\c∈b then UK A R x y a else ϗ
 |_,_=>ϗ
def oz(l:List (Nat × Nat))(b:List Nat)(c d:Ev->M D)(e f:Ev->M Fl):Ev->M Fl:=λa=>xs a (c a) λx=>xs a (d a) (bK l b (e a) (f a) x)
def w1(r:X.A.units+9<cLine):ni X (gc .Eq) (ε X.K):=by
 intro a s E H v u b j Q I i f h;rcases h with h|h
 ·exact ym5 r a s E H v u b j Q I i f h
 ·obtain⟨x,y,C,k,l,m,gs,rfl,rfl,n,o,c,q,D⟩:=h;obtain rfl:b=jc x:=i;obtain rfl:j=jc y:=f;obtain⟨_,_,_,z,_⟩:=(show fm X.prog X.w H s.heap x (.yc C k m)from I.Qd x _ n)
  obtain⟨_,_,_,B,_⟩:=(show fm X.prog X.w H s.heap y (.yc C l gs)from I.Qd y _ o)
  have p:=I.Ak;obtain⟨h,g,d,t,F⟩:=s;exact zzv p c z rfl B rfl (by omega) (λe=>⟨Ϭ true,H,I,rfl,q e⟩) (λe=>⟨Ϭ false,H,I,rfl,D e⟩)
def O4{A rest:List Stmt}(hu:X.A.units+9<cLine)(ht:WH X.K T.ca l)(hs:∀ c∈ώ,Op X.K (T.ca c))(hm:Ze .Eq b=false)(hl:FE T X a fl)(hr:FE T X b fr)(ha:um T X A P)(m:um T X rest gr) :
  um T X (.If (.Compare a [.Eq] [b] p) A [] W::rest) (oz l ώ fl fr P gr):=by
 intro w s st H D I hw;refine tQ (kY (gM (w1 hu) hl hr hm) ha ZP) m w s st H D I ?_;obtain⟨μ,ρ,σ,r,ό,hp⟩:=hw;refine⟨μ,ρ,σ,r,ό,Jc.xs r hp λx a4 a3 v H1 _ J r1 p1 q1=>⟨a3,ρ,a4,r.mono J,r1,Jc.xs (r.mono J) q1 λy f n u H2 _ e2 o p2 e=>?_⟩⟩;have t:=Ua.mono e2 _ _ p1;have h:=(r.mono J).mono e2;unfold bK at e;cases C:Dm f x with
 |none=>rw[C]at e;exact e.elim
 |some cf=>
  cases N:Dm f y with
  |none=>rw[C,N]at e;exact e.elim
  |some cg=>
   obtain⟨c,fs⟩:=cf;obtain⟨d,gs⟩:=cg;rw[C,N]at e;dsimp only at e;obtain⟨B,F,ϋ,rfl,Q,_⟩:=aC o t C;obtain⟨q,G,ws,rfl,R,_⟩:=aC o p2 N;by_cases g:(c,d)∈l
   ·rw[ma g]at e;obtain⟨ϊ,z2,z3,z4⟩:=ht (c,d) g;exact ϒ ⟨B,q,_,_,F,G,ϋ,ws,rfl,rfl,Q,R,ϊ,z2,z3,z4,false,rfl,n,ρ,f,h,o,e⟩
   ·rw[ra g]at e;by_cases S:c=d/\c∈ώ
    ·rw[ma S]at e;obtain⟨rfl,hc⟩:=S;cases x with
     |ref i=>
      cases y with
      |ref j=>
       obtain⟨a1,ϊ,m1⟩:=t;obtain⟨a2,z2,V⟩:=p2;cases ϊ;cases z2;unfold UK at e;dsimp only at e;by_cases k:i=j
       ·subst k;rw[m1]at V;cases V;rw[ma rfl]at e;refine ϖ ⟨B,B,_,F,G,ϋ,ws,rfl,rfl,Q,R,hs c hc,λ_=>⟨true,rfl,n,ρ,f,h,o,?_⟩,λz=>absurd rfl z⟩;cases L:P ρ f with
        |ok E a5=>
         cases E with
         |rt v=>
          rw[L]at e;intro a0 E H' e' r' q';have:=e a0 E H' e' r' q';cases E with
          |rt v=>exact this
          |_=>exact q'.elim
         |_=>rw[L]at e;exact e.elim
        |_=>rw[L]at e;exact e.elim
       ·rw[ra k]at e;refine ϖ ⟨B,q,_,F,G,ϋ,ws,rfl,rfl,Q,R,hs c hc,λz=>?_,λ_=>⟨false,rfl,n,ρ,f,h,o,e⟩⟩;subst z;obtain⟨i1,i2⟩:=aa.mp m1;obtain⟨j1,j2⟩:=aa.mp V;exact absurd ((dy o.nd).mp (i2.trans j2.symm)) k
      |_=>exact e.elim
     |_=>exact e.elim
    ·rw[ra S]at e;exact e.elim
end L4
set_option maxHeartbeats 0
namespace L4
open Spec L2
section
variable{P:Ia}{w:qb}{K:ϓ}{mg:Str->Option Value}{base:Heap}{ca:Nat->Addr}{tx:Tx}
def Qe{sc:Scope}(a:sc.kind=Ϧ:=by rfl)(b:sc.isCoroutine=false:=by rfl)(c:sc.isGenerator=false:=by rfl)(h:N.Nodup/\N.take Q.length=Q/\(∀ x∈Q,sc.names.lookup x=some .local\/sc.names.lookup x=some Jd)/\∀ y∈sc.names,y.2≠ Vb:=by decide +kernel):Ba N Q sc:=⟨a,b,c,h.1,h.2.1,h.2.2.1,h.2.2.2⟩
def ce(h:Se T X.prog X.w X.mg X.base k x ps f)(q:pe n X.A)(j:FA T X (e::a) g)(i:T.K=X.K:=by rfl)(o:k<=n:=by decide)(m:Gl X x:=by exact rfl)(c:(x == ("__debug__" : Str))=false:=by decide)(l:ya (e::a) X.env=(false,Ec e X.env)::ya a X.env:=by rfl)(d:(Cd b (ya a X.env)).any (·.1)=false:=by rfl):FE T X (ϣ (ϟ x p) (e::a) [] b) (Ld ps.length f [] g):=zrr h i (q.mono o) m j c l d
def fmt{pl:Qq Bool}(h:Lk T X.prog X.w X.mg X.base k m ps l)(t:pe n X.A)(r:FE T X o f)(q:FA T X (e::c) i)(p:T.K=X.K:=by rfl)(s:k<=n:=by decide)(g:ya (e::c) X.env=(false,Ec e X.env)::ya c X.env:=by rfl)(d:(Cd a (ya c X.env)).any (·.1)=false:=by rfl)
  (u:Ec (ϣ (Ϣ o m b) (e::c) [] a) X.env=(do
   let j <-Ec o X.env
   Vk b.atName
   let (f,first) <-Zg [j] (on j m pl)
   dz a f first (Cd a (ya (e::c) X.env)) (sk a (Ah [] X.env))):=by rfl):FE T X (ϣ (Ϣ o m b) (e::c) [] a) (jh l ps.length m f i):=n6 p r h (t.mono s) q g d u
def qt{pl:Qq Bool}(h:Lk T X.prog X.w X.mg X.base k m ps d)(j:pe n X.A)(g:FE T X o f)(e:T.K=X.K:=by rfl)(i:k<=n:=by decide)
  (l:Ec (ϣ (Ϣ o m a) [] [] b) X.env=(do
   let c <-Ec o X.env
   Vk a.atName
   let (f,first) <-Zg [c] (on c m pl)
   dz b f first (Cd b (ya [] X.env)) (sk b (Ah [] X.env))):=by rfl):FE T X (ϣ (Ϣ o m a) [] [] b) (jh d ps.length m f Pa):=t8 e g h (j.mono i) l
def ic(f:FE T X a fa)(g:FE T X b d)(e:T.K=X.K:=by rfl)(h:RM b:=by exact λ_ _=>rfl):FE T X (ϥ a b c) (Ja ib fa d):=yr0 Ļ (ĩ e) f g h
def No(g:pe k X.A)(e:FE T X a fa)(f:FE T X b d):FE T X (.Compare a [.Eq] [b] c) (Ja Uf fa d):=Dw (jj (vf g)) mh e f (Hf _)
def zk(f:FE T X a fa)(g:FE T X b d)(e:T.K=X.K:=by rfl):FE T X (.BinOp a .Add b c) (Ja Sh fa d):=Of (Œ e) mh f g
def oe(h:Co T b f)(i:FE T X e g)(c:T.K=X.K:=by rfl)(d:ye e f X.env (Ec e X.env)=Ec e X.env:=by rfl):FE T X (Ϣ e f a) (Dd (Mc b f) g):=NY c h i d
def zd(b:FE T X e f):um T X [.Return (some e) a] (pd f):=Ii (z8 b)
def jb(b:FE T X e a)(c:ya [e] X.env=(false,Ec e X.env)::ya [] X.env:=by rfl):FA T X [e] (qa a Pa):=db b ym c
def bc(c:X.N.Nodup)(d:FE T X e f)(h:X.N[i]?=some x:=by rfl)(k:Loc X.env.scope x:=by exact Or.inl rfl)(j:dj e (some (ϟ x a)) b.line X.env=pure false:=by rfl)(g:X.fn x=true\/X.env.scope.names.lookup x=some .local:=by first|exact .inl rfl|exact .inr rfl|assumption):FS T X (.Assign [ϟ x a] e b) (He i f):=BR c h k d j g
def xi(b:X.N.Nodup)(d:X.N[i]?=some x:=by rfl)(e:Loc X.env.scope x:=by exact Or.inl rfl)(c:X.fn x=true\/X.env.scope.names.lookup x=some .local:=by first|exact .inl rfl|exact .inr rfl|assumption):FG T X (ϟ x a) (We i):=LO b d e c
def Qk(e:qq T.K (T.ca c))(g:Eg T.K (T.ca c) m f)(i:Bi T P w mg base j f a b)(h:Lk T P w mg base k m a d)(l:j<=k:=by decide):Lk T P w mg base k m a ((c,b)::d):=Á e g i l h
def kh(h:Cg K mg x c ps)(S:Ba N ps (jd c))
  (e:∀ {f:Addr} {b:Value} {A:Za} {a:List zh} {s:ba} {H:Hp} {E:XK},pe k (A.deeper (Og x (jd c) s.heap.objs.size f b))->um ⟨K,ca,tx⟩ (Gq (Yl P w) P w K mg base N x (jd c) f b A a s H E) (Uj c) g) (i:N.length=n:=by rfl) :
  Se ⟨K,ca,tx⟩ P w mg base (k+1) x ps (L4.Lb λd=>L4.Qc (ae n g d)):=i ▸ Se.Lb (Se.Qc (RC h S λ_ _ _ _ _ _ _=>e))
def Eu(h:Wg K C x a d ps f)(S:Ba N ps (jd d))
  (i:∀ {c:Value} {A:Za} {b:List zh} {s:ba} {H:Hp} {E:XK},pe k (A.deeper (Og a (jd d) s.heap.objs.size f c))->um ⟨K,ca,tx⟩ (Gq (Yl P w) P w K mg base N a (jd d) f c A b s H E) (Uj d) g) (j:N.length=n:=by rfl) :
  Bi ⟨K,ca,tx⟩ P w mg base (k+1) f ps (L4.Lb λe=>L4.Qc (ae n g e)):=j ▸ Bi.Lb (Bi.Qc (RU h S λ_ _ _ _ _ _=>i))
def Sv(h:Wg K C x a d ps f)(S:Ba N ps (jd d))
  (e:∀ {c:Value} {A:Za} {b:List zh} {s:ba} {H:Hp} {E:XK},pe k (A.deeper (Og a (jd d) s.heap.objs.size f c))->um ⟨K,ca,tx⟩ (Gq (Yl P w) P w K mg base N a (jd d) f c A b s H E) (Uj d) g) (i:N.length=n:=by rfl) :
  Bi ⟨K,ca,tx⟩ P w mg base (k+1) f ps (L4.Lb (ae n g)):=i ▸ Bi.Lb (RU h S λ_ _ _ _ _ _=>e)
end
end L4
@[elab_as_elim] theorem bq1{α:Type}{P:List α->Prop}(u:List α)(h:u.length=1)(z:∀ a,P [a]):P u:=match u,h with|[a],_=>z a
@[elab_as_elim] theorem bq2{α:Type}{P:List α->Prop}(u:List α)(h:u.length=2)(z:∀ a b,P [a,b]):P u:=match u,h with|[a,b],_=>z a b
@[elab_as_elim] theorem bq3{α:Type}{P:List α->Prop}(u:List α)(h:u.length=3)(z:∀ a b c,P [a,b,c]):P u:=match u,h with|[a,b,c],_=>z a b c
@[elab_as_elim] theorem bq4{α:Type}{P:List α->Prop}(u:List α)(h:u.length=4)(z:∀ a b c d,P [a,b,c,d]):P u:=match u,h with|[a,b,c,d],_=>z a b c d
@[elab_as_elim] theorem bq5{α:Type}{P:List α->Prop}(u:List α)(h:u.length=5)(z:∀ a b c d e,P [a,b,c,d,e]):P u:=match u,h with|[a,b,c,d,e],_=>z a b c d e
@[elab_as_elim] theorem bq6{α:Type}{P:List α->Prop}(u:List α)(h:u.length=6)(z:∀ a b c d e f,P [a,b,c,d,e,f]):P u:=match u,h with|[a,b,c,d,e,f],_=>z a b c d e f
@[elab_as_elim] theorem bq7{α:Type}{P:List α->Prop}(u:List α)(h:u.length=7)(z:∀ a b c d e f g,P [a,b,c,d,e,f,g]):P u:=match u,h with|[a,b,c,d,e,f,g],_=>z a b c d e f g
namespace K44
open Spec L2 L4
noncomputable def Cc(i:Nat):Stmt:=PySem.Challenge.pw_sidebook_k44_whole_no_letter_takes_worth.main.body.getD i (.Pass ⟨0,0,0,0⟩)
def FJ(K:ϓ):Tab:=⟨Iy K "least_fate",266,35, "least_fate.<locals>.<lambda>"⟩
def TJ(K:ϓ):Tab:=⟨Iy K "paper",281,27, "paper.<locals>.<lambda>"⟩
def tx(K:ϓ):Tx:=⟨[FJ K,TJ K],Gz K⟩
def CS(K:ϓ):FJ K∈(tx K).qr:=(.head _)
def rT(K:ϓ):TJ K∈(tx K).qr:=(.tail _ (.head _))
def t4(K:ϓ):∀ t∈(tx K).qr,∃ x∈[("least_fate" : Str),("paper" : Str)],t.P=Iy K x:=by
 intro t a;have h:t∈[FJ K,TJ K]:=a;simp only[Ma,Me,Qo]at h;rcases h with rfl|rfl
 ·exact⟨"least_fate",by simp,rfl⟩
 ·exact⟨"paper",by simp,rfl⟩
structure Fd(K:ϓ)(mg:Str->Option Value)(ca:Nat->Addr):Prop where
 dc:Cg K mg "_law_cell_at" (Cc 91) ["_law_script","_law_k"]
 rh:Cg K mg "is_whole" (Cc 7) ["thing"]
 Vc:Cg K mg "is_between" (Cc 8) ["thing","least","most"]
 zg:Cg K mg "check_span" (Cc 81) ["hand","every","pots"]
 Yc:Wg K (ca 9) "learn" "Keeper.learn" (yh (Cc 89) 2) ["self","words"] (ca 22)
 Ce:Wg K (ca 9) "hold" "Keeper.hold" (yh (Cc 89) 1) ["self","account","claim","seen"] (ca 21)
 Mi:Cg K mg "is_day" (Cc 11) ["thing"]
 Rg:Cg K mg "is_word" (Cc 10) ["thing"]
 bf:Cg K mg "is_amount" (Cc 13) ["thing"]
 Pg:Cg K mg "is_side" (Cc 9) ["thing"]
 dh:Cg K mg "is_tie" (Cc 24) ["thing"]
 vg:Cg K mg "are_ties" (Cc 26) ["thing"]
 df:Cg K mg "are_shares" (Cc 25) ["thing"]
 rg:Cg K mg "is_number" (Cc 12) ["thing"]
 Ed:Cg K mg "is_stand" (Cc 27) ["thing"]
 Oh:FN K mg "stand" (Cc 28) ["number","shares","ties"] [Wc]
 fj:Cg K mg "first" (Cc 29) ["left","right"]
 nk:Wg K (ca 4) "__init__" "Account.__init__" (yh (Cc 52) 0) ["self","pot","side","mine","grant","may","strikes"] (ca 10)
 Xe:Cg K mg "first_account" (Cc 56) ["pot","side","left","right"]
 bu:Ww K (ca 9) "__init__" "Keeper.__init__" (yh (Cc 89) 0) ["self","hand","every","pots","words"] [Wc] (ca 20)
 ve:Cg K mg "shown_in_time" (Cc 37) ["tie","shown"]
 Xf:Cg K mg "lot_of_paid" (Cc 61) ["view","seen","tie"]
 Ag:Cg K mg "lot_of_due" (Cc 62) ["view","seen","tie"]
 Li:Cg K mg "lot_of" (Cc 63) ["view","pot","tie"]
 Rf:Cg K mg "read_stand" (Cc 64) ["view","pot","one"]
 Ug:Cg K mg "read_pots" (Cc 65) ["view"]
 kf:Cg K mg "all_choices" (Cc 66) ["readings"]
 Cf:Cg K mg "lots_by_word" (Cc 68) ["reads"]
 uh:Cg K mg "fates_of" (Cc 69) ["lots"]
 ue:Cg K mg "comes_by_fate" (Cc 70) ["lot","fate","every"]
 Fe:Cg K mg "sum_by_fate" (Cc 71) ["lots","fate","every"]
 yg:aI K mg "least_fate" (Cc 72) ["lots","every"]
 Oi:Cg K mg "sum_of" (Cc 73) ["reads","by_word","fates","every"]
 jf:Cg K mg "least_paper" (Cc 74) ["reads","chosen","every"]
 Yd:Cg K mg "chosen_readings" (Cc 67) ["readings","chosen"]
 Vj:aI K mg "paper" (Cc 75) ["view"]
 Mh:Cg K mg "worth" (Cc 76) ["view"]
 Vf:Cg K mg "stands_told" (Cc 82) ["account","claim"]
 Wt:Wg K (ca 8) "__init__" "View.__init__" (yh (Cc 60) 0) ["self","every","look","words","pots"] (ca 19)
 ud:Wg K (ca 9) "words" "Keeper.words" (yh (Cc 89) 3) ["self"] (ca 23)
 Zc:Wg K (ca 9) "view_by" "Keeper.view_by" (yh (Cc 89) 7) ["self","accounts"] (ca 27)
 Be:Wg K (ca 9) "view" "Keeper.view" (yh (Cc 89) 8) ["self"] (ca 28)
 Sb:Wg K (ca 9) "worth" "Keeper.worth" (yh (Cc 89) 9) ["self"] (ca 29)
 Md:Wg K (ca 9) "given" "Keeper.given" (yh (Cc 89) 5) ["self"] (ca 25)
 gf:Cg K mg "_law_mixed" (Cc 92) ["_law_cell","_law_k"]
 wc:Wg K (ca 9) "holds" "Keeper.holds" (yh (Cc 89) 12) ["self","pot"] (ca 32)
 nc:Wg K (ca 5) "word" "Calm.word" (yh (Cc 53) 0) ["self"] (ca 13)
 Gb:Wg K (ca 6) "word" "Offered.word" (yh (Cc 54) 0) ["self"] (ca 15)
 Xb:Wg K (ca 7) "word" "Waiting.word" (yh (Cc 55) 0) ["self"] (ca 17)
 ff:Cg K mg "with_more" (Cc 32) ["shares","side","amount"]
 Td:Cg K mg "following" (Cc 33) ["one","shares","ties"]
 af:Cg K mg "other_side" (Cc 15) ["side"]
 Ek:Cg K mg "gift" (Cc 34) ["one","side","amount"]
 Nj:Cg K mg "tied" (Cc 35) ["one","payer","amount","word","day"]
 Hg:Cg K mg "tie_of" (Cc 36) ["one","word"]
 Qf:Cg K mg "is_paid_by" (Cc 85) ["one","word","side"]
 Nf:Cg K mg "tie_to_end" (Cc 38) ["one","word"]
 ij:Cg K mg "ended" (Cc 39) ["one","tie","side"]
 Th:Cg K mg "settled" (Cc 40) ["one","word"]
 Vh:Cg K mg "dropped" (Cc 41) ["one","word"]
 Bf:Cg K mg "stand_wished" (Cc 86) ["account","wish","known"]
 Df:Cg K mg "allowance_of" (Cc 87) ["wish"]
 Nh:Cg K mg "deals" (Cc 30) ["one"]
 De:Cg K mg "is_stand_of" (Cc 31) ["thing","coin"]
 na:Wg K (ca 4) "agree_of" "Account.agree_of" (yh (Cc 52) 1) ["self","side","one"] (ca 11)
 Ve:Cg K mg "offered" (Cc 57) ["account","shares","ties"]
 ai:Cg K mg "is_pot" (Cc 14) ["thing"]
 Je:Cg K mg "is_of_a_side" (Cc 43) ["thing"]
 Pf:Cg K mg "is_thing" (Cc 44) ["thing"]
 Mg:Cg K mg "is_agree" (Cc 46) ["thing"]
 og:Cg K mg "is_strike" (Cc 47) ["thing"]
 yd:Cg K mg "has_its_parts" (Cc 48) ["letter"]
 Kc:Cg K mg "is_letter" (Cc 49) ["thing"]
 Af:Cg K mg "is_following" (Cc 51) ["thing","one"]
 Ca:Wg K (ca 4) "strike_of" "Account.strike_of" (yh (Cc 52) 2) ["self","side","one"] (ca 12)
 Uc:Wg K (ca 5) "taken" "Calm.taken" (yh (Cc 53) 1) ["self","letter"] (ca 14)
 Hc:Wg K (ca 6) "taken" "Offered.taken" (yh (Cc 54) 1) ["self","letter"] (ca 16)
 Gc:Wg K (ca 7) "taken" "Waiting.taken" (yh (Cc 55) 1) ["self","letter"] (ca 18)
 sh:Cg K mg "step_to" (Cc 88) ["account","one"]
 Ic:Wg K (ca 9) "is_good" "Keeper.is_good" (yh (Cc 89) 11) ["self","account","allowance"] (ca 31)
 Tc:Wg K (ca 9) "wish_for" "Keeper.wish_for" (yh (Cc 89) 14) ["self","one","wish"] (ca 34)
 Oc:Wg K (ca 9) "wish" "Keeper.wish" (yh (Cc 89) 13) ["self","wish"] (ca 33)
 qc:Wg K (ca 9) "account" "Keeper.account" (yh (Cc 89) 6) ["self","pot"] (ca 26)
 Sd:Cg K mg "_law_wish" (Cc 96) ["_law_keeper","_law_pot","_law_draw"]
 sg:Cg K mg "_law_deal" (Cc 93) ["_law_one","_law_whole","_law_draw"]
 rc:Wg K (ca 9) "take_ask" "Keeper.take_ask" (yh (Cc 89) 16) ["self","letter"] (ca 36)
 Jb:Wg K (ca 9) "is_as_asked" "Keeper.is_as_asked" (yh (Cc 89) 17) ["self","letter"] (ca 37)
 Ib:Wg K (ca 9) "take_step" "Keeper.take_step" (yh (Cc 89) 18) ["self","letter"] (ca 38)
 Cb:Wg K (ca 9) "take" "Keeper.take" (yh (Cc 89) 15) ["self","letter"] (ca 35)
 Ee:Cg K mg "_law_turned" (Cc 95) ["_law_keeper","_law_pot","_law_whole","_law_draw"]
 Wd:Cg K mg "_law_letter" (Cc 94) ["_law_keeper","_law_pot","_law_whole","_law_draw"]
 Ef:Cg K mg "_law_outside" (Cc 97) ["_law_keeper","_law_pot","_law_draw"]
 Lq:Cg K mg "law" (Cc 98) ["_law_script"]
 Rj:mg "worth_worth" = mg "worth"
 wD:mg "all" = none
 Ow:mg "bool" = none
 xw:mg "dict" = none
 Os:mg "enumerate" = none
 ez:mg "int" = none
 Xd:mg "isinstance" = none
 Bg:mg "len" = none
 vp:mg "list" = none
 nz:mg "max" = none
 xp:mg "min" = none
 Go:mg "range" = none
 EE:mg "set" = none
 Fw:mg "sorted" = none
 rz:mg "str" = none
 Ps:mg "sum" = none
 ti:mg "tuple" = none
 xE:mg "zip" = none
 GA:RF K mg "FIRM" ["won","sure","back"]
 qw:RF K mg "HELD" ["held"]
 Bk:∃ t,mg "MOST_AMOUNT" = some (Ck 1000000000000 t)
 yp:∃ t,mg "MOST_DAY" = some (Ck 1000000 t)
 Ll:∃ t,mg "MOST_EVERY" = some (Ck 50 t)
 xk:∃ t,mg "MOST_NUMBER" = some (Ck 1000000 t)
 Vo:∃ t,mg "MOST_POT" = some (Ck 2 t)
 Ph:∃ t,mg "MOST_SHARE" = some (Ck 2000000000000 t)
 Ym:∃ t,mg "MOST_TIES" = some (Ck 6 t)
 bn:∃ t,mg "MOST_WORD" = some (Ck 59 t)
 Tg:mg "NoStand" = some (jc (ca 1))
 Rh:W.excIn K (ca 1) HV "ValueError.__new__" = true
 Rs:mg "NoDeed" = some (jc (ca 2))
 vw:W.excIn K (ca 2) HV "ValueError.__new__" = true
 Pn:ϴ K (jc (ca 2)) (jc (ca 2))=some true
 Pi:ϴ K (jc (ca 2)) (jc (ca 1))=some false
 tm:ϴ K (jc (ca 1)) (jc (ca 2))=some false
 si:ϴ K (jc (ca 1)) (jc (ca 1))=some true
 Bc:L2.qq K (ca 9)
 zp:L2.bi K (ca 9) "hand"
 ro:L2.bi K (ca 9) "every"
 Ao:L2.qq K (ca 8)
 jq:L2.bi K (ca 8) "every"
 ak:L2.bi K (ca 9) "last_look"
 Kl:L2.bi K (ca 8) "last_look"
 Fp:L2.bi K (ca 9) "gave"
 ko:L2.bi K (ca 9) "known"
 rq:L2.bi K (ca 8) "known"
 Kk:L2.bi K (ca 9) "accounts"
 xm:L2.bi K (ca 9) "claims"
 Xo:L2.bi K (ca 9) "seen"
 Tn:L2.bi K (ca 9) "asked"
 Zj:L2.bi K (ca 9) "finishing"
 xn:L2.Eg K (ca 9) "learn" (ca 22)
 qf:L2.qq K (ca 7)
 Yo:L2.bi K (ca 7) "pot"
 Ke:L2.qq K (ca 6)
 Wo:L2.bi K (ca 6) "pot"
 bh:L2.qq K (ca 5)
 Ts:L2.bi K (ca 5) "pot"
 Ng:L2.qq K (ca 4)
 Ep:L2.bi K (ca 4) "pot"
 bp:L2.Eg K (ca 9) "hold" (ca 21)
 Fn:L2.bi K (ca 7) "side"
 yn:L2.bi K (ca 6) "side"
 Vq:L2.bi K (ca 5) "side"
 jo:L2.bi K (ca 4) "side"
 io:L2.bi K (ca 7) "mine"
 On:L2.bi K (ca 6) "mine"
 br:L2.bi K (ca 5) "mine"
 Jn:L2.bi K (ca 4) "mine"
 Am:L2.bi K (ca 7) "grant"
 Im:L2.bi K (ca 6) "grant"
 Zp:L2.bi K (ca 5) "grant"
 Hm:L2.bi K (ca 4) "grant"
 Zo:L2.bi K (ca 7) "may"
 qp:L2.bi K (ca 6) "may"
 Ds:L2.bi K (ca 5) "may"
 gp:L2.bi K (ca 4) "may"
 Fk:L2.bi K (ca 7) "strikes"
 Nk:L2.bi K (ca 6) "strikes"
 Qn:L2.bi K (ca 5) "strikes"
 Rk:L2.bi K (ca 4) "strikes"
 Dt:mg "Calm" = some (jc (ca 5))
 jr:L2.Mk K (ca 5) (ca 10)
 Xw:mg "Keeper" = some (jc (ca 9))
 Wu:L2.Mk K (ca 9) (ca 20)
 cr:L2.bi K (ca 8) "pots"
 IA:mg "View" = some (jc (ca 8))
 xy:L2.Mk K (ca 8) (ca 19)
 Vn:L2.Eg K (ca 9) "words" (ca 23)
 Jl:L2.Eg K (ca 9) "view_by" (ca 27)
 Uo:L2.Eg K (ca 9) "view" (ca 28)
 Nn:L2.Eg K (ca 9) "worth" (ca 29)
 eo:L2.Eg K (ca 9) "given" (ca 25)
 Rn:L2.Eg K (ca 9) "holds" (ca 32)
 Yn:L2.Eg K (ca 7) "word" (ca 17)
 Wn:L2.Eg K (ca 6) "word" (ca 15)
 Yq:L2.Eg K (ca 5) "word" (ca 13)
 Yu:mg "Offered" = some (jc (ca 6))
 Vt:L2.Mk K (ca 6) (ca 10)
 Xj:L2.Eg K (ca 7) "agree_of" (ca 11)
 Jh:L2.Eg K (ca 6) "agree_of" (ca 11)
 Ri:L2.Eg K (ca 5) "agree_of" (ca 11)
 Yj:L2.Eg K (ca 4) "agree_of" (ca 11)
 qv:mg "Waiting" = some (jc (ca 7))
 Jt:L2.Mk K (ca 7) (ca 10)
 xl:L2.Eg K (ca 5) "strike_of" (ca 12)
 Lj:L2.Eg K (ca 6) "strike_of" (ca 12)
 Pj:L2.Eg K (ca 7) "strike_of" (ca 12)
 Gm:L2.Eg K (ca 7) "taken" (ca 18)
 wm:L2.Eg K (ca 6) "taken" (ca 16)
 sq:L2.Eg K (ca 5) "taken" (ca 14)
 Il:L2.Eg K (ca 9) "is_good" (ca 31)
 Dk:L2.Eg K (ca 9) "wish_for" (ca 34)
 pp:L2.Eg K (ca 9) "wish" (ca 33)
 yl:L2.Eg K (ca 9) "account" (ca 26)
 Gk:L2.Eg K (ca 9) "take_ask" (ca 36)
 zl:L4.Op K (ca 5)
 gn:L4.Op K (ca 6)
 ao:Ϲ K (ca 6) (jc (ca 5))=some false
 wo:(ca 5)≠(ca 6)
 Ij:L4.Op K (ca 7)
 Bn:Ϲ K (ca 7) (jc (ca 5))=some false
 Ln:(ca 5)≠(ca 7)
 An:Ϲ K (ca 5) (jc (ca 7))=some false
 oo:(ca 7)≠(ca 5)
 vj:L2.Eg K (ca 9) "is_as_asked" (ca 37)
 ck:L2.Eg K (ca 9) "take_step" (ca 38)
 Dp:L2.Eg K (ca 9) "take" (ca 35)
 tb:Ay K ["least_fate","paper"]
 OU:mg "__builtins__" = some (jc (Gz K))
 eE:∀ t∈(tx K).qr,∀ t'∈(tx K).qr,t'.P=t.P->t'=t
seal L2.PE L2.PS L2.Ku L2.PT L2.PW L2.PA L2.PI L2.PG
section
variable{P:Ia}{w:qb}{K:ϓ}{mg:Str->Option Value}{base:Heap}{ca:Nat->Addr}(a:Fd K mg ca)
include a
abbrev N6:Stmt:=Cc 91
def mX:Ev->M Fl:=
 (Zb (Wf (eT (Ja oLt (da 1) (ah yj (qa (da 0) Pa)))) (pd (Ja ib (da 0) (da 1))) dg) (pd (eC (Z 0))))
def dc:List D->M D:=Lb λa=>Qc (ae 2 mX a)
def zc3:Ba ["_law_script","_law_k"] ["_law_script","_law_k"] (jd N6):=Qe
def yD:Se ⟨K,ca,tx K⟩ P w mg base 1 "_law_cell_at" ["_law_script","_law_k"] dc:=
 kh a.dc zc3 λb=>
  (lc (eg (Lf Zv Mv (ja 1) (Kj bq (iq rfl) rfl a.Bg Nb (jb (ja 0))) (Hf _)) (zd (ic (ja 0) (ja 1))) lg)
  (zd Qa))
abbrev X8:Stmt:=Cc 7
def uW:Ev->M Fl:=
 (pd (gj (Dd (Kq .int) (da 0)) (rM (Dd (Kq .bool) (da 0)))))
def rh:List D->M D:=Lb λa=>Qc (ae 1 uW a)
def ú:Ba ["thing"] ["thing"] (jd X8):=Qe
def T3:Se ⟨K,ca,tx K⟩ P w mg base 1 "is_whole" ["thing"] rh:=
 kh a.rh ú λb=>
  (zd (wj (sw .int (ja 0) rfl a.Xd rfl a.ez boot_int) (Zm (LY (sw .bool (ja 0) rfl a.Xd rfl a.Ow boot_bool)))))
abbrev O3:Stmt:=Cc 8
def YT:Ev->M Fl:=
 (pd (gj (Ld 1 rh [] (qa (da 0) Pa)) (zL oLe oLe (da 1) (da 0) (da 2))))
def Vc:List D->M D:=Lb λa=>Qc (ae 3 YT a)
def BZ:Ba ["thing","least","most"] ["thing","least","most"] (jd O3):=Qe
def sy:Se ⟨K,ca,tx K⟩ P w mg base 2 "is_between" ["thing","least","most"] Vc:=
 kh a.Vc BZ λb=>
  (zd (wj (ce (T3 a) b (jb (ja 0))) (Zm (M6 xQ JT xQ JT (ja 1) (ja 0) (ja 2)))))
abbrev Ŧ:Stmt:=Cc 81
abbrev DW:Ev->M Fl:=(Wf (gu (eT (Ja (Bu false) (da 0) (bF (da 3) none (some (eC (Z 2)))))) (eT (Ja oLt (Ja ib (da 3) (eC (Z 4))) (Ja Sh (da 1) (eC (Z 1)))))) Jz dg)
def FR:Ev->M Fl:=
 (Zb (Wf (Cm (eT (Ld 3 Vc [] (qa (da 1) (qa (eC (Z 1)) (qa (eC (Z 50)) Pa)))))) Jz dg) (Xv (Bj (da 2)) (We 3) DW))
def zg:List D->M D:=Lb λa=>Qc (ae 4 FR a)
def gR:Ba ["hand","every","pots","made"] ["hand","every","pots"] (jd Ŧ):=Qe
def ć:Se ⟨K,ca,tx K⟩ P w mg base 3 "check_span" ["hand","every","pots"] zg:=
 kh a.zg gR λb=>
  (lc (eg (bo (vk (ce (sy a) b (db (ja 1) (db Qa (jb (my (u:=Ck 50 (a.Ll).choose) rfl (a.Ll).choose_spec ⟨_,rfl⟩))))))) LA lg)
  (Ii (Zx du rfl (lq rfl (ja 2)) (xi gR.nd) (Ii (eg (L2.PW.pt (Vu (Lf kO (zI rfl false) (ja 0) (jN rfl (ja 3) tO (LM Qa)) rfl) (Ex (Lf Zv Mv (ic (ja 3) Qa) (zk (ja 1) Qa) (Hf _))))) LA lg)))))
def ω:Co ⟨K,ca,tx K⟩ [9] "hand":=(oj a.Bc a.zp Bs)
def oF:Co ⟨K,ca,tx K⟩ [8,9] "every":=(oj a.Ao a.jq (oj a.Bc a.ro Bs))
def FB:Co ⟨K,ca,tx K⟩ [8,9] "last_look":=(oj a.Ao a.Kl (oj a.Bc a.ak Bs))
def xJ:Co ⟨K,ca,tx K⟩ [9] "gave":=(oj a.Bc a.Fp Bs)
def gC:Co ⟨K,ca,tx K⟩ [8,9] "known":=(oj a.Ao a.rq (oj a.Bc a.ko Bs))
def kt:Co ⟨K,ca,tx K⟩ [9] "accounts":=(oj a.Bc a.Kk Bs)
def zH:Co ⟨K,ca,tx K⟩ [9] "claims":=(oj a.Bc a.xm Bs)
def lN:Co ⟨K,ca,tx K⟩ [9] "seen":=(oj a.Bc a.Xo Bs)
def JC:Co ⟨K,ca,tx K⟩ [9] "asked":=(oj a.Bc a.Tn Bs)
def Ķ:Co ⟨K,ca,tx K⟩ [9] "finishing":=(oj a.Bc a.Zj Bs)
abbrev Ö:Stmt:=yh (Cc 89) 2
abbrev GK:Ev->M Fl:=(Xu (eC (ϐ true)) (Dd (Mc [8,9] "known") (da 0)) (da 2))
def nN:Ev->M Fl:=
 (Xv (Bj (da 1)) (We 2) GK)
def Yc:List D->M D:=Lb (ae 3 nN)
def WW:Ba ["self","words","word"] ["self","words"] (jd Ö):=Qe
def N3:Bi ⟨K,ca,tx K⟩ P w mg base 1 (ca 22) ["self","words"] Yc:=
 Sv a.Yc WW λb=>
  (Ii (Zx du rfl (lq rfl (ja 1)) (xi WW.nd) (Ii (Ew (vf b) Uq (oe (gC a) (ja 0)) (ja 2)))))
def eR:Lk ⟨K,ca,tx K⟩ P w mg base 1 "learn" ["self","words"] [(9,Yc)]:=(Qk a.Bc a.xn (N3 a) Jo)
def Xq:Co ⟨K,ca,tx K⟩ [4,5,6,7] "pot":=(oj a.Ng a.Ep (oj a.bh a.Ts (oj a.Ke a.Wo (oj a.qf a.Yo Bs))))
abbrev zfn:Stmt:=yh (Cc 89) 1
def yQ:Ev->M Fl:=
 (Zb (Xu (da 1) (Dd (Mc [9] "accounts") (da 0)) (Dd (Mc [4,5,6,7] "pot") (da 1))) (Zb (Xu (da 2) (Dd (Mc [9] "claims") (da 0)) (Dd (Mc [4,5,6,7] "pot") (da 1))) (Xu (da 3) (Dd (Mc [9] "seen") (da 0)) (Dd (Mc [4,5,6,7] "pot") (da 1)))))
def Ce:List D->M D:=Lb (ae 4 yQ)
def OY:Ba ["self","account","claim","seen"] ["self","account","claim","seen"] (jd zfn):=Qe
def ç:Bi ⟨K,ca,tx K⟩ P w mg base 1 (ca 21) ["self","account","claim","seen"] Ce:=
 Sv a.Ce OY λb=>
  (lc (Ew (vf b) (ja 1) (oe (kt a) (ja 0)) (oe (Xq a) (ja 1)))
  (lc (Ew (vf b) (ja 2) (oe (zH a) (ja 0)) (oe (Xq a) (ja 1)))
  (Ii (Ew (vf b) (ja 3) (oe (lN a) (ja 0)) (oe (Xq a) (ja 1))))))
def Ģ:Lk ⟨K,ca,tx K⟩ P w mg base 1 "hold" ["self","account","claim","seen"] [(9,Ce)]:=(Qk a.Bc a.bp (ç a) Jo)
abbrev J7:Stmt:=Cc 11
def yT:Ev->M Fl:=
 (pd (Ld 3 Vc [] (qa (da 0) (qa (eC (Z 0)) (qa (eC (Z 1000000)) Pa)))))
def Mi:List D->M D:=Lb λa=>Qc (ae 1 yT a)
def V7:Ba ["thing"] ["thing"] (jd J7):=Qe
def A9:Se ⟨K,ca,tx K⟩ P w mg base 3 "is_day" ["thing"] Mi:=
 kh a.Mi V7 λb=>
  (zd (ce (sy a) b (db (ja 0) (db Qa (jb (my (u:=Ck 1000000 (a.yp).choose) rfl (a.yp).choose_spec ⟨_,rfl⟩))))))
abbrev Æ:Stmt:=Cc 10
def EW:Ev->M Fl:=
 (pd (Ld 3 Vc [] (qa (da 0) (qa (eC (Z 0)) (qa (eC (Z 59)) Pa)))))
def Rg:List D->M D:=Lb λa=>Qc (ae 1 EW a)
def zlc:Ba ["thing"] ["thing"] (jd Æ):=Qe
def FL:Se ⟨K,ca,tx K⟩ P w mg base 3 "is_word" ["thing"] Rg:=
 kh a.Rg zlc λb=>
  (zd (ce (sy a) b (db (ja 0) (db Qa (jb (my (u:=Ck 59 (a.bn).choose) rfl (a.bn).choose_spec ⟨_,rfl⟩))))))
abbrev zi3:Stmt:=Cc 13
def cN:Ev->M Fl:=
 (pd (Ld 3 Vc [] (qa (da 0) (qa (eC (Z 1)) (qa (eC (Z 1000000000000)) Pa)))))
def bf:List D->M D:=Lb λa=>Qc (ae 1 cN a)
def X5:Ba ["thing"] ["thing"] (jd zi3):=Qe
def yU:Se ⟨K,ca,tx K⟩ P w mg base 3 "is_amount" ["thing"] bf:=
 kh a.bf X5 λb=>
  (zd (ce (sy a) b (db (ja 0) (db Qa (jb (my (u:=Ck 1000000000000 (a.Bk).choose) rfl (a.Bk).choose_spec ⟨_,rfl⟩))))))
abbrev zo7:Stmt:=Cc 9
def eY:Ev->M Fl:=
 (pd (Ld 3 Vc [] (qa (da 0) (qa (eC (Z 0)) (qa (eC (Z 1)) Pa)))))
def Pg:List D->M D:=Lb λa=>Qc (ae 1 eY a)
def Ρ:Ba ["thing"] ["thing"] (jd zo7):=Qe
def yM:Se ⟨K,ca,tx K⟩ P w mg base 3 "is_side" ["thing"] Pg:=
 kh a.Pg Ρ λb=>
  (zd (ce (sy a) b (db (ja 0) (db Qa (jb Qa)))))
abbrev Ü:Stmt:=Cc 24
def cV:Ev->M Fl:=
 (pd (gj (Dd (Kq .tuple) (da 0)) (gj (Ja Uf (ah yj (qa (da 0) Pa)) (eC (Z 4))) (gj (Ld 1 Pg [] (qa (Ja ib (da 0) (eC (Z 0))) Pa)) (gj (Ld 1 bf [] (qa (Ja ib (da 0) (eC (Z 1))) Pa)) (gj (Ld 1 Rg [] (qa (Ja ib (da 0) (eC (Z 2))) Pa)) (Ld 1 Mi [] (qa (Ja ib (da 0) (eC (Z 3))) Pa))))))))
def dh:List D->M D:=Lb λa=>Qc (ae 1 cV a)
def S2:Ba ["thing"] ["thing"] (jd Ü):=Qe
def oQ:Se ⟨K,ca,tx K⟩ P w mg base 4 "is_tie" ["thing"] dh:=
 kh a.dh S2 λb=>
  (zd (wj (sw .tuple (ja 0) rfl a.Xd rfl a.ti gi) (wj (No b (Kj bq (iq rfl) rfl a.Bg Nb (jb (ja 0))) Qa) (wj (ce (yM a) b (jb (ic (ja 0) Qa))) (wj (ce (yU a) b (jb (ic (ja 0) Qa))) (wj (ce (FL a) b (jb (ic (ja 0) Qa))) (Zm (ce (A9 a) b (jb (ic (ja 0) Qa))))))))))
abbrev zk4:Stmt:=Cc 26
def uM:Ev->M Fl:=
 (Zb (Wf (Zq (Cm (eT (Dd (Kq .tuple) (da 0)))) (eT (Ja bE (ah yj (qa (da 0) Pa)) (eC (Z 6))))) (pd (eC (ϐ false))) dg) (Zb (Wf (Cm (eT (ah GF (qa (qj (dm (Fo (Bj (da 0))) [] (We 0) Cp (Ld 1 dh [] (qa (da 0) Pa)))) Pa)))) (pd (eC (ϐ false))) dg) (pd (Ja Uf (Dd oE (qj (dm (Fo (Bj (da 0))) [] (We 0) Cp (Ja ib (da 0) (eC (Z 2)))))) (ah yj (qa (da 0) Pa))))))
def vg:List D->M D:=Lb λa=>Qc (ae 1 uM a)
def S1:Ba ["thing"] ["thing"] (jd zk4):=Qe
def zim:Se ⟨K,ca,tx K⟩ P w mg base 5 "are_ties" ["thing"] vg:=
 kh a.vg S1 λb=>
  (lc (eg (L2.PW.pt (Ks (bo (vk (sw .tuple (ja 0) rfl a.Xd rfl a.ti gi))) (Iu (Lf bI IH (Kj bq (iq rfl) rfl a.Bg Nb (jb (ja 0))) (my (u:=Ck 6 (a.Ym).choose) rfl (a.Ym).choose_spec ⟨_,rfl⟩) (Hf _))))) (zd Uq) lg)
  (lc (eg (bo (vk (Kj (zqh rfl) (B7 rfl) rfl a.wD boot_all (jb (Cq (Gu (x:="tie") (z0:="0") (M':=[]) (ix:=[]) rfl ⟨rfl,rfl,rfl,rfl,rfl,rfl⟩ (Tt (lq rfl (ja 0))) (λ_ _ _ _ _=>xi (by show List.Nodup (("tie"::"0"::[]):List Str);decide +kernel)) (λ_ _ _ _ _=>Nv) (λ_ _ _ _ _=>(ce (oQ a) b (jb (ja 0)))))))))) (zd Uq) lg)
  (zd (No b (P4 rfl rfl rfl a.Bg rfl a.EE (Cq (Gu (x:="tie") (z0:="0") (M':=[]) (ix:=[]) rfl ⟨rfl,rfl,rfl,rfl,rfl,rfl⟩ (Tt (lq rfl (ja 0))) (λ_ _ _ _ _=>xi (by show List.Nodup (("tie"::"0"::[]):List Str);decide +kernel)) (λ_ _ _ _ _=>Nv) (λ_ _ _ _ _=>(ic (ja 0) Qa))))) (Kj bq (iq rfl) rfl a.Bg Nb (jb (ja 0)))))))
abbrev S9:Stmt:=Cc 25
def SN:Ev->M Fl:=
 (pd (gj (Dd (Kq .tuple) (da 0)) (gj (Ja Uf (ah yj (qa (da 0) Pa)) (eC (Z 2))) (gj (Ld 3 Vc [] (qa (Ja ib (da 0) (eC (Z 0))) (qa (eC (Z 0)) (qa (eC (Z 2000000000000)) Pa)))) (Ld 3 Vc [] (qa (Ja ib (da 0) (eC (Z 1))) (qa (eC (Z 0)) (qa (eC (Z 2000000000000)) Pa))))))))
def df:List D->M D:=Lb λa=>Qc (ae 1 SN a)
def K0:Ba ["thing"] ["thing"] (jd S9):=Qe
def Ź:Se ⟨K,ca,tx K⟩ P w mg base 3 "are_shares" ["thing"] df:=
 kh a.df K0 λb=>
  (zd (wj (sw .tuple (ja 0) rfl a.Xd rfl a.ti gi) (wj (No b (Kj bq (iq rfl) rfl a.Bg Nb (jb (ja 0))) Qa) (wj (ce (sy a) b (db (ic (ja 0) Qa) (db Qa (jb (my (u:=Ck 2000000000000 (a.Ph).choose) rfl (a.Ph).choose_spec ⟨_,rfl⟩))))) (Zm (ce (sy a) b (db (ic (ja 0) Qa) (db Qa (jb (my (u:=Ck 2000000000000 (a.Ph).choose) rfl (a.Ph).choose_spec ⟨_,rfl⟩))))))))))
abbrev ť:Stmt:=Cc 12
def uS:Ev->M Fl:=
 (pd (Ld 3 Vc [] (qa (da 0) (qa (eC (Z 0)) (qa (eC (Z 1000000)) Pa)))))
def rg:List D->M D:=Lb λa=>Qc (ae 1 uS a)
def f7:Ba ["thing"] ["thing"] (jd ť):=Qe
def QQ:Se ⟨K,ca,tx K⟩ P w mg base 3 "is_number" ["thing"] rg:=
 kh a.rg f7 λb=>
  (zd (ce (sy a) b (db (ja 0) (db Qa (jb (my (u:=Ck 1000000 (a.xk).choose) rfl (a.xk).choose_spec ⟨_,rfl⟩))))))
abbrev Ĉ:Stmt:=Cc 27
def kL:Ev->M Fl:=
 (pd (gj (Dd (Kq .tuple) (da 0)) (gj (Ja Uf (ah yj (qa (da 0) Pa)) (eC (Z 3))) (gj (Ld 1 rg [] (qa (Ja ib (da 0) (eC (Z 0))) Pa)) (gj (Ld 1 df [] (qa (Ja ib (da 0) (eC (Z 1))) Pa)) (Ld 1 vg [] (qa (Ja ib (da 0) (eC (Z 2))) Pa)))))))
def Ed:List D->M D:=Lb λa=>Qc (ae 1 kL a)
def ł:Ba ["thing"] ["thing"] (jd Ĉ):=Qe
def GH:Se ⟨K,ca,tx K⟩ P w mg base 6 "is_stand" ["thing"] Ed:=
 kh a.Ed ł λb=>
  (zd (wj (sw .tuple (ja 0) rfl a.Xd rfl a.ti gi) (wj (No b (Kj bq (iq rfl) rfl a.Bg Nb (jb (ja 0))) Qa) (wj (ce (QQ a) b (jb (ic (ja 0) Qa))) (wj (ce (Ź a) b (jb (ic (ja 0) Qa))) (Zm (ce (zim a) b (jb (ic (ja 0) Qa)))))))))
abbrev BD(x q:Str)(s:Stmt)(c:List Str):Prop:=∀ (kV b d:Value) (an:Option Addr) (a ct:Value) (us:List Value),us.length=c.length->bindArgs (ϭ x q (aq s) (Uj s) (jd s) Wc kV b d an a ct) ⟨us,[]⟩=pure (c.zip us)
abbrev AA:Stmt:=Cc 28
def zN:Ev->M Fl:=
 (Zb (He 3 (wf (qa (da 0) (qa (da 1) (qa (Bz (eT (Ja Uu (da 2) (eC ϛ))) (wf Pa) (da 2)) Pa))))) (Zb (Wf (Cm (eT (Ld 1 Ed [] (qa (da 3) Pa)))) (Ly 1 (qa (eC (ύ "number, shares and ties make no stand")) Pa)) dg) (pd (da 3))))
def Oh:List D->M D:=Lb λa=>Qc (ae 4 zN a)
def qT:Ba ["number","shares","ties","made"] ["number","shares","ties"] (jd AA):=Qe
def N7(t:Addr)(kV c h:Value)(e:Option Addr)(b ct:Value)(s:ba)(o:Ad)(n:Nat)(a:List Value)(f:s.heap.get? t=some o)(g:o.data=Ϩ ([Wc]:List Value).toArray n) :
  ((a++[]).length=(["number","shares","ties"]:List Str).length->Fh s (ϭ "stand" "stand" (aq AA) (Uj AA) (jd AA) (jc t) kV c h e b ct) ⟨a,[]⟩ ((["number","shares","ties"]:List Str).zip (a++[])))/\
  ((a++[Wc]).length=(["number","shares","ties"]:List Str).length->Fh s (ϭ "stand" "stand" (aq AA) (Uj AA) (jd AA) (jc t) kV c h e b ct) ⟨a,[]⟩ ((["number","shares","ties"]:List Str).zip (a++[Wc]))):=
 ⟨λd=>bq3 a (by simpa using d) λ_ _ _=>Lh rfl f g rfl rfl,λd=>bq2 a (by simpa using d) λ_ _=>Lh rfl f g rfl rfl⟩
def YW:Rv ⟨K,ca,tx K⟩ P w mg base 7 "stand" ["number","shares","ties"] [Wc] Oh:=
 Rv.Lb (Rv.Qc (Ğ a.Oh qT λ_ _ _ _ _ _ _ b=>
  (lc (bc qT.nd (Ff (db (ja 0) (db (ja 1) (jb (cE (Lf gF vF (ja 2) Yt (Hf _)) (Ff ym) (ja 2)))))))
  (lc (eg (bo (vk (ce (GH a) b (jb (ja 3))))) (Ii (kB 1 vd rfl a.Rh a.Tg rfl rfl (jb lf))) lg)
  (zd (ja 3))))))
abbrev yfp:Stmt:=Cc 29
def mP:Ev->M Fl:=
 (pd (Ld 3 Oh [ϛ] (qa (eC (Z 0)) (qa (wf (qa (da 0) (qa (da 1) Pa))) Pa))))
def fj:List D->M D:=Lb λa=>Qc (ae 2 mP a)
def Ã:Ba ["left","right"] ["left","right"] (jd yfp):=Qe
def i4:Se ⟨K,ca,tx K⟩ P w mg base 8 "first" ["left","right"] fj:=
 kh a.fj Ã λb=>
  (zd (O7 (YW a) rfl (b.mono (by decide)) rfl N4 T0 (db Qa (jb (Ff (db (ja 0) (jb (ja 1))))))))
def Qt:Co ⟨K,ca,tx K⟩ [4,5,6,7] "side":=(oj a.Ng a.jo (oj a.bh a.Vq (oj a.Ke a.yn (oj a.qf a.Fn Bs))))
def Iq:Co ⟨K,ca,tx K⟩ [4,5,6,7] "mine":=(oj a.Ng a.Jn (oj a.bh a.br (oj a.Ke a.On (oj a.qf a.io Bs))))
def QM:Co ⟨K,ca,tx K⟩ [4,5,6,7] "grant":=(oj a.Ng a.Hm (oj a.bh a.Zp (oj a.Ke a.Im (oj a.qf a.Am Bs))))
def Zw:Co ⟨K,ca,tx K⟩ [4,5,6,7] "may":=(oj a.Ng a.gp (oj a.bh a.Ds (oj a.Ke a.qp (oj a.qf a.Zo Bs))))
def yA:Co ⟨K,ca,tx K⟩ [4,5,6,7] "strikes":=(oj a.Ng a.Rk (oj a.bh a.Qn (oj a.Ke a.Nk (oj a.qf a.Fk Bs))))
abbrev Z4:Stmt:=yh (Cc 52) 0
def lV:Ev->M Fl:=
 (Zb (Ho [4,5,6,7] "pot" (da 1) (da 0)) (Zb (Ho [4,5,6,7] "side" (da 2) (da 0)) (Zb (Ho [4,5,6,7] "mine" (da 3) (da 0)) (Zb (Ho [4,5,6,7] "grant" (da 4) (da 0)) (Zb (Ho [4,5,6,7] "may" (qj (ah Jr (qa (da 5) Pa))) (da 0)) (Ho [4,5,6,7] "strikes" (qj (ah Jr (qa (da 6) Pa))) (da 0)))))))
def nk:List D->M D:=Lb (ae 7 lV)
def Z6:Ba ["self","pot","side","mine","grant","may","strikes"] ["self","pot","side","mine","grant","may","strikes"] (jd Z4):=Qe
def sF:Bi ⟨K,ca,tx K⟩ P w mg base 1 (ca 10) ["self","pot","side","mine","grant","may","strikes"] nk:=
 Sv a.nk Z6 λb=>
  (lc (Fq rfl (Xq a) (ja 0) (ja 1))
  (lc (Fq rfl (Qt a) (ja 0) (ja 2))
  (lc (Fq rfl (Iq a) (ja 0) (ja 3))
  (lc (Fq rfl (QM a) (ja 0) (ja 4))
  (lc (Fq rfl (Zw a) (ja 0) (Cq (Hx BE (kG rfl) rfl a.vp Ar (jb (ja 5)))))
  (Ii (Fq rfl (yA a) (ja 0) (Cq (Hx BE (kG rfl) rfl a.vp Ar (jb (ja 6)))))))))))
abbrev ħ:Stmt:=Cc 56
def WU:Ev->M Fl:=
 (Zb (He 4 (Ld 2 fj [] (qa (da 2) (qa (da 3) Pa)))) (pd (bv 5 7 nk (qa (da 0) (qa (da 1) (qa (da 4) (qa (eC ϛ) (qa (Zh (qa (da 4) Pa)) (qa (Zh Pa) Pa)))))))))
def Xe:List D->M D:=Lb (ae 5 WU)
def fR:Ba ["pot","side","left","right","mine"] ["pot","side","left","right"] (jd ħ):=Qe
def œ:Se ⟨K,ca,tx K⟩ P w mg base 9 "first_account" ["pot","side","left","right"] Xe:=
 Se.Lb (RC a.Xe fR λ_ _ _ _ _ _ _ b=>
  (lc (bc fR.nd (ce (i4 a) b (db (ja 2) (jb (ja 3)))))
  (zd (XC (c:=5) (ps:=["self","pot","side","mine","grant","may","strikes"]) ⟨_,a.Dt,a.jr,sF a⟩ rfl (b.mono (by decide)) rfl (db (ja 0) (db (ja 1) (db (ja 4) (db Yt (db (Zi (jb (ja 4))) (jb (Zi ym)))))))))))
abbrev xA:Stmt:=yh (Cc 89) 0
abbrev EB:Ev->M Fl:=(Wf (eT (Ja Uf (Ja ib (da 6) (da 7)) (da 1))) (Hu (jh [(9,Ce)] 4 "hold" (da 0) (qa (Ld 4 Xe [] (qa (da 5) (qa (da 7) (qa (Ja ib (da 6) (eC (Z 2))) (qa (Ja ib (da 6) (eC (Z 3))) Pa))))) (qa (eC (.gt ["held"])) (qa (eC (Ϫ [] [])) Pa))))) dg)
abbrev CA:Ev->M Fl:=(Xv (Bj (wf (qa (eC (Z 0)) (qa (eC (Z 1)) Pa)))) (We 7) EB)
def IV:Ev->M Fl:=
 (Zb (Hu (Ld 3 zg [] (qa (da 1) (qa (da 2) (qa (da 3) Pa))))) (Zb (Ho [9] "hand" (da 1) (da 0)) (Zb (Ho [8,9] "every" (da 2) (da 0)) (Zb (Ho [8,9] "last_look" (eC (Z 0)) (da 0)) (Zb (Ho [9] "gave" (eC (Z 0)) (da 0)) (Zb (Ho [8,9] "known" aw (da 0)) (Zb (Ho [9] "accounts" aw (da 0)) (Zb (Ho [9] "claims" aw (da 0)) (Zb (Ho [9] "seen" aw (da 0)) (Zb (Ho [9] "asked" aw (da 0)) (Zb (Ho [9] "finishing" aw (da 0)) (Zb (Hu (jh [(9,Yc)] 2 "learn" (da 0) (qa (Bz (eT (Ja Uu (da 4) (eC ϛ))) (Zh Pa) (da 4)) Pa))) (Lx (fM (da 3)) (Jq 2 (ej (We 5) (ej (We 6) mr))) CA)))))))))))))
def bu:List D->M D:=Lb (ae 8 IV)
def aJ:Ba ["self","hand","every","pots","words","pot","made","side"] ["self","hand","every","pots","words"] (jd xA):=Qe
def zao(t:Addr)(kV c h:Value)(e:Option Addr)(b ct:Value)(s:ba)(o:Ad)(n:Nat)(a:List Value)(f:s.heap.get? t=some o)(g:o.data=Ϩ ([Wc]:List Value).toArray n) :
  ((a++[]).length=(["self","hand","every","pots","words"]:List Str).length->Fh s (ϭ "__init__" "Keeper.__init__" (aq xA) (Uj xA) (jd xA) (jc t) kV c h e b ct) ⟨a,[]⟩ ((["self","hand","every","pots","words"]:List Str).zip (a++[])))/\
  ((a++[Wc]).length=(["self","hand","every","pots","words"]:List Str).length->Fh s (ϭ "__init__" "Keeper.__init__" (aq xA) (Uj xA) (jd xA) (jc t) kV c h e b ct) ⟨a,[]⟩ ((["self","hand","every","pots","words"]:List Str).zip (a++[Wc]))):=
 ⟨λd=>bq5 a (by simpa using d) λ_ _ _ _ _=>Lh rfl f g rfl rfl,λd=>bq4 a (by simpa using d) λ_ _ _ _=>Lh rfl f g rfl rfl⟩
def zas:Dx ⟨K,ca,tx K⟩ P w mg base 10 (ca 20) ["self","hand","every","pots","words"] [Wc] bu:=
 Dx.Lb (Ω a.bu aJ λ_ _ _ _ _ _ b=>
  (lc (Hv (ce (ć a) b (db (ja 1) (db (ja 2) (jb (ja 3))))))
  (lc (Fq rfl (ω a) (ja 0) (ja 1))
  (lc (Fq rfl (oF a) (ja 0) (ja 2))
  (lc (Fq rfl (FB a) (ja 0) Qa)
  (lc (Fq rfl (xJ a) (ja 0) Qa)
  (lc (Fq rfl (gC a) (ja 0) Jy)
  (lc (Fq rfl (kt a) (ja 0) Jy)
  (lc (Fq rfl (zH a) (ja 0) Jy)
  (lc (Fq rfl (lN a) (ja 0) Jy)
  (lc (Fq rfl (JC a) (ja 0) Jy)
  (lc (Fq rfl (Ķ a) (ja 0) Jy)
  (lc (Hv (fmt (eR a) b (ja 0) (jb (cE (Lf gF vF (ja 4) Yt (Hf _)) (Zi ym) (ja 4)))))
  (Ii (qE du rfl (ä rfl a.Os (ja 3)) (cy rfl (Wp (xi aJ.nd) (Wp (xi aJ.nd) Wx))) (Ii (Zx du rfl (lq rfl (Ff (db Qa (jb Qa)))) (xi aJ.nd) (Ii (eg (Lf (jj (vf b)) mh (ic (ja 6) (ja 7)) (ja 1) (Hf _)) (Ii (Hv (fmt (Ģ a) b (ja 0) (db (ce (œ a) b (db (ja 5) (db (ja 7) (db (ic (ja 6) Qa) (jb (ic (ja 6) Qa)))))) (db (PX (ss:=["held"]) rfl a.qw) (jb Z9)))))) lg)))))))))))))))))))
def BV:Co ⟨K,ca,tx K⟩ [8] "pots":=(oj a.Ao a.cr Bs)
abbrev zcv:Stmt:=Cc 37
def YP:Ev->M Fl:=
 (pd (gj (Ja Ov (Ja ib (da 0) (eC (Z 2))) (da 1)) (Ja oLt (Ja vm (da 1) (Ja ib (da 0) (eC (Z 2)))) (Ja ib (da 0) (eC (Z 3))))))
def ve:List D->M D:=Lb λa=>Qc (ae 2 YP a)
def Q6:Ba ["tie","shown"] ["tie","shown"] (jd zcv):=Qe
def RT(b:Fd K mg ca):Se ⟨K,ca,tx K⟩ P w mg base 1 "shown_in_time" ["tie","shown"] ve:=
 kh b.ve Q6 λa=>
  (zd (wj (Dw (EL (vf a)) EK (ic (ja 0) Qa) (ja 1) rfl) (Zm (Dw Zv Mv (Nu (vf a) (ja 1) (ic (ja 0) Qa) (λ_ _=>rfl)) (ic (ja 0) Qa) (Hf _)))))
abbrev zfw:Stmt:=Cc 61
def MX:Ev->M Fl:=
 (Zb (Wf (eT (Ld 2 ve [] (qa (da 2) (qa (da 1) Pa)))) (pd (eC (ύ "lost"))) dg) (Zb (Wf (eT (Ja gG (Dd (Mc [8,9] "last_look") (da 0)) (Ja ib (da 2) (eC (Z 3))))) (pd (eC (ύ "back"))) dg) (pd (eC (ύ "open")))))
def Xf:List D->M D:=Lb λa=>Qc (ae 3 MX a)
def f9:Ba ["view","seen","tie"] ["view","seen","tie"] (jd zfw):=Qe
def JY:Se ⟨K,ca,tx K⟩ P w mg base 2 "lot_of_paid" ["view","seen","tie"] Xf:=
 kh a.Xf f9 λb=>
  (lc (eg (vk (ce (RT a) b (db (ja 2) (jb (ja 1))))) (zd lf) lg)
  (lc (eg (Lf MI aH (oe (FB a) (ja 0)) (ic (ja 2) Qa) (Hf _)) (zd lf) lg)
  (zd lf)))
abbrev g8:Stmt:=Cc 62
def BW:Ev->M Fl:=
 (Zb (Wf (eT (Ld 2 ve [] (qa (da 2) (qa (da 1) Pa)))) (pd (eC (ύ "won"))) dg) (Zb (Wf (eT (Ja gG (Dd (Mc [8,9] "last_look") (da 0)) (Ja ib (da 2) (eC (Z 3))))) (pd (eC (ύ "gone"))) dg) (Zb (Wf (gu (eT (Ja (vD false) (Ja ib (da 2) (eC (Z 2))) (Dd (Mc [8,9] "known") (da 0)))) (eT (Ja oLt (Ja Sh (Dd (Mc [8,9] "last_look") (da 0)) (Dd (Mc [8,9] "every") (da 0))) (Ja ib (da 2) (eC (Z 3)))))) (pd (eC (ύ "sure"))) dg) (pd (eC (ύ "hangs"))))))
def Ag:List D->M D:=Lb λa=>Qc (ae 3 BW a)
def ŀ:Ba ["view","seen","tie"] ["view","seen","tie"] (jd g8):=Qe
def SZ:Se ⟨K,ca,tx K⟩ P w mg base 2 "lot_of_due" ["view","seen","tie"] Ag:=
 kh a.Ag ŀ λb=>
  (lc (eg (vk (ce (RT a) b (db (ja 2) (jb (ja 1))))) (zd lf) lg)
  (lc (eg (Lf MI aH (oe (FB a) (ja 0)) (ic (ja 2) Qa) (Hf _)) (zd lf) lg)
  (lc (eg (L2.PW.pt (Vu (Lf (ym7 rfl (vf b)) mh (ic (ja 2) Qa) (oe (gC a) (ja 0)) rfl) (Ex (Lf Zv Mv (zk (oe (FB a) (ja 0)) (oe (oF a) (ja 0))) (ic (ja 2) Qa) (Hf _))))) (zd lf) lg)
  (zd lf))))
abbrev Đ:Stmt:=Cc 63
def VV:Ev->M Fl:=
 (Zb (Wf (eT (Ja Uf (Ja ib (da 2) (eC (Z 0))) (Ja ib (da 1) (eC (Z 0))))) (pd (Ld 3 Xf [] (qa (da 0) (qa (Ja ib (da 1) (eC (Z 2))) (qa (da 2) Pa))))) dg) (pd (Ld 3 Ag [] (qa (da 0) (qa (Ja ib (da 1) (eC (Z 2))) (qa (da 2) Pa))))))
def Li:List D->M D:=Lb λa=>Qc (ae 3 VV a)
def zpf:Ba ["view","pot","tie"] ["view","pot","tie"] (jd Đ):=Qe
def U1:Se ⟨K,ca,tx K⟩ P w mg base 3 "lot_of" ["view","pot","tie"] Li:=
 kh a.Li zpf λb=>
  (lc (eg (Lf (jj (vf b)) mh (ic (ja 2) Qa) (ic (ja 1) Qa) (Hf _)) (zd (ce (JY a) b (db (ja 0) (db (ic (ja 1) Qa) (jb (ja 2)))))) lg)
  (zd (ce (SZ a) b (db (ja 0) (db (ic (ja 1) Qa) (jb (ja 2)))))))
abbrev Ų:Stmt:=Cc 64
abbrev RI:Ev->M Fl:=(Zb (He 6 (Ld 3 Li [] (qa (da 0) (qa (da 1) (qa (da 5) Pa))))) (Zb (Xu (wf (qa (da 6) (qa (Ja ib (da 5) (eC (Z 1))) (qa (Ja ib (da 5) (eC (Z 3))) Pa)))) (da 4) (Ja ib (da 5) (eC (Z 2)))) (Wf (eT (Dd (aK false ["won","sure","back"]) (da 6))) (wz (λa b=>a+b) 3 (Ja ib (da 5) (eC (Z 1)))) dg)))
def cT:Ev->M Fl:=
 (Zb (He 3 (Ja ib (Ja ib (da 2) (eC (Z 1))) (Ja ib (da 1) (eC (Z 0))))) (Zb (He 4 aw) (Zb (Xv (Bj (Ja ib (da 2) (eC (Z 2)))) (We 5) RI) (pd (wf (qa (da 3) (qa (da 4) Pa)))))))
def Rf:List D->M D:=Lb λa=>Qc (ae 7 cT a)
def JB:Ba ["view","pot","one","firm","lots","tie","lot"] ["view","pot","one"] (jd Ų):=Qe
def ņ:Se ⟨K,ca,tx K⟩ P w mg base 4 "read_stand" ["view","pot","one"] Rf:=
 kh a.Rf JB λb=>
  (lc (bc JB.nd (ic (ic (ja 2) Qa) (ic (ja 1) Qa)))
  (lc (bc JB.nd Jy)
  (lc (Zx du rfl (lq rfl (ic (ja 2) Qa)) (xi JB.nd) (lc (bc JB.nd (ce (U1 a) b (db (ja 0) (db (ja 1) (jb (ja 5))))))
  (lc (Ew (vf b) (Ff (db (ja 6) (db (ic (ja 5) Qa) (jb (ic (ja 5) Qa))))) (ja 4) (ic (ja 5) Qa))
  (Ii (eg (t7 (ss:=["won","sure","back"]) rfl a.GA (ja 6)) (Ii (XQ (i:=3) AU JB.nd rfl (ϒ rfl) (ic (ja 5) Qa))) lg)))))
  (zd (Ff (db (ja 3) (jb (ja 4))))))))
abbrev W0:Stmt:=Cc 65
abbrev YL:Ev->M Fl:=(Hu (tz Vm (da 1) (qa (qj (dm (Fo (Bj (Ja ib (da 2) (eC (Z 1))))) [0,2] (We 0) Cp (Ld 3 Rf [] (qa (da 2) (qa (da 3) (qa (da 0) Pa)))))) Pa)))
def vV:Ev->M Fl:=
 (Zb (He 1 (VA Pa)) (Zb (Xv (Bj (Dd (Mc [8] "pots") (da 0))) (We 2) YL) (pd (da 1))))
def Ug:List D->M D:=Lb λa=>Qc (ae 3 vV a)
def dL:Ba ["view","readings","pot"] ["view"] (jd W0):=Qe
def î:Se ⟨K,ca,tx K⟩ P w mg base 5 "read_pots" ["view"] Ug:=
 kh a.Ug dL λb=>
  (lc (bc dL.nd (BF ym))
  (lc (Zx du rfl (lq rfl (oe (BV a) (ja 0))) (LO (i:=2) dL.nd rfl (ϖ rfl)) (Ii (Hv (xC se Jg Kg WE SF (ja 1) (jb (Cq (Gu (x:="one") (z0:="0") (M':=["view","pot"]) (ix:=[0,2]) rfl ⟨rfl,rfl,rfl,rfl,rfl,rfl⟩ (Tt (lq rfl (ic (ja 2) Qa))) (λ_ _ _ _ _=>xi (by show List.Nodup (("one"::"0"::["view","pot"]):List Str);decide +kernel)) (λ_ _ _ _ _=>Nv) (λ_ _ _ _ _=>(ce (ņ a) b (db (ja 2) (db (ja 3) (jb (ja 0)))))))))))))
  (zd (ja 1))))
abbrev E3:Stmt:=Cc 66
abbrev dH:Ev->M Fl:=(Hu (tz mB (da 3) (qa (qj (dm (Fo (Vx (ah yj (qa (da 2) Pa)))) [4] (We 0) Cp (Ja Sh (da 2) (Zh (qa (da 0) Pa))))) Pa)))
abbrev sD:Ev->M Fl:=(Zb (He 3 (VA Pa)) (Zb (Xv (Bj (da 1)) (We 4) dH) (He 1 (da 3))))
def WS:Ev->M Fl:=
 (Zb (He 1 (Zh (qa (Zh Pa) Pa))) (Zb (Xv (Bj (da 0)) (We 2) sD) (pd (da 1))))
def kf:List D->M D:=Lb λa=>Qc (ae 5 WS a)
def vC:Ba ["readings","choices","stands","longer","chosen"] ["readings"] (jd E3):=Qe
def zdy:Se ⟨K,ca,tx K⟩ P w mg base 1 "all_choices" ["readings"] kf:=
 kh a.kf vC λb=>
  (lc (bc vC.nd (Zi (jb (Zi ym))))
  (lc (Zx du rfl (lq rfl (ja 0)) (xi vC.nd) (lc (bc vC.nd (BF ym))
  (lc (Zx du rfl (lq rfl (ja 1)) (LO (i:=4) vC.nd rfl (ϖ rfl)) (Ii (Hv (xC se PySem.F.slot_list_extend PySem.F.type_list_extend zoa mZ (ja 3) (jb (Cq (Gu (x:="place") (z0:="0") (M':=["chosen"]) (ix:=[4]) rfl ⟨rfl,rfl,rfl,rfl,rfl,rfl⟩ (Tt (aM rfl a.Go (Kj bq (iq rfl) rfl a.Bg Nb (jb (ja 2))))) (λ_ _ _ _ _=>xi (by show List.Nodup (("place"::"0"::["chosen"]):List Str);decide +kernel)) (λ_ _ _ _ _=>Nv) (λ_ _ _ _ _=>(zk (ja 2) (Zi (jb (ja 0))))))))))))
  (Ii (bc vC.nd (ja 3))))))
  (zd (ja 1))))
abbrev zeh:Stmt:=Cc 68
abbrev XM:Ev->M Fl:=(Hu (tz Vm (kJ qy (da 1) (qa (da 3) (qa (VA Pa) Pa))) (qa (da 4) Pa)))
abbrev RQ:Ev->M Fl:=(Lx (LB (Ja ib (da 2) (eC (Z 1)))) (Jq 2 (ej (We 3) (ej (We 4) mr))) XM)
def vP:Ev->M Fl:=
 (Zb (He 1 aw) (Zb (Xv (Bj (da 0)) (We 2) RQ) (pd (da 1))))
def Cf:List D->M D:=Lb λa=>Qc (ae 5 vP a)
def NF:Ba ["reads","by_word","read","word","lot"] ["reads"] (jd zeh):=Qe
def rZ:Se ⟨K,ca,tx K⟩ P w mg base 1 "lots_by_word" ["reads"] Cf:=
 kh a.Cf NF λb=>
  (lc (bc NF.nd Jy)
  (lc (Zx du rfl (lq rfl (ja 0)) (xi NF.nd) (Ii (qE du rfl (uO (ic (ja 2) Qa)) (cy rfl (Wp (xi NF.nd) (Wp (xi NF.nd) Wx))) (Ii (Hv (xC se Jg Kg WE SF (pP Vg zo PySem.F.type_dict_setdefault j9 Y2 (ja 1) (db (ja 3) (jb (BF ym)))) (jb (ja 4))))))))
  (zd (ja 1))))
abbrev Χ:Stmt:=Cc 69
def JV:Ev->M Fl:=
 (pd (Ja Sh (Zh (qa (eC ϛ) Pa)) (qj (dm (Fo (Bj (da 0))) [] (We 0) (eT (Ja Uf (Ja ib (da 0) (eC (Z 0))) (eC (ύ "open")))) (Ja ib (da 0) (eC (Z 2)))))))
def uh:List D->M D:=Lb λa=>Qc (ae 1 JV a)
def zja:Ba ["lots"] ["lots"] (jd Χ):=Qe
def B3:Se ⟨K,ca,tx K⟩ P w mg base 1 "fates_of" ["lots"] uh:=
 kh a.uh zja λb=>
  (zd (zk (Zi (jb Yt)) (Cq (Gu (x:="lot") (z0:="0") (M':=[]) (ix:=[]) rfl ⟨rfl,rfl,rfl,rfl,rfl,rfl⟩ (Tt (lq rfl (ja 0))) (λ_ _ _ _ _=>xi (by show List.Nodup (("lot"::"0"::[]):List Str);decide +kernel)) (λ_ _ _ _ _=>XG (Lf (jj (vf b)) mh (ic (ja 0) Qa) lf (Hf _))) (λ_ _ _ _ _=>(ic (ja 0) Qa))))))
abbrev g6:Stmt:=Cc 70
def gQ:Ev->M Fl:=
 (Zb (Wf (eT (Ja Uf (Ja ib (da 0) (eC (Z 0))) (eC (ύ "open")))) (pd (sI (Ja Uu (da 1) (eC ϛ)) (Ja bE (da 1) (Ja ib (da 0) (eC (Z 2)))))) dg) (pd (gj (Ja Uf (Ja ib (da 0) (eC (Z 0))) (eC (ύ "hangs"))) (gj (Ja BC (da 1) (eC ϛ)) (Ja oLt (Ja Sh (Ja gz (da 1) (eC (Z 1))) (da 2)) (Ja ib (da 0) (eC (Z 2))))))))
def ue:List D->M D:=Lb λa=>Qc (ae 3 gQ a)
def VY:Ba ["lot","fate","every"] ["lot","fate","every"] (jd g6):=Qe
def ZZ(b:Fd K mg ca):Se ⟨K,ca,tx K⟩ P w mg base 1 "comes_by_fate" ["lot","fate","every"] ue:=
 kh b.ue VY λa=>
  (lc (eg (Lf (jj (vf a)) mh (ic (ja 0) Qa) lf (Hf _)) (zd (EV (Dw gF vF (ja 1) Yt (Hf _)) (Zm (Dw bI IH (ja 1) (ic (ja 0) Qa) (Hf _))))) lg)
  (zd (wj (No a (ic (ja 0) Qa) lf) (wj (Dw DT sT (ja 1) Yt (Hf _)) (Zm (Dw Zv Mv (zk (Of UA jB (ja 1) Qa) (ja 2)) (ic (ja 0) Qa) (Hf _)))))))
abbrev z7:Stmt:=Cc 71
def nV:Ev->M Fl:=
 (pd (ah uw (qa (qj (dm (Fo (Bj (da 0))) [1,2] (We 0) (eT (Ld 3 ue [] (qa (da 0) (qa (da 2) (qa (da 3) Pa))))) (Ja ib (da 0) (eC (Z 1))))) Pa)))
def Fe:List D->M D:=Lb λa=>Qc (ae 3 nV a)
def D6:Ba ["lots","fate","every"] ["lots","fate","every"] (jd z7):=Qe
def ER:Se ⟨K,ca,tx K⟩ P w mg base 2 "sum_by_fate" ["lots","fate","every"] Fe:=
 kh a.Fe D6 λb=>
  (zd (Kj (JE rfl) (wE rfl) rfl a.Ps uu (jb (Cq (Gu (x:="lot") (z0:="0") (M':=["fate","every"]) (ix:=[1,2]) rfl ⟨rfl,rfl,rfl,rfl,rfl,rfl⟩ (Tt (lq rfl (ja 0))) (λ_ _ _ _ _=>xi (by show List.Nodup (("lot"::"0"::["fate","every"]):List Str);decide +kernel)) (λ_ _ _ _ _=>XG (vk (ce (ZZ a) b (db (ja 0) (db (ja 2) (jb (ja 3))))))) (λ_ _ _ _ _=>(ic (ja 0) Qa)))))))
abbrev R8:Stmt:=Cc 72
def uX:Ev->M Fl:=
 (pd (NI [0,1] (Ld 3 Fe [] (qa (da 1) (qa (da 0) (qa (da 2) Pa)))) (qa (Ld 1 uh [] (qa (da 0) Pa)) Pa)))
def yg:List D->M D:=Lb λa=>Qc (ae 2 uX a)
def J9:Ba ["lots","every"] ["lots","every"] (jd R8):=Qe
def W9:Se ⟨K,ca,tx K⟩ P w mg base 5 "least_fate" ["lots","every"] yg:=
 Se.Lb (Se.Qc (XX a.yg J9 λ_ _ _ _ _ _ b=>
  (zd (gX (x:="fate") (M':=["lots","every"]) (ix:=[0,1]) (t:=FJ K) (k:=2) (b.mono (by decide)) ⟨rfl,rfl,rfl,rfl,rfl,rfl⟩ rfl ⟨(CS K),λd c=>a.eE _ (CS K) d c,rfl,a.tb.hd _ (by decide),rfl,rfl,rfl,a.OU,a.tb.bb⟩ rfl a.xp rfl rfl rfl (λ_ _ _ _ _=>rfl) (jb (ce (B3 a) b (jb (ja 0)))) (λ_ _ _ _ _ b=>(ce (ER a) b (db (ja 1) (db (ja 0) (jb (ja 2))))))))))
abbrev cZ:Stmt:=Cc 73
abbrev bQ:Ev->M Fl:=(wz (λa b=>a+b) 4 (Ld 3 Fe [] (qa (da 6) (qa (Ja vm (da 2) (da 5)) (qa (da 3) Pa)))))
def oR:Ev->M Fl:=
 (Zb (He 4 (ah uw (qa (qj (dm (Fo (Bj (da 0))) [] (We 0) Cp (Ja ib (da 0) (eC (Z 0))))) Pa))) (Zb (Lx (LB (da 1)) (Jq 2 (ej (We 5) (ej (We 6) mr))) bQ) (pd (da 4))))
def Oi:List D->M D:=Lb λa=>Qc (ae 7 oR a)
def IE:Ba ["reads","by_word","fates","every","total","word","lots"] ["reads","by_word","fates","every"] (jd cZ):=Qe
def zon:Se ⟨K,ca,tx K⟩ P w mg base 3 "sum_of" ["reads","by_word","fates","every"] Oi:=
 kh a.Oi IE λb=>
  (lc (bc IE.nd (Kj (JE rfl) (wE rfl) rfl a.Ps uu (jb (Cq (Gu (x:="read") (z0:="0") (M':=[]) (ix:=[]) rfl ⟨rfl,rfl,rfl,rfl,rfl,rfl⟩ (Tt (lq rfl (ja 0))) (λ_ _ _ _ _=>xi (by show List.Nodup (("read"::"0"::[]):List Str);decide +kernel)) (λ_ _ _ _ _=>Nv) (λ_ _ _ _ _=>(ic (ja 0) Qa)))))))
  (lc (qE du rfl (uO (ja 1)) (cy rfl (Wp (xi IE.nd) (Wp (xi IE.nd) Wx))) (Ii (XQ (i:=4) AU IE.nd rfl (ϒ rfl) (ce (ER a) b (db (ja 6) (db (Nu (vf b) (ja 2) (ja 5) (λ_ _=>rfl)) (jb (ja 3))))))))
  (zd (ja 4))))
abbrev Β:Stmt:=Cc 74
abbrev bW:Ev->M Fl:=(Xu (Ld 2 yg [] (qa (da 6) (qa (da 2) Pa))) (da 4) (da 5))
def pQ:Ev->M Fl:=
 (Zb (He 3 (Ld 1 Cf [] (qa (da 0) Pa))) (Zb (He 4 aw) (Zb (Lx (LB (da 3)) (Jq 2 (ej (We 5) (ej (We 6) mr))) bW) (pd (wf (qa (Ld 4 Oi [] (qa (da 0) (qa (da 3) (qa (da 4) (qa (da 2) Pa))))) (qa (da 1) (qa (da 4) Pa))))))))
def jf:List D->M D:=Lb λa=>Qc (ae 7 pQ a)
def RD:Ba ["reads","chosen","every","by_word","fates","word","lots"] ["reads","chosen","every"] (jd Β):=Qe
def UY:Se ⟨K,ca,tx K⟩ P w mg base 6 "least_paper" ["reads","chosen","every"] jf:=
 kh a.jf RD λb=>
  (lc (bc RD.nd (ce (rZ a) b (jb (ja 0))))
  (lc (bc RD.nd Jy)
  (lc (qE du rfl (uO (ja 3)) (cy rfl (Wp (xi RD.nd) (Wp (xi RD.nd) Wx))) (Ii (Ew (vf b) (ce (W9 a) b (db (ja 6) (jb (ja 2)))) (ja 4) (ja 5))))
  (zd (Ff (db (ce (zon a) b (db (ja 0) (db (ja 3) (db (ja 4) (jb (ja 2)))))) (db (ja 1) (jb (ja 4)))))))))
abbrev j5:Stmt:=Cc 67
def lQ:Ev->M Fl:=
 (pd (qj (dm (EI (da 0) (da 1)) [] (Jq 2 (ej (We 0) (ej (We 1) mr))) Cp (Ja ib (da 0) (da 1)))))
def Yd:List D->M D:=Lb λa=>Qc (ae 2 lQ a)
def i5:Ba ["readings","chosen"] ["readings","chosen"] (jd j5):=Qe
def ο:Se ⟨K,ca,tx K⟩ P w mg base 1 "chosen_readings" ["readings","chosen"] Yd:=
 kh a.Yd i5 λb=>
  (zd (Cq (Gu (x:="stands") (z0:="place") (M':=[]) (ix:=[]) rfl ⟨rfl,rfl,rfl,rfl,rfl,rfl⟩ (uZ rfl a.xE (ja 0) (ja 1)) (λ_ _ _ _ _=>cy rfl (Wp (xi (by show List.Nodup (("stands"::"place"::[]):List Str);decide +kernel)) (Wp (xi (by show List.Nodup (("stands"::"place"::[]):List Str);decide +kernel)) Wx))) (λ_ _ _ _ _=>Nv) (λ_ _ _ _ _=>(ic (ja 0) (ja 1))))))
abbrev S0:Stmt:=Cc 75
def LV:Ev->M Fl:=
 (Zb (He 1 (Ld 1 Ug [] (qa (da 0) Pa))) (Zb (He 2 (qj (dm (Fo (Bj (Ld 1 kf [] (qa (da 1) Pa)))) [1,0] (We 0) Cp (Ld 3 jf [] (qa (Ld 2 Yd [] (qa (da 2) (qa (da 0) Pa))) (qa (da 0) (qa (Dd (Mc [8,9] "every") (da 3)) Pa))))))) (pd (NI [] (Ja ib (da 0) (eC (Z 0))) (qa (da 2) Pa)))))
def Vj:List D->M D:=Lb λa=>Qc (ae 3 LV a)
def QN:Ba ["view","readings","papers"] ["view"] (jd S0):=Qe
def K6:Se ⟨K,ca,tx K⟩ P w mg base 7 "paper" ["view"] Vj:=
 Se.Lb (Se.Qc (XX a.Vj QN λ_ _ _ _ _ _ b=>
  (lc (BR (i:=1) QN.nd rfl (ϖ rfl) (ce (î a) b (jb (ja 0))))
  (lc (ZQ (sV (i:=2) QN.nd rfl (ϒ rfl) (x:="chosen") (z0:="0") (M':=["readings","view"]) (ix:=[1,0]) rfl ⟨rfl,rfl,rfl,rfl,rfl,rfl⟩ (Tt (lq rfl (ce (zdy a) b (jb (ja 1))))) (λ_ _ _ _ _=>xi (by show List.Nodup (("chosen"::"0"::["readings","view"]):List Str);decide +kernel)) (λ_ _ _ _ _=>Nv) (λ_ _ _ _ _=>(ce (UY a) b (db (ce (ο a) b (db (ja 2) (jb (ja 0)))) (db (ja 0) (jb (oe (oF a) (ja 3)))))))))
  (zd (gX (x:="told") (M':=[]) (ix:=[]) (t:=TJ K) (k:=0) (b.mono (by decide)) ⟨rfl,rfl,rfl,rfl,rfl,rfl⟩ rfl ⟨(rT K),λd c=>a.eE _ (rT K) d c,rfl,a.tb.hd _ (by decide),rfl,rfl,rfl,a.OU,a.tb.bb⟩ rfl a.xp rfl rfl rfl (λ_ _ _ _ _=>rfl) (jb (ja 2)) (λ_ _ _ _ _ b=>(ic (ja 0) Qa))))))))
abbrev x8:Stmt:=Cc 76
def uQ:Ev->M Fl:=
 (pd (Ja ib (Ld 1 Vj [] (qa (da 0) Pa)) (eC (Z 0))))
def Mh:List D->M D:=Lb λa=>Qc (ae 1 uQ a)
def l9:Ba ["view"] ["view"] (jd x8):=Qe
def IU:Se ⟨K,ca,tx K⟩ P w mg base 8 "worth" ["view"] Mh:=
 kh a.Mh l9 λb=>
  (zd (ic (ce (K6 a) b (jb (ja 0))) Qa))
abbrev Ø:Stmt:=Cc 82
def ZT:Ev->M Fl:=
 (Zb (Wf (eT (Ja Uf (Ja ib (da 1) (eC (Z 0))) (eC (ύ "held")))) (pd (Dd (Mc [4,5,6,7] "may") (da 0))) dg) Jz)
def Vf:List D->M D:=Lb λa=>Qc (ae 2 ZT a)
def ź:Ba ["account","claim"] ["account","claim"] (jd Ø):=Qe
def Ė:Se ⟨K,ca,tx K⟩ P w mg base 1 "stands_told" ["account","claim"] Vf:=
 kh a.Vf ź λb=>
  (lc (eg (Lf (jj (vf b)) mh (ic (ja 1) Qa) lf (Hf _)) (zd (oe (Zw a) (ja 0))) lg)
  LA)
abbrev AZ:Stmt:=yh (Cc 60) 0
def jV:Ev->M Fl:=
 (Zb (Ho [8,9] "every" (da 1) (da 0)) (Zb (Ho [8,9] "last_look" (da 2) (da 0)) (Zb (Ho [8,9] "known" (qj (ah Jr (qa (da 3) Pa))) (da 0)) (Ho [8] "pots" (qj (dm (Fo (Bj (da 4))) [] (We 0) Cp (wf (qa (Ja ib (da 0) (eC (Z 0))) (qa (qj (ah Jr (qa (Ja ib (da 0) (eC (Z 1))) Pa))) (qa (ah oC (qa (Ja ib (da 0) (eC (Z 2))) Pa)) Pa)))))) (da 0)))))
def Wt:List D->M D:=Lb (ae 5 jV)
def A0:Ba ["self","every","look","words","pots"] ["self","every","look","words","pots"] (jd AZ):=Qe
def ŋ:Bi ⟨K,ca,tx K⟩ P w mg base 1 (ca 19) ["self","every","look","words","pots"] Wt:=
 Sv a.Wt A0 λb=>
  (lc (Fq rfl (oF a) (ja 0) (ja 1))
  (lc (Fq rfl (FB a) (ja 0) (ja 2))
  (lc (Fq rfl (gC a) (ja 0) (Cq (Hx BE (kG rfl) rfl a.vp Ar (jb (ja 3)))))
  (Ii (Fq rfl (BV a) (ja 0) (Cq (Gu (x:="pot") (z0:="0") (M':=[]) (ix:=[]) rfl ⟨rfl,rfl,rfl,rfl,rfl,rfl⟩ (Tt (lq rfl (ja 4))) (λ_ _ _ _ _=>xi (by show List.Nodup (("pot"::"0"::[]):List Str);decide +kernel)) (λ_ _ _ _ _=>Nv) (λ_ _ _ _ _=>(Ff (db (ic (ja 0) Qa) (db (Cq (Hx BE (kG rfl) rfl a.vp Ar (jb (ic (ja 0) Qa)))) (jb (Hx iP Φ rfl a.xw boot_dict (jb (ic (ja 0) Qa)))))))))))))))
abbrev õ:Stmt:=yh (Cc 89) 3
def fU:Ev->M Fl:=
 (pd (qj (ah dC (qa (Dd (Mc [8,9] "known") (da 0)) Pa))))
def ud:List D->M D:=Lb λa=>Qc (ae 1 fU a)
def ŕ:Ba ["self"] ["self"] (jd õ):=Qe
def V6:Bi ⟨K,ca,tx K⟩ P w mg base 1 (ca 23) ["self"] ud:=
 Eu a.ud ŕ λb=>
  (zd (Cq (Kj (Ε rfl) (O5 rfl) rfl a.Fw L4.zhy (jb (oe (gC a) (ja 0))))))
def KR:Lk ⟨K,ca,tx K⟩ P w mg base 1 "words" ["self"] [(9,ud)]:=(Qk a.Bc a.Vn (V6 a) Jo)
abbrev P7:Stmt:=yh (Cc 89) 7
abbrev EQ:Ev->M Fl:=(Hu (tz Vm (da 2) (qa (wf (qa (Dd (Mc [4,5,6,7] "side") (da 4)) (qa (Ld 2 Vf [] (qa (da 4) (qa (Ja vm (Dd (Mc [9] "claims") (da 0)) (da 3)) Pa))) (qa (Ja vm (Dd (Mc [9] "seen") (da 0)) (da 3)) Pa)))) Pa)))
def OS:Ev->M Fl:=
 (Zb (He 2 (VA Pa)) (Zb (lH (da 1) (Lx (II (da 1)) (Jq 2 (ej (We 3) (ej (We 4) mr))) EQ)) (pd (qj (bv 8 5 Wt (qa (Dd (Mc [8,9] "every") (da 0)) (qa (Dd (Mc [8,9] "last_look") (da 0)) (qa (jh [(9,ud)] 1 "words" (da 0) Pa) (qa (da 2) Pa)))))))))
def Zc:List D->M D:=Lb λa=>Qc (ae 5 OS a)
def EJ:Ba ["self","accounts","pots","pot","account"] ["self","accounts"] (jd P7):=Qe
def ν:Bi ⟨K,ca,tx K⟩ P w mg base 3 (ca 27) ["self","accounts"] Zc:=
 Eu a.Zc EJ λb=>
  (lc (bc EJ.nd (BF ym))
  (lc (ž (qE du rfl (w9 (ja 1)) (cy rfl (Wp (xi EJ.nd) (Wp (xi EJ.nd) Wx))) (Ii (Hv (xC se Jg Kg WE SF (ja 2) (jb (Ff (db (oe (Qt a) (ja 4)) (db (ce (Ė a) b (db (ja 4) (jb (Nu (vf b) (oe (zH a) (ja 0)) (ja 3) (λ_ _=>rfl))))) (jb (Nu (vf b) (oe (lN a) (ja 0)) (ja 3) (λ_ _=>rfl))))))))))))
  (zd (Cq (XC (c:=8) (ps:=["self","every","look","words","pots"]) ⟨_,a.IA,a.xy,ŋ a⟩ rfl (b.mono (by decide)) rfl (db (oe (oF a) (ja 0)) (db (oe (FB a) (ja 0)) (db (qt (KR a) b (ja 0)) (jb (ja 2))))))))))
def pT:Lk ⟨K,ca,tx K⟩ P w mg base 3 "view_by" ["self","accounts"] [(9,Zc)]:=(Qk a.Bc a.Jl (ν a) Jo)
abbrev η:Stmt:=yh (Cc 89) 8
def nU:Ev->M Fl:=
 (pd (jh [(9,Zc)] 2 "view_by" (da 0) (qa (Dd (Mc [9] "accounts") (da 0)) Pa)))
def Be:List D->M D:=Lb λa=>Qc (ae 1 nU a)
def J8:Ba ["self"] ["self"] (jd η):=Qe
def P6:Bi ⟨K,ca,tx K⟩ P w mg base 4 (ca 28) ["self"] Be:=
 Eu a.Be J8 λb=>
  (zd (fmt (pT a) b (ja 0) (jb (oe (kt a) (ja 0)))))
def j7:Lk ⟨K,ca,tx K⟩ P w mg base 4 "view" ["self"] [(9,Be)]:=(Qk a.Bc a.Uo (P6 a) Jo)
abbrev wZ:Stmt:=yh (Cc 89) 9
def nT:Ev->M Fl:=
 (pd (Ld 1 Mh [] (qa (jh [(9,Be)] 1 "view" (da 0) Pa) Pa)))
def Sb:List D->M D:=Lb λa=>Qc (ae 1 nT a)
def zc0:Ba ["self"] ["self"] (jd wZ):=Qe
def RY:Bi ⟨K,ca,tx K⟩ P w mg base 9 (ca 29) ["self"] Sb:=
 Eu a.Sb zc0 λb=>
  (zd (ce (Se.alias (IU a) a.Rj) b (jb (qt (j7 a) b (ja 0)))))
def KA:Lk ⟨K,ca,tx K⟩ P w mg base 9 "worth" ["self"] [(9,Sb)]:=(Qk a.Bc a.Nn (RY a) Jo)
abbrev x6:Stmt:=yh (Cc 89) 5
def fT:Ev->M Fl:=
 (pd (Dd (Mc [9] "gave") (da 0)))
def Md:List D->M D:=Lb λa=>Qc (ae 1 fT a)
def į:Ba ["self"] ["self"] (jd x6):=Qe
def G2:Bi ⟨K,ca,tx K⟩ P w mg base 1 (ca 25) ["self"] Md:=
 Eu a.Md į λb=>
  (zd (oe (xJ a) (ja 0)))
def bR:Lk ⟨K,ca,tx K⟩ P w mg base 1 "given" ["self"] [(9,Md)]:=(Qk a.Bc a.eo (G2 a) Jo)
abbrev zhb:Stmt:=Cc 92
def MG:Ev->M Fl:=
 (Zb (He 2 (Ja Qi (Ja zA (Ja Sh (Ja Sh (Ja Qi (da 0) (eC (Z 2147483647))) (Ja zA (eC (Z 7919)) (da 1))) (eC (Z 1))) (eC (Z 48271))) (eC (Z 2147483647)))) (Zb (He 2 (Ja Qi (Ja zA (da 2) (Ja Sh (Ja Zl (da 2) (eC (Z 1009))) (eC (Z 69621)))) (eC (Z 2147483647)))) (Zb (He 2 (Ja Qi (Ja zA (da 2) (Ja Sh (Ja Zl (da 2) (eC (Z 997))) (eC (Z 16807)))) (eC (Z 2147483629)))) (Zb (He 3 (Ja Qi (Ja Zl (da 0) (eC (Z 2))) (Ja Hr (eC (Z 10)) (eC (Z 40))))) (Zb (Wf (eT (Ja Uf (Ja Qi (da 0) (eC (Z 2))) (eC (Z 1)))) (pd (da 2)) dg) (Zb (Wf (eT (Ja gG (da 3) (Ja Hr (eC (Z 10)) (eC (Z 20))))) (pd (da 3)) dg) (pd (Ja Sh (da 3) (Ja zA (Ja Hr (eC (Z 5040)) (eC (Z 6))) (da 2))))))))))
def gf:List D->M D:=Lb λa=>Qc (ae 4 MG a)
def ND:Ba ["_law_cell","_law_k","_law_number","_law_rest"] ["_law_cell","_law_k"] (jd zhb):=Qe
def ŉ:Se ⟨K,ca,tx K⟩ P w mg base 1 "_law_mixed" ["_law_cell","_law_k"] gf:=
 kh a.gf ND λb=>
  (lc (bc ND.nd (Of gk fk (Of fE iG (zk (zk (Of gk fk (ja 0) Qa) (Of fE iG Qa (ja 1))) Qa) Qa) Qa))
  (lc (bc ND.nd (Of gk fk (Of fE iG (ja 2) (zk (Of Eo Oo (ja 2) Qa) Qa)) Qa))
  (lc (bc ND.nd (Of gk fk (Of fE iG (ja 2) (zk (Of Eo Oo (ja 2) Qa) Qa)) Qa))
  (lc (bc ND.nd (Of gk fk (Of Eo Oo (ja 0) Qa) (Of dA JA Qa Qa)))
  (lc (eg (Lf (jj (vf b)) mh (Of gk fk (ja 0) Qa) Qa (Hf _)) (zd (ja 2)) lg)
  (lc (eg (Lf MI aH (ja 3) (Of dA JA Qa Qa) (Hf _)) (zd (ja 3)) lg)
  (zd (zk (ja 3) (Of fE iG (Of dA JA Qa Qa) (ja 2))))))))))
abbrev Y7:Stmt:=yh (Cc 89) 12
def tN:Ev->M Fl:=
 (pd (gj (Ja Ov (da 1) (Dd (Mc [9] "accounts") (da 0))) (Ja SH (Ja vm (Dd (Mc [9] "claims") (da 0)) (da 1)) (eC (.gt ["held"])))))
def wc:List D->M D:=Lb λa=>Qc (ae 2 tN a)
def ř:Ba ["self","pot"] ["self","pot"] (jd Y7):=Qe
def zcc:Bi ⟨K,ca,tx K⟩ P w mg base 1 (ca 32) ["self","pot"] wc:=
 Eu a.wc ř λb=>
  (zd (wj (Dw (EL (vf b)) EK (ja 1) (oe (kt a) (ja 0)) rfl) (Zm (Dw (ű rfl (vf b)) mh (Nu (vf b) (oe (zH a) (ja 0)) (ja 1) (λ_ _=>rfl)) (PX (ss:=["held"]) rfl a.qw) (Hf _)))))
def GU:Lk ⟨K,ca,tx K⟩ P w mg base 1 "holds" ["self","pot"] [(9,wc)]:=(Qk a.Bc a.Rn (zcc a) Jo)
abbrev ziz:Stmt:=yh (Cc 53) 0
def kI:Ev->M Fl:=
 (pd (eC (ύ "calm")))
def nc:List D->M D:=Lb λa=>Qc (ae 1 kI a)
def UZ:Ba ["self"] ["self"] (jd ziz):=Qe
def zgy:Bi ⟨K,ca,tx K⟩ P w mg base 1 (ca 13) ["self"] nc:=
 Eu a.nc UZ λb=>
  (zd lf)
abbrev k6:Stmt:=yh (Cc 54) 0
def uI:Ev->M Fl:=
 (pd (eC (ύ "offered")))
def Gb:List D->M D:=Lb λa=>Qc (ae 1 uI a)
def zc1:Ba ["self"] ["self"] (jd k6):=Qe
def z9:Bi ⟨K,ca,tx K⟩ P w mg base 1 (ca 15) ["self"] Gb:=
 Eu a.Gb zc1 λb=>
  (zd lf)
abbrev X7:Stmt:=yh (Cc 55) 0
def TL:Ev->M Fl:=
 (pd (eC (ύ "waiting")))
def Xb:List D->M D:=Lb λa=>Qc (ae 1 TL a)
def S7:Ba ["self"] ["self"] (jd X7):=Qe
def G6:Bi ⟨K,ca,tx K⟩ P w mg base 1 (ca 17) ["self"] Xb:=
 Eu a.Xb S7 λb=>
  (zd lf)
def SG:Lk ⟨K,ca,tx K⟩ P w mg base 1 "word" ["self"] [(5,nc),(6,Gb),(7,Xb)]:=(Qk a.bh a.Yq (zgy a) (Qk a.Ke a.Wn (z9 a) (Qk a.qf a.Yn (G6 a) Jo)))
abbrev ň:Stmt:=Cc 32
def iY:Ev->M Fl:=
 (Zb (Wf (eT (Ja Uf (da 1) (eC (Z 0)))) (pd (wf (qa (Ja Sh (Ja ib (da 0) (eC (Z 0))) (da 2)) (qa (Ja ib (da 0) (eC (Z 1))) Pa)))) dg) (pd (wf (qa (Ja ib (da 0) (eC (Z 0))) (qa (Ja Sh (Ja ib (da 0) (eC (Z 1))) (da 2)) Pa)))))
def ff:List D->M D:=Lb λa=>Qc (ae 3 iY a)
def ü:Ba ["shares","side","amount"] ["shares","side","amount"] (jd ň):=Qe
def PJ:Se ⟨K,ca,tx K⟩ P w mg base 1 "with_more" ["shares","side","amount"] ff:=
 kh a.ff ü λb=>
  (lc (eg (Lf (jj (vf b)) mh (ja 1) Qa (Hf _)) (zd (Ff (db (zk (ic (ja 0) Qa) (ja 2)) (jb (ic (ja 0) Qa))))) lg)
  (zd (Ff (db (ic (ja 0) Qa) (jb (zk (ic (ja 0) Qa) (ja 2)))))))
abbrev n5:Stmt:=Cc 33
def SR:Ev->M Fl:=
 (pd (Ld 3 Oh [] (qa (Ja Sh (Ja ib (da 0) (eC (Z 0))) (eC (Z 1))) (qa (da 1) (qa (da 2) Pa)))))
def Td:List D->M D:=Lb λa=>Qc (ae 3 SR a)
def å:Ba ["one","shares","ties"] ["one","shares","ties"] (jd n5):=Qe
def DL:Se ⟨K,ca,tx K⟩ P w mg base 8 "following" ["one","shares","ties"] Td:=
 kh a.Td å λb=>
  (zd (zmq (YW a) rfl (b.mono (by decide)) rfl (db (zk (ic (ja 0) Qa) Qa) (db (ja 1) (jb (ja 2))))))
abbrev zhi:Stmt:=Cc 15
def kW:Ev->M Fl:=
 (pd (Ja gz (eC (Z 1)) (da 0)))
def af:List D->M D:=Lb λa=>Qc (ae 1 kW a)
def PY:Ba ["side"] ["side"] (jd zhi):=Qe
def bO:Se ⟨K,ca,tx K⟩ P w mg base 1 "other_side" ["side"] af:=
 kh a.af PY λb=>
  (zd (Of UA jB Qa (ja 0)))
abbrev W8:Stmt:=Cc 34
def yO:Ev->M Fl:=
 (Zb (Wf (Zq (Cm (eT (Ld 1 Pg [] (qa (da 1) Pa)))) (Cm (eT (Ld 1 bf [] (qa (da 2) Pa))))) (Ly 1 (qa (eC (ύ "no side gives such an amount")) Pa)) dg) (Zb (He 3 (Ld 3 ff [] (qa (Ja ib (da 0) (eC (Z 1))) (qa (da 1) (qa (Dd Oy (da 2)) Pa))))) (pd (Ld 3 Td [] (qa (da 0) (qa (Ld 3 ff [] (qa (da 3) (qa (Ld 1 af [] (qa (da 1) Pa)) (qa (da 2) Pa)))) (qa (Ja ib (da 0) (eC (Z 2))) Pa)))))))
def Ek:List D->M D:=Lb λa=>Qc (ae 4 yO a)
def YU:Ba ["one","side","amount","less"] ["one","side","amount"] (jd W8):=Qe
def yd2:Se ⟨K,ca,tx K⟩ P w mg base 9 "gift" ["one","side","amount"] Ek:=
 kh a.Ek YU λb=>
  (lc (eg (L2.PW.pt (Ks (bo (vk (ce (yM a) b (jb (ja 1))))) (Iu (bo (vk (ce (yU a) b (jb (ja 2)))))))) (Ii (kB 1 vd rfl a.Rh a.Tg rfl rfl (jb lf))) lg)
  (lc (bc YU.nd (ce (PJ a) b (db (ic (ja 0) Qa) (db (ja 1) (jb (lG RE zF (ja 2)))))))
  (zd (ce (DL a) b (db (ja 0) (db (ce (PJ a) b (db (ja 3) (db (ce (bO a) b (jb (ja 1))) (jb (ja 2))))) (jb (ic (ja 0) Qa))))))))
abbrev yoq:Stmt:=Cc 35
def SI:Ev->M Fl:=
 (Zb (He 5 (wf (qa (da 1) (qa (da 2) (qa (da 3) (qa (da 4) Pa)))))) (Zb (Wf (Cm (eT (Ld 1 dh [] (qa (da 5) Pa)))) (Ly 1 (qa (eC (ύ "payer, amount, word and day make no tie")) Pa)) dg) (pd (Ld 3 Td [] (qa (da 0) (qa (Ld 3 ff [] (qa (Ja ib (da 0) (eC (Z 1))) (qa (da 1) (qa (Dd Oy (da 2)) Pa)))) (qa (Ja Sh (Ja ib (da 0) (eC (Z 2))) (wf (qa (da 5) Pa))) Pa)))))))
def Nj:List D->M D:=Lb λa=>Qc (ae 6 SI a)
def ZX:Ba ["one","payer","amount","word","day","tie"] ["one","payer","amount","word","day"] (jd yoq):=Qe
def o6:Se ⟨K,ca,tx K⟩ P w mg base 9 "tied" ["one","payer","amount","word","day"] Nj:=
 kh a.Nj ZX λb=>
  (lc (bc ZX.nd (Ff (db (ja 1) (db (ja 2) (db (ja 3) (jb (ja 4)))))))
  (lc (eg (bo (vk (ce (oQ a) b (jb (ja 5))))) (Ii (kB 1 vd rfl a.Rh a.Tg rfl rfl (jb lf))) lg)
  (zd (ce (DL a) b (db (ja 0) (db (ce (PJ a) b (db (ic (ja 0) Qa) (db (ja 1) (jb (lG RE zF (ja 2)))))) (jb (zk (ic (ja 0) Qa) (Ff (jb (ja 5)))))))))))
abbrev B5:Stmt:=Cc 36
abbrev fO:Ev->M Fl:=(Wf (eT (Ja Uf (Ja ib (da 2) (eC (Z 2))) (da 1))) (pd (da 2)) dg)
def pW:Ev->M Fl:=
 (Zb (Xv (Bj (Ja ib (da 0) (eC (Z 2)))) (We 2) fO) (pd (eC ϛ)))
def Hg:List D->M D:=Lb λa=>Qc (ae 3 pW a)
def TV:Ba ["one","word","tie"] ["one","word"] (jd B5):=Qe
def xX:Se ⟨K,ca,tx K⟩ P w mg base 1 "tie_of" ["one","word"] Hg:=
 kh a.Hg TV λb=>
  (lc (Zx du rfl (lq rfl (ic (ja 0) Qa)) (xi TV.nd) (Ii (eg (Lf (jj (vf b)) mh (ic (ja 2) Qa) (ja 1) (Hf _)) (zd (ja 2)) lg)))
  (zd Yt))
abbrev ă:Stmt:=Cc 85
def VP:Ev->M Fl:=
 (Zb (He 3 (Ld 2 Hg [] (qa (da 0) (qa (da 1) Pa)))) (pd (gj (Ja BC (da 3) (eC ϛ)) (Ja Uf (Ja ib (da 3) (eC (Z 0))) (da 2)))))
def Qf:List D->M D:=Lb λa=>Qc (ae 4 VP a)
def aR:Ba ["one","word","side","tie"] ["one","word","side"] (jd ă):=Qe
def zT:Se ⟨K,ca,tx K⟩ P w mg base 2 "is_paid_by" ["one","word","side"] Qf:=
 kh a.Qf aR λb=>
  (lc (bc aR.nd (ce (xX a) b (db (ja 0) (jb (ja 1)))))
  (zd (wj (Dw DT sT (ja 3) Yt (Hf _)) (Zm (No b (ic (ja 3) Qa) (ja 2))))))
abbrev ĵ:Stmt:=Cc 38
def MP:Ev->M Fl:=
 (Zb (He 2 (Ld 2 Hg [] (qa (da 0) (qa (da 1) Pa)))) (Zb (Wf (eT (Ja Uu (da 2) (eC ϛ))) (Ly 1 (qa (eC (ύ "no tie of the stand has this word")) Pa)) dg) (pd (da 2))))
def Nf:List D->M D:=Lb λa=>Qc (ae 3 MP a)
def eX:Ba ["one","word","tie"] ["one","word"] (jd ĵ):=Qe
def oP:Se ⟨K,ca,tx K⟩ P w mg base 2 "tie_to_end" ["one","word"] Nf:=
 kh a.Nf eX λb=>
  (lc (bc eX.nd (ce (xX a) b (db (ja 0) (jb (ja 1)))))
  (lc (eg (Lf gF vF (ja 2) Yt (Hf _)) (Ii (kB 1 vd rfl a.Rh a.Tg rfl rfl (jb lf))) lg)
  (zd (ja 2))))
abbrev Ý:Stmt:=Cc 39
def gP:Ev->M Fl:=
 (Zb (He 3 (ah PB (qa (qj (dm (Fo (Bj (Ja ib (da 0) (eC (Z 2))))) [1] (We 0) (eT (Ja Aj (Ja ib (da 0) (eC (Z 2))) (Ja ib (da 2) (eC (Z 2))))) (da 0))) Pa))) (pd (Ld 3 Td [] (qa (da 0) (qa (Ld 3 ff [] (qa (Ja ib (da 0) (eC (Z 1))) (qa (da 2) (qa (Ja ib (da 1) (eC (Z 1))) Pa)))) (qa (da 3) Pa))))))
def ij:List D->M D:=Lb λa=>Qc (ae 4 gP a)
def vQ:Ba ["one","tie","side","ties"] ["one","tie","side"] (jd Ý):=Qe
def ZV:Se ⟨K,ca,tx K⟩ P w mg base 9 "ended" ["one","tie","side"] ij:=
 kh a.ij vQ λb=>
  (lc (bc vQ.nd (Hx zev (xR rfl) rfl a.ti gi (jb (Cq (Gu (x:="rest") (z0:="0") (M':=["tie"]) (ix:=[1]) rfl ⟨rfl,rfl,rfl,rfl,rfl,rfl⟩ (Tt (lq rfl (ic (ja 0) Qa))) (λ_ _ _ _ _=>xi (by show List.Nodup (("rest"::"0"::["tie"]):List Str);decide +kernel)) (λ_ _ _ _ _=>XG (Lf (Cu (vf b)) mh (ic (ja 0) Qa) (ic (ja 2) Qa) (Hf _))) (λ_ _ _ _ _=>(ja 0)))))))
  (zd (ce (DL a) b (db (ja 0) (db (ce (PJ a) b (db (ic (ja 0) Qa) (db (ja 2) (jb (ic (ja 1) Qa))))) (jb (ja 3)))))))
abbrev à:Stmt:=Cc 40
def vR:Ev->M Fl:=
 (Zb (He 2 (Ld 2 Nf [] (qa (da 0) (qa (da 1) Pa)))) (pd (Ld 3 ij [] (qa (da 0) (qa (da 2) (qa (Ld 1 af [] (qa (Ja ib (da 2) (eC (Z 0))) Pa)) Pa))))))
def Th:List D->M D:=Lb λa=>Qc (ae 3 vR a)
def tX:Ba ["one","word","tie"] ["one","word"] (jd à):=Qe
def ş:Se ⟨K,ca,tx K⟩ P w mg base 10 "settled" ["one","word"] Th:=
 kh a.Th tX λb=>
  (lc (bc tX.nd (ce (oP a) b (db (ja 0) (jb (ja 1)))))
  (zd (ce (ZV a) b (db (ja 0) (db (ja 2) (jb (ce (bO a) b (jb (ic (ja 2) Qa)))))))))
abbrev zo6:Stmt:=Cc 41
def HR:Ev->M Fl:=
 (Zb (He 2 (Ld 2 Nf [] (qa (da 0) (qa (da 1) Pa)))) (pd (Ld 3 ij [] (qa (da 0) (qa (da 2) (qa (Ja ib (da 2) (eC (Z 0))) Pa))))))
def Vh:List D->M D:=Lb λa=>Qc (ae 3 HR a)
def HU:Ba ["one","word","tie"] ["one","word"] (jd zo6):=Qe
def EZ:Se ⟨K,ca,tx K⟩ P w mg base 10 "dropped" ["one","word"] Vh:=
 kh a.Vh HU λb=>
  (lc (bc HU.nd (ce (oP a) b (db (ja 0) (jb (ja 1)))))
  (zd (ce (ZV a) b (db (ja 0) (db (ja 2) (jb (ic (ja 2) Qa)))))))
abbrev Ξ:Stmt:=Cc 86
def lY:Ev->M Fl:=
 (Zb (He 3 (Dd (Mc [4,5,6,7] "mine") (da 0))) (Zb (He 4 (Dd (Mc [4,5,6,7] "side") (da 0))) (Zb (Wf (eT (Ja Uf (Ja ib (da 1) (eC (Z 0))) (eC (ύ "give")))) (pd (Ld 3 Ek [] (qa (da 3) (qa (da 4) (qa (Ja ib (da 1) (eC (Z 2))) Pa))))) dg) (Zb (Wf (Zq (eT (Ja Uf (Ja ib (da 1) (eC (Z 0))) (eC (ύ "pay")))) (eT (Ja Uf (Ja ib (da 1) (eC (Z 0))) (eC (ύ "pass"))))) (pd (Ld 5 Nj [] (qa (da 3) (qa (da 4) (qa (Ja ib (da 1) (eC (Z 2))) (qa (Ja ib (da 1) (eC (Z 3))) (qa (Ja ib (da 1) (eC (Z 4))) Pa))))))) dg) (Zb (Wf (gu (eT (Ja Uf (Ja ib (da 1) (eC (Z 0))) (eC (ύ "settle")))) (gu (eT (Ld 3 Qf [] (qa (da 3) (qa (Ja ib (da 1) (eC (Z 2))) (qa (Ld 1 af [] (qa (da 4) Pa)) Pa))))) (eT (Ja Ov (Ja ib (da 1) (eC (Z 2))) (da 2))))) (pd (Ld 2 Th [] (qa (da 3) (qa (Ja ib (da 1) (eC (Z 2))) Pa)))) dg) (Zb (Wf (gu (eT (Ja Uf (Ja ib (da 1) (eC (Z 0))) (eC (ύ "drop")))) (eT (Ld 3 Qf [] (qa (da 3) (qa (Ja ib (da 1) (eC (Z 2))) (qa (da 4) Pa)))))) (pd (Ld 2 Vh [] (qa (da 3) (qa (Ja ib (da 1) (eC (Z 2))) Pa)))) dg) (Ly 1 (qa (eC (ύ "there is nothing that this wish could come to")) Pa))))))))
def Bf:List D->M D:=Lb λa=>Qc (ae 5 lY a)
def ZL:Ba ["account","wish","known","mine","side"] ["account","wish","known"] (jd Ξ):=Qe
def zco(b:Fd K mg ca):Se ⟨K,ca,tx K⟩ P w mg base 11 "stand_wished" ["account","wish","known"] Bf:=
 kh b.Bf ZL λa=>
  (lc (bc ZL.nd (oe (Iq b) (ja 0)))
  (lc (bc ZL.nd (oe (Qt b) (ja 0)))
  (lc (eg (Lf (jj (vf a)) mh (ic (ja 1) Qa) lf (Hf _)) (zd (ce (yd2 b) a (db (ja 3) (db (ja 4) (jb (ic (ja 1) Qa)))))) lg)
  (lc (eg (L2.PW.pt (Ks (Lf (jj (vf a)) mh (ic (ja 1) Qa) lf (Hf _)) (Iu (Lf (jj (vf a)) mh (ic (ja 1) Qa) lf (Hf _))))) (zd (ce (o6 b) a (db (ja 3) (db (ja 4) (db (ic (ja 1) Qa) (db (ic (ja 1) Qa) (jb (ic (ja 1) Qa)))))))) lg)
  (lc (eg (L2.PW.pt (Vu (Lf (jj (vf a)) mh (ic (ja 1) Qa) lf (Hf _)) (Vu (vk (ce (zT b) a (db (ja 3) (db (ic (ja 1) Qa) (jb (ce (bO b) a (jb (ja 4)))))))) (Ex (Lf (EL (vf a)) EK (ic (ja 1) Qa) (ja 2) rfl))))) (zd (ce (ş b) a (db (ja 3) (jb (ic (ja 1) Qa))))) lg)
  (lc (eg (L2.PW.pt (Vu (Lf (jj (vf a)) mh (ic (ja 1) Qa) lf (Hf _)) (Ex (vk (ce (zT b) a (db (ja 3) (db (ic (ja 1) Qa) (jb (ja 4))))))))) (zd (ce (EZ b) a (db (ja 3) (jb (ic (ja 1) Qa))))) lg)
  (Ii (kB 1 vd rfl b.Rh b.Tg rfl rfl (jb lf)))))))))
abbrev V1:Stmt:=Cc 87
def UQ:Ev->M Fl:=
 (pd (Bz (Zq (eT (Ja Uf (Ja ib (da 0) (eC (Z 0))) (eC (ύ "give")))) (eT (Ja Uf (Ja ib (da 0) (eC (Z 0))) (eC (ύ "pay"))))) (Ja ib (da 0) (eC (Z 2))) (eC (Z 0))))
def Df:List D->M D:=Lb λa=>Qc (ae 1 UQ a)
def D8:Ba ["wish"] ["wish"] (jd V1):=Qe
def K8(b:Fd K mg ca):Se ⟨K,ca,tx K⟩ P w mg base 1 "allowance_of" ["wish"] Df:=
 kh b.Df D8 λa=>
  (zd (cE (L2.PW.pt (Ks (Lf (jj (vf a)) mh (ic (ja 0) Qa) lf (Hf _)) (Iu (Lf (jj (vf a)) mh (ic (ja 0) Qa) lf (Hf _))))) (ic (ja 0) Qa) Qa))
abbrev S4:Stmt:=Cc 30
def YV:Ev->M Fl:=
 (pd (Ja Sh (ah uw (qa (Ja ib (da 0) (eC (Z 1))) Pa)) (ah uw (qa (qj (dm (Fo (Bj (Ja ib (da 0) (eC (Z 2))))) [] (We 0) Cp (Ja ib (da 0) (eC (Z 1))))) Pa))))
def Nh:List D->M D:=Lb λa=>Qc (ae 1 YV a)
def zwh:Ba ["one"] ["one"] (jd S4):=Qe
def KM:Se ⟨K,ca,tx K⟩ P w mg base 1 "deals" ["one"] Nh:=
 kh a.Nh zwh λb=>
  (zd (zk (Kj (JE rfl) (wE rfl) rfl a.Ps uu (jb (ic (ja 0) Qa))) (Kj (JE rfl) (wE rfl) rfl a.Ps uu (jb (Cq (Gu (x:="tie") (z0:="0") (M':=[]) (ix:=[]) rfl ⟨rfl,rfl,rfl,rfl,rfl,rfl⟩ (Tt (lq rfl (ic (ja 0) Qa))) (λ_ _ _ _ _=>xi (by show List.Nodup (("tie"::"0"::[]):List Str);decide +kernel)) (λ_ _ _ _ _=>Nv) (λ_ _ _ _ _=>(ic (ja 0) Qa))))))))
abbrev zfu:Stmt:=Cc 31
def vU:Ev->M Fl:=
 (pd (gj (Ld 1 Ed [] (qa (da 0) Pa)) (Ja Uf (Ld 1 Nh [] (qa (da 0) Pa)) (da 1))))
def De:List D->M D:=Lb λa=>Qc (ae 2 vU a)
def i6:Ba ["thing","coin"] ["thing","coin"] (jd zfu):=Qe
def lS:Se ⟨K,ca,tx K⟩ P w mg base 7 "is_stand_of" ["thing","coin"] De:=
 kh a.De i6 λb=>
  (zd (wj (ce (GH a) b (jb (ja 0))) (Zm (No b (ce (KM a) b (jb (ja 0))) (ja 1)))))
abbrev Z1:Stmt:=yh (Cc 52) 1
def MV:Ev->M Fl:=
 (pd (wf (qa (eC (ύ "agree")) (qa (Dd (Mc [4,5,6,7] "pot") (da 0)) (qa (da 1) (qa (da 2) Pa))))))
def na:List D->M D:=Lb λa=>Qc (ae 3 MV a)
def Z8:Ba ["self","side","one"] ["self","side","one"] (jd Z1):=Qe
def VB:Bi ⟨K,ca,tx K⟩ P w mg base 1 (ca 11) ["self","side","one"] na:=
 Eu a.na Z8 λb=>
  (zd (Ff (db lf (db (oe (Xq a) (ja 0)) (db (ja 1) (jb (ja 2)))))))
def qU:Lk ⟨K,ca,tx K⟩ P w mg base 1 "agree_of" ["self","side","one"] [(4,na),(5,na),(6,na),(7,na)]:=(Qk a.Ng a.Yj (VB a) (Qk a.bh a.Ri (VB a) (Qk a.Ke a.Jh (VB a) (Qk a.qf a.Xj (VB a) Jo))))
abbrev À:Stmt:=Cc 57
def OH:Ev->M Fl:=
 (Zb (Wf (Zq (eT (Ja Aj (Dd (Mc [4,5,6,7] "side") (da 0)) (eC (Z 0)))) (eT (Ja Aj (jh [(5,nc),(6,Gb),(7,Xb)] 1 "word" (da 0) Pa) (eC (ύ "calm"))))) (Ly 2 (qa (eC (ύ "only the lead offers, and only when it is calm")) Pa)) dg) (Zb (He 3 (wf (qa (Ja Sh (Ja ib (Dd (Mc [4,5,6,7] "mine") (da 0)) (eC (Z 0))) (eC (Z 1))) (qa (da 1) (qa (da 2) Pa))))) (Zb (Wf (Cm (eT (Ld 2 De [] (qa (da 3) (qa (Ld 1 Nh [] (qa (Dd (Mc [4,5,6,7] "mine") (da 0)) Pa)) Pa))))) (Ly 1 (qa (eC (ύ "what is offered is no stand of the pot")) Pa)) dg) (Zb (He 4 (bv 6 7 nk (qa (Dd (Mc [4,5,6,7] "pot") (da 0)) (qa (Dd (Mc [4,5,6,7] "side") (da 0)) (qa (Dd (Mc [4,5,6,7] "mine") (da 0)) (qa (Dd (Mc [4,5,6,7] "grant") (da 0)) (qa (Zh (qa (Dd (Mc [4,5,6,7] "mine") (da 0)) (qa (da 3) Pa))) (qa (Dd (Mc [4,5,6,7] "strikes") (da 0)) Pa)))))))) (pd (wf (qa (da 4) (qa (wf (qa (eC (ύ "offer")) (qa (Dd (Mc [4,5,6,7] "pot") (da 0)) (qa (jh [(4,na),(5,na),(6,na),(7,na)] 3 "agree_of" (da 0) (qa (eC (Z 0)) (qa (da 3) Pa))) Pa)))) Pa))))))))
def Ve:List D->M D:=Lb (ae 5 OH)
def IM:Ba ["account","shares","ties","one","behind"] ["account","shares","ties"] (jd À):=Qe
def SU:Se ⟨K,ca,tx K⟩ P w mg base 8 "offered" ["account","shares","ties"] Ve:=
 Se.Lb (RC a.Ve IM λ_ _ _ _ _ _ _ b=>
  (lc (eg (L2.PW.pt (Ks (Lf (Cu (vf b)) mh (oe (Qt a) (ja 0)) Qa (Hf _)) (Iu (Lf (Cu (vf b)) mh (qt (SG a) b (ja 0)) lf (Hf _))))) (Ii (kB 2 vd rfl a.vw a.Rs rfl rfl (jb lf))) lg)
  (lc (bc IM.nd (Ff (db (zk (ic (oe (Iq a) (ja 0)) Qa) Qa) (db (ja 1) (jb (ja 2))))))
  (lc (eg (bo (vk (ce (lS a) b (db (ja 3) (jb (ce (KM a) b (jb (oe (Iq a) (ja 0))))))))) (Ii (kB 1 vd rfl a.Rh a.Tg rfl rfl (jb lf))) lg)
  (lc (bc IM.nd (XC (c:=6) (ps:=["self","pot","side","mine","grant","may","strikes"]) ⟨_,a.Yu,a.Vt,sF a⟩ rfl (b.mono (by decide)) rfl (db (oe (Xq a) (ja 0)) (db (oe (Qt a) (ja 0)) (db (oe (Iq a) (ja 0)) (db (oe (QM a) (ja 0)) (db (Zi (db (oe (Iq a) (ja 0)) (jb (ja 3)))) (jb (oe (yA a) (ja 0))))))))))
  (zd (Ff (db (ja 4) (jb (Ff (db lf (db (oe (Xq a) (ja 0)) (jb (fmt (qU a) b (ja 0) (db Qa (jb (ja 3)))))))))))))))))
abbrev ô:Stmt:=Cc 14
def rR:Ev->M Fl:=
 (pd (Ld 3 Vc [] (qa (da 0) (qa (eC (Z 0)) (qa (eC (Z 2)) Pa)))))
def ai:List D->M D:=Lb λa=>Qc (ae 1 rR a)
def F4:Ba ["thing"] ["thing"] (jd ô):=Qe
def QX:Se ⟨K,ca,tx K⟩ P w mg base 3 "is_pot" ["thing"] ai:=
 kh a.ai F4 λb=>
  (zd (ce (sy a) b (db (ja 0) (db Qa (jb (my (u:=Ck 2 (a.Vo).choose) rfl (a.Vo).choose_spec ⟨_,rfl⟩))))))
abbrev O8:Stmt:=Cc 43
def zS:Ev->M Fl:=
 (pd (gj (Ja Uf (ah yj (qa (da 0) Pa)) (eC (Z 4))) (gj (Ld 1 ai [] (qa (Ja ib (da 0) (eC (Z 1))) Pa)) (Ld 1 Pg [] (qa (Ja ib (da 0) (eC (Z 2))) Pa)))))
def Je:List D->M D:=Lb λa=>Qc (ae 1 zS a)
def zc7:Ba ["thing"] ["thing"] (jd O8):=Qe
def zX:Se ⟨K,ca,tx K⟩ P w mg base 4 "is_of_a_side" ["thing"] Je:=
 kh a.Je zc7 λb=>
  (zd (wj (No b (Kj bq (iq rfl) rfl a.Bg Nb (jb (ja 0))) Qa) (wj (ce (QX a) b (jb (ic (ja 0) Qa))) (Zm (ce (yM a) b (jb (ic (ja 0) Qa)))))))
abbrev ů:Stmt:=Cc 44
def yL:Ev->M Fl:=
 (Zb (Wf (Zq (Cm (eT (Dd (Kq .tuple) (da 0)))) (Zq (eT (Ja Uf (ah yj (qa (da 0) Pa)) (eC (Z 0)))) (Cm (eT (Dd (Kq .str) (Ja ib (da 0) (eC (Z 0)))))))) (pd (eC (ϐ false))) dg) (Zb (Wf (eT (Ja Uf (Ja ib (da 0) (eC (Z 0))) (eC (ύ "word")))) (pd (gj (Ja Uf (ah yj (qa (da 0) Pa)) (eC (Z 2))) (Ld 1 Rg [] (qa (Ja ib (da 0) (eC (Z 1))) Pa)))) dg) (Zb (Wf (eT (Ja Uf (Ja ib (da 0) (eC (Z 0))) (eC (ύ "strike")))) (pd (gj (Ld 1 Je [] (qa (da 0) Pa)) (Ld 1 rg [] (qa (Ja ib (da 0) (eC (Z 3))) Pa)))) dg) (Zb (Wf (eT (Ja Uf (Ja ib (da 0) (eC (Z 0))) (eC (ύ "agree")))) (pd (gj (Ld 1 Je [] (qa (da 0) Pa)) (Ld 1 Ed [] (qa (Ja ib (da 0) (eC (Z 3))) Pa)))) dg) (pd (eC (ϐ false)))))))
def Pf:List D->M D:=Lb λa=>Qc (ae 1 yL a)
def zjd:Ba ["thing"] ["thing"] (jd ů):=Qe
def JX:Se ⟨K,ca,tx K⟩ P w mg base 7 "is_thing" ["thing"] Pf:=
 kh a.Pf zjd λb=>
  (lc (eg (L2.PW.pt (Ks (bo (vk (sw .tuple (ja 0) rfl a.Xd rfl a.ti gi))) (Ks (Lf (jj (vf b)) mh (Kj bq (iq rfl) rfl a.Bg Nb (jb (ja 0))) Qa (Hf _)) (Iu (bo (vk (sw .str (ic (ja 0) Qa) rfl a.Xd rfl a.rz boot_str))))))) (zd Uq) lg)
  (lc (eg (Lf (jj (vf b)) mh (ic (ja 0) Qa) lf (Hf _)) (zd (wj (No b (Kj bq (iq rfl) rfl a.Bg Nb (jb (ja 0))) Qa) (Zm (ce (FL a) b (jb (ic (ja 0) Qa)))))) lg)
  (lc (eg (Lf (jj (vf b)) mh (ic (ja 0) Qa) lf (Hf _)) (zd (wj (ce (zX a) b (jb (ja 0))) (Zm (ce (QQ a) b (jb (ic (ja 0) Qa)))))) lg)
  (lc (eg (Lf (jj (vf b)) mh (ic (ja 0) Qa) lf (Hf _)) (zd (wj (ce (zX a) b (jb (ja 0))) (Zm (ce (GH a) b (jb (ic (ja 0) Qa)))))) lg)
  (zd Uq)))))
abbrev ĺ:Stmt:=Cc 46
def QT:Ev->M Fl:=
 (pd (gj (Ld 1 Pf [] (qa (da 0) Pa)) (Ja Uf (Ja ib (da 0) (eC (Z 0))) (eC (ύ "agree")))))
def Mg:List D->M D:=Lb λa=>Qc (ae 1 QT a)
def zjb:Ba ["thing"] ["thing"] (jd ĺ):=Qe
def pX:Se ⟨K,ca,tx K⟩ P w mg base 8 "is_agree" ["thing"] Mg:=
 kh a.Mg zjb λb=>
  (zd (wj (ce (JX a) b (jb (ja 0))) (Zm (No b (ic (ja 0) Qa) lf))))
abbrev f6:Stmt:=Cc 47
def eV:Ev->M Fl:=
 (pd (gj (Ld 1 Pf [] (qa (da 0) Pa)) (Ja Uf (Ja ib (da 0) (eC (Z 0))) (eC (ύ "strike")))))
def og:List D->M D:=Lb λa=>Qc (ae 1 eV a)
def x4:Ba ["thing"] ["thing"] (jd f6):=Qe
def UT:Se ⟨K,ca,tx K⟩ P w mg base 8 "is_strike" ["thing"] og:=
 kh a.og x4 λb=>
  (zd (wj (ce (JX a) b (jb (ja 0))) (Zm (No b (ic (ja 0) Qa) lf))))
abbrev g9:Stmt:=Cc 48
def WC:Ev->M Fl:=
 (Zb (Wf (eT (Ja Uf (Ja ib (da 0) (eC (Z 0))) (eC (ύ "offer")))) (pd (gj (Ja Uf (ah yj (qa (da 0) Pa)) (eC (Z 3))) (Ld 1 Mg [] (qa (Ja ib (da 0) (eC (Z 2))) Pa)))) dg) (Zb (Wf (eT (Ja Uf (Ja ib (da 0) (eC (Z 0))) (eC (ύ "accept")))) (pd (gj (Ja Uf (ah yj (qa (da 0) Pa)) (eC (Z 4))) (gj (Ld 1 Mg [] (qa (Ja ib (da 0) (eC (Z 2))) Pa)) (Ld 1 og [] (qa (Ja ib (da 0) (eC (Z 3))) Pa))))) dg) (Zb (Wf (eT (Ja Uf (Ja ib (da 0) (eC (Z 0))) (eC (ύ "struck")))) (pd (gj (Ja Uf (ah yj (qa (da 0) Pa)) (eC (Z 3))) (Ld 1 og [] (qa (Ja ib (da 0) (eC (Z 2))) Pa)))) dg) (Zb (Wf (eT (Ja Uf (Ja ib (da 0) (eC (Z 0))) (eC (ύ "ask")))) (pd (gj (Ja Uf (ah yj (qa (da 0) Pa)) (eC (Z 4))) (Ld 1 Ed [] (qa (wf (qa (eC (Z 0)) (qa (Ja ib (da 0) (eC (Z 2))) (qa (Ja ib (da 0) (eC (Z 3))) Pa)))) Pa)))) dg) (Zb (Wf (eT (Ja Uf (Ja ib (da 0) (eC (Z 0))) (eC (ύ "word")))) (pd (gj (Ja Uf (ah yj (qa (da 0) Pa)) (eC (Z 3))) (Ld 1 Rg [] (qa (Ja ib (da 0) (eC (Z 2))) Pa)))) dg) (pd (eC (ϐ false))))))))
def yd:List D->M D:=Lb λa=>Qc (ae 1 WC a)
def kZ:Ba ["letter"] ["letter"] (jd g9):=Qe
def n4(b:Fd K mg ca):Se ⟨K,ca,tx K⟩ P w mg base 9 "has_its_parts" ["letter"] yd:=
 kh b.yd kZ λa=>
  (lc (eg (Lf (jj (vf a)) mh (ic (ja 0) Qa) lf (Hf _)) (zd (wj (No a (Kj bq (iq rfl) rfl b.Bg Nb (jb (ja 0))) Qa) (Zm (ce (pX b) a (jb (ic (ja 0) Qa)))))) lg)
  (lc (eg (Lf (jj (vf a)) mh (ic (ja 0) Qa) lf (Hf _)) (zd (wj (No a (Kj bq (iq rfl) rfl b.Bg Nb (jb (ja 0))) Qa) (wj (ce (pX b) a (jb (ic (ja 0) Qa))) (Zm (ce (UT b) a (jb (ic (ja 0) Qa))))))) lg)
  (lc (eg (Lf (jj (vf a)) mh (ic (ja 0) Qa) lf (Hf _)) (zd (wj (No a (Kj bq (iq rfl) rfl b.Bg Nb (jb (ja 0))) Qa) (Zm (ce (UT b) a (jb (ic (ja 0) Qa)))))) lg)
  (lc (eg (Lf (jj (vf a)) mh (ic (ja 0) Qa) lf (Hf _)) (zd (wj (No a (Kj bq (iq rfl) rfl b.Bg Nb (jb (ja 0))) Qa) (Zm (ce (GH b) a (jb (Ff (db Qa (db (ic (ja 0) Qa) (jb (ic (ja 0) Qa)))))))))) lg)
  (lc (eg (Lf (jj (vf a)) mh (ic (ja 0) Qa) lf (Hf _)) (zd (wj (No a (Kj bq (iq rfl) rfl b.Bg Nb (jb (ja 0))) Qa) (Zm (ce (FL b) a (jb (ic (ja 0) Qa)))))) lg)
  (zd Uq))))))
abbrev V0:Stmt:=Cc 49
def AW:Ev->M Fl:=
 (Zb (Wf (Zq (Cm (eT (Dd (Kq .tuple) (da 0)))) (Zq (eT (Ja oLt (ah yj (qa (da 0) Pa)) (eC (Z 3)))) (Cm (eT (Dd (Kq .str) (Ja ib (da 0) (eC (Z 0)))))))) Jz dg) (pd (gj (Ld 1 ai [] (qa (Ja ib (da 0) (eC (Z 1))) Pa)) (Ld 1 yd [] (qa (da 0) Pa)))))
def Kc:List D->M D:=Lb λa=>Qc (ae 1 AW a)
def ĭ:Ba ["thing"] ["thing"] (jd V0):=Qe
def wI:Se ⟨K,ca,tx K⟩ P w mg base 10 "is_letter" ["thing"] Kc:=
 kh a.Kc ĭ λb=>
  (lc (eg (L2.PW.pt (Ks (bo (vk (sw .tuple (ja 0) rfl a.Xd rfl a.ti gi))) (Ks (Lf Zv Mv (Kj bq (iq rfl) rfl a.Bg Nb (jb (ja 0))) Qa (Hf _)) (Iu (bo (vk (sw .str (ic (ja 0) Qa) rfl a.Xd rfl a.rz boot_str))))))) LA lg)
  (zd (wj (ce (QX a) b (jb (ic (ja 0) Qa))) (Zm (ce (n4 a) b (jb (ja 0)))))))
def RW:Lk ⟨K,ca,tx K⟩ P w mg base 1 "agree_of" ["self","side","one"] [(5,na)]:=(Qk a.bh a.Ri (VB a) Jo)
abbrev IZ:Stmt:=Cc 51
def aV:Ev->M Fl:=
 (pd (gj (Ld 2 De [] (qa (da 0) (qa (Ld 1 Nh [] (qa (da 1) Pa)) Pa))) (Ja Uf (Ja ib (da 0) (eC (Z 0))) (Ja Sh (Ja ib (da 1) (eC (Z 0))) (eC (Z 1))))))
def Af:List D->M D:=Lb λa=>Qc (ae 2 aV a)
def E8:Ba ["thing","one"] ["thing","one"] (jd IZ):=Qe
def zcl:Se ⟨K,ca,tx K⟩ P w mg base 8 "is_following" ["thing","one"] Af:=
 kh a.Af E8 λb=>
  (zd (wj (ce (lS a) b (db (ja 0) (jb (ce (KM a) b (jb (ja 1)))))) (Zm (No b (ic (ja 0) Qa) (zk (ic (ja 1) Qa) Qa)))))
abbrev X4:Stmt:=yh (Cc 52) 2
def sS:Ev->M Fl:=
 (pd (wf (qa (eC (ύ "strike")) (qa (Dd (Mc [4,5,6,7] "pot") (da 0)) (qa (da 1) (qa (Ja ib (da 2) (eC (Z 0))) Pa))))))
def Ca:List D->M D:=Lb λa=>Qc (ae 3 sS a)
def QY:Ba ["self","side","one"] ["self","side","one"] (jd X4):=Qe
def xM:Bi ⟨K,ca,tx K⟩ P w mg base 1 (ca 12) ["self","side","one"] Ca:=
 Eu a.Ca QY λb=>
  (zd (Ff (db lf (db (oe (Xq a) (ja 0)) (db (ja 1) (jb (ic (ja 2) Qa)))))))
def V2:Lk ⟨K,ca,tx K⟩ P w mg base 1 "strike_of" ["self","side","one"] [(5,Ca)]:=(Qk a.bh a.xl (xM a) Jo)
abbrev ζ:Stmt:=yh (Cc 53) 1
def XI:Ev->M Fl:=
 (Zb (Wf (Zq (eT (Ja Aj (Dd (Mc [4,5,6,7] "side") (da 0)) (eC (Z 1)))) (Zq (Cm (eT (Ld 1 Kc [] (qa (da 1) Pa)))) (eT (Ja Aj (Ja ib (da 1) (eC (Z 0))) (eC (ύ "offer")))))) (pd (wf (qa (da 0) (qa (eC ϛ) Pa)))) dg) (Zb (He 2 (Ja ib (Ja ib (da 1) (eC (Z 2))) (eC (Z 3)))) (Zb (He 3 (jh [(5,na)] 3 "agree_of" (da 0) (qa (eC (Z 0)) (qa (da 2) Pa)))) (Zb (Wf (Zq (eT (Ja Aj (da 1) (wf (qa (eC (ύ "offer")) (qa (Dd (Mc [4,5,6,7] "pot") (da 0)) (qa (da 3) Pa)))))) (Cm (eT (Ld 2 Af [] (qa (da 2) (qa (Dd (Mc [4,5,6,7] "mine") (da 0)) Pa)))))) (pd (wf (qa (da 0) (qa (eC ϛ) Pa)))) dg) (Zb (He 4 (bv 7 7 nk (qa (Dd (Mc [4,5,6,7] "pot") (da 0)) (qa (Dd (Mc [4,5,6,7] "side") (da 0)) (qa (da 2) (qa (da 3) (qa (Zh (qa (Dd (Mc [4,5,6,7] "mine") (da 0)) (qa (da 2) Pa))) (qa (Dd (Mc [4,5,6,7] "strikes") (da 0)) Pa)))))))) (pd (wf (qa (da 4) (qa (wf (qa (eC (ύ "accept")) (qa (Dd (Mc [4,5,6,7] "pot") (da 0)) (qa (jh [(5,na)] 3 "agree_of" (da 0) (qa (eC (Z 1)) (qa (da 2) Pa))) (qa (jh [(5,Ca)] 3 "strike_of" (da 0) (qa (eC (Z 1)) (qa (Dd (Mc [4,5,6,7] "mine") (da 0)) Pa))) Pa))))) Pa)))))))))
def Uc:List D->M D:=Lb (ae 5 XI)
def YJ:Ba ["self","letter","one","agree","behind"] ["self","letter"] (jd ζ):=Qe
def m4:Bi ⟨K,ca,tx K⟩ P w mg base 11 (ca 14) ["self","letter"] Uc:=
 Sv a.Uc YJ λb=>
  (lc (eg (L2.PW.pt (Ks (Lf (Cu (vf b)) mh (oe (Qt a) (ja 0)) Qa (Hf _)) (Ks (bo (vk (ce (wI a) b (jb (ja 1))))) (Iu (Lf (Cu (vf b)) mh (ic (ja 1) Qa) lf (Hf _)))))) (zd (Ff (db (ja 0) (jb Yt)))) lg)
  (lc (bc YJ.nd (ic (ic (ja 1) Qa) Qa))
  (lc (bc YJ.nd (fmt (RW a) b (ja 0) (db Qa (jb (ja 2)))))
  (lc (eg (L2.PW.pt (Ks (Lf (Cu (vf b)) mh (ja 1) (Ff (db lf (db (oe (Xq a) (ja 0)) (jb (ja 3))))) (Hf _)) (Iu (bo (vk (ce (zcl a) b (db (ja 2) (jb (oe (Iq a) (ja 0)))))))))) (zd (Ff (db (ja 0) (jb Yt)))) lg)
  (lc (bc YJ.nd (XC (c:=7) (ps:=["self","pot","side","mine","grant","may","strikes"]) ⟨_,a.qv,a.Jt,sF a⟩ rfl (b.mono (by decide)) rfl (db (oe (Xq a) (ja 0)) (db (oe (Qt a) (ja 0)) (db (ja 2) (db (ja 3) (db (Zi (db (oe (Iq a) (ja 0)) (jb (ja 2)))) (jb (oe (yA a) (ja 0))))))))))
  (zd (Ff (db (ja 4) (jb (Ff (db lf (db (oe (Xq a) (ja 0)) (db (fmt (RW a) b (ja 0) (db Qa (jb (ja 2)))) (jb (fmt (V2 a) b (ja 0) (db Qa (jb (oe (Iq a) (ja 0)))))))))))))))))))
def B0:Lk ⟨K,ca,tx K⟩ P w mg base 1 "agree_of" ["self","side","one"] [(6,na)]:=(Qk a.Ke a.Jh (VB a) Jo)
def ZW:Lk ⟨K,ca,tx K⟩ P w mg base 1 "strike_of" ["self","side","one"] [(6,Ca)]:=(Qk a.Ke a.Lj (xM a) Jo)
abbrev V8:Stmt:=yh (Cc 54) 1
def RK:Ev->M Fl:=
 (Zb (He 2 (Ja ib (Dd (Mc [4,5,6,7] "may") (da 0)) (eC (Z 1)))) (Zb (He 3 (jh [(6,na)] 3 "agree_of" (da 0) (qa (eC (Z 1)) (qa (da 2) Pa)))) (Zb (Wf (Zq (Cm (eT (Ld 1 Kc [] (qa (da 1) Pa)))) (eT (Ja Aj (da 1) (wf (qa (eC (ύ "accept")) (qa (Dd (Mc [4,5,6,7] "pot") (da 0)) (qa (da 3) (qa (jh [(6,Ca)] 3 "strike_of" (da 0) (qa (eC (Z 1)) (qa (Dd (Mc [4,5,6,7] "mine") (da 0)) Pa))) Pa)))))))) (pd (wf (qa (da 0) (qa (eC ϛ) Pa)))) dg) (Zb (He 4 (bv 5 7 nk (qa (Dd (Mc [4,5,6,7] "pot") (da 0)) (qa (Dd (Mc [4,5,6,7] "side") (da 0)) (qa (da 2) (qa (da 3) (qa (Zh (qa (da 2) Pa)) (qa (Ja Sh (Dd (Mc [4,5,6,7] "strikes") (da 0)) (Zh (qa (Ja ib (Dd (Mc [4,5,6,7] "mine") (da 0)) (eC (Z 0))) Pa))) Pa)))))))) (pd (wf (qa (da 4) (qa (wf (qa (eC (ύ "struck")) (qa (Dd (Mc [4,5,6,7] "pot") (da 0)) (qa (jh [(6,Ca)] 3 "strike_of" (da 0) (qa (eC (Z 0)) (qa (Dd (Mc [4,5,6,7] "mine") (da 0)) Pa))) Pa)))) Pa))))))))
def Hc:List D->M D:=Lb (ae 5 RK)
def JG:Ba ["self","letter","one","agree","behind"] ["self","letter"] (jd V8):=Qe
def zbl:Bi ⟨K,ca,tx K⟩ P w mg base 11 (ca 16) ["self","letter"] Hc:=
 Sv a.Hc JG λb=>
  (lc (bc JG.nd (ic (oe (Zw a) (ja 0)) Qa))
  (lc (bc JG.nd (fmt (B0 a) b (ja 0) (db Qa (jb (ja 2)))))
  (lc (eg (L2.PW.pt (Ks (bo (vk (ce (wI a) b (jb (ja 1))))) (Iu (Lf (Cu (vf b)) mh (ja 1) (Ff (db lf (db (oe (Xq a) (ja 0)) (db (ja 3) (jb (fmt (ZW a) b (ja 0) (db Qa (jb (oe (Iq a) (ja 0)))))))))) (Hf _))))) (zd (Ff (db (ja 0) (jb Yt)))) lg)
  (lc (bc JG.nd (XC (c:=5) (ps:=["self","pot","side","mine","grant","may","strikes"]) ⟨_,a.Dt,a.jr,sF a⟩ rfl (b.mono (by decide)) rfl (db (oe (Xq a) (ja 0)) (db (oe (Qt a) (ja 0)) (db (ja 2) (db (ja 3) (db (Zi (jb (ja 2))) (jb (zk (oe (yA a) (ja 0)) (Zi (jb (ic (oe (Iq a) (ja 0)) Qa))))))))))))
  (zd (Ff (db (ja 4) (jb (Ff (db lf (db (oe (Xq a) (ja 0)) (jb (fmt (ZW a) b (ja 0) (db Qa (jb (oe (Iq a) (ja 0)))))))))))))))))
def C3:Lk ⟨K,ca,tx K⟩ P w mg base 1 "strike_of" ["self","side","one"] [(7,Ca)]:=(Qk a.qf a.Pj (xM a) Jo)
abbrev Ŷ:Stmt:=yh (Cc 55) 1
def NN:Ev->M Fl:=
 (Zb (He 2 (Ja ib (Dd (Mc [4,5,6,7] "may") (da 0)) (eC (Z 0)))) (Zb (Wf (Zq (Cm (eT (Ld 1 Kc [] (qa (da 1) Pa)))) (eT (Ja Aj (da 1) (wf (qa (eC (ύ "struck")) (qa (Dd (Mc [4,5,6,7] "pot") (da 0)) (qa (jh [(7,Ca)] 3 "strike_of" (da 0) (qa (eC (Z 0)) (qa (da 2) Pa))) Pa))))))) (pd (wf (qa (da 0) (qa (eC ϛ) Pa)))) dg) (Zb (He 3 (bv 5 7 nk (qa (Dd (Mc [4,5,6,7] "pot") (da 0)) (qa (Dd (Mc [4,5,6,7] "side") (da 0)) (qa (Dd (Mc [4,5,6,7] "mine") (da 0)) (qa (Dd (Mc [4,5,6,7] "grant") (da 0)) (qa (Zh (qa (Dd (Mc [4,5,6,7] "mine") (da 0)) Pa)) (qa (Ja Sh (Dd (Mc [4,5,6,7] "strikes") (da 0)) (Zh (qa (Ja ib (da 2) (eC (Z 0))) Pa))) Pa)))))))) (pd (wf (qa (da 3) (qa (eC ϛ) Pa)))))))
def Gc:List D->M D:=Lb (ae 4 NN)
def fN:Ba ["self","letter","old","behind"] ["self","letter"] (jd Ŷ):=Qe
def J0:Bi ⟨K,ca,tx K⟩ P w mg base 11 (ca 18) ["self","letter"] Gc:=
 Sv a.Gc fN λb=>
  (lc (bc fN.nd (ic (oe (Zw a) (ja 0)) Qa))
  (lc (eg (L2.PW.pt (Ks (bo (vk (ce (wI a) b (jb (ja 1))))) (Iu (Lf (Cu (vf b)) mh (ja 1) (Ff (db lf (db (oe (Xq a) (ja 0)) (jb (fmt (C3 a) b (ja 0) (db Qa (jb (ja 2)))))))) (Hf _))))) (zd (Ff (db (ja 0) (jb Yt)))) lg)
  (lc (bc fN.nd (XC (c:=5) (ps:=["self","pot","side","mine","grant","may","strikes"]) ⟨_,a.Dt,a.jr,sF a⟩ rfl (b.mono (by decide)) rfl (db (oe (Xq a) (ja 0)) (db (oe (Qt a) (ja 0)) (db (oe (Iq a) (ja 0)) (db (oe (QM a) (ja 0)) (db (Zi (jb (oe (Iq a) (ja 0)))) (jb (zk (oe (yA a) (ja 0)) (Zi (jb (ic (ja 2) Qa))))))))))))
  (zd (Ff (db (ja 3) (jb Yt)))))))
def CU:Lk ⟨K,ca,tx K⟩ P w mg base 11 "taken" ["self","letter"] [(5,Uc),(6,Hc),(7,Gc)]:=(Qk a.bh a.sq (m4 a) (Qk a.Ke a.wm (zbl a) (Qk a.qf a.Gm (J0 a) Jo)))
abbrev zpb:Stmt:=Cc 88
def QL:Ev->M Fl:=
 (Zb (Wf (eT (Ja Uf (Dd (Mc [4,5,6,7] "side") (da 0)) (eC (Z 0)))) (pd (Ld 3 Ve [] (qa (da 0) (qa (Ja ib (da 1) (eC (Z 1))) (qa (Ja ib (da 1) (eC (Z 2))) Pa))))) dg) (Zb (He 2 (wf (qa (eC (ύ "offer")) (qa (Dd (Mc [4,5,6,7] "pot") (da 0)) (qa (jh [(4,na),(5,na),(6,na),(7,na)] 3 "agree_of" (da 0) (qa (eC (Z 0)) (qa (da 1) Pa))) Pa))))) (pd (wf (qa (Ja ib (jh [(5,Uc),(6,Hc),(7,Gc)] 2 "taken" (da 0) (qa (da 2) Pa)) (eC (Z 0))) (qa (wf (qa (eC (ύ "ask")) (qa (Dd (Mc [4,5,6,7] "pot") (da 0)) (qa (Ja ib (da 1) (eC (Z 1))) (qa (Ja ib (da 1) (eC (Z 2))) Pa))))) Pa))))))
def sh:List D->M D:=Lb (ae 3 QL)
def OW:Ba ["account","one","offer"] ["account","one"] (jd zpb):=Qe
def ė:Se ⟨K,ca,tx K⟩ P w mg base 12 "step_to" ["account","one"] sh:=
 Se.Lb (RC a.sh OW λ_ _ _ _ _ _ _ b=>
  (lc (eg (Lf (jj (vf b)) mh (oe (Qt a) (ja 0)) Qa (Hf _)) (zd (ce (SU a) b (db (ja 0) (db (ic (ja 1) Qa) (jb (ic (ja 1) Qa)))))) lg)
  (lc (bc OW.nd (Ff (db lf (db (oe (Xq a) (ja 0)) (jb (fmt (qU a) b (ja 0) (db Qa (jb (ja 1)))))))))
  (zd (Ff (db (ic (fmt (CU a) b (ja 0) (jb (ja 2))) Qa) (jb (Ff (db lf (db (oe (Xq a) (ja 0)) (db (ic (ja 1) Qa) (jb (ic (ja 1) Qa)))))))))))))
abbrev ξ:Stmt:=yh (Cc 89) 11
def wP:Ev->M Fl:=
 (Zb (He 3 (ah iE (qa (Dd (Mc [9] "accounts") (da 0)) Pa))) (Zb (Xu (da 1) (da 3) (Dd (Mc [4,5,6,7] "pot") (da 1))) (pd (Ja gG (Ld 1 Mh [] (qa (jh [(9,Zc)] 2 "view_by" (da 0) (qa (da 3) Pa)) Pa)) (Ja gz (jh [(9,Sb)] 1 "worth" (da 0) Pa) (da 2))))))
def Ic:List D->M D:=Lb λa=>Qc (ae 4 wP a)
def xV:Ba ["self","account","allowance","accounts"] ["self","account","allowance"] (jd ξ):=Qe
def i7:Bi ⟨K,ca,tx K⟩ P w mg base 10 (ca 31) ["self","account","allowance"] Ic:=
 Eu a.Ic xV λb=>
  (lc (bc xV.nd (Hx iP U7 rfl a.xw boot_dict (jb (oe (kt a) (ja 0)))))
  (lc (Ew (vf b) (ja 1) (ja 3) (oe (Xq a) (ja 1)))
  (zd (Dw MI aH (ce (Se.alias (IU a) a.Rj) b (jb (fmt (pT a) b (ja 0) (jb (ja 3))))) (Of UA jB (qt (KA a) b (ja 0)) (ja 2)) (Hf _)))))
def aN:Lk ⟨K,ca,tx K⟩ P w mg base 10 "is_good" ["self","account","allowance"] [(9,Ic)]:=(Qk a.Bc a.Il (i7 a) Jo)
abbrev ğ:Stmt:=yh (Cc 89) 14
abbrev fH:Ev->M Fl:=(He 3 (Ja ib (da 2) (eC (Z 1))))
abbrev KH:Ev->M Fl:=(He 4 (Dd (Mc [4,5,6,7] "side") (Ja vm (Dd (Mc [9] "accounts") (da 0)) (da 3))))
abbrev kH:Ev->M Fl:=(He 5 (Ld 1 Df [] (qa (da 2) Pa)))
abbrev nH:Ev->M Fl:=(He 6 (Ld 2 sh [] (qa (Ja vm (Dd (Mc [9] "accounts") (da 0)) (da 3)) (qa (da 1) Pa))))
abbrev PH:Ev->M Fl:=(Wf (Cm (eT (jh [(9,Ic)] 3 "is_good" (da 0) (qa (Ja ib (da 6) (eC (Z 0))) (qa (da 5) Pa))))) (pd (wf (qa (eC (ϐ false)) (qa (Zh Pa) Pa)))) dg)
abbrev jI:Ev->M Fl:=(Wf (eT (Ja Uf (da 4) (eC (Z 0)))) (Zb (Xu (Ja ib (da 6) (eC (Z 0))) (Dd (Mc [9] "accounts") (da 0)) (da 3)) (EH [9] "gave" (da 5) (da 0))) (Xu (wf (qa (da 5) (qa (Ja ib (da 1) (eC (Z 1))) (qa (Ja ib (da 1) (eC (Z 2))) Pa)))) (Dd (Mc [9] "asked") (da 0)) (da 3)))
abbrev DJ:Ev->M Fl:=(Wf (eT (Ja Uf (Ja ib (da 2) (eC (Z 0))) (eC (ύ "settle")))) (pd (wf (qa (eC (ϐ true)) (qa (Zh (qa (wf (qa (eC (ύ "word")) (qa (da 3) (qa (Ja ib (da 2) (eC (Z 2))) Pa)))) (qa (Ja ib (da 6) (eC (Z 1))) Pa))) Pa)))) dg)
abbrev wJ:Ev->M Fl:=(pd (wf (qa (eC (ϐ true)) (qa (Zh (qa (Ja ib (da 6) (eC (Z 1))) Pa)) Pa))))
def FH:Ev->M Fl:=
 (Zb fH (Zb KH (Zb kH (Zb nH (Zb PH (Zb jI (Zb DJ wJ)))))))
def Tc:List D->M D:=Lb (ae 7 FH)
def wF:Ba ["self","one","wish","pot","side","allowance","step"] ["self","one","wish"] (jd ğ):=Qe
def pZ:Bi ⟨K,ca,tx K⟩ P w mg base 13 (ca 34) ["self","one","wish"] Tc:=
 Sv a.Tc wF λb=>
  (lc (bc wF.nd (ic (ja 2) Qa))
  (lc (bc wF.nd (oe (Qt a) (Nu (vf b) (oe (kt a) (ja 0)) (ja 3) (λ_ _=>rfl))))
  (lc (bc wF.nd (ce (K8 a) b (jb (ja 2))))
  (lc (bc wF.nd (ce (ė a) b (db (Nu (vf b) (oe (kt a) (ja 0)) (ja 3) (λ_ _=>rfl)) (jb (ja 1)))))
  (lc (eg (bo (vk (fmt (aN a) b (ja 0) (db (ic (ja 6) Qa) (jb (ja 5)))))) (zd (Ff (db Uq (jb (Zi ym))))) lg)
  (lc (eg (Lf (jj (vf b)) mh (ja 4) Qa (Hf _)) (lc (Ew (vf b) (ic (ja 6) Qa) (oe (kt a) (ja 0)) (ja 3))
  (Ii (XW rfl (xJ a) (ja 0) (ja 5)))) (Ii (Ew (vf b) (Ff (db (ja 5) (db (ic (ja 1) Qa) (jb (ic (ja 1) Qa))))) (oe (JC a) (ja 0)) (ja 3))))
  (lc (eg (Lf (jj (vf b)) mh (ic (ja 2) Qa) lf (Hf _)) (zd (Ff (db Uq (jb (Zi (db (Ff (db lf (db (ja 3) (jb (ic (ja 2) Qa))))) (jb (ic (ja 6) Qa)))))))) lg)
  (zd (Ff (db Uq (jb (Zi (jb (ic (ja 6) Qa))))))))))))))
def ý:Lk ⟨K,ca,tx K⟩ P w mg base 13 "wish_for" ["self","one","wish"] [(9,Tc)]:=(Qk a.Bc a.Dk (pZ a) Jo)
abbrev T4:Stmt:=yh (Cc 89) 13
abbrev OC:Ev->M Fl:=(Wf (Cm (eT (jh [(9,wc)] 2 "holds" (da 0) (qa (Ja ib (da 1) (eC (Z 1))) Pa)))) (pd (wf (qa (eC (ϐ false)) (qa (Zh Pa) Pa)))) dg)
abbrev LC:Ev->M Fl:=(Wf (eT (Ja Uf (Ja ib (da 1) (eC (Z 0))) (eC (ύ "finish")))) Jz dg)
abbrev ZB:Ev->M Fl:=(He 2 (Ja vm (Dd (Mc [9] "accounts") (da 0)) (Ja ib (da 1) (eC (Z 1)))))
abbrev UC:Ev->M Fl:=(Wf (eT (Ja Aj (jh [(5,nc),(6,Gb),(7,Xb)] 1 "word" (da 2) Pa) (eC (ύ "calm")))) (pd (wf (qa (eC (ϐ false)) (qa (Zh Pa) Pa)))) dg)
abbrev nC:Ev->M Fl:=(qI (He 3 (Ld 3 Bf [] (qa (da 2) (qa (da 1) (qa (Dd (Mc [8,9] "known") (da 0)) Pa))))) (⟨(Hz [(1,true),(2,false)]),none,(pd (wf (qa (eC (ϐ false)) (qa (Zh Pa) Pa))))⟩::[]))
abbrev NB:Ev->M Fl:=(pd (jh [(9,Tc)] 3 "wish_for" (da 0) (qa (da 3) (qa (da 1) Pa))))
def qC:Ev->M Fl:=
 (Zb OC (Zb LC (Zb ZB (Zb UC (Zb nC NB)))))
def Oc:List D->M D:=Lb (ae 4 qC)
def mL:Ba ["self","wish","account","one"] ["self","wish"] (jd T4):=Qe
def ð:Bi ⟨K,ca,tx K⟩ P w mg base 14 (ca 33) ["self","wish"] Oc:=
 Sv a.Oc mL λb=>
  (lc (eg (bo (vk (fmt (GU a) b (ja 0) (jb (ic (ja 1) Qa))))) (zd (Ff (db Uq (jb (Zi ym))))) lg)
  (lc (eg (Lf (jj (vf b)) mh (ic (ja 1) Qa) lf (Hf _)) LA lg)
  (lc (bc mL.nd (Nu (vf b) (oe (kt a) (ja 0)) (ic (ja 1) Qa) (λ_ _=>rfl)))
  (lc (eg (Lf (Cu (vf b)) mh (qt (SG a) b (ja 2)) lf (Hf _)) (zd (Ff (db Uq (jb (Zi ym))))) lg)
  (lc (VQ rfl rfl (λ_ _ c=>(Ii (bc mL.nd (ce (zco a) b (db (ja 2) (db (ja 1) (jb (oe (gC a) (ja 0))))))))) (.cons rfl (by decide) (ϒ a.Tg) (G7 (NV a.si (NV a.Pi ě))) (λ_=>(zd (Ff (db Uq (jb (Zi ym)))))) .nil))
  (zd (fmt (ý a) b (ja 0) (db (ja 3) (jb (ja 1))))))))))
def qV:Lk ⟨K,ca,tx K⟩ P w mg base 14 "wish" ["self","wish"] [(9,Oc)]:=(Qk a.Bc a.pp (ð a) Jo)
abbrev Ŏ:Stmt:=yh (Cc 89) 6
def oW:Ev->M Fl:=
 (Zb (Wf (eT (Ja Nx (da 1) (Dd (Mc [9] "accounts") (da 0)))) Jz dg) (pd (Ja vm (Dd (Mc [9] "accounts") (da 0)) (da 1))))
def qc:List D->M D:=Lb λa=>Qc (ae 2 oW a)
def zbe:Ba ["self","pot"] ["self","pot"] (jd Ŏ):=Qe
def za7:Bi ⟨K,ca,tx K⟩ P w mg base 1 (ca 26) ["self","pot"] qc:=
 Eu a.qc zbe λb=>
  (lc (eg (Lf (UX (vf b)) wU (ja 1) (oe (kt a) (ja 0)) rfl) LA lg)
  (zd (Nu (vf b) (oe (kt a) (ja 0)) (ja 1) (λ_ _=>rfl))))
def AJ:Lk ⟨K,ca,tx K⟩ P w mg base 1 "account" ["self","pot"] [(9,qc)]:=(Qk a.Bc a.yl (za7 a) Jo)
abbrev Â:Stmt:=Cc 96
abbrev γ:Ev->M Fl:=(He 3 (jh [(9,qc)] 2 "account" (da 0) (qa (da 1) Pa)))
abbrev x2_:Ev->M Fl:=(He 4 (Ja Sh (eC (Z 1)) (Ja Qi (Ja Zl (da 2) (eC (Z 64))) (ah nD (qa (eC (Z 1)) (qa (Ja ib (Ja ib (Dd (Mc [4,5,6,7] "mine") (da 3)) (eC (Z 1))) (Dd (Mc [4,5,6,7] "side") (da 3))) Pa))))))
abbrev Z0:Ev->M Fl:=(He 4 (ah wy (qa (da 4) (qa (Ja Hr (eC (Z 10)) (eC (Z 12))) Pa))))
abbrev M7:Ev->M Fl:=(He 5 (Ja Qi (Ja Zl (da 2) (eC (Z 8))) (eC (Z 5))))
abbrev x5_:Ev->M Fl:=(He 6 (Ja ib (Zh (qa (eC (ύ "give")) (qa (eC (ύ "pay")) (qa (eC (ύ "pass")) (qa (eC (ύ "settle")) (qa (eC (ύ "drop")) (qa (eC (ύ "pass")) (qa (eC (ύ "pay")) (qa (eC (ύ "settle")) Pa))))))))) (Ja Qi (da 2) (eC (Z 8)))))
abbrev χ:Ev->M Fl:=(Wf (eT (Ja Uf (da 6) (eC (ύ "give")))) (pd (wf (qa (da 6) (qa (da 1) (qa (da 4) Pa))))) dg)
abbrev á:Ev->M Fl:=(Wf (eT (Ja (Bu false) (da 6) (wf (qa (eC (ύ "pay")) (qa (eC (ύ "pass")) Pa))))) (pd (wf (qa (da 6) (qa (da 1) (qa (da 4) (qa (da 5) (qa (Ja Qi (Ja Zl (da 2) (eC (Z 40))) (eC (Z 40))) Pa))))))) dg)
abbrev R3:Ev->M Fl:=(pd (wf (qa (da 6) (qa (da 1) (qa (da 5) Pa)))))
def Ky:Ev->M Fl:=
 (Zb γ (Zb x2_ (Zb Z0 (Zb M7 (Zb x5_ (Zb χ (Zb á R3)))))))
def Sd:List D->M D:=Lb λa=>Qc (ae 7 Ky a)
def XB:Ba ["_law_keeper","_law_pot","_law_draw","_law_account","_law_amount","_law_word","_law_kind"] ["_law_keeper","_law_pot","_law_draw"] (jd Â):=Qe
def ũ:Se ⟨K,ca,tx K⟩ P w mg base 2 "_law_wish" ["_law_keeper","_law_pot","_law_draw"] Sd:=
 kh a.Sd XB λb=>
  (lc (bc XB.nd (fmt (AJ a) b (ja 0) (jb (ja 1))))
  (lc (bc XB.nd (zk Qa (Of gk fk (Of Eo Oo (ja 2) Qa) (Kj (gW rfl) IW rfl a.nz boot_max (db Qa (jb (ic (ic (oe (Iq a) (ja 3)) Qa) (oe (Qt a) (ja 3)))))))))
  (lc (bc XB.nd (Kj (tE rfl) YF rfl a.xp vu (db (ja 4) (jb (Of dA JA Qa Qa)))))
  (lc (bc XB.nd (Of gk fk (Of Eo Oo (ja 2) Qa) Qa))
  (lc (bc XB.nd (ic (Zi (db lf (db lf (db lf (db lf (db lf (db lf (db lf (jb lf))))))))) (Of gk fk (ja 2) Qa)))
  (lc (eg (Lf (jj (vf b)) mh (ja 6) lf (Hf _)) (zd (Ff (db (ja 6) (db (ja 1) (jb (ja 4)))))) lg)
  (lc (eg (Lf kO (zI rfl false) (ja 6) (Ff (db lf (jb lf))) rfl) (zd (Ff (db (ja 6) (db (ja 1) (db (ja 4) (db (ja 5) (jb (Of gk fk (Of Eo Oo (ja 2) Qa) Qa)))))))) lg)
  (zd (Ff (db (ja 6) (db (ja 1) (jb (ja 5)))))))))))))
abbrev š:Stmt:=Cc 93
abbrev KW:Ev->M Fl:=(SC (da 0) (Jq 3 (ej (We 3) (ej (We 4) (ej (We 5) mr)))))
abbrev PP:Ev->M Fl:=(He 5 (ah Jr (qa (da 5) Pa)))
abbrev cY:Ev->M Fl:=(Wf (gu (eT (Ja Uf (Ja Qi (da 2) (eC (Z 5))) (eC (Z 0)))) (eT (Ja Aj (da 5) (Zh Pa)))) (Hu (tz fA (da 5) (qa (Ja Qi (Ja Zl (da 2) (eC (Z 5))) (ah yj (qa (da 5) Pa))) Pa))) dg)
abbrev yX:Ev->M Fl:=(He 6 (Ja gz (da 1) (ah uw (qa (qj (dm (Fo (Bj (da 5))) [] (We 0) Cp (Ja ib (da 0) (eC (Z 1))))) Pa))))
abbrev nQ:Ev->M Fl:=(He 7 (Ja Qi (Ja Zl (da 2) (eC (Z 11))) (eC (Z 5))))
abbrev OT:Ev->M Fl:=(Wf (gu (eT (Ja bE (Ja Qi (da 2) (eC (Z 5))) (eC (Z 2)))) (gu (eT (Ja bE (da 6) (eC (Z 0)))) (gu (eT (Ja oLt (ah yj (qa (da 5) Pa)) (eC (Z 3)))) (eT (Ja (Bu true) (da 7) (qj (dm (Fo (Bj (da 5))) [] (We 0) Cp (Ja ib (da 0) (eC (Z 2)))))))))) (Zb (He 8 (Ja Sh (eC (Z 1)) (Ja Qi (Ja Zl (da 2) (eC (Z 13))) (ah wy (qa (da 6) (qa (Ja Hr (eC (Z 10)) (eC (Z 12))) Pa)))))) (Zb (Hu (tz Vm (da 5) (qa (wf (qa (Ja Qi (Ja Zl (da 2) (eC (Z 17))) (eC (Z 2))) (qa (da 8) (qa (da 7) (qa (Ja Qi (Ja Zl (da 2) (eC (Z 19))) (eC (Z 40))) Pa))))) Pa))) (He 6 (Ja gz (da 6) (da 8))))) dg)
abbrev lW:Ev->M Fl:=(He 9 (ah wy (qa (Ja ib (da 4) (eC (Z 0))) (qa (da 6) Pa))))
abbrev aX:Ev->M Fl:=(He 10 (Ja ib (Zh (qa (da 9) (qa (ah wy (qa (da 6) (qa (Ja Sh (da 9) (eC (Z 1))) Pa))) (qa (Ja Qi (Ja Zl (da 2) (eC (Z 23))) (Ja Sh (da 6) (eC (Z 1)))) (qa (ah nD (qa (eC (Z 0)) (qa (Ja gz (da 6) (Ja ib (da 4) (eC (Z 1)))) Pa))) Pa))))) (Ja Qi (Ja Zl (da 2) (eC (Z 29))) (eC (Z 4)))))
abbrev sU:Ev->M Fl:=(pd (wf (qa (wf (qa (da 10) (qa (Ja gz (da 6) (da 10)) Pa))) (qa (ah PB (qa (da 5) Pa)) Pa))))
def XO:Ev->M Fl:=
 (Zb KW (Zb PP (Zb cY (Zb yX (Zb nQ (Zb OT (Zb lW (Zb aX sU))))))))
def sg:List D->M D:=Lb λa=>Qc (ae 11 XO a)
def Yw:Ba ["_law_one","_law_whole","_law_draw","_law_number","_law_split","_law_ties","_law_rest","_law_word","_law_amount","_law_low","_law_share"] ["_law_one","_law_whole","_law_draw"] (jd š):=Qe
def kU:Se ⟨K,ca,tx K⟩ P w mg base 1 "_law_deal" ["_law_one","_law_whole","_law_draw"] sg:=
 kh a.sg Yw λb=>
  (lc (hH (ja 0) (cy rfl (Wp (xi Yw.nd) (Wp (xi Yw.nd) (Wp (xi Yw.nd) Wx)))))
  (lc (bc Yw.nd (Hx BE (kG rfl) rfl a.vp Ar (jb (ja 5))))
  (lc (eg (L2.PW.pt (Vu (Lf (jj (vf b)) mh (Of gk fk (ja 2) Qa) Qa (Hf _)) (Ex (Lf (Cu (vf b)) mh (ja 5) (Zi ym) (Hf _))))) (Ii (Hv (xC se PySem.F.slot_list_pop PySem.F.type_list_pop L8 t0 (ja 5) (jb (Of gk fk (Of Eo Oo (ja 2) Qa) (Kj bq (iq rfl) rfl a.Bg Nb (jb (ja 5)))))))) lg)
  (lc (bc Yw.nd (Of UA jB (ja 1) (Kj (JE rfl) (wE rfl) rfl a.Ps uu (jb (Cq (Gu (x:="_law_tie") (z0:="0") (M':=[]) (ix:=[]) rfl ⟨rfl,rfl,rfl,rfl,rfl,rfl⟩ (Tt (lq rfl (ja 5))) (λ_ _ _ _ _=>xi (by show List.Nodup (("_law_tie"::"0"::[]):List Str);decide +kernel)) (λ_ _ _ _ _=>Nv) (λ_ _ _ _ _=>(ic (ja 0) Qa))))))))
  (lc (bc Yw.nd (Of gk fk (Of Eo Oo (ja 2) Qa) Qa))
  (lc (eg (L2.PW.pt (Vu (Lf bI IH (Of gk fk (ja 2) Qa) Qa (Hf _)) (Vu (Lf bI IH (ja 6) Qa (Hf _)) (Vu (Lf Zv Mv (Kj bq (iq rfl) rfl a.Bg Nb (jb (ja 5))) Qa (Hf _)) (Ex (Lf BP (zI rfl true) (ja 7) (Cq (Gu (x:="_law_tie") (z0:="0") (M':=[]) (ix:=[]) rfl ⟨rfl,rfl,rfl,rfl,rfl,rfl⟩ (Tt (lq rfl (ja 5))) (λ_ _ _ _ _=>xi (by show List.Nodup (("_law_tie"::"0"::[]):List Str);decide +kernel)) (λ_ _ _ _ _=>Nv) (λ_ _ _ _ _=>(ic (ja 0) Qa)))) rfl)))))) (lc (bc Yw.nd (zk Qa (Of gk fk (Of Eo Oo (ja 2) Qa) (Kj (tE rfl) YF rfl a.xp vu (db (ja 6) (jb (Of dA JA Qa Qa)))))))
  (lc (Hv (xC se Jg Kg WE SF (ja 5) (jb (Ff (db (Of gk fk (Of Eo Oo (ja 2) Qa) Qa) (db (ja 8) (db (ja 7) (jb (Of gk fk (Of Eo Oo (ja 2) Qa) Qa)))))))))
  (Ii (bc Yw.nd (Of UA jB (ja 6) (ja 8)))))) lg)
  (lc (bc Yw.nd (Kj (tE rfl) YF rfl a.xp vu (db (ic (ja 4) Qa) (jb (ja 6)))))
  (lc (bc Yw.nd (ic (Zi (db (ja 9) (db (Kj (tE rfl) YF rfl a.xp vu (db (ja 6) (jb (zk (ja 9) Qa)))) (db (Of gk fk (Of Eo Oo (ja 2) Qa) (zk (ja 6) Qa)) (jb (Kj (gW rfl) IW rfl a.nz boot_max (db Qa (jb (Of UA jB (ja 6) (ic (ja 4) Qa)))))))))) (Of gk fk (Of Eo Oo (ja 2) Qa) Qa)))
  (zd (Ff (db (Ff (db (ja 10) (jb (Of UA jB (ja 6) (ja 10))))) (jb (Hx zev (xR rfl) rfl a.ti gi (jb (ja 5)))))))))))))))
abbrev Ħ:Stmt:=yh (Cc 89) 16
abbrev OJ:Ev->M Fl:=(qI (He 2 (Ld 3 Ve [] (qa (Ja vm (Dd (Mc [9] "accounts") (da 0)) (Ja ib (da 1) (eC (Z 1)))) (qa (Ja ib (da 1) (eC (Z 2))) (qa (Ja ib (da 1) (eC (Z 3))) Pa))))) (⟨(Hz [(1,true),(2,true)]),none,(pd (Zh Pa))⟩::[]))
abbrev JJ:Ev->M Fl:=(Wf (Cm (eT (jh [(9,Ic)] 3 "is_good" (da 0) (qa (Ja ib (da 2) (eC (Z 0))) (qa (eC (Z 0)) Pa))))) (pd (Zh Pa)) dg)
abbrev XH:Ev->M Fl:=(Xu (Ja ib (da 2) (eC (Z 0))) (Dd (Mc [9] "accounts") (da 0)) (Ja ib (da 1) (eC (Z 1))))
abbrev VG:Ev->M Fl:=(pd (Zh (qa (Ja ib (da 2) (eC (Z 1))) Pa)))
def QH:Ev->M Fl:=
 (Zb OJ (Zb JJ (Zb XH VG)))
def rc:List D->M D:=Lb (ae 3 QH)
def AT:Ba ["self","letter","step"] ["self","letter"] (jd Ħ):=Qe
def iZ:Bi ⟨K,ca,tx K⟩ P w mg base 11 (ca 36) ["self","letter"] rc:=
 Sv a.rc AT λb=>
  (lc (VQ rfl rfl (λ_ _ c=>(Ii (bc AT.nd (ce (SU a) b (db (Nu (vf b) (oe (kt a) (ja 0)) (ic (ja 1) Qa) (λ_ _=>rfl)) (db (ic (ja 1) Qa) (jb (ic (ja 1) Qa)))))))) (.pz rfl (by decide) (ϒ a.Rs) rfl (by decide) (ϒ a.Tg) (ŭ (gT a.tm a.si (gT a.Pn a.Pi ybu))) (λ_=>(zd (Zi ym))) .nil))
  (lc (eg (bo (vk (fmt (aN a) b (ja 0) (db (ic (ja 2) Qa) (jb Qa))))) (zd (Zi ym)) lg)
  (lc (Ew (vf b) (ic (ja 2) Qa) (oe (kt a) (ja 0)) (ic (ja 1) Qa))
  (zd (Zi (jb (ic (ja 2) Qa)))))))
def G8:Lk ⟨K,ca,tx K⟩ P w mg base 11 "take_ask" ["self","letter"] [(9,rc)]:=(Qk a.Bc a.Gk (iZ a) Jo)
abbrev ß:Stmt:=yh (Cc 89) 17
def NG:Ev->M Fl:=
 (Zb (Wf (Zq (eT (Ja Aj (Ja ib (da 1) (eC (Z 0))) (eC (ύ "offer")))) (eT (Ja Nx (Ja ib (da 1) (eC (Z 1))) (Dd (Mc [9] "asked") (da 0))))) (pd (eC (ϐ false))) dg) (pd (Ja Uf (bF (Ja ib (Ja ib (da 1) (eC (Z 2))) (eC (Z 3))) (some (eC (Z 1))) none) (bF (Ja vm (Dd (Mc [9] "asked") (da 0)) (Ja ib (da 1) (eC (Z 1)))) (some (eC (Z 1))) none))))
def Jb:List D->M D:=Lb λa=>Qc (ae 2 NG a)
def zab:Ba ["self","letter"] ["self","letter"] (jd ß):=Qe
def D7(b:Fd K mg ca):Bi ⟨K,ca,tx K⟩ P w mg base 1 (ca 37) ["self","letter"] Jb:=
 Eu b.Jb zab λa=>
  (lc (eg (L2.PW.pt (Ks (Lf (Cu (vf a)) mh (ic (ja 1) Qa) lf (Hf _)) (Iu (Lf (UX (vf a)) wU (ic (ja 1) Qa) (oe (JC b) (ja 0)) rfl)))) (zd Uq) lg)
  (zd (No a (jN rfl (ic (ic (ja 1) Qa) Qa) (LM Qa) tO) (jN rfl (Nu (vf a) (oe (JC b) (ja 0)) (ic (ja 1) Qa) (λ_ _=>rfl)) (LM Qa) tO))))
def zbk:Lk ⟨K,ca,tx K⟩ P w mg base 1 "is_as_asked" ["self","letter"] [(9,Jb)]:=(Qk a.Bc a.vj (D7 a) Jo)
abbrev P8:Stmt:=yh (Cc 89) 18
abbrev w6:Ev->M Fl:=(He 4 (jh [(9,qc)] 2 "account" (da 0) (qa (da 1) Pa)))
abbrev IB:Ev->M Fl:=(He 2 (Ja ib (da 1) (eC (Z 1))))
abbrev fC:Ev->M Fl:=(He 3 (jh [(5,Uc),(6,Hc),(7,Gc)] 2 "taken" (Ja vm (Dd (Mc [9] "accounts") (da 0)) (da 2)) (qa (da 1) Pa)))
abbrev SE:Ev->M Fl:=(He 4 (jh [(9,Jb)] 2 "is_as_asked" (da 0) (qa (da 1) Pa)))
abbrev rE:Ev->M Fl:=(He 5 (Bz (eT (da 4)) (Ja ib (Ja vm (Dd (Mc [9] "asked") (da 0)) (da 2)) (eC (Z 0))) (eC (Z 0))))
abbrev mE:Ev->M Fl:=(Wf (Cm (eT (jh [(9,Ic)] 3 "is_good" (da 0) (qa (Ja ib (da 3) (eC (Z 0))) (qa (da 5) Pa))))) (pd (Zh Pa)) dg)
abbrev QF:Ev->M Fl:=(Xu (Ja ib (da 3) (eC (Z 0))) (Dd (Mc [9] "accounts") (da 0)) (da 2))
abbrev ZE:Ev->M Fl:=(Wf (eT (da 4)) (Zb (Hu (kJ XA (Dd (Mc [9] "asked") (da 0)) (qa (da 2) Pa))) (EH [9] "gave" (da 5) (da 0))) dg)
abbrev MF:Ev->M Fl:=(pd (Bz (eT (Ja Uu (Ja ib (da 3) (eC (Z 1))) (eC ϛ))) (Zh Pa) (Zh (qa (Ja ib (da 3) (eC (Z 1))) Pa))))
def HB:Ev->M Fl:=
 (Zb IB (Zb fC (oz [(7,5),(5,7),(5,6)] [5,6,7] (Ja ib (da 3) (eC (Z 0))) (Ja vm (Dd (Mc [9] "accounts") (da 0)) (da 2)) (pd (Zh Pa)) (Zb SE (Zb rE (Zb mE (Zb QF (Zb ZE MF))))))))
def Ib:List D->M D:=Lb (ae 6 HB)
def sE:Ba ["self","letter","pot","step","as_asked","allowance"] ["self","letter"] (jd P8):=Qe
def zaj:Bi ⟨K,ca,tx K⟩ P w mg base 12 (ca 38) ["self","letter"] Ib:=
 Sv a.Ib sE λb=>
  (lc (bc sE.nd (ic (ja 1) Qa))
  (lc (bc sE.nd (fmt (CU a) b (Nu (vf b) (oe (kt a) (ja 0)) (ja 2) (λ_ _=>rfl)) (jb (ja 1))))
  (O4 (vf b) (lM a.Ij a.zl a.An a.oo (lM a.zl a.Ij a.Bn a.Ln (lM a.zl a.gn a.ao a.wo GZ))) (KN a.zl (KN a.gn (KN a.Ij f8))) rfl (ic (ja 3) Qa) (Nu (vf b) (oe (kt a) (ja 0)) (ja 2) (λ_ _=>rfl)) (zd (Zi ym))
  (lc (bc sE.nd (fmt (zbk a) b (ja 0) (jb (ja 1))))
  (lc (bc sE.nd (cE (vk (ja 4)) (ic (Nu (vf b) (oe (JC a) (ja 0)) (ja 2) (λ_ _=>rfl)) Qa) Qa))
  (lc (eg (bo (vk (fmt (aN a) b (ja 0) (db (ic (ja 3) Qa) (jb (ja 5)))))) (zd (Zi ym)) lg)
  (lc (Ew (vf b) (ic (ja 3) Qa) (oe (kt a) (ja 0)) (ja 2))
  (lc (eg (vk (ja 4)) (lc (Hv (pP Vg Sr PySem.F.type_dict_pop K5 yZ (oe (JC a) (ja 0)) (jb (ja 2))))
  (Ii (XW rfl (xJ a) (ja 0) (ja 5)))) lg)
  (zd (cE (Lf gF vF (ic (ja 3) Qa) Yt (Hf _)) (Zi ym) (Zi (jb (ic (ja 3) Qa)))))))))))))
def X6:Lk ⟨K,ca,tx K⟩ P w mg base 12 "take_step" ["self","letter"] [(9,Ib)]:=(Qk a.Bc a.ck (zaj a) Jo)
abbrev Ĳ:Stmt:=yh (Cc 89) 15
abbrev h1_:Ev->M Fl:=w6
def cG:Ev->M Fl:=
 (Zb (Wf (Cm (eT (Ld 1 Kc [] (qa (da 1) Pa)))) Jz dg) (Zb (Wf (eT (Ja Uf (Ja ib (da 1) (eC (Z 0))) (eC (ύ "word")))) (Zb (Hu (jh [(9,Yc)] 2 "learn" (da 0) (qa (Zh (qa (Ja ib (da 1) (eC (Z 2))) Pa)) Pa))) (pd (Zh Pa))) dg) (Zb (Wf (Cm (eT (jh [(9,wc)] 2 "holds" (da 0) (qa (Ja ib (da 1) (eC (Z 1))) Pa)))) (pd (Zh Pa)) dg) (Zb (Wf (eT (Ja Uf (Ja ib (da 1) (eC (Z 0))) (eC (ύ "ask")))) (pd (jh [(9,rc)] 2 "take_ask" (da 0) (qa (da 1) Pa))) dg) (pd (jh [(9,Ib)] 2 "take_step" (da 0) (qa (da 1) Pa)))))))
def Cb:List D->M D:=Lb (ae 2 cG)
def ŷ:Ba ["self","letter"] ["self","letter"] (jd Ĳ):=Qe
def X3(b:Fd K mg ca):Bi ⟨K,ca,tx K⟩ P w mg base 13 (ca 35) ["self","letter"] Cb:=
 Sv b.Cb ŷ λa=>
  (lc (eg (bo (vk (ce (wI b) a (jb (ja 1))))) LA lg)
  (lc (eg (Lf (jj (vf a)) mh (ic (ja 1) Qa) lf (Hf _)) (lc (Hv (fmt (eR b) a (ja 0) (jb (Zi (jb (ic (ja 1) Qa))))))
  (zd (Zi ym))) lg)
  (lc (eg (bo (vk (fmt (GU b) a (ja 0) (jb (ic (ja 1) Qa))))) (zd (Zi ym)) lg)
  (lc (eg (Lf (jj (vf a)) mh (ic (ja 1) Qa) lf (Hf _)) (zd (fmt (G8 b) a (ja 0) (jb (ja 1)))) lg)
  (zd (fmt (X6 b) a (ja 0) (jb (ja 1))))))))
def CD:Lk ⟨K,ca,tx K⟩ P w mg base 13 "take" ["self","letter"] [(9,Cb)]:=(Qk a.Bc a.Dp (X3 a) Jo)
abbrev Þ:Stmt:=Cc 95
abbrev ZH:Ev->M Fl:=h1_
abbrev YH:Ev->M Fl:=(SC (Ld 3 sg [] (qa (Ja ib (Dd (Mc [4,5,6,7] "may") (da 4)) (Dd Oy (eC (Z 1)))) (qa (da 2) (qa (da 3) Pa)))) (Jq 2 (ej (We 5) (ej (We 6) mr))))
abbrev vI:Ev->M Fl:=(He 7 (wf (qa (Ja Sh (Ja ib (Dd (Mc [4,5,6,7] "mine") (da 4)) (eC (Z 0))) (eC (Z 1))) (qa (da 5) (qa (da 6) Pa)))))
abbrev pJ:Ev->M Fl:=(He 8 (Ja ib (Zh (qa (wf (qa (eC (ύ "offer")) (qa (da 1) (qa (wf (qa (eC (ύ "agree")) (qa (da 1) (qa (eC (Z 1)) (qa (da 7) Pa))))) Pa)))) (qa (wf (qa (eC (ύ "ask")) (qa (da 1) (qa (da 5) (qa (da 6) Pa))))) Pa))) (Dd (Mc [4,5,6,7] "side") (da 4))))
abbrev jH:Ev->M Fl:=(Wf (gu (eT (Ja Uf (Ja Qi (Ja Zl (da 3) (eC (Z 64))) (eC (Z 2))) (eC (Z 1)))) (eT (Ja Uf (Dd (Mc [4,5,6,7] "side") (da 4)) (eC (Z 0))))) (He 8 (wf (qa (eC (ύ "struck")) (qa (da 1) (qa (wf (qa (eC (ύ "strike")) (qa (da 1) (qa (eC (Z 1)) (qa (Ja ib (Ja ib (Dd (Mc [4,5,6,7] "may") (da 4)) (eC (Z 0))) (eC (Z 0))) Pa))))) Pa))))) dg)
abbrev iH:Ev->M Fl:=(He 9 (jh [(9,Sb)] 1 "worth" (da 0) Pa))
abbrev OI:Ev->M Fl:=(He 10 (wf (qa (jh [(5,nc),(6,Gb),(7,Xb)] 1 "word" (da 4) Pa) (qa (Dd (Mc [4,5,6,7] "mine") (da 4)) (qa (Dd (Mc [4,5,6,7] "may") (da 4)) (qa (Dd (Mc [4,5,6,7] "strikes") (da 4)) Pa))))))
abbrev mI:Ev->M Fl:=(Wf (Zq (eT (Ja Aj (jh [(9,Cb)] 2 "take" (da 0) (qa (da 8) Pa)) (Zh Pa))) (eT (Ja Aj (jh [(9,Sb)] 1 "worth" (da 0) Pa) (da 9)))) (pd (eC (ϐ false))) dg)
abbrev KJ:Ev->M Fl:=(pd (Ja Uf (da 10) (wf (qa (jh [(5,nc),(6,Gb),(7,Xb)] 1 "word" (da 4) Pa) (qa (Dd (Mc [4,5,6,7] "mine") (da 4)) (qa (Dd (Mc [4,5,6,7] "may") (da 4)) (qa (Dd (Mc [4,5,6,7] "strikes") (da 4)) Pa)))))))
def VJ:Ev->M Fl:=
 (Zb ZH (Zb YH (Zb vI (Zb pJ (Zb jH (Zb iH (Zb OI (Zb mI (Zb (He 4 (jh [(9,qc)] 2 "account" (da 0) (qa (da 1) Pa))) KJ)))))))))
def Ee:List D->M D:=Lb (ae 11 VJ)
def Yx:Ba ["_law_keeper","_law_pot","_law_whole","_law_draw","_law_account","_law_split","_law_ties","_law_new","_law_letter_here","_law_sum_before","_law_told"] ["_law_keeper","_law_pot","_law_whole","_law_draw"] (jd Þ):=Qe
def K3:Se ⟨K,ca,tx K⟩ P w mg base 14 "_law_turned" ["_law_keeper","_law_pot","_law_whole","_law_draw"] Ee:=
 Se.Lb (RC a.Ee Yx λ_ _ _ _ _ _ _ b=>
  (lc (bc Yx.nd (fmt (AJ a) b (ja 0) (jb (ja 1))))
  (lc (hH (ce (kU a) b (db (ic (oe (Zw a) (ja 4)) (lG RE zF Qa)) (db (ja 2) (jb (ja 3))))) (cy rfl (Wp (xi Yx.nd) (Wp (xi Yx.nd) Wx))))
  (lc (bc Yx.nd (Ff (db (zk (ic (oe (Iq a) (ja 4)) Qa) Qa) (db (ja 5) (jb (ja 6))))))
  (lc (bc Yx.nd (ic (Zi (db (Ff (db lf (db (ja 1) (jb (Ff (db lf (db (ja 1) (db Qa (jb (ja 7)))))))))) (jb (Ff (db lf (db (ja 1) (db (ja 5) (jb (ja 6))))))))) (oe (Qt a) (ja 4))))
  (lc (eg (L2.PW.pt (Vu (Lf (jj (vf b)) mh (Of gk fk (Of Eo Oo (ja 3) Qa) Qa) Qa (Hf _)) (Ex (Lf (jj (vf b)) mh (oe (Qt a) (ja 4)) Qa (Hf _))))) (Ii (bc Yx.nd (Ff (db lf (db (ja 1) (jb (Ff (db lf (db (ja 1) (db Qa (jb (ic (ic (oe (Zw a) (ja 4)) Qa) Qa)))))))))))) lg)
  (lc (bc Yx.nd (qt (KA a) b (ja 0)))
  (lc (bc Yx.nd (Ff (db (qt (SG a) b (ja 4)) (db (oe (Iq a) (ja 4)) (db (oe (Zw a) (ja 4)) (jb (oe (yA a) (ja 4))))))))
  (lc (eg (L2.PW.pt (Ks (Lf (Cu (vf b)) mh (fmt (CD a) b (ja 0) (jb (ja 8))) (Zi ym) (Hf _)) (Iu (Lf (Cu (vf b)) mh (qt (KA a) b (ja 0)) (ja 9) (Hf _))))) (zd Uq) lg)
  (lc (bc Yx.nd (fmt (AJ a) b (ja 0) (jb (ja 1))))
  (zd (No b (ja 10) (Ff (db (qt (SG a) b (ja 4)) (db (oe (Iq a) (ja 4)) (db (oe (Zw a) (ja 4)) (jb (oe (yA a) (ja 4)))))))))))))))))))
abbrev Ê:Stmt:=Cc 94
abbrev wC:Ev->M Fl:=(He 5 (Dd (Mc [4,5,6,7] "side") (da 4)))
abbrev AC:Ev->M Fl:=(SC (Ld 3 sg [] (qa (Ja ib (Dd (Mc [4,5,6,7] "may") (da 4)) (Dd Oy (eC (Z 1)))) (qa (da 2) (qa (Ja Zl (da 3) (eC (Z 8))) Pa)))) (Jq 2 (ej (We 6) (ej (We 7) mr))))
abbrev YC:Ev->M Fl:=(He 8 (wf (qa (Ja Sh (Ja ib (Dd (Mc [4,5,6,7] "mine") (da 4)) (eC (Z 0))) (eC (Z 1))) (qa (da 6) (qa (da 7) Pa)))))
abbrev cC:Ev->M Fl:=(Wf (eT (Ja oLt (Ja Qi (da 3) (eC (Z 8))) (eC (Z 3)))) (pd (Ja ib (Zh (qa (wf (qa (eC (ύ "offer")) (qa (da 1) (qa (wf (qa (eC (ύ "agree")) (qa (da 1) (qa (eC (Z 0)) (qa (da 8) Pa))))) Pa)))) (qa (wf (qa (eC (ύ "ask")) (qa (da 1) (qa (da 6) (qa (da 7) Pa))))) Pa))) (ah gJ (qa (Ja Uf (da 5) (eC (Z 0))) Pa)))) dg)
abbrev sC:Ev->M Fl:=(Wf (gu (eT (Ja oLt (Ja Qi (da 3) (eC (Z 8))) (eC (Z 6)))) (eT (Ja Uf (da 5) (eC (Z 0))))) (pd (wf (qa (eC (ύ "accept")) (qa (da 1) (qa (wf (qa (eC (ύ "agree")) (qa (da 1) (qa (eC (Z 1)) (qa (Ja ib (Dd (Mc [4,5,6,7] "may") (da 4)) (Dd Oy (eC (Z 1)))) Pa))))) (qa (wf (qa (eC (ύ "strike")) (qa (da 1) (qa (eC (Z 1)) (qa (Ja ib (Dd (Mc [4,5,6,7] "mine") (da 4)) (eC (Z 0))) Pa))))) Pa)))))) dg)
abbrev TB:Ev->M Fl:=(Wf (eT (Ja oLt (Ja Qi (da 3) (eC (Z 8))) (eC (Z 6)))) (pd (wf (qa (eC (ύ "struck")) (qa (da 1) (qa (wf (qa (eC (ύ "strike")) (qa (da 1) (qa (eC (Z 0)) (qa (Ja ib (Ja ib (Dd (Mc [4,5,6,7] "may") (da 4)) (eC (Z 0))) (eC (Z 0))) Pa))))) Pa))))) dg)
abbrev TC:Ev->M Fl:=(pd (wf (qa (eC (ύ "word")) (qa (da 1) (qa (Ja Qi (Ja Zl (da 3) (eC (Z 8))) (eC (Z 5))) Pa)))))
def QC:Ev->M Fl:=
 (Zb (He 4 (jh [(9,qc)] 2 "account" (da 0) (qa (da 1) Pa))) (Zb wC (Zb AC (Zb YC (Zb cC (Zb sC (Zb TB TC)))))))
def Wd:List D->M D:=Lb λa=>Qc (ae 9 QC a)
def DB:Ba ["_law_keeper","_law_pot","_law_whole","_law_draw","_law_account","_law_side","_law_split","_law_ties","_law_new"] ["_law_keeper","_law_pot","_law_whole","_law_draw"] (jd Ê):=Qe
def S3:Se ⟨K,ca,tx K⟩ P w mg base 2 "_law_letter" ["_law_keeper","_law_pot","_law_whole","_law_draw"] Wd:=
 kh a.Wd DB λb=>
  (lc (bc DB.nd (fmt (AJ a) b (ja 0) (jb (ja 1))))
  (lc (bc DB.nd (oe (Qt a) (ja 4)))
  (lc (hH (ce (kU a) b (db (ic (oe (Zw a) (ja 4)) (lG RE zF Qa)) (db (ja 2) (jb (Of Eo Oo (ja 3) Qa))))) (cy rfl (Wp (xi DB.nd) (Wp (xi DB.nd) Wx))))
  (lc (bc DB.nd (Ff (db (zk (ic (oe (Iq a) (ja 4)) Qa) Qa) (db (ja 6) (jb (ja 7))))))
  (lc (eg (Lf Zv Mv (Of gk fk (ja 3) Qa) Qa (Hf _)) (zd (ic (Zi (db (Ff (db lf (db (ja 1) (jb (Ff (db lf (db (ja 1) (db Qa (jb (ja 8)))))))))) (jb (Ff (db lf (db (ja 1) (db (ja 6) (jb (ja 7))))))))) (Hx zl6 ñ rfl a.ez boot_int (jb (No b (ja 5) Qa))))) lg)
  (lc (eg (L2.PW.pt (Vu (Lf Zv Mv (Of gk fk (ja 3) Qa) Qa (Hf _)) (Ex (Lf (jj (vf b)) mh (ja 5) Qa (Hf _))))) (zd (Ff (db lf (db (ja 1) (db (Ff (db lf (db (ja 1) (db Qa (jb (ic (oe (Zw a) (ja 4)) (lG RE zF Qa))))))) (jb (Ff (db lf (db (ja 1) (db Qa (jb (ic (oe (Iq a) (ja 4)) Qa)))))))))))) lg)
  (lc (eg (Lf Zv Mv (Of gk fk (ja 3) Qa) Qa (Hf _)) (zd (Ff (db lf (db (ja 1) (jb (Ff (db lf (db (ja 1) (db Qa (jb (ic (ic (oe (Zw a) (ja 4)) Qa) Qa))))))))))) lg)
  (zd (Ff (db lf (db (ja 1) (jb (Of gk fk (Of Eo Oo (ja 3) Qa) Qa)))))))))))))
abbrev Ô:Stmt:=Cc 97
abbrev jU:Ev->M Fl:=(He 3 (jh [(9,Sb)] 1 "worth" (da 0) Pa))
abbrev eS:Ev->M Fl:=(He 4 (wf (qa (eC (Z 1)) (qa (wf (qa (Ja Qi (da 2) (eC (Z 1000))) (qa (Ja Qi (Ja Zl (da 2) (eC (Z 1000))) (eC (Z 1000))) Pa))) (qa (wf Pa) Pa)))))
abbrev PQ:Ev->M Fl:=(He 5 (jh [(9,Cb)] 2 "take" (da 0) (qa (wf (qa (eC (ύ "offer")) (qa (da 1) (qa (wf (qa (eC (ύ "agree")) (qa (da 1) (qa (eC (Z 0)) (qa (da 4) Pa))))) Pa)))) Pa)))
abbrev lR:Ev->M Fl:=(He 5 (Ja Sh (Ja Sh (da 5) (jh [(9,Cb)] 2 "take" (da 0) (qa (wf (qa (eC (ύ "ask")) (qa (da 1) (qa (wf (qa (eC (Z 5)) (qa (eC (Z 5)) Pa))) (qa (wf Pa) Pa))))) Pa))) (jh [(9,Cb)] 2 "take" (da 0) (qa (wf (qa (eC (ύ "word")) (qa (da 1) (qa (eC (Z 50)) Pa)))) Pa))))
abbrev AX:Ev->M Fl:=(Wf (eT (Ja (Bu true) (eC (Z 50)) (jh [(9,ud)] 1 "words" (da 0) Pa))) (pd (eC (ϐ false))) dg)
abbrev SQ:Ev->M Fl:=(pd (gj (Ja Uf (da 5) (Zh Pa)) (gj (Ja Uf (jh [(9,Sb)] 1 "worth" (da 0) Pa) (da 3)) (Ja Uf (jh [(9,Oc)] 2 "wish" (da 0) (qa (wf (qa (eC (ύ "give")) (qa (da 1) (qa (eC (Z 1)) Pa)))) Pa)) (wf (qa (eC (ϐ false)) (qa (Zh Pa) Pa)))))))
def BQ:Ev->M Fl:=
 (Zb jU (Zb eS (Zb PQ (Zb lR (Zb AX SQ)))))
def Ef:List D->M D:=Lb (ae 6 BQ)
def pE:Ba ["_law_keeper","_law_pot","_law_draw","_law_sum_before","_law_one","_law_found"] ["_law_keeper","_law_pot","_law_draw"] (jd Ô):=Qe
def YY(b:Fd K mg ca):Se ⟨K,ca,tx K⟩ P w mg base 15 "_law_outside" ["_law_keeper","_law_pot","_law_draw"] Ef:=
 Se.Lb (RC b.Ef pE λ_ _ _ _ _ _ _ a=>
  (lc (bc pE.nd (qt (KA b) a (ja 0)))
  (lc (bc pE.nd (Ff (db Qa (db (Ff (db (Of gk fk (ja 2) Qa) (jb (Of gk fk (Of Eo Oo (ja 2) Qa) Qa)))) (jb (Ff ym))))))
  (lc (bc pE.nd (fmt (CD b) a (ja 0) (jb (Ff (db lf (db (ja 1) (jb (Ff (db lf (db (ja 1) (db Qa (jb (ja 4)))))))))))))
  (lc (bc pE.nd (zk (zk (ja 5) (fmt (CD b) a (ja 0) (jb (Ff (db lf (db (ja 1) (db (Ff (db Qa (jb Qa))) (jb (Ff ym))))))))) (fmt (CD b) a (ja 0) (jb (Ff (db lf (db (ja 1) (jb Qa))))))))
  (lc (eg (Lf BP (zI rfl true) Qa (qt (KR b) a (ja 0)) rfl) (zd Uq) lg)
  (zd (wj (No a (ja 5) (Zi ym)) (wj (No a (qt (KA b) a (ja 0)) (ja 3)) (Zm (No a (fmt (qV b) a (ja 0) (jb (Ff (db lf (db (ja 1) (jb Qa)))))) (Ff (db Uq (jb (Zi ym)))))))))))))))
abbrev G3:Stmt:=Cc 98
abbrev ŝ:Ev->M Fl:=(SC (jh [(9,Oc)] 2 "wish" (da 5) (qa (Ld 3 Sd [] (qa (da 5) (qa (da 9) (qa (Ja Zl (da 8) (eC (Z 9))) Pa)))) Pa)) (Jq 2 (ej (We 10) (ej (We 11) mr))))
abbrev U9:Ev->M Fl:=(Wf (Zq (Cm (eT (Dd (Kq .bool) (da 10)))) (gu (Cm (eT (da 10))) (eT (Ja Aj (da 11) (Zh Pa))))) (pd (eC (ϐ false))) dg)
abbrev y1_:Ev->M Fl:=(He 12 (Ja Sh (Ja ib (Ja ib (da 3) (da 9)) (eC (Z 2))) (Ja ib (Ja ib (da 3) (da 9)) (eC (Z 3)))))
abbrev nZ:Ev->M Fl:=(Wf (gu (eT (Ja oLt (Ja Qi (Ja Zl (da 8) (eC (Z 9))) (eC (Z 64))) (eC (Z 8)))) (Cm (eT (Ld 4 Ee [] (qa (da 5) (qa (da 9) (qa (da 12) (qa (Ja Zl (da 8) (eC (Z 72))) Pa)))))))) (pd (eC (ϐ false))) dg)
abbrev K2:Ev->M Fl:=(Hu (jh [(9,Cb)] 2 "take" (da 5) (qa (Ld 4 Wd [] (qa (da 5) (qa (da 9) (qa (da 12) (qa (Ja Zl (da 8) (eC (Z 9))) Pa))))) Pa)))
abbrev CL:Ev->M Fl:=(He 8 (Ld 2 gf [] (qa (Ja ib (da 0) (da 7)) (qa (da 7) Pa))))
abbrev CO:Ev->M Fl:=(He 9 (Ja ib (da 4) (Ja Qi (da 8) (ah yj (qa (da 4) Pa)))))
abbrev wH:Ev->M Fl:=(Wf (eT (Ja Uf (Ja Qi (Ja Zl (da 8) (eC (Z 3))) (eC (Z 3))) (eC (Z 0)))) (Zb ŝ U9) (Zb y1_ (Zb nZ K2)))
abbrev xO:Ev->M Fl:=(He 13 (Ja Sh (jh [(9,Sb)] 1 "worth" (da 5) Pa) (jh [(9,Md)] 1 "given" (da 5) Pa)))
abbrev pO:Ev->M Fl:=(Wf (eT (Ja oLt (da 13) (da 6))) (pd (eC (ϐ false))) dg)
abbrev JO:Ev->M Fl:=(He 6 (da 13))
abbrev hG:Ev->M Fl:=(Zb CL (Zb CO (Zb wH (Zb xO (Zb pO JO)))))
abbrev u1:Ev->M Fl:=(He 1 (qj (dm (Fo (Vx (eC (Z 4)))) [0] (We 0) Cp (Ja Qi (Ld 2 dc [] (qa (da 2) (qa (da 0) Pa))) (Ja Sh (Ja Hr (eC (Z 10)) (eC (Z 12))) (eC (Z 1)))))))
abbrev u2:Ev->M Fl:=(He 2 (Ja Sh (eC (Z 1)) (Ja Qi (Ld 2 dc [] (qa (da 0) (qa (eC (Z 4)) Pa))) (eC (Z 9)))))
abbrev u3:Ev->M Fl:=(He 3 (VA (qa (wf (qa (eC (Z 0)) (qa (eC (Z 1)) (qa (Ja ib (da 1) (eC (Z 0))) (qa (Ja ib (da 1) (eC (Z 1))) (qa (eC (Z 30)) Pa)))))) (qa (wf (qa (eC (Z 1)) (qa (eC (Z 2)) (qa (Ja ib (da 1) (eC (Z 2))) (qa (Ja ib (da 1) (eC (Z 3))) (qa (eC (Z 30)) Pa)))))) (qa (wf (qa (eC (Z 3)) (qa (eC (Z 1)) (qa (Ja ib (da 1) (eC (Z 3))) (qa (Ja ib (da 1) (eC (Z 0))) (qa (eC (Z 30)) Pa)))))) Pa)))))
abbrev u4:Ev->M Fl:=(He 4 (Zh (qa (eC (Z 0)) (qa (eC (Z 1)) (qa (eC (Z 2)) Pa)))))
abbrev u5:Ev->M Fl:=(Wf (eT (Ja Uf (Ja Qi (Ja Zl (Ld 2 dc [] (qa (da 0) (qa (eC (Z 4)) Pa))) (eC (Z 9))) (eC (Z 2))) (eC (Z 1)))) (Zb (KL (wf (qa (eC (Z 3)) (qa (eC (Z 2)) (qa (Ja ib (da 1) (eC (Z 3))) (qa (Ja ib (da 1) (eC (Z 0))) (qa (eC (Z 30)) Pa)))))) (da 3) (eC (Z 2))) (He 4 (Zh (qa (eC (Z 0)) (qa (eC (Z 1)) Pa))))) dg)
abbrev u6:Ev->M Fl:=(He 5 (bv 9 5 bu (lC [] (qa (eC (Z 1)) (qa (da 2) (qa (da 3) (qa (qj (dm (Fo (Vx (eC (Z 5)))) [0] (We 0) (eT (Ja Uf (Ja zJ (Ja JF (Ja Zl (Ld 2 dc [] (qa (da 2) (qa (eC (Z 4)) Pa))) (eC (Z 18))) (da 0)) (eC (Z 1))) (eC (Z 1)))) (da 0))) Pa)))))))
abbrev u7:Ev->M Fl:=(He 6 (Ja Sh (jh [(9,Sb)] 1 "worth" (da 5) Pa) (jh [(9,Md)] 1 "given" (da 5) Pa)))
abbrev u8:Ev->M Fl:=(Xv (iI (eC (Z 5)) (ah wy (qa (ah yj (qa (da 0) Pa)) (qa (eC (Z 19)) Pa)))) (We 7) hG)
abbrev u9:Ev->M Fl:=(pd (sI (Ja Uf (ah yj (qa (da 4) Pa)) (eC (Z 3))) (Ld 3 Ef [] (qa (da 5) (qa (eC (Z 2)) (qa (Ja Qi (Ld 2 dc [] (qa (da 0) (qa (eC (Z 5)) Pa))) (Ja Hr (eC (Z 10)) (eC (Z 6)))) Pa))))))
def OP:Ev->M Fl:=
 (Zb u1 (Zb u2 (Zb u3 (Zb u4 (Zb u5 (Zb u6 (Zb u7 (Zb u8 u9))))))))
def Lq:List D->M D:=ae 14 OP
def ft:Ba ["_law_script","_law_coins","_law_every","_law_pots","_law_own","_law_keeper","_law_before","_law_k","_law_draw","_law_pot","_law_done","_law_letters","_law_whole","_law_after"] ["_law_script"] (jd G3):=Qe
def G4:eN ⟨K,ca,tx K⟩ P w mg 16 "law" ["_law_script"] Lq:=
 N2 a.Lq ft λ_ _ _ _ _ _ _ _ b=>
  (lc (ZQ (sV (i:=1) ft.nd rfl (ϒ rfl) (x:="_law_k") (z0:="0") (M':=["_law_script"]) (ix:=[0]) rfl ⟨rfl,rfl,rfl,rfl,rfl,rfl⟩ (Tt (aM rfl a.Go Qa)) (λ_ _ _ _ _=>xi (by show List.Nodup (("_law_k"::"0"::["_law_script"]):List Str);decide +kernel)) (λ_ _ _ _ _=>Nv) (λ_ _ _ _ _=>(Of gk fk (ce (yD a) b (db (ja 2) (jb (ja 0)))) (zk (Of dA JA Qa Qa) Qa)))))
  (lc (bc ft.nd (zk Qa (Of gk fk (ce (yD a) b (db (ja 0) (jb Qa))) Qa)))
  (lc (bc ft.nd (BF (db (Ff (db Qa (db Qa (db (ic (ja 1) Qa) (db (ic (ja 1) Qa) (jb Qa)))))) (db (Ff (db Qa (db Qa (db (ic (ja 1) Qa) (db (ic (ja 1) Qa) (jb Qa)))))) (jb (Ff (db Qa (db Qa (db (ic (ja 1) Qa) (db (ic (ja 1) Qa) (jb Qa)))))))))))
  (lc (bc ft.nd (Zi (db Qa (db Qa (jb Qa)))))
  (lc (eg (Lf (jj (vf b)) mh (Of gk fk (Of Eo Oo (ce (yD a) b (db (ja 0) (jb Qa))) Qa) Qa) Qa (Hf _)) (lc (XZ (Ff (db Qa (db Qa (db (ic (ja 1) Qa) (db (ic (ja 1) Qa) (jb Qa)))))) (ja 3) Qa)
  (Ii (bc ft.nd (Zi (db Qa (jb Qa)))))) lg)
  (lc (bc ft.nd (Ĺ (c:=9) (ps:=["self","hand","every","pots","words"]) a.Xw a.Wu (zas a) (ϒ rfl) Ϥ (λ_ _=>Ub.nil) rfl (b.mono (by decide)) rfl (db Qa (db (ja 2) (db (ja 3) (jb (Cq (Gu (x:="_law_word") (z0:="0") (M':=["_law_script"]) (ix:=[0]) rfl ⟨rfl,rfl,rfl,rfl,rfl,rfl⟩ (Tt (aM rfl a.Go Qa)) (λ_ _ _ _ _=>xi (by show List.Nodup (("_law_word"::"0"::["_law_script"]):List Str);decide +kernel)) (λ_ _ _ _ _=>XG (Lf (jj (vf b)) mh (Of M5 V5 (Of Ŝ T9 (Of Eo Oo (ce (yD a) b (db (ja 2) (jb Qa))) Qa) (ja 0)) Qa) Qa (Hf _))) (λ_ _ _ _ _=>(ja 0))))))))))
  (lc (bc ft.nd (zk (qt (KA a) b (ja 5)) (qt (bR a) b (ja 5))))
  (lc (Zx du rfl (δ rfl a.Go Qa (Kj (tE rfl) YF rfl a.xp vu (db (Kj bq (iq rfl) rfl a.Bg Nb (jb (ja 0))) (jb Qa)))) (xi ft.nd) (lc (bc ft.nd (ce (ŉ a) b (db (ic (ja 0) (ja 7)) (jb (ja 7)))))
  (lc (bc ft.nd (ic (ja 4) (Of gk fk (ja 8) (Kj bq (iq rfl) rfl a.Bg Nb (jb (ja 4))))))
  (lc (eg (Lf (jj (vf b)) mh (Of gk fk (Of Eo Oo (ja 8) Qa) Qa) Qa (Hf _)) (lc (hH (fmt (qV a) b (ja 5) (jb (ce (ũ a) b (db (ja 5) (db (ja 9) (jb (Of Eo Oo (ja 8) Qa))))))) (cy rfl (Wp (xi ft.nd) (Wp (xi ft.nd) Wx))))
  (Ii (eg (L2.PW.pt (Ks (bo (vk (sw .bool (ja 10) rfl a.Xd rfl a.Ow boot_bool))) (Iu (L2.PW.pt (Vu (bo (vk (ja 10))) (Ex (Lf (Cu (vf b)) mh (ja 11) (Zi ym) (Hf _)))))))) (zd Uq) lg))) (lc (bc ft.nd (zk (ic (ic (ja 3) (ja 9)) Qa) (ic (ic (ja 3) (ja 9)) Qa)))
  (lc (eg (L2.PW.pt (Vu (Lf Zv Mv (Of gk fk (Of Eo Oo (ja 8) Qa) Qa) Qa (Hf _)) (Ex (bo (vk (ce (K3 a) b (db (ja 5) (db (ja 9) (db (ja 12) (jb (Of Eo Oo (ja 8) Qa))))))))))) (zd Uq) lg)
  (Ii (Hv (fmt (CD a) b (ja 5) (jb (ce (S3 a) b (db (ja 5) (db (ja 9) (db (ja 12) (jb (Of Eo Oo (ja 8) Qa)))))))))))))
  (lc (bc ft.nd (zk (qt (KA a) b (ja 5)) (qt (bR a) b (ja 5))))
  (lc (eg (Lf Zv Mv (ja 13) (ja 6) (Hf _)) (zd Uq) lg)
  (Ii (bc ft.nd (ja 13)))))))))
  (zd (EV (No b (Kj bq (iq rfl) rfl a.Bg Nb (jb (ja 4))) Qa) (Zm (ce (YY a) b (db (ja 5) (db Qa (jb (Of gk fk (ce (yD a) b (db (ja 0) (jb Qa))) (Of dA JA Qa Qa)))))))))))))))))
end
end K44
namespace K44
open L2 L4
set_option maxHeartbeats 4000000
section
variable{α:Type}{xs:List α}{σ:lb}{fi:Ev->M Bool}{fe:Ev->M D}{tg:D->Ev->Option Ev}{nx:NX}{rest:Ev}
def UV(ώ:Option D->Prop)(v a:α->D)(b:α->Option D)(p:α->Bool)(y:α->D)(w:∀ i j,i<=xs.length->nx i (σ++j)=some ((xs[i]?).map v))(z:∀ x o c,ώ c->tg (v x) (o::c::rest)=some (some (a x)::b x::rest)/\ώ (b x))
  (h:∀ x∈xs,∀ j,fi (some (a x)::b x::rest) (σ++j)=Y (p x) (σ++j)/\(p x=true->fe (some (a x)::b x::rest) (σ++j)=Y (y x) (σ++j))) (B:xs.length<=1000) :
  ∀ (k i:Nat) (o c:Option D) (f:List D),ώ c->xs.length<k+i->i<=xs.length->f.length<=i->
   zm nx σ.length tg fi fe k i (o::c::rest) (σ++[ϔ f])=Y () (σ++[ϔ (f++((xs.drop i).filter p).map y)]):=by
 intro k;induction k with
 |zero=>intro i o c f _ t n;omega
 |succ k r=>
  intro i o c f u t n C;unfold zm;rw[w i _ n];cases e:xs[i]? with
  |none=>
   have l:=Mb.mp e;rw[At l];simp
  |some d=>
   obtain⟨l,m⟩:=aa.mp e;have q:xs.drop i=d::xs.drop (i+1):=by rw[<-m];exact Ig l
   obtain⟨s1,s2⟩:=h d (by rw[<-m];exact Ro l) [ϔ f];obtain⟨A,s⟩:=z d o c u;simp only[Po,A];rw[ot,qJ s1,Qg];by_cases g:p d=true
   ·rw[g,ma rfl,ot,qJ (s2 g),Qg,ot,cH (by omega),Qg,r (i+1) _ _ (f++[y d]) s (by omega) (by omega) (by simp;omega),q,Ud,ma g];simp
   ·rw[ra g,r (i+1) _ _ f s (by omega) (by omega) (by omega),q,Ud,ra g]
end
def ZI{xs:List D}(h:fh xs=true):mi a (Y (U a.length) (a++[ϔ xs]))=Y (O xs) a:=by
 have:=DV (σ:=a) (j:=[]) (j':=[]) h;simpa using this
def DF{e:Type}{xs:List e}{src:Ev->M uo}{s:uo}{ix:List Nat}{fi:Ev->M Bool}{fe:Ev->M D}{ρ:Ev}{σ:lb}(v y:e->D)(p:e->Bool)(m:src ρ σ=Y s σ)(l:∀ i j,s.nx i (σ++j)=some ((xs[i]?).map v))(k:xs.length<=1000)
  (a:∀ x∈xs,∀ j,fi (some (v x)::none::(ix.map λi=>(ρ[i]?).getD none)) (σ++j)=Y (p x) (σ++j)/\(p x=true->fe (some (v x)::none::(ix.map λi=>(ρ[i]?).getD none)) (σ++j)=Y (y x) (σ++j))) (f:∀ x∈xs,p x=true->cl (y x)=true) :
  qj (dm (Fo src) ix (We 0) fi fe) ρ σ=Y (O ((xs.filter p).map y)) σ:=by
 show mi σ (be (be (src ρ) XT) (PN (We 0) fi fe (Mx ix ρ)) σ)=_;rw[ot,ot,m,Qg];show mi σ (be (zm s.nx σ.length (We 0) fi fe 1001 0 (none::none::(ix.map λi=>(ρ[i]?).getD none))) _ (σ++[ϔ []]))=_;rw[ot,UV (λo=>o=none) v v (λ_=>none) p y (λi j _=>l i j) (λx o q h=>by subst h;exact⟨rfl,rfl⟩) a k 1001 0 none none [] rfl (by omega) (by omega) (by simp),Qg];refine Eq.trans (Dc (mi σ) ?_) (ZI (Mr λd g=>by obtain⟨x,n,rfl⟩:=va.mp g;obtain⟨b,c⟩:=rf.mp n;exact f x b c));simp
def Jx{c:Type}{xs:List c}{src:Ev->M uo}{s:uo}{ix:List Nat}{fe:Ev->M D}{ρ:Ev}{σ:lb}(v y:c->D)(h:src ρ σ=Y s σ)(g:∀ i j,s.nx i (σ++j)=some ((xs[i]?).map v))(f:xs.length<=1000)
  (a:∀ x∈xs,∀ j,fe (some (v x)::none::(ix.map λi=>(ρ[i]?).getD none)) (σ++j)=Y (y x) (σ++j)) (e:∀ x∈xs,cl (y x)=true) :
  qj (dm (Fo src) ix (We 0) Cp fe) ρ σ=Y (O (xs.map y)) σ:=by
 have:=DF (p:=λ_=>true) v y (fi:=Cp) h g f (λd b j=>⟨rfl,λ_=>a d b j⟩) (λd b _=>e d b);rw[rl.mpr λ_ _=>rfl]at this;exact this
def Ŕ{g:Type}{xs:List g}{c:Ev->M NX}{nx:NX}{ix:List Nat}{fe:Ev->M D}{ρ:Ev}{σ:lb}(a b y:g->D)(n:c ρ σ=Y nx σ)(m:∀ i j,i<=xs.length->nx i (σ++j)=some ((xs[i]?).map λx=>Ϗ [a x,b x]))(l:xs.length<=1000)
  (e:∀ x∈xs,∀ j,fe (some (a x)::some (b x)::(ix.map λi=>(ρ[i]?).getD none)) (σ++j)=Y (y x) (σ++j)) (h:∀ x∈xs,cl (y x)=true) :
  qj (dm c ix (Jq 2 (ej (We 0) (ej (We 1) mr))) Cp fe) ρ σ=Y (O (xs.map y)) σ:=by
 show mi σ (be (c ρ) (PN _ Cp fe (Mx ix ρ)) σ)=_;rw[ot,n,Qg];show mi σ (be (zm nx σ.length _ Cp fe 1001 0 (none::none::(ix.map λi=>(ρ[i]?).getD none))) _ (σ++[ϔ []]))=_;rw[ot,UV (λ_=>True) (λx=>Ϗ [a x,b x]) a (λx=>some (b x)) (λ_=>true) y m (λx o p _=>⟨rfl,trivial⟩) (λx f j=>⟨rfl,λ_=>e x f j⟩) l 1001 0 none none [] trivial (by omega) (by omega) (by simp),Qg];refine Eq.trans (Dc (mi σ) ?_) (ZI (Mr λd k=>by obtain⟨x,f,rfl⟩:=va.mp k;exact h x f));have fe:List.filter (λ_=>true) xs=xs:=rl.mpr λ_ _=>rfl;simp[fe]
noncomputable def Sc:D->Bool
 | Z _=>true
 | ϛ=>true
 | ϐ _=>true
 | ύ _=>true
 |_=>false
noncomputable def bd(d:D)(a b:Int):Bool:=match d with
 | Z i=>decide (a<=i) && decide (i<=b)
 |_=>false
theorem Ō(x:Str)(a:lb):Kq .int (ύ x) a=Y (ϐ false) a:=nr rfl
def LZ(h:Sc d=true)(a:lb):rh [d] a=Y (ϐ (match d with | Z _=>true|_=>false)) a:=by
 unfold rh uW;cases d with
 |int i=>simp
 |Rc=>simp
 |bl b=>simp
 |str x=>simp[Ō]
 |_=>cases h
def dB(h:Sc d=true)(a b:Int)(σ:lb):Vc [d,Z a,Z b] σ=Y (ϐ (bd d a b)) σ:=by
 have w:=LZ h;unfold Vc YT;cases d with
 |int i=>cases c:decide (a<=i)<;>simp[bd,c,w]
 |Rc=>simp[bd,w]
 |bl b=>simp[bd,w]
 |str x=>simp[bd,w]
 |_=>cases h
theorem qX(a b c d e:D)(r:List D)(σ:lb):ib (Ϗ (a::b::c::d::e::r)) (Z 4) σ=Y e σ:=GD (Gv rfl)
@[simp] theorem yji(f:Ev->M D)(lo b:PF)(a:Ev)(c:lb):bF f lo b a c=(f a c).bind (SK (OA lo a) (OA b a)):=nr rfl
@[simp] theorem yf5(lo a:M (Option Int))(x:D)(b:lb):SK lo a x b=(lo b).bind (ZN x a):=nr rfl
@[simp] theorem yf6(x:D)(a:M (Option Int))(lo:Option Int)(b:lb):ZN x a lo b=(a b).bind (iB x lo):=nr rfl
@[simp] theorem zzq(b:Ev)(a:lb):OA none b a=Y none a:=nr rfl
@[simp] theorem zzr(f:Ev->M D)(a:Ev)(b:lb):OA (some f) a b=(f a b).bind wL:=nr rfl
@[simp] theorem yea(i:Int)(a:lb):wL (Z i) a=Y (some i) a:=nr rfl
@[simp] theorem FU(xs:List D)(lo a:Option Int)(b:lb):iB (Ϗ xs) lo a b=Y (Ϗ (zw xs lo a)) b:=nr rfl
@[simp] theorem ys0(a:D)(r:List D)(σ:lb):ib (O (a::r)) (Z 0) σ=Y a σ:=ev (Gv rfl)
@[simp] theorem ys1(a b:D)(r:List D)(σ:lb):ib (O (a::b::r)) (Z 1) σ=Y b σ:=ev (Gv rfl)
@[simp] theorem ys2(a b c:D)(r:List D)(σ:lb):ib (O (a::b::c::r)) (Z 2) σ=Y c σ:=ev (Gv rfl)
@[simp] theorem ys3(a b c d:D)(r:List D)(σ:lb):ib (O (a::b::c::d::r)) (Z 3) σ=Y d σ:=ev (Gv rfl)
theorem uJ(h:nx i c=some (some d))(f:b d e=some ρ1):Ft nx b a (k+1) i e c=(a ρ1 c).bind (Gx (Ft nx b a k (i+1))):=by
 rw[Ft];simp only[h,f];rfl
def fW(h:nx i b=some none):Ft nx d a (k+1) i c b=Y (Ϛ c) b:=by
 rw[Ft];simp only[h]
@[simp] theorem ygq(f:Ev->M D)(a:Ev)(b:lb):fM f a b=(f a b).bind VC:=nr rfl
@[simp] theorem EA(b:Ev->M NX)(d:D->Ev->Option Ev)(a:Ev->M Fl)(c:Ev)(e:lb):Lx b d a c e=cn c (WM d a c) (b c e):=qo ..
theorem DZ{xs:List D}(b:Tj a x=some xs)(h:fh xs=true):mi a (Jr [x] a)=Y (O xs) a:=by
 have e:Jr [x] a=Y (U a.length) (a++[ϔ xs]):=by unfold Jr;simp only[b];rfl
 rw[e];have:=DV (σ:=a) (j:=[]) (j':=[]) h;simpa using this
section
variable{σ:lb}{x:D}{xs:List D}
def zra(h:xh σ x=some xs):VC x σ=Y (Hy x) σ:=by unfold VC;rw[h]
def oN(h:xh σ x=some xs)(a:xs[i]?=some d):Hy x i σ=some (some (Ϗ [Z i,d])):=by unfold Hy;rw[h];simp only[a]
def F2(h:xh σ x=some xs):Hy x xs.length σ=some none:=by unfold Hy;rw[h];simp
end
@[simp] theorem b_0:(("accept" : Str) == "offer")=false:=by decide
@[simp] theorem b_1:(("agree" : Str) == "strike")=false:=by decide
@[simp] theorem b_2:(("agree" : Str) == "word")=false:=by decide
@[simp] theorem b_3:(("ask" : Str) == "accept")=false:=by decide
@[simp] theorem b_4:(("ask" : Str) == "offer")=false:=by decide
@[simp] theorem b_5:(("ask" : Str) == "struck")=false:=by decide
@[simp] theorem b_6:(("ask" : Str) == "word")=false:=by decide
@[simp] theorem b_8:(("drop" : Str) == "give")=false:=by decide
@[simp] theorem b_9:(("drop" : Str) == "pass")=false:=by decide
@[simp] theorem yxy:(("drop" : Str) == "pay")=false:=by decide
@[simp] theorem yxz:(("drop" : Str) == "settle")=false:=by decide
@[simp] theorem yx0:(("give" : Str) == "settle")=false:=by decide
@[simp] theorem yx1:(("pass" : Str) == "give")=false:=by decide
@[simp] theorem yx2:(("pass" : Str) == "pay")=false:=by decide
@[simp] theorem yx3:(("pass" : Str) == "settle")=false:=by decide
@[simp] theorem yx4:(("pay" : Str) == "give")=false:=by decide
@[simp] theorem yx5:(("pay" : Str) == "settle")=false:=by decide
@[simp] theorem yx6:(("settle" : Str) == "drop")=false:=by decide
@[simp] theorem yx7:(("settle" : Str) == "give")=false:=by decide
@[simp] theorem yx8:(("settle" : Str) == "pass")=false:=by decide
@[simp] theorem yx9:(("settle" : Str) == "pay")=false:=by decide
@[simp] theorem yya:(("strike" : Str) == "word")=false:=by decide
@[simp] theorem yyb:(("struck" : Str) == "accept")=false:=by decide
@[simp] theorem yyc:(("struck" : Str) == "offer")=false:=by decide
theorem CI{xs:List D}(h:fh xs=true)(a:lb):mi a (Jr [O xs] a)=Y (O xs) a:=DZ (zpm xs) h
def au(xs:List a)(v:a->D)(i:Nat):(xs.map v)[i]?=(xs[i]?).map v:=Ta ..
def bt(h:a<=i/\i<=b)(σ:lb):Vc [Z i,Z a,Z b] σ=Y (ϐ true) σ:=by
 rw[dB rfl];simp[bd,h]
def SL(h:s=0\/s=1)(c:lb):Pg [Z s] c=Y (ϐ true) c:=by
 have b:=bt (i:=s) (a:=0) (b:=1) (by omega) c;unfold Pg eY;simp[b]
def MS(h:0<=s/\s<=59)(a:lb):Rg [Z s] a=Y (ϐ true) a:=by
 have b:=bt h a;unfold Rg EW;simp[b]
def zK(h:0<=s/\s<=1000000)(a:lb):rg [Z s] a=Y (ϐ true) a:=by
 have b:=bt h a;unfold rg uS;simp[b]
def MQ(h:0<=p/\p<=2)(a:lb):ai [Z p] a=Y (ϐ true) a:=by
 have b:=bt h a;unfold ai rR;simp[b]
def UN(s:Int)(a:lb):af [Z s] a=Y (Z (1 - s)) a:=by
 unfold af kW;simp
structure Ti where
 (p a w y:Int)
noncomputable def Ti.D(t:Ti):L4.D:=Ϗ [Z t.p,Z t.a,Z t.w,Z t.y]
structure Ti.Ok(t:Ti):Prop where
 p:t.p=0\/t.p=1
 a:1<=t.a/\t.a<=1000000000000
 w:0<=t.w/\t.w<=59
 y:0<=t.y/\t.y<=1000000
noncomputable def pf(b:List Ti):Int:=(b.map Ti.a).sum
def Cn(n a b:Int)(ts:List Ti):D:=Ϗ [Z n,Ϗ [Z a,Z b],Ϗ (ts.map Ti.D)]
def OV{t:Ti}(i:t.p=0\/t.p=1)(j:0<=t.w/\t.w<=59)(k:0<=t.y/\t.y<=1000000)(c:lb):dh [t.D] c=Y (ϐ (bd (Z t.a) 1 1000000000000)) c:=by
 have e:=SL i c;have f:bf [Z t.a] c=Y (ϐ (bd (Z t.a) 1 1000000000000)) c:=by
  have b:=dB (d:=Z t.a) rfl 1 1000000000000 c;unfold bf cN;simp[b]
 have g:=MS j c;have h:Mi [Z t.y] c=Y (ϐ true) c:=by
  have b:=bt k c;unfold Mi yT;simp[b]
 unfold Ti.D dh cV;generalize bd (Z t.a) 1 1000000000000=B at *;cases B<;>simp[e,f,g,h]
def Î{t:Ti}(h:t.Ok)(b:lb):dh [t.D] b=Y (ϐ true) b:=by
 rw[OV h.p h.w h.y];simp[bd,h.a]
def hZ{a:List Ti}(o:∀ t∈a,t.Ok)(s:a.length<=6)(σ:lb):vg [Ϗ (a.map Ti.D)] σ=Y (ϐ (decide (a.map Ti.w).Nodup)) σ:=by
 have g:∀ σ,Bj (da 0) [some (Ϗ (a.map Ti.D))] σ=Y (.seq (a.map Ti.D)) σ:=λσ=>by simp
 have l1:=Jx (ix:=[]) (fe:=Ld 1 dh [] (qa (da 0) Pa)) Ti.D (λ_=>ϐ true) (g σ) (λi _=>Dc some (au a _ i)) (by omega) (λt h j=>by
  have:=Î (o t h) (σ++j);simp[this]) (λ_ _=>by simp)
 have l2:=Jx (ix:=[]) (fe:=Ja ib (da 0) (eC (Z 2))) Ti.D (λt=>Z t.w) (g σ) (λi _=>Dc some (au a _ i)) (by omega) (λt h j=>by simp[Ti.D]) (λd r=>by simp);have k:a.map (λt=>Z t.w)=(a.map Ti.w).map Z:=by rw[Va];rfl
 rw[k]at l2;have b:=Ű (σ:=σ) (f:=λ_:Ti=>true) (l:=a);rw[show a.all (λ_=>true)=true from Pb.mpr λ_ _=>rfl]at b;have s1:=w4 (σ:=σ) (l:=a.map Ti.w) (by simp;omega);have p:yj [Ϗ (a.map Ti.D)] σ=Y (Z (a.length:Int)) σ:=by
  have:=wX (σ:=σ) (a.map Ti.D);simpa using this
 have n:decide ((a.length:Int) > 6)=false:=by simp;omega
 have m:(((Wv (a.map Ti.w)).length:Int) == (a.length:Int))=decide (a.map Ti.w).Nodup:=by
  have c:=ā (a.map Ti.w);have e:(a.map Ti.w).length=a.length:=by simp
  by_cases h:(a.map Ti.w).Nodup
  ·rw[nb h,c.mpr h,e];simp
  ·rw[Oa h];have:(Wv (a.map Ti.w)).length≠a.length:=λz=>h (c.mp (by rw[z,e]));simp;omega
 unfold vg uM;generalize ((Wv (a.map Ti.w)).length:Int)=M,(a.length:Int)=N,a.map (λ_=>ϐ true)=q,a.map Ti.D=TT,(a.map Ti.w).map Z=W at *;simp[l1,l2,b,s1,p,n,m,-vt]
def Ct(a b:Int):Bool:=bd (Z a) 0 2000000000000 && bd (Z b) 0 2000000000000
def CN(h:0<=n/\n<=1000000)(i:∀ t∈ts,t.Ok)(g:ts.length<=6)(σ:lb):Ed [Cn n a b ts] σ=Y (ϐ (Ct a b && decide (ts.map Ti.w).Nodup)) σ:=by
 have c:=zK h σ;have e:df [Ϗ [Z a,Z b]] σ=Y (ϐ (Ct a b)) σ:=by
  have w:=dB (d:=Z a) rfl 0 2000000000000 σ;have j:=dB (d:=Z b) rfl 0 2000000000000 σ;unfold df SN Ct;generalize bd (Z a) 0 2000000000000=B at *;cases B<;>simp[w,j]
 have f:=hZ i g σ;unfold Cn Ed kL;generalize Ct a b=B,Ϗ (ts.map Ti.D)=TT at *;cases B<;>simp[c,e,f]
def Ÿ{a:List Ti}(d:6<a.length)(b:lb):vg [Ϗ (a.map Ti.D)] b=Y (ϐ false) b:=by
 have c:decide ((a.length:Int) > 6)=true:=by simp;omega
 unfold vg uM;simp[c]
def ygw(h:0<=n/\n<=1000000)(g:6<ts.length)(σ:lb):Ed [Cn n a b ts] σ=Y (ϐ false) σ:=by
 have c:=zK h σ;have e:df [Ϗ [Z a,Z b]] σ=Y (ϐ (Ct a b)) σ:=by
  have w:=dB (d:=Z a) rfl 0 2000000000000 σ;have i:=dB (d:=Z b) rfl 0 2000000000000 σ;unfold df SN Ct;generalize bd (Z a) 0 2000000000000=B at *;cases B<;>simp[w,i]
 have f:=Ÿ g σ;unfold Cn Ed kL;generalize Ct a b=B,Ϗ (ts.map Ti.D)=TT at *;cases B<;>simp[c,e,f]
structure fq(n a b:Int)(ts:List Ti):Prop where
 n:0<=n/\n<=1000000
 a:0<=a/\a<=2000000000000
 b:0<=b/\b<=2000000000000
 t:∀ t∈ts,t.Ok
 l:ts.length<=6
 d:(ts.map Ti.w).Nodup
def sA(h:fq n a b ts)(σ:lb):Ed [Cn n a b ts] σ=Y (ϐ true) σ:=by
 rw[CN h.n h.t (by have:=h.l;omega)];simp[Ct,bd,h.a,h.b,h.d]
def vJ(t:Ti):cl t.D=true:=by unfold Ti.D;simp
def jL(b:List Ti):fh (b.map Ti.D)=true:=Mr λd a=>by obtain⟨t,_,rfl⟩:=va.mp a;exact vJ t
def nW(n a b:Int)(ts:List Ti):cl (Cn n a b ts)=true:=by
 unfold Cn;simp[jL]
def Ş(g:0<=u/\u<=1000000000000)(h:0<=v/\v<=1000000000000)(c:lb):fj [Z u,Z v] c=Y (Cn 0 u v []) c:=by
 have d:=sA (n:=0) (a:=u) (b:=v) (ts:=[]) ⟨by omega,by omega,by omega,by simp,by simp,by simp⟩ c;have e:Oh [Z 0,Ϗ [Z u,Z v],ϛ] c=Y (Cn 0 u v []) c:=by
  unfold Cn at d ⊢;simp only[kn]at d ⊢;unfold Oh zN;simp[d]
 have f:=nW 0 u v [];unfold fj mP;simp[e,f]
def D4(a b:Int)(σ:lb):uw [Ϗ [Z a,Z b]] σ=Y (Z (a+b)) σ:=by
 simp[uw,Rw]
def GJ(l:List Int)(a:lb):uw [O (l.map Z)] a=Y (Z l.sum) a:=by
 simp[uw]
def DM(n a b:Int)(k:ts.length<=6)(σ:lb):Nh [Cn n a b ts] σ=Y (Z (a+b+pf ts)) σ:=by
 have f:∀ σ,ib (Cn n a b ts) (Z 2) σ=Y (Ϗ (ts.map Ti.D)) σ:=λσ=>by simp[Cn]
 have e:∀ σ,ib (Cn n a b ts) (Z 1) σ=Y (Ϗ [Z a,Z b]) σ:=λσ=>by simp[Cn]
 have l:=Jx (s:=.seq (ts.map Ti.D)) (ix:=[]) (fe:=Ja ib (da 0) (eC (Z 1))) (ρ:=[some (Cn n a b ts)]) (σ:=σ) (src:=Bj (Ja ib (da 0) (eC (Z 2)))) Ti.D (λt=>Z t.a) (by simp[f]) (λi _=>Dc some (au ts _ i)) (by omega) (λt h j=>by simp[Ti.D]) (λd g=>by simp);have c:ts.map (λt=>Z t.a)=(ts.map Ti.a).map Z:=by rw[Va];rfl
 rw[c]at l;have o:=GJ (ts.map Ti.a) σ;unfold Nh YV;generalize (ts.map Ti.a).map Z=G,Cn n a b ts=S at *;simp[e,l,D4,o,pf,-vt]
def nS(h:fq n a b ts)(σ:lb):De [Cn n a b ts,Z (a+b+pf ts)] σ=Y (ϐ true) σ:=by
 have c:=sA h σ;have d:=DM n a b (by have:=h.l;omega) σ;unfold De vU;simp[c,d]
abbrev Kv:=List (Nd × D)
structure Sn where
 (n a b:Int)
 ts:List Ti
def Sn.D(s:Sn):L4.D:=Cn s.n s.a s.b s.ts
def Hn(s:Sn):cl s.D=true:=nW ..
def HG(b:List Sn):fh (b.map Sn.D)=true:=Mr λd a=>by obtain⟨s,_,rfl⟩:=va.mp a;exact Hn s
def s0(s:Sn)(a:lb):ib s.D (Z 0) a=Y (Z s.n) a:=by unfold Sn.D Cn;simp
def s1(s:Sn)(c:lb):ib s.D (Z 1) c=Y (Ϗ [Z s.a,Z s.b]) c:=by unfold Sn.D Cn;simp
def s2(s:Sn)(a:lb):ib s.D (Z 2) a=Y (Ϗ (s.ts.map Ti.D)) a:=by unfold Sn.D Cn;simp
noncomputable def ow(q:Int)(s:Sn):Int:=if q=0 then s.a else s.b
def iT(d:q=0\/q=1)(s:Sn)(c:lb):ib (Ϗ [Z s.a,Z s.b]) (Z q) c=Y (Z (ow q s)) c:=by
 rcases d with rfl|rfl<;>simp[ow]
structure Sn.Ok(W:Int)(s:Sn):Prop where
 st:fq s.n s.a s.b s.ts
 w:s.a+s.b+pf s.ts=W
abbrev Pv:=Int × List Sn
def qg(p:Pv):D:=Ϗ [Z p.1,O (p.2.map Sn.D),Ϫ [] []]
def Zk(e:Int)(K:List Int)(P:List D):D:=.obj 8 ["every","last_look","known","pots"] [Z e,Z 0,O (K.map Z),O P]
theorem rX(K:List Int):fh (K.map Z)=true:=Mr λd a=>by obtain⟨s,_,rfl⟩:=va.mp a;rfl
def jS(p:Pv):cl (qg p)=true:=by unfold qg;simp[cl,HG]
def QP(ps:List Pv):fh (ps.map qg)=true:=Mr λd a=>by obtain⟨p,_,rfl⟩:=va.mp a;exact jS p
def ò(e:Int)(K:List Int)(h:fh P=true):cl (Zk e K P)=true:=by unfold Zk;simp[h]
structure Lo where
 (w:Int)
 (k:Str)
 (v d:Int)
def Lo.D(l:Lo):L4.D:=Ϗ [ύ l.k,Z l.v,Z l.d]
structure Rd where
 (f:Int)
 (x:List Lo)
def Xk(x:List Lo):Kv:=x.map λl=>(Ϟ l.w,l.D)
def Rd.D(r:Rd):L4.D:=Ϗ [Z r.f,Ϫ ((Xk r.x).map (·.1)) ((Xk r.x).map (·.2))]
noncomputable def lk(e:Int)(K:List Int)(q:Int)(t:Ti):Str:=if t.p=q then (if t.y<=0 then "back" else "open")else if t.y<=0 then "gone" else if t.w∈K/\e<t.y then "sure" else "hangs"
noncomputable def AD(k:Str):Bool:=k == "sure" || k == "back"
def fa(e:Int)(K:List Int)(q:Int)(t:Ti):Int:=if AD (lk e K q t)then t.a else 0
def Qv(e:Int)(K:List Int)(q:Int)(a:List Ti):Int:=(a.map (fa e K q)).sum
def lo(e:Int)(K:List Int)(q:Int)(t:Ti):Lo:=⟨t.w,lk e K q t,t.a,t.y⟩
def rd(e:Int)(K:List Int)(q:Int)(s:Sn):Rd:=⟨ow q s+Qv e K q s.ts,s.ts.map (lo e K q)⟩
def cX(l:Lo):cl l.D=true:=by unfold Lo.D;simp
def DQ(x:List Lo):fh ((Xk x).map (·.2))=true:=Mr λd a=>by
 unfold Xk at a;rw[Va]at a;obtain⟨l,_,rfl⟩:=va.mp a;exact cX l
def yI(r:Rd):cl r.D=true:=by unfold Rd.D;simp[cl,DQ]
def OZ(b:List Rd):fh (b.map Rd.D)=true:=Mr λd a=>by obtain⟨s,_,rfl⟩:=va.mp a;exact yI s
@[simp] theorem Ņ(b:Ev)(a:lb):aw b a=Y (U a.length) (a++[ϑ []]):=nr rfl
@[simp] theorem zmn(o:D->List D->M D)(f:Ev->M D)(b:Ev->M (List D))(a:Ev)(c:lb):kJ o f b a c=(f a c).bind (cA o (b a)):=nr rfl
@[simp] theorem zv7(f c b:Ev->M D)(a:Ev)(d:lb):Xu f c b a d=cn a (ZK a c b) (f a d):=qo ..
@[simp] theorem zwo(c b:Ev->M D)(d:D)(a:Ev)(e:lb):ZK a c b d e=cn a (yN a b d) (c a e):=qo ..
@[simp] theorem zwp(b:Ev->M D)(d x:D)(a:Ev)(c:lb):yN a b d x c=cn a (eu a d x) (b a c):=qo ..
theorem Xx(h:σ[n]?=some (ϑ kvs))(a:kvs.length<1000):eu ρ d (U n) (Z w) σ=Y (Ϛ ρ) (σ.set n (ϑ (vr kvs (Ϟ w) d))):=by
 unfold eu;simp only[Xm,h];rw[ma (show kvs.length<Ni from a)]
theorem fJ{f:D->Option D}(a:∀ d,cl d=true->f d=some d):∀ {xs:List D},fh xs=true->Io f xs=some xs
 |[],_=>rfl
 |x::xs,h=>by
  rw[fh,Na]at h;rw[Io,a x h.1,fJ a h.2]
theorem CT(h:fh (kvs.map (·.2))=true):fz σ.length (σ++ϑ kvs::j) (m+1) (U σ.length)=some (Ϫ (kvs.map (·.1)) (kvs.map (·.2))):=by
 have e:(σ++ϑ kvs::j)[σ.length]?=some (ϑ kvs):=by simp
 unfold fz;dsimp only;rw[ra (qe _),e];dsimp only;rw[fJ (λd a=>Az a) h];rfl
def qZ(a:lb)(m:Int)(xs:List Int):Cy a (Z m) (xs.map Z)=some (xs.map λx=>decide (x=m)):=by
 induction xs with
 |nil=>rfl
 |cons x xs b=>
  rw[Ga,Ga,Cy,b];have:Jk a 7 (Z x) (Z m)=some (decide (x=m)):=by
   simp[Jk,kd,js,gm];by_cases h:x=m<;>simp[h]
  rw[this]
def inK(K:List Int)(w:Int)(σ:lb):vD false (Z w) (O (K.map Z)) σ=Y (ϐ (decide (w∈K))) σ:=by
 have:Tj σ (O (K.map Z))=some (K.map Z):=rfl;unfold vD;simp only[this,qZ];have e:((K.map λx=>decide (x=w)).any id)=decide (w∈K):=by
  rw[Bt];by_cases h:w∈K
  ·rw[nb h,Oe];exact⟨w,h,by simp⟩
  ·rw[Oa h,Si];intro x a;simp;intro z;exact h (z ▸ a)
 simp[e]
def ztu(e:Int)(K:List Int)(q:Int)(t:Ti):lk e K q t = "back"\/lk e K q t = "open"\/lk e K q t = "gone"\/lk e K q t = "sure"\/lk e K q t = "hangs":=by
 unfold lk;repeat' split
 all_goals simp
theorem inG(e:Int)(K:List Int)(q:Int)(t:Ti)(a:lb):aK false ["won","sure","back"] (ύ (lk e K q t)) a=Y (ϐ (AD (lk e K q t))) a:=by
 rcases ztu e K q t with h|h|h|h|h<;>rw[h]<;>exact nr rfl
section
variable(e:Int)(K:List Int)(P:List D)(σ:lb)(q:Int)(ss:List Sn)
def WZ(t:Ti):Li [Zk e K P,qg (q,ss),t.D] σ=Y (ύ (lk e K q t)) σ:=by
 have d:∀ σ,Mc [8,9] "last_look" (Zk e K P) σ=Y (Z 0) σ:=λσ=>Hq (uF rfl) rfl rfl;have o:∀ σ,Mc [8,9] "known" (Zk e K P) σ=Y (O (K.map Z)) σ:=λσ=>Hq (uF rfl) rfl rfl;have r:∀ σ,Mc [8,9] "every" (Zk e K P) σ=Y (Z (e)) σ:=λσ=>Hq (uF rfl) rfl rfl;have u:∀ σ,ib (qg (q,ss)) (Z 0) σ=Y (Z q) σ:=λσ=>by unfold qg;simp
 have v:∀ σ,ib (qg (q,ss)) (Z 2) σ=Y (Ϫ [] []) σ:=λσ=>by unfold qg;simp
 have s:∀ σ,ib t.D (Z 0) σ=Y (Z t.p) σ:=λσ=>by unfold Ti.D;simp
 have l:∀ σ,ib t.D (Z 2) σ=Y (Z t.w) σ:=λσ=>by unfold Ti.D;simp
 have f:∀ σ,ib t.D (Z 3) σ=Y (Z t.y) σ:=λσ=>by unfold Ti.D;simp
 have x:∀ σ,Ov (Z t.w) (Ϫ [] []) σ=Y (ϐ false) σ:=λσ=>nr rfl;have i:=inK K t.w;have g:∀ σ,ve [t.D,Ϫ [] []] σ=Y (ϐ false) σ:=λσ=>by
  unfold ve YP;simp[l,x]
 have A:∀ σ,Ag [Zk e K P,Ϫ [] [],t.D] σ=Y (ύ (if t.y<=0 then "gone" else if t.w∈K/\e<t.y then "sure" else "hangs")) σ:=λσ=>by
  unfold Ag BW;by_cases a:t.y<=0
  ·have c:decide ((0:Int) ≥ t.y)=true:=nb a;simp[g,d,f,c,a]
  ·have c:decide ((0:Int) ≥ t.y)=false:=Oa a;by_cases j:t.w∈K
   ·have m:decide (t.w∈K)=true:=nb j;rw[m]at i;by_cases k:e<t.y
    ·have n:decide (e<t.y)=true:=nb k;rw[ra a,ma ⟨j,k⟩];simp[g,d,o,r,l,f,c,i,n]
    ·have n:decide (e<t.y)=false:=Oa k;rw[ra a,ra λz=>k z.2];simp[g,d,o,r,l,f,c,i,n]
   ·have m:decide (t.w∈K)=false:=Oa j;rw[m]at i;rw[ra a,ra λz=>j z.1];simp[g,d,o,r,l,f,c,i]
 have B:∀ σ,Xf [Zk e K P,Ϫ [] [],t.D] σ=Y (ύ (if t.y<=0 then "back" else "open")) σ:=λσ=>by
  unfold Xf MX;by_cases a:t.y<=0
  ·have c:decide ((0:Int) ≥ t.y)=true:=nb a;simp[g,d,f,c,a]
  ·have c:decide ((0:Int) ≥ t.y)=false:=Oa a;simp[g,d,f,c,a]
 unfold Li VV lk;by_cases h:t.p=q
 ·simp only[h,Yh];rw[h]at s;simp[u,v,s,B]
 ·have b:(t.p == q)=false:=by simp[h]
  simp only[h,Rr];simp[u,v,s,A,b]
def lB(d:D)(h:∀ p∈a,p.1≠ Ϟ w):vr a (Ϟ w) d=a++[(Ϟ w,d)]:=by
 unfold vr;rw[ra];intro z;obtain⟨p,b,e⟩:=Oe.mp z;exact h p b (by simpa using e)
theorem KU(S:D):∀ (ts c:List Ti) (f:Int) (s j:Option D),((c++ts).map Ti.w).Nodup->(c++ts).length<=9->∃ g h,Zn (We 5) RI (ts.map Ti.D) [some (Zk e K P),some (qg (q,ss)),some S,some (Z f),some (U σ.length),s,j] (σ++[ϑ (Xk (c.map (lo e K q)))])=Y (Ϛ [some (Zk e K P),some (qg (q,ss)),some S,some (Z (f+Qv e K q ts)),some (U σ.length),g,h]) (σ++[ϑ (Xk ((c++ts).map (lo e K q)))])
 |[],c,f,s,j,_,_=>⟨s,j,by simp[Qv]⟩
 |t::ts,c,f,s,j,hd,z=>by
  have l:=λσ=>WZ e K P σ q ss t;have I:∀ σ,ib t.D (Z 1) σ=Y (Z t.a) σ:=λσ=>by unfold Ti.D;simp
  have J:∀ σ,ib t.D (Z 2) σ=Y (Z t.w) σ:=λσ=>by unfold Ti.D;simp
  have L:∀ σ,ib t.D (Z 3) σ=Y (Z t.y) σ:=λσ=>by unfold Ti.D;simp
  have i:∀ p∈Xk (c.map (lo e K q)),p.1≠ Ϟ t.w:=λp u e=>by
   unfold Xk at u;rw[Va]at u;obtain⟨B,v,rfl⟩:=va.mp u;have e:B.w=t.w:=by simpa [lo]using e
   rw[Rb,Ga,Od]at hd;exact hd.2.2 B.w (Gd v) t.w Ha e
  have A:=λρ=>Xx (ρ:=ρ) (σ:=σ++[ϑ (Xk (c.map (lo e K q)))]) (d:=Ϗ [ύ (lk e K q t),Z t.a,Z t.y]) (n:=σ.length) (w:=t.w) (kvs:=Xk (c.map (lo e K q))) (by simp) (by unfold Xk;simp at z ⊢;omega);rw[YB,lB _ i,show Xk (c.map (lo e K q))++[((Ϟ t.w),Ϗ [ύ (lk e K q t),Z t.a,Z t.y])]=Xk ((c++[t]).map (lo e K q)) by simp[Xk,lo,Lo.D]]at A;have H:=inG e K q t;have F:∀ (f:Ev->M D) (k m o r g h:Option D) (x:D) (σ:lb),wz (λa b=>a+b) 3 f [k,m,o,some x,r,g,h] σ=cn [k,m,o,some x,r,g,h] (CF (λa b=>a+b) 3 [k,m,o,some x,r,g,h] x) (f [k,m,o,some x,r,g,h] σ):=λf k m o r g h x σ=>kR rfl;obtain⟨g,h,G⟩:=KU S ts (c++[t]) (f+fa e K q t) (some t.D) (some (ύ (lk e K q t))) (by rw[Xi];exact hd) (by rw[Xi];exact z);refine⟨g,h,?_⟩;rw[show f+Qv e K q (t::ts)=f+fa e K q t+Qv e K q ts by simp[Qv];omega,show c++t::ts=c++[t]++ts by simp,<-G,Ga,yE];simp only[Yf,zi];have b:RI [some (Zk e K P),some (qg (q,ss)),some S,some (Z f),some (U σ.length),some t.D,j] (σ++[ϑ (Xk (c.map (lo e K q)))])=Y (Ϛ [some (Zk e K P),some (qg (q,ss)),some S,some (Z (f+fa e K q t)),some (U σ.length),some t.D,some (ύ (lk e K q t))]) (σ++[ϑ (Xk ((c++[t]).map (lo e K q)))]):=by
   unfold RI fa;generalize σ++[ϑ (Xk (c.map (lo e K q)))]=ϋ,σ++[ϑ (Xk ((c++[t]).map (lo e K q)))]=ϊ,qg (q,ss)=P,Zk e K P=V,t.D=N,lk e K q t=E at *;generalize AD E=C at *;cases C<;>simp[l,I,J,L,A,H,F]
  rw[b,Qg,Mw]
def zo3(d:q=0\/q=1){s:Sn}(b:(s.ts.map Ti.w).Nodup)(c:s.ts.length<=9):Rf [Zk e K P,qg (q,ss),s.D] σ=Y (rd e K q s).D σ:=by
 have g:∀ σ,ib (qg (q,ss)) (Z 0) σ=Y (Z q) σ:=λσ=>by unfold qg;simp
 have i:=s1 s;have k:=s2 s;have l:=iT d s;obtain⟨n,o,a⟩:=KU e K P σ q ss s.D s.ts [] (ow q s) none none b c;have a:Zn _ _ _ _ (σ++[ϑ []])=Y (Ϛ [some (Zk e K P),some (qg (q,ss)),some s.D,some (Z (rd e K q s).f),some (U σ.length),n,o]) (σ++[ϑ (Xk (rd e K q s).x)]):=a;have fz:mi σ (Y (Ϗ [Z (rd e K q s).f,U σ.length]) (σ++[ϑ (Xk (rd e K q s).x)]))=Y (rd e K q s).D σ:=by
  unfold mi;dsimp only;rw[ma (by simp)];have h:=CT (σ:=σ) (j:=[]) (m:=4) (DQ (rd e K q s).x);have:fz σ.length (σ++[ϑ (Xk (rd e K q s).x)]) 6 (Ϗ [Z (rd e K q s).f,U σ.length])=some (rd e K q s).D:=by
   unfold fz;dsimp only;unfold Io;unfold Io;rw[h];rfl
  rw[this]
 unfold Rf cT;simp[g,i,k,l,a,fz]
end
def S6(h:ys.length+zs.length<=1000):mB (U σ.length) [O zs] (σ++[ϔ ys])=Y ϛ (σ++[ϔ (ys++zs)]):=by
 have e:xh (σ++[ϔ ys]) (O zs)=some zs:=rfl;unfold mB;simp only[Iz,e];rw[ma (show _<=Ni from h),YB]
def zw8{xs ys:List D}(c:da i ρ σ=Y (O xs) σ)(d:da j ρ σ=Y (O ys) σ):EI (da i) (da j) ρ σ=Y (DE (O xs) (O ys)) σ:=by
 have a:xh σ (O xs)=some xs:=rfl;have b:xh σ (O ys)=some ys:=rfl;unfold EI;rw[ot,c,Qg];unfold SX;rw[ot,d,Qg];unfold cO;simp only[a,b]
def cu{c:Type}(a:c->Int):List c->c->c
 |[],b=>b
 |x::xs,b=>if a x<a b then cu a xs x else cu a xs b
theorem eH{c:Type}(a:c->Int):∀ (xs:List c) (b:c),cu a xs b∈b::xs
 |[],b=>by simp[cu]
 |x::xs,b=>by
  unfold cu;split
  ·have:=eH a xs x;exact Aa _ this
  ·have:=eH a xs b;rcases Ma.mp this with h|h
   ·rw[h];exact Ha
   ·exact Aa _ (Aa _ h)
theorem xI{f:Type}(a:f->Int):∀ (xs:List f) (b:f),∀ y∈b::xs,a (cu a xs b)<=a y
 |[],b,y,d=>by
  have:y=b:=by simpa using d
  rw[this];exact Dv _
 |x::xs,b,y,d=>by
  unfold cu;split
  ·next h=>
   have c:=xI a xs x;rcases Ma.mp d with e|e
   ·have:=c x Ha;rw[e];omega
   ·exact c y e
  ·next h=>
   have c:=xI a xs b;rcases Ma.mp d with e|e
   ·rw[e];exact c b Ha
   ·rcases Ma.mp e with e|e
    ·have:=c b Ha;rw[e];omega
    ·exact c y (Aa _ e)
theorem NM{d:Type}{f:d->D}{a:d->Int}{g:Ev->M D}{rest:Ev}{e:lb}:∀ (xs:List d) (b:d),(∀ x∈xs,g (some (f x)::rest) e=Y (Z (a x)) e)->Py g rest (xs.map f) (f b) (a b) e=Y (f (cu a xs b)) e
 |[],b,_=>rfl
 |x::xs,b,h=>by
  have j:=h x Ha;have i:=λy k=>h y (Aa _ k);rw[Ga];unfold Py cu;rw[ot,qJ j,Qg];dsimp only;by_cases c:a x<a b
  ·rw[ma c,ma c];exact NM xs x i
  ·rw[ra c,ra c];exact NM xs b i
def PV{f:a->D}{key:a->Int}{rest:Ev}{xs:List a}{x:a}(h:∀ y∈x::xs,fe (some (f y)::rest) σ=Y (Z (key y)) σ):RA fe rest [O ((x::xs).map f)] σ=Y (f (cu key xs x)) σ:=by
 rw[Ga];unfold RA;dsimp only;rw[ot,qJ (h x Ha),Qg];exact NM xs x λy b=>h y (Aa _ b)
@[simp] theorem zq8(d:List Nat)(b:Ev->M D)(c:Ev->M (List D))(a:Ev)(e:lb):NI d b c a e=(c a e).bind (RA b (d.map λi=>(a[i]?).getD none)):=nr rfl
theorem jz{x:List b}{a:b}(h:x[i]?=some a):x.take (i+1)=x.take i++[a]:=by
 rw[List.take_add_one,h];rfl
def WB{xs:List D}(P:Nat->Ev->lb->Prop)(C:xs.length<=1000)(z:S=.seq xs\/∃ n,S=.Bm n/\∀ i ρ σ,P i ρ σ->gh σ n=some xs)
  (w:∀ i d ρ σ,xs[i]?=some d->P i ρ σ->∃ f c e,tg d ρ=some f/\body f σ=Y (Ϛ c) e/\P (i+1) c e) (v:P 0 ρ σ):∃ a b,nJ tg body ρ S σ=Y (Ϛ a) b/\P xs.length a b:=by
 rcases z with rfl|⟨n,rfl,B⟩
 ·have s:∀ (r:List D) (i:Nat) (ρ:Ev) (σ:lb),xs.drop i=r->i<=xs.length->P i ρ σ->∃ a b,Zn tg body r ρ σ=Y (Ϛ a) b/\P xs.length a b:=λr=>by
   induction r with
   |nil=>
    intro i ρ σ j A g;have:i=xs.length:=by have:=List.drop_eq_nil_iff.mp j;omega
    exact⟨ρ,σ,by simp,this ▸ g⟩
   |cons d r u=>
    intro i ρ σ j A g;have h:xs[i]?=some d:=by have:=Dc (·[0]?) j;simpa using this
    obtain⟨f,c,e,l,m,o⟩:=w i d ρ σ h g;obtain⟨a,b,p,q⟩:=u (i+1) c e (by have:=Dc List.tail j;simpa using this) (aa.mp h).1 o;exact⟨a,b,by rw[xT l,m,Qg,Mw,p],q⟩
  exact s xs 0 ρ σ rfl (by omega) v
 ·have s:∀ (k i:Nat) (ρ:Ev) (σ:lb),xs.length<k+i->i<=xs.length->P i ρ σ->∃ a b,Ez tg body n k i ρ σ=Y (Ϛ a) b/\P xs.length a b:=λk=>by
   induction k with
   |zero=>intro i ρ σ x y;omega
   |succ k u=>
    intro i ρ σ x y g;have t:=B i ρ σ g;rw[Ez];simp only[t];cases h:xs[i]? with
    |none=>
     have:i=xs.length:=by have:=Mb.mp h;omega
     exact⟨ρ,σ,rfl,this ▸ g⟩
    |some d=>
     obtain⟨f,c,e,l,m,o⟩:=w i d ρ σ h g;obtain⟨a,b,p,q⟩:=u (i+1) c e (by omega) (aa.mp h).1 o;refine⟨a,b,?_,q⟩;simp only[l];show (body f σ).bind _=_;rw[m,Qg,Mw,p]
  exact s 1001 0 ρ σ (by omega) (by omega) v
def RL(a:List (List Rd)):D:=O (a.map λb=>O (b.map Rd.D))
def yk(e:Int)(K:List Int)(ps:List Pv):List (List Rd):=ps.map λp=>p.2.map (rd e K p.1)
structure Gs(ps:List Pv):Prop where
 n:ps.length<=3
 q:∀ p∈ps,p.1=0\/p.1=1
 f:∀ p∈ps,0<p.2.length/\p.2.length<=2
 d:∀ p∈ps,∀ s∈p.2,(s.ts.map Ti.w).Nodup/\s.ts.length<=9
 a:∀ p∈ps,∀ s∈p.2,∀ t∈s.ts,0<=t.a
def v8(a:List (List Rd)):cl (RL a)=true:=Mr λd b=>by obtain⟨c,_,rfl⟩:=va.mp b;exact OZ c
def JZ(h:Gs ps)(e:Int)(K:List Int)(a:lb):Ug [Zk e K (ps.map qg)] a=Y (RL (yk e K ps)) a:=by
 have x:∀ a,Mc [8] "pots" (Zk e K (ps.map qg)) a=Y (O (ps.map qg)) a:=λa=>Hq (uF rfl) rfl rfl;obtain⟨B,C,k,y,rfl,rfl⟩:=WB (S:=.seq (ps.map qg)) (xs:=ps.map qg) (tg:=We 2) (body:=YL) (ρ:=[some (Zk e K (ps.map qg)),some (U a.length),none]) (σ:=a++[ϔ []]) (λi ρ c=>∃ y,ρ=[some (Zk e K (ps.map qg)),some (U a.length),y]/\c=a++[ϔ ((yk e K (ps.take i)).map λrs=>O (rs.map Rd.D))]) (by have:=h.n;simp;omega) (ϒ rfl) (λi d ρ c t z=>by
  obtain⟨y,rfl,rfl⟩:=z;rw[Ta]at t;obtain⟨p,u,rfl⟩:=Ra.mp t;have g:=La u;obtain⟨q,b⟩:=p;have l:∀ c,qj (dm (Fo (Bj (Ja ib (da 2) (eC (Z 1))))) [0,2] (We 0) Cp (Ld 3 Rf [] (qa (da 2) (qa (da 3) (qa (da 0) Pa))))) [some (Zk e K (ps.map qg)),some (U a.length),some (qg (q,b))] c=Y (O ((b.map (rd e K q)).map Rd.D)) c:=λc=>by
   rw[Va];refine Jx (s:=.seq (b.map Sn.D)) (ix:=[0,2]) Sn.D _ (by unfold qg;simp) (λi _=>Dc some (au b _ i)) (by have:=(h.f _ g).2;dsimp only at this;omega) (λs v j=>?_) (λs _=>yI _);have r:=zo3 e K (ps.map qg) (c++j) q b (h.q _ g) (h.d _ g s v).1 (h.d _ g s v).2;rw[show (Rd.D ∘ rd e K q) s=(rd e K q s).D from rfl];generalize c++j=ϋ,s.D=G,qg (q,b)=w,Zk e K (ps.map qg)=V,(rd e K q s).D=R at *;simp[r]
  have o:=cH (σ:=a) (xs:=(yk e K (ps.take i)).map λrs=>O (rs.map Rd.D)) (d:=O ((b.map (rd e K q)).map Rd.D)) (by have:=h.n;unfold yk;simp;omega);have A:∀ m,Vv Vm m (U a.length) (a++[ϔ ((yk e K (ps.take i)).map λrs=>O (rs.map Rd.D))])=(m (a++[ϔ ((yk e K (ps.take i)).map λrs=>O (rs.map Rd.D))])).bind (Vm (U a.length)):=λm=>jA (xs:=(yk e K (ps.take i)).map λrs=>O (rs.map Rd.D)) (by unfold xh gh;simp);rw[show ((yk e K (ps.take i)).map λrs=>O (rs.map Rd.D))++[O ((b.map (rd e K q)).map Rd.D)]=(yk e K (ps.take (i+1))).map λrs=>O (rs.map Rd.D) by rw[jz u];unfold yk;simp]at o;refine⟨[some (Zk e K (ps.map qg)),some (U a.length),some (qg (q,b))],[some (Zk e K (ps.map qg)),some (U a.length),some (qg (q,b))],_,rfl,?_,_,rfl,rfl⟩;generalize qg (q,b)=w,Zk e K (ps.map qg)=V,a++[ϔ ((yk e K (ps.take i)).map λrs=>O (rs.map Rd.D))]=ϋ,a++[ϔ ((yk e K (ps.take (i+1))).map λrs=>O (rs.map Rd.D))]=ϊ,(b.map (rd e K q)).map Rd.D=E at *;simp[A,l,o,-vt]) ⟨none,rfl,by simp[yk]⟩
 rw[Sa,gd]at k;have fz:mi a (Y (U a.length) (a++[ϔ ((yk e K ps).map λrs=>O (rs.map Rd.D))]))=Y (RL (yk e K ps)) a:=ZI (v8 (yk e K ps));have k:Zn (We 2) YL (ps.map qg) [some (Zk e K (ps.map qg)),some (U a.length),none] (a++[ϔ []])=_:=k;unfold Ug vV;generalize ps.map qg=P,Zk e K (ps.map qg)=V,a++[ϔ ((yk e K ps).map λrs=>O (rs.map Rd.D))]=ϊ,RL (yk e K ps)=F at *;simp[x,k,fz]
abbrev Rx:=Rd × Nat
def cD(c:List Rx):D:=O (c.map λp=>Z p.2)
theorem BI(c:List Rx):cl (cD c)=true:=Mr λd a=>by obtain⟨p,_,rfl⟩:=va.mp a;rfl
noncomputable def ext(a:List Rd)(c:List Rx):List (List Rx):=a.zipIdx.map λp=>c++[p]
def Wl(a:List (List Rd))(acc:List (List Rx)):List (List Rx):=a.foldl (λacc b=>acc.flatMap (ext b)) acc
def Pk:List (List Rd)->List Rx->Prop
 |[],[]=>True
 |rs::a,p::c=>rs[p.2]?=some p.1/\Pk a c
 |_,_=>False
theorem Pk.len:∀ {a:List (List Rd)} {c:List Rx},Pk a c->c.length=a.length
 |[],[],_=>rfl
 |_::a,_::c,h=>Dc (·+ 1) (Pk.len h.2)
 |[],_::_,h=>h.elim
 |_::_,[],h=>h.elim
theorem PK:∀ (b:List (List Rd)) {acc:List (List Rx)} {c:List Rx},c∈Wl b acc->∃ a∈acc,∃ r,c=a++r/\Pk b r
 |[],acc,c,h=>⟨c,h,[],by simp,trivial⟩
 |j::b,acc,c,h=>by
  obtain⟨a',d,r,rfl,g⟩:=PK b (acc:=acc.flatMap (ext j)) h;obtain⟨a,e,i⟩:=jy.mp d;obtain⟨p,f,rfl⟩:=va.mp i;exact⟨a,e,p::r,by simp,List.mem_zipIdx_iff_getElem?.mp f,g⟩
theorem JI(a:List Rd):∀ acc:List (List Rx),(acc.flatMap (ext a)).length=acc.length * a.length
 |[]=>by simp
 |c::acc=>by
  rw[oh,Xc,JI a acc,ub,Nat.succ_mul];unfold ext;simp;omega
theorem HK:∀ (a:List (List Rd)) (acc:List (List Rx)),(∀ b∈a,b.length<=2)->(Wl a acc).length<=acc.length * 2 ^ a.length
 |[],acc,_=>by simp[Wl]
 |b::a,acc,h=>by
  have:=HK a (acc.flatMap (ext b)) λr d=>h r (Aa _ d);rw[JI]at this;have c:=h b Ha;refine Fb this ?_;rw[ub,Nat.pow_succ,Zs,Nat.mul_comm (2 ^ a.length) 2,<-Zs,<-Zs];exact Nat.mul_le_mul_right _ (Nat.mul_le_mul_left _ c)
theorem iQ:∀ (a:List (List Rd)) {acc:List (List Rx)},(∀ b∈a,0<b.length)->acc≠[]->Wl a acc≠[]
 |[],acc,_,h=>h
 |b::a,acc,h,e=>iQ a (λr f=>h r (Aa _ f)) λz=>by
  have:=Dc List.length z;rw[JI]at this;have c:=h b Ha;have d:=List.length_pos_iff.mpr e;have:=Nat.mul_pos d c;simp at *;omega
def NS(h:n<=3):2 ^ n<=8:=by
 have:n=0\/n=1\/n=2\/n=3:=by omega
 rcases this with rfl|rfl|rfl|rfl<;>decide
def IsL(a:Nat)(b:lb)(d:D)(xs:List D):Prop:=d=O xs\/∃ n,d=U n/\a<=n/\gh b n=some xs
def J5{xs:List D}(h:IsL a.length (a++J) d xs)(b:fh xs=true):mi a (Y d (a++J))=Y (O xs) a:=by
 rcases h with rfl|⟨n,rfl,g,c⟩
 ·unfold mi;dsimp only;rw[ma (by simp),Az (show cl (O xs)=true by rw[cl];exact b)]
 ·have e:=gH c;unfold mi;dsimp only;rw[ma (by simp)];have:fz a.length (a++J) 6 (U n)=some (O xs):=by
   unfold fz;rw[ra (by simp)];dsimp only;rw[ra (by omega),e];dsimp only;rw[fJ (λd f=>Az f) b];rfl
  rw[this]
def T8(rs:List Rd)(c:List Rx):(ext rs c).map cD=(List.range rs.length).map λ(i:Nat)=>O (c.map (λp=>Z p.2)++[Z i]):=by
 have e:rs.zipIdx.map (·.2)=List.range rs.length:=by rw[List.zipIdx_map_snd,List.range_eq_range']
 rw[<-e];unfold ext cD;simp only[Va];refine Kb λp _=>?_;simp
def eZ(s:a.length<=2)(r:c.length<=3)(t:ys.length<=100)(R C:Option D)(d:lb):dH [R,C,some (O (a.map Rd.D)),some (U d.length),some (cD c)] (d++[ϔ ys])=Y (Ϛ [R,C,some (O (a.map Rd.D)),some (U d.length),some (cD c)]) (d++[ϔ (ys++(ext a c).map cD)]):=by
 have g:∀ (i:Nat) b,Sh (cD c) (O [Z i]) b=Y (O (c.map (λp=>Z p.2)++[Z i])) b:=λi b=>by unfold cD;rw[HD (by unfold Ni;simp;omega)]
 have h:∀ b,yj [O (a.map Rd.D)] b=Y (Z a.length) b:=λb=>by simp
 have l:∀ b,qj (dm (Fo (Vx (ah yj (qa (da 2) Pa)))) [4] (We 0) Cp (Ja Sh (da 2) (Zh (qa (da 0) Pa)))) [R,C,some (O (a.map Rd.D)),some (U d.length),some (cD c)] b=Y (O ((ext a c).map cD)) b:=λb=>by
  have n:mz (Z a.length) b=Y (.seq ((List.range a.length).map λ(i:Nat)=>Z i)) b:=by
   rw[cL (by omega) (by omega)];rfl
  have o:Vx (ah yj (qa (da 2) Pa)) [R,C,some (O (a.map Rd.D)),some (U d.length),some (cD c)] b=Y (.seq ((List.range a.length).map λ(i:Nat)=>Z i)) b:=by
   generalize a.map Rd.D=f at *;simp[h,n]
  rw[T8];exact Jx (ix:=[4]) (xs:=List.range a.length) (fe:=Ja Sh (da 2) (Zh (qa (da 0) Pa))) (λ(i:Nat)=>Z i) (λ(i:Nat)=>O (c.map (λp=>Z p.2)++[Z i])) o (λi _=>Dc some (au (List.range a.length) _ i)) (by simp;omega) (λi _ j=>by
   have:=g i (b++j);generalize cD c=e at *;simp[this]) (λi _=>by rw[cl,nL,show fh (c.map λp=>Z p.2)=true from BI c];rfl)
 have ex:=S6 (σ:=d) (ys:=ys) (zs:=(ext a c).map cD) (by unfold ext;simp;omega);have k:∀ m,Vv mB m (U d.length) (d++[ϔ ys])=(m (d++[ϔ ys])).bind (mB (U d.length)):=λm=>jA (xs:=ys) (by unfold xh gh;simp);unfold dH;generalize a.map Rd.D=f,(ext a c).map cD=q,cD c=e at *;simp[k,l,ex,-vt]
def Ñ{xs:List D}(h:IsL f a d xs)(b:∀ a,da i ρ a=Y d a)(J:lb):∃ S,Bj (da i) ρ (a++J)=Y S (a++J)/\(S=.seq xs\/∃ n,S=.Bm n/\∀ J,gh (a++J) n=some xs):=by
 rcases h with rfl|⟨n,rfl,_,c⟩
 ·exact⟨.seq xs,by rw[VF,b];simp,ϒ rfl⟩
 ·have g:∀ J,gh (a++J) n=some xs:=λJ=>by
   have e:=gH c;unfold gh;rw[zb (aa.mp e).1,e]
  refine⟨.Bm n,?_,ϖ ⟨n,rfl,g⟩⟩;rw[VF,b,Qg];show (match gh (a++J) n with|some _=>_|none=>_)=_;rw[g]
def O6(m:b.length<=2){acc:List (List Rx)}(v:acc.length<=8)(w:∀ c∈acc,c.length<=3)(r:σ0<=a.length)(x:IsL σ0 a d (acc.map cD))(R z g:Option D):∃ k,sD [R,some d,some (O (b.map Rd.D)),z,g] a=Y (Ϛ [R,some (U a.length),some (O (b.map Rd.D)),some (U a.length),k]) (a++[ϔ ((acc.flatMap (ext b)).map cD)])/\IsL σ0 (a++[ϔ ((acc.flatMap (ext b)).map cD)]) (U a.length) ((acc.flatMap (ext b)).map cD):=by
 obtain⟨S,q,u⟩:=Ñ x (ρ:=[R,some d,some (O (b.map Rd.D)),some (U a.length),g]) (i:=1) (λ_=>rfl) [ϔ []];obtain⟨A,B,o,k,rfl,rfl⟩:=WB (S:=S) (xs:=acc.map cD) (tg:=We 4) (body:=dH) (ρ:=[R,some d,some (O (b.map Rd.D)),some (U a.length),g]) (σ:=a++[ϔ []]) (λi ρ l=>∃ y,ρ=[R,some d,some (O (b.map Rd.D)),some (U a.length),y]/\l=a++[ϔ (((acc.take i).flatMap (ext b)).map cD)]) (by simp;omega) (by
   rcases u with h|⟨n,s,t⟩
   ·exact ϒ h
   ·exact ϖ ⟨n,s,λi ρ l j=>by obtain⟨_,_,rfl⟩:=j;exact t _⟩) (λi C ρ l f j=>by
  obtain⟨y,rfl,rfl⟩:=j;rw[Ta]at f;obtain⟨c,e,rfl⟩:=Ra.mp f;have p:=eZ m (w c (La e)) (ys:=((acc.take i).flatMap (ext b)).map cD) (by rw[Sa,JI,Mf];exact Fb (Nat.mul_le_mul (Fb (Nat.min_le_right ..) v) m) (by decide)) R (some d) a;rw[show ((acc.take i).flatMap (ext b)).map cD++(ext b c).map cD=((acc.take (i+1)).flatMap (ext b)).map cD by rw[jz e];simp]at p;exact⟨_,_,_,rfl,p,_,rfl,rfl⟩) ⟨g,rfl,by simp⟩
 rw[Sa,gd]at o;refine⟨k,?_,ϖ ⟨a.length,rfl,r,Iz _⟩⟩;unfold sD;simp[q,o,-VF]
def zjs(F:b.length<=3)(q:∀ rs∈b,rs.length<=2)(σ:lb):kf [RL b] σ=Y (O ((Wl b [[]]).map cD)) σ:=by
 obtain⟨A,B,n,d,o,k,l,J,rfl,rfl,j⟩:=WB (S:=.seq (b.map λrs=>O (rs.map Rd.D))) (xs:=b.map λrs=>O (rs.map Rd.D)) (tg:=We 2) (body:=sD) (ρ:=[some (RL b),some (O [O []]),none,none,none]) (σ:=σ) (λi ρ p=>∃ d o k l J,ρ=[some (RL b),some d,o,k,l]/\p=σ++J/\IsL σ.length p d ((Wl (b.take i) [[]]).map cD)) (by simp;omega) (ϒ rfl) (λi C ρ p g t=>by
  obtain⟨d,o,k,l,J,rfl,rfl,j⟩:=t;rw[Ta]at g;obtain⟨rs,f,rfl⟩:=Ra.mp g;have E:=(aa.mp f).1;have z:∀ r∈b.take i,r.length<=2:=λr w=>q r (List.mem_of_mem_take w);obtain⟨G,s,h⟩:=O6 (q rs (La f)) (acc:=Wl (b.take i) [[]]) (Fb (HK _ _ z) (by rw[ub,Yg,sG,oK];exact NS (by rw[Mf];omega))) (λc m=>by
   obtain⟨a,u,r,rfl,v⟩:=PK _ m;have:a=[]:=by simpa using u
   subst this;rw[Zy,v.len,Mf];omega) (σ0:=σ.length) (by simp) j (some (RL b)) k l
  have e:(Wl (b.take i) [[]]).flatMap (ext rs)=Wl (b.take (i+1)) [[]]:=by rw[jz f];unfold Wl;rw[wx];rfl
  rw[e]at s h;exact⟨_,_,_,rfl,s,_,_,_,_,J++[ϔ ((Wl (b.take (i+1)) [[]]).map cD)],rfl,by rw[Xi],h⟩) ⟨O [O []],none,none,none,[],rfl,by simp,ϒ rfl⟩
 rw[Sa,gd]at j;have fz:=J5 j (Mr λx y=>by obtain⟨c,_,rfl⟩:=va.mp y;exact BI c);have n:Zn (We 2) sD (b.map λrs=>O (rs.map Rd.D)) [some (RL b),some (O [O []]),none,none,none] σ=_:=n;unfold kf WS;unfold RL at *;simp[n,fz]
theorem uR:∀ {a:List (List Rd)} {c:List Rx},Pk a c->∀ x∈a.zip c,x.1[x.2.2]?=some x.2.1
 |[],[],_,x,h=>by cases h
 |rs::a,p::c,h,x,b=>by
  rcases Ma.mp b with rfl|b
  ·exact h.1
  ·exact uR h.2 x b
 |[],_::_,h,_,_=>h.elim
 |_::_,[],h,_,_=>h.elim
theorem WP:∀ {a:List (List Rd)} {c:List Rx},Pk a c->(a.zip c).map (λx=>x.2.1.D)=c.map λp=>p.1.D
 |[],[],_=>rfl
 |rs::a,p::c,h=>by rw[fw,Ga,Ga,WP h.2]
 |[],_::_,h=>h.elim
 |_::_,[],h=>h.elim
def û(v:e.length<=3)(m:Pk e c)(σ:lb):Yd [RL e,cD c] σ=Y (O (c.map λp=>p.1.D)) σ:=by
 have u:=m.len;have w:(e.zip c).length=e.length:=by rw[List.length_zip];omega
 have n:fh (c.map λp=>p.1.D)=true:=Mr λd q=>by obtain⟨p,_,rfl⟩:=va.mp q;exact yI _
 have l:=Ŕ (xs:=e.zip c) (ix:=[]) (fe:=Ja ib (da 0) (da 1)) (ρ:=[some (RL e),some (cD c)]) (λx=>O (x.1.map Rd.D)) (λx=>Z x.2.2) (λx=>x.2.1.D) (zw8 (i:=0) (j:=1) (σ:=σ) (xs:=e.map λf=>O (f.map Rd.D)) (ys:=c.map λp=>Z p.2) rfl rfl) (λi j h=>by
  show DE (O (e.map λf=>O (f.map Rd.D))) (O (c.map λp=>Z p.2)) i (σ++j)=_;have a:xh (σ++j) (O (e.map λf=>O (f.map Rd.D)))=some (e.map λf=>O (f.map Rd.D)):=rfl;have b:xh (σ++j) (O (c.map λp=>Z p.2))=some (c.map λp=>Z p.2):=rfl;unfold DE;simp only[a,b,Ta];by_cases r:i<e.length
  ·have g:e[i]?=some e[i]:=aa.mpr ⟨r,rfl⟩;have o:c[i]?=some (c[i]'(by omega)):=aa.mpr ⟨by omega,rfl⟩;have k:(e.zip c)[i]?=some (e[i],c[i]'(by omega)):=List.getElem?_zip_eq_some.mpr ⟨g,o⟩;rw[g,o,k];rfl
  ·have g:e[i]?=none:=Mb.mpr (by omega);have k:(e.zip c)[i]?=none:=Mb.mpr (by omega);rw[g,k];simp;omega) (by omega) (λx s j=>by
  have t:∀ σ,ib (O (x.1.map Rd.D)) (Z x.2.2) σ=Y (x.2.1.D) σ:=λσ=>ev (Gv (by rw[Ta,uR m x s];rfl));have:=t (σ++j);simp[this]) (λx _=>yI _)
 rw[WP m]at l;unfold Yd lQ;simp[l,n,-vt]
def qS(A:Kv)(a:lb):iv A A.length a=some none:=by unfold iv;simp
def ö(h:f b a=Y (Ϫ (A.map (·.1)) (A.map (·.2))) a):LB f b a=Y (iv A) a:=by
 have z:∀ A:Kv,(A.map (·.1)).zip (A.map (·.2))=A:=λA=>by
  induction A with
  |nil=>rfl
  |cons x r c=>rw[Ga,Ga,fw,c]
 show be (f b) DG a=_;rw[ot,h,Qg];unfold DG;dsimp only;rw[ma (by simp),z]
theorem EO{nx:NX}{tg:D->Ev->Option Ev}{body:Ev->M Fl}{N:Nat}(P:Nat->Ev->lb->Prop)(l:∀ i a σ,i<N->P i a σ->∃ d g c f,nx i σ=some (some d)/\tg d a=some g/\body g σ=Y (Ϛ c) f/\P (i+1) c f)(j:∀ σ,nx N σ=some none):∀ (k i:Nat) (a:Ev) (σ:lb),N<k+i->i<=N->P i a σ->∃ b e,Ft nx tg body k i a σ=Y (Ϛ b) e/\P N b e
 |0,i,a,σ,s,t,_=>by omega
 |k+1,i,a,σ,s,t,h=>by
  by_cases u:i=N
  ·subst u;exact⟨a,σ,fW (j σ),h⟩
  ·obtain⟨d,g,c,f,m,n,o,p⟩:=l i a σ (by omega) h;obtain⟨b,e,q,r⟩:=EO P l j k (i+1) c f (by omega) (by omega) p;refine⟨b,e,?_,r⟩;rw[uJ m n,o,Qg,Mw,q]
def iO{A:Kv}(h:f ρ σ=Y (Ϫ (A.map (·.1)) (A.map (·.2))) σ)(r:A.length<=1000)(P:Nat->Ev->lb->Prop)(q:∀ i k v ρ σ,A[i]?=some (k,v)->P i ρ σ->∃ a b c,tg (Ϗ [UF k,v]) ρ=some a/\body a σ=Y (Ϛ b) c/\P (i+1) b c)(n:P 0 ρ σ):∃ d g,Lx (LB f) tg body ρ σ=Y (Ϛ d) g/\P A.length d g:=by
 rw[EA,ö h,ut];refine EO P (λi ρ σ p o=>?_) (qS A) 1001 0 ρ σ (by omega) (by omega) n;have e:A[i]?=some (A[i].1,A[i].2):=aa.mpr ⟨p,rfl⟩;obtain⟨a,b,c,j,l,m⟩:=q i _ _ ρ σ e o;refine⟨_,a,b,c,?_,j,l,m⟩;unfold iv;simp only[e]
abbrev Gr:=List (Int × List Lo)
def gD(g:Gr):D:=Ϫ (g.map λp=>Ϟ p.1) (g.map λp=>O (p.2.map Lo.D))
def Ŵ(b:List Lo):fh (b.map Lo.D)=true:=Mr λd a=>by obtain⟨t,_,rfl⟩:=va.mp a;exact cX t
theorem oU(h:∀ p∈a,p.1≠ Ϟ w):jl a (Ϟ w)=none:=by
 unfold jl;rw[om.mpr λp b=>by simpa using h p b];rfl
def é(g:List (Int × Nat × List Lo))(h:∀ p∈g,σ.length<=p.2.1/\(σ++ϑ (g.map λp=>(Ϟ p.1,U p.2.1))::j)[p.2.1]?=some (ϔ (p.2.2.map Lo.D))):mi σ (Y (U σ.length) (σ++ϑ (g.map λp=>(Ϟ p.1,U p.2.1))::j))=Y (gD (g.map λp=>(p.1,p.2.2))) σ:=by
 have e:(σ++ϑ (g.map λp=>(Ϟ p.1,U p.2.1))::j)[σ.length]?=some (ϑ (g.map λp=>(Ϟ p.1,U p.2.1))):=by simp
 have b:∀ T (q:List (Int × Nat × List Lo)),(∀ p∈q,σ.length<=p.2.1/\T[p.2.1]?=some (ϔ (p.2.2.map Lo.D)))->Io (fz σ.length T 5) (q.map λp=>U p.2.1)=some (q.map λp=>O (p.2.2.map Lo.D)):=λT q=>by
  induction q with
  |nil=>intro _;rfl
  |cons p q l=>
   intro a;obtain⟨m,c⟩:=a p Ha;have f:fz σ.length T 5 (U p.2.1)=some (O (p.2.2.map Lo.D)):=by
    unfold fz;rw[ra (by simp)];dsimp only;rw[ra (by omega),c];dsimp only;rw[fJ (λd i=>Az i) (Ŵ _)];rfl
   rw[Ga,Io,f,l λp k=>a p (Aa _ k)];rfl
 unfold mi;dsimp only;rw[ma (by simp)];have:fz σ.length (σ++ϑ (g.map λp=>(Ϟ p.1,U p.2.1))::j) 6 (U σ.length)=some (gD (g.map λp=>(p.1,p.2.2))):=by
  unfold fz;dsimp only;rw[ra (qe _),e];dsimp only;rw[show (g.map λp=>((Ϟ p.1),U p.2.1)).map (λx=>x.2)=g.map (λp=>U p.2.1) by rw[Va];rfl,b _ g h];unfold gD;rw[Va,Va,Va];rfl
 rw[this]
abbrev Gn:=List (Int × Nat × List Lo)
def has{a:Type}(g:List (Int × a))(w:Int):Bool:=g.any λp=>decide (p.1=w)
def ysq{g:List (Int × b)}(h:has g w=true):∃ p∈g,p.1=w:=by
 obtain⟨p,a,e⟩:=Oe.mp h;exact⟨p,a,by simpa using e⟩
def CK{g:List (Int × b)}(h:has g w=false):∀ p∈g,p.1≠w:=λp a e=>by
 have:=Si.mp h p a;exact this (by simpa using e)
noncomputable def pA(g:Gn)(n:Nat)(l:Lo):Gn:=if has g l.w then g.map (λp=>if p.1=l.w then (p.1,p.2.1,p.2.2++[l])else p)else g++[(l.w,n,[l])]
noncomputable def yc(g:Gr)(l:Lo):Gr:=if has g l.w then g.map (λp=>if p.1=l.w then (p.1,p.2++[l])else p)else g++[(l.w,[l])]
noncomputable def out(g:Gn):Gr:=g.map λp=>(p.1,p.2.2)
def zZ(g:Gn)(n:Nat)(l:Lo):out (pA g n l)=yc (out g) l:=by
 have e:has (out g) l.w=has g l.w:=by unfold has out;rw[Bt];rfl
 unfold pA yc;rw[e];split
 ·unfold out;rw[Va,Va];refine Kb λp _=>?_;simp only[Function.comp];split<;>rfl
 ·unfold out;simp
def jT(g:Gr)(l:Lo)(h:(g.map (·.1)).Nodup):((yc g l).map (·.1)).Nodup:=by
 unfold yc;split
 ·rw[Va,show ((λp:Int × List Lo=>p.1) ∘ λp=>if p.1=l.w then (p.1,p.2++[l])else p)=λp=>p.1 from funext λp=>by simp only[Function.comp];split<;>rfl];exact h
 ·next c=>
  have:=CK (by simpa using c);rw[Rb,Od];exact⟨h,by simp,λa d b f e=>by
   obtain⟨p,i,rfl⟩:=va.mp d;have:b=l.w:=by simpa using f
   exact(CK (by simpa using c) p i) (e.trans this)⟩
theorem aF{d:Type}{i:Type}{f:d->i}:∀ {g:List d},(g.map f).Nodup->∀ p∈g,∀ b∈g,f p=f b->p=b
 |[],_,p,h,_,_,_=>by cases h
 |x::g,hd,p,c,b,a,e=>by
  rw[Ga,ze]at hd;rcases Ma.mp c with rfl|c<;>rcases Ma.mp a with rfl|a
  ·rfl
  ·exact absurd (va.mpr ⟨b,a,e.symm⟩) hd.1
  ·exact absurd (va.mpr ⟨p,by assumption,e⟩) hd.1
  ·exact aF hd.2 p c b a e
def ll(g:Gn):Kv:=g.map λp=>(Ϟ p.1,U p.2.1)
structure LW(σ:lb)(g:Gn)(k:Nat)(τ:lb):Prop where
 j:∃ j,τ=σ++ϑ (ll g)::j
 r:∀ p∈g,σ.length<p.2.1/\τ[p.2.1]?=some (ϔ (p.2.2.map Lo.D))/\p.2.2.length<=k
 w:(g.map (·.1)).Nodup
 n:(g.map (·.2.1)).Nodup
 l:g.length<=k
def GR{xs:List D}(h:a[n]?=some (ϔ xs))(b:xs.length<1000):Vm (U n) [d] a=Y ϛ (a.set n (ϔ (xs++[d]))):=by
 unfold Vm gh;simp only[h];rw[ma (show _<Ni from b)]
def M9{T:lb}(h:LW σ g k T)(hk:k<=100)(l:Lo)(R rd:Option D):∃ B,XM [R,some (U σ.length),rd,some (Z l.w),some l.D] T=Y (Ϛ [R,some (U σ.length),rd,some (Z l.w),some l.D]) B/\LW σ (pA g T.length l) (k+1) B:=by
 obtain⟨⟨j,rfl⟩,q,H,G,hl⟩:=h;have ό:∀ (f:Kv) (j:lb),(σ++ϑ f::j)[σ.length]?=some (ϑ f):=λf j=>by simp
 have V:∀ m,cA qy m (U σ.length) (σ++ϑ (ll g)::j)=(m (σ++ϑ (ll g)::j)).bind (qy (U σ.length)):=λm=>by
  have:Ik (σ++ϑ (ll g)::j) (U σ.length)=some (ll g):=by unfold Ik;simp
  unfold cA;rw[this];rfl
 have ώ:(σ++ϑ (ll g)::j)++[ϔ []]=σ++ϑ (ll g)::(j++[ϔ []]):=by simp
 have F:(σ++ϑ (ll g)::j).length=σ.length+1+j.length:=by simp;omega
 have lt:∀ p∈g,p.2.1<σ.length+1+j.length:=λp c=>by
  have:=(aa.mp (q p c).2.1).1;omega
 have i:∀ p∈g,(σ++ϑ (ll g)::(j++[ϔ []]))[p.2.1]?=some (ϔ (p.2.2.map Lo.D)):=λp c=>by
  rw[<-ώ,zb (by rw[F];exact lt p c)];exact(q p c).2.1
 have y:∀ (f t:Kv) (j:lb),(σ++ϑ f::j).set σ.length (ϑ t)=σ++ϑ t::j:=λf t j=>by
  rw[Te _ _ (Ea _),uG];rfl
 have A:∀ (f:Kv) (j:lb) (n:Nat) (o:Ob),σ.length<n->∃ I,(σ++ϑ f::j).set n o=σ++ϑ f::I:=λf j n o G=>by
  rw[Te _ _ (by omega),show n - σ.length=(n - σ.length - 1)+1 by omega,Yf];exact⟨_,rfl⟩
 by_cases u:has g l.w=true
 ·obtain⟨p,c,C⟩:=ysq u;have L:jl (ll g) (Ϟ l.w)=some (U p.2.1):=by
   unfold jl ll;cases e:(g.map λp=>((Ϟ p.1:Nd),U p.2.1)).find? (λf=>decide (f.1=Ϟ l.w))with
   |none=>exact absurd (om.mp e _ (va.mpr ⟨p,c,rfl⟩)) (by simp[C])
   |some z=>
    obtain⟨S,s,rfl⟩:=va.mp (Lg e);have ϋ:=Up e;have ϊ:S.1=l.w:=by simpa using ϋ
    rw[aF H S s p c (ϊ.trans C.symm)];rfl
  have M:qy (U σ.length) [Z l.w,U (σ.length+1+j.length)] (σ++ϑ (ll g)::(j++[ϔ []]))=Y (U p.2.1) (σ++ϑ (ll g)::(j++[ϔ []])):=by
   unfold qy;simp only[Xm,ό];rw[ma (by unfold Ni ll;simp;omega)];simp[L]
  have N:∀ m,Vv Vm m (U p.2.1) (σ++ϑ (ll g)::(j++[ϔ []]))=(m (σ++ϑ (ll g)::(j++[ϔ []]))).bind (Vm (U p.2.1)):=λm=>jA (xs:=p.2.2.map Lo.D) (by unfold xh gh;simp[i p c]);have E:=GR (d:=l.D) (i p c) (by have:=(q p c).2.2;simp;omega);obtain⟨I,K⟩:=A (ll g) (j++[ϔ []]) p.2.1 (ϔ (p.2.2.map Lo.D++[l.D])) (q p c).1;rw[K]at E;have J:pA g (σ++ϑ (ll g)::j).length l=g.map (λp=>if p.1=l.w then (p.1,p.2.1,p.2.2++[l])else p):=by unfold pA;rw[ma u]
  have em:ll (g.map (λp=>if p.1=l.w then (p.1,p.2.1,p.2.2++[l])else p))=ll g:=by
   unfold ll;rw[Va];exact Kb λp _=>by simp only[Function.comp];split<;>rfl
  refine⟨σ++ϑ (ll g)::I,?_,?_⟩
  ·simp[V,M,N,E,F,ώ]
  ·rw[J];refine⟨⟨I,by rw[em]⟩,λS s=>?_,?_,?_,by rw[Sa];omega⟩
   ·obtain⟨x,r,rfl⟩:=va.mp s;by_cases ex:x.1=l.w
    ·have:x=p:=aF H x r p c (ex.trans C.symm);subst this;rw[ma ex];refine⟨(q x r).1,?_,by have:=(q x r).2.2;simp;omega⟩;rw[<-K,pc (aa.mp (i x r)).1];simp
    ·rw[ra ex];refine⟨(q x r).1,?_,by have:=(q x r).2.2;omega⟩;rw[<-K,Kh λz=>ex (by rw[<-C,aF G p c x r z]),i x r]
   ·rw[Va,show ((λp:Int × Nat × List Lo=>p.1) ∘ λp=>if p.1=l.w then (p.1,p.2.1,p.2.2++[l])else p)=λp=>p.1 from funext λp=>by simp only[Function.comp];split<;>rfl];exact H
   ·rw[Va,show ((λp:Int × Nat × List Lo=>p.2.1) ∘ λp=>if p.1=l.w then (p.1,p.2.1,p.2.2++[l])else p)=λp=>p.2.1 from funext λp=>by simp only[Function.comp];split<;>rfl];exact G
 ·have u:has g l.w=false:=by simpa using u
  have X:=CK u;have W:∀ p∈ll g,p.1≠ Ϟ l.w:=λp c e=>by
   obtain⟨x,r,rfl⟩:=va.mp c;exact X x r (by simpa using e)
  have L:=oU W;have M:qy (U σ.length) [Z l.w,U (σ.length+1+j.length)] (σ++ϑ (ll g)::(j++[ϔ []]))=Y (U (σ.length+1+j.length)) (σ++ϑ (ll (g++[(l.w,σ.length+1+j.length,[l])]))::(j++[ϔ []])):=by
   unfold qy;simp only[Xm,ό];rw[ma (by unfold Ni ll;simp;omega)];simp only[L,y];rw[lB _ W];unfold ll;rw[Rb];rfl
  have v:∀ f:Kv,(σ++ϑ f::(j++[ϔ []]))[σ.length+1+j.length]?=some (ϔ []):=λf=>by
   rw[Bd (by omega),show σ.length+1+j.length - σ.length=j.length+1 by omega];simp
  have N:∀ (f:Kv) m,Vv Vm m (U (σ.length+1+j.length)) (σ++ϑ f::(j++[ϔ []]))=(m (σ++ϑ f::(j++[ϔ []]))).bind (Vm (U (σ.length+1+j.length))):=λf m=>jA (xs:=[]) (by unfold xh gh;simp[v]);have E:∀ f:Kv,Vm (U (σ.length+1+j.length)) [l.D] (σ++ϑ f::(j++[ϔ []]))=Y ϛ (σ++ϑ f::(j++[ϔ [l.D]])):=λf=>by
   rw[GR (v f) (by simp),Te _ _ (by omega),show σ.length+1+j.length - σ.length=j.length+1 by omega,Yf,Te _ _ (by omega),uG];rfl
  have J:pA g (σ++ϑ (ll g)::j).length l=g++[(l.w,σ.length+1+j.length,[l])]:=by unfold pA;rw[u,F];rfl
  refine⟨σ++ϑ (ll (g++[(l.w,σ.length+1+j.length,[l])]))::(j++[ϔ [l.D]]),?_,?_⟩
  ·simp[V,M,N,E,F,ώ]
  ·rw[J];refine⟨⟨_,rfl⟩,λp c=>?_,?_,?_,by simp;omega⟩
   ·rcases Wb.mp c with c|c
    ·refine⟨(q p c).1,?_,by have:=(q p c).2.2;omega⟩;have a:=(q p c).1;have b:=lt p c;have:=i p c;rw[Bd (by omega),show p.2.1 - σ.length=(p.2.1 - σ.length - 1)+1 by omega,List.getElem?_cons_succ]at this ⊢;rw[zb (by omega)]at this ⊢;exact this
    ·have:p=(l.w,σ.length+1+j.length,[l]):=by simpa using c
     subst this;refine⟨by dsimp only;omega,?_,by simp⟩;dsimp only;rw[Bd (by omega),show σ.length+1+j.length - σ.length=j.length+1 by omega];simp
   ·rw[Rb,Od];exact⟨H,by simp,λa P b Q e=>by
     obtain⟨p,c,rfl⟩:=va.mp P;have:b=l.w:=by simpa using Q
     exact X p c (e.trans this)⟩
   ·rw[Rb,Od];exact⟨G,by simp,λa P b Q e=>by
     obtain⟨p,c,rfl⟩:=va.mp P;have:b=σ.length+1+j.length:=by simpa using Q
     have:=lt p c;omega⟩
def Js(a:List Rd):Gr:=(a.flatMap Rd.x).foldl yc []
def Μ(T:rs.length<=3)(P:∀ r∈rs,r.x.length<=9)(a:lb):Cf [O (rs.map Rd.D)] a=Y (gD (Js rs)) a:=by
 obtain⟨J,B,z,G,q,s,g,rfl,c,m⟩:=WB (xs:=rs.map Rd.D) (tg:=We 2) (ρ:=[some (O (rs.map Rd.D)),some (U a.length),none,none,none]) (σ:=a++[ϑ []]) (λi ρ t=>∃ G q s g,ρ=[some (O (rs.map Rd.D)),some (U a.length),G,q,s]/\LW a g (9 * i) t/\out g=Js (rs.take i)) (by simp;omega) (ϒ rfl) (λi d ρ t L C=>by
  obtain⟨G,q,s,g,rfl,c,m⟩:=C;rw[Ta]at L;obtain⟨r,e,rfl⟩:=Ra.mp L;have R:=P r (La e);have S:=(aa.mp e).1;have M:∀ a,ib r.D (Z 1) a=Y (Ϫ ((Xk r.x).map (·.1)) ((Xk r.x).map (·.2))) a:=λa=>by unfold Rd.D;simp
  obtain⟨J,B,z,H,I,Q,rfl,b,u⟩:=iO (f:=Ja ib (da 2) (eC (Z 1))) (A:=Xk r.x) (ρ:=[some (O (rs.map Rd.D)),some (U a.length),some r.D,q,s]) (σ:=t) (tg:=Jq 2 (ej (We 3) (ej (We 4) mr))) (body:=XM) (by
    simp[M]) (by unfold Xk;rw[Sa];omega) (λk ρ t=>∃ H I g,ρ=[some (O (rs.map Rd.D)),some (U a.length),some r.D,H,I]/\LW a g (9 * i+k) t/\out g=((rs.take i).flatMap Rd.x++r.x.take k).foldl yc []) (λk ό v ρ t F C=>by
   obtain⟨H,I,g,rfl,c,m⟩:=C;unfold Xk at F;rw[Ta]at F;obtain⟨l,y,ώ⟩:=Ra.mp F;obtain⟨rfl,rfl⟩:=dt ώ;have:=(aa.mp y).1;obtain⟨K,N,E⟩:=M9 c (by omega) l (some (O (rs.map Rd.D))) (some r.D);exact⟨_,_,K,rfl,N,_,_,_,rfl,E,by rw[zZ,m,jz y,<-Xi];simp only[wx];rfl⟩) ⟨q,s,g,rfl,c,by rw[m];simp[Js]⟩
  rw[show (Xk r.x).length=r.x.length by unfold Xk;simp,gd]at u;rw[show (Xk r.x).length=r.x.length by unfold Xk;simp]at b;refine⟨[some (O (rs.map Rd.D)),some (U a.length),some r.D,q,s],_,B,rfl,z,_,_,_,_,rfl,⟨b.j,λp o=>⟨(b.r p o).1,(b.r p o).2.1,by have:=(b.r p o).2.2;omega⟩,b.w,b.n,by have:=b.l;omega⟩,?_⟩;rw[u,jz e];unfold Js;simp) ⟨none,none,none,[],rfl,⟨⟨[],rfl⟩,λp h=>(by cases h),by simp,by simp,by simp⟩,rfl⟩
 rw[Sa,gd]at m;obtain⟨j,rfl⟩:=c.j;have fz:mi a (Y (U a.length) (a++ϑ (ll g)::j))=_:=é (σ:=a) (j:=j) g (λp o=>⟨Zf (c.r p o).1,(c.r p o).2.1⟩);rw[show g.map (λp=>(p.1,p.2.2))=Js rs from m]at fz;have z:Zn (We 2) RQ (rs.map Rd.D) [some (O (rs.map Rd.D)),some (U a.length),none,none,none] (a++[ϑ []])=_:=z;unfold Cf vP;simp[z,fz,-EA]
noncomputable def Uw(l:Lo):Bool:=l.k == "open"
def oD:Option Int->D
 |none=>ϛ
 |some i=>Z i
theorem LL(F:Option Int):cl (oD F)=true:=by cases F<;>rfl
def oq(a:List Lo):List (Option Int):=(a.filter Uw).map λl=>some l.d
def cm(F:Option Int)(e:Int)(l:Lo):Bool:=if Uw l then (match F with
 |none=>true
 |some f=>decide (f > l.d))else (l.k == "hangs") && (match F with
 |none=>false
 |some f=>decide (f - 1+e<l.d))
def ar(a:List Lo)(F:Option Int)(e:Int):Int:=((a.filter (cm F e)).map Lo.v).sum
def mf(a:List Lo)(e:Int):Option Int:=cu (λx=>ar a x e) (oq a) none
section
variable(l:Lo)(σ:lb)
def l0:ib l.D (Z 0) σ=Y (ύ l.k) σ:=by unfold Lo.D;simp
def l1:ib l.D (Z 1) σ=Y (Z l.v) σ:=by unfold Lo.D;simp
def l2:ib l.D (Z 2) σ=Y (Z l.d) σ:=by unfold Lo.D;simp
end
section
variable{ls:List Lo}(hl:ls.length<=100)(e:Int)(σ:lb)
def M0(l:Lo)(F:Option Int):ue [l.D,oD F,Z e] σ=Y (ϐ (cm F e l)) σ:=by
 have b:=l0 l;have c:=l2 l;have o:(l.k == ("open"))=Uw l:=rfl;unfold ue gQ cm;generalize Uw l=B,l.D=L at *;generalize a:(l.k == ("hangs"))=H at *;cases F with
 |none=>cases B<;>cases H<;>simp[b,o,a,oD]
 |some f=>
  cases B<;>cases H<;>simp[b,c,o,a,oD]
include hl
theorem zro:uh [O (ls.map Lo.D)] σ=Y (O ((none::oq ls).map oD)) σ:=by
 have l:=DF (src:=Bj (da 0)) (ρ:=[some (O (ls.map Lo.D))]) (σ:=σ) (s:=.seq (ls.map Lo.D)) (ix:=[]) (fi:=eT (Ja Uf (Ja ib (da 0) (eC (Z 0))) (eC (ύ "open")))) (fe:=Ja ib (da 0) (eC (Z 2))) Lo.D (λl=>Z l.d) Uw (by simp) (λi _=>Dc some (au ls _ i)) (by omega) (λl _ j=>by
  have e:=l0 l (σ++j);have f:=l2 l (σ++j);have o:(l.k == ("open"))=Uw l:=rfl;exact⟨by simp[e,o],λ_=>by simp[f]⟩) (λ_ _ _=>rfl)
 rw[show (ls.filter Uw).map (λl=>Z l.d)=(oq ls).map oD by unfold oq;rw[Va];rfl]at l;have m:(oq ls).length<=100:=by unfold oq;rw[Sa];exact Fb (ng ..) hl
 have a:∀ σ,Sh (O [ϛ]) (O ((oq ls).map oD)) σ=Y (O ((none::oq ls).map oD)) σ:=λσ=>by rw[HD (by unfold Ni;simp;omega)];rfl
 have b:fh ((none::oq ls).map oD)=true:=Mr λd c=>by obtain⟨t,_,rfl⟩:=va.mp c;exact LL t
 unfold uh JV;generalize ls.map Lo.D=L,(oq ls).map oD=g,(none::oq ls).map oD=h at *;simp[l,a,b,-vt]
theorem dS(F:Option Int):Fe [O (ls.map Lo.D),oD F,Z e] σ=Y (Z (ar ls F e)) σ:=by
 have l:=DF (src:=Bj (da 0)) (ρ:=[some (O (ls.map Lo.D)),some (oD F),some (Z e)]) (σ:=σ) (s:=.seq (ls.map Lo.D)) (ix:=[1,2]) (fi:=eT (Ld 3 ue [] (qa (da 0) (qa (da 2) (qa (da 3) Pa))))) (fe:=Ja ib (da 0) (eC (Z 1))) Lo.D (λl=>Z l.v) (cm F e) (by simp) (λi _=>Dc some (au ls _ i)) (by omega) (λl _ j=>by
  have c:=M0 e (σ++j) l F;have a:=l1 l (σ++j);exact⟨by simp[c],λ_=>by simp[a]⟩) (λ_ _ _=>rfl)
 rw[show (ls.filter (cm F e)).map (λl=>Z l.v)=((ls.filter (cm F e)).map Lo.v).map Z by rw[Va];rfl]at l;have s:=GJ ((ls.filter (cm F e)).map Lo.v) σ;unfold Fe nV ar;generalize oD F=b,ls.map Lo.D=L,((ls.filter (cm F e)).map Lo.v).map Z=d at *;simp[l,s,-vt]
theorem V3:yg [O (ls.map Lo.D),Z e] σ=Y (oD (mf ls e)) σ:=by
 have b:=zro hl;have m:=PV (f:=oD) (key:=λx=>ar ls x e) (x:=none) (xs:=oq ls) (fe:=Ld 3 Fe [] (qa (da 1) (qa (da 0) (qa (da 2) Pa)))) (rest:=[some (O (ls.map Lo.D)),some (Z e)]) (σ:=σ) (λx _=>by
  have s1:=λσ=>dS hl e σ x;simp[s1])
 rw[show cu (λx=>ar ls x e) (oq ls) none=mf ls e from rfl]at m;have c:=LL (mf ls e);unfold yg uX;generalize (none::oq ls).map oD=d,O (ls.map Lo.D)=g,oD (mf ls e)=a at *;simp[b,m,c]
end
def Ň(a:List Lo)(e:Int)(h:x∈none::oq a):ar a (mf a e) e<=ar a x e:=xI (λx=>ar a x e) (oq a) none x h
def r0(r:Rd)(a:lb):ib r.D (Z 0) a=Y (Z r.f) a:=by unfold Rd.D;simp
def mv(g:Gr):Kv:=g.map λp=>(Ϟ p.1,O (p.2.map Lo.D))
theorem qW(g:Gr):gD g=Ϫ ((mv g).map (·.1)) ((mv g).map (·.2)):=by
 unfold gD mv;simp only[Va];rfl
def FK(e:Int)(g:Gr):Kv:=g.map λp=>(Ϟ p.1,oD (mf p.2 e))
def TU(e:Int)(g:Gr):fh ((FK e g).map (·.2))=true:=Mr λd a=>by
 unfold FK at a;rw[Va]at a;obtain⟨p,_,rfl⟩:=va.mp a;exact LL _
structure JM(g:Gr):Prop where
 d:(g.map (·.1)).Nodup
 l:g.length<=100
 x:∀ p∈g,p.2.length<=100
theorem k9(f:(g.map (·.1)).Nodup):∀ p∈g,jl (FK e g) (Ϟ p.1)=some (oD (mf p.2 e)):=λp b=>by
 unfold jl FK;cases h:(g.map λp=>((Ϟ p.1:Nd),oD (mf p.2 e))).find? (λi=>decide (i.1=Ϟ p.1))with
 |none=>exact absurd (om.mp h _ (va.mpr ⟨p,b,rfl⟩)) (by simp)
 |some z=>
  obtain⟨c,a,rfl⟩:=va.mp (Lg h);have d:c.1=p.1:=by simpa using Up h
  rw[aF f c a p b d];rfl
def gs(e:Int)(g:Gr):Int:=(g.map λp=>ar p.2 (mf p.2 e) e).sum
def val(e:Int)(rs:List Rd):Int:=(rs.map Rd.f).sum+gs e (Js rs)
def Z3{rs:List Rd}(R:rs.length<=3)(u:JM g)(e:Int)(σ:lb)(F:D)(J:∀ p∈g,vm F (Z p.1) σ=Y (oD (mf p.2 e)) σ):Oi [O (rs.map Rd.D),gD g,F,Z e] σ=Y (Z ((rs.map Rd.f).sum+gs e g)) σ:=by
 have l:=Jx (src:=Bj (da 0)) (ρ:=[some (O (rs.map Rd.D)),some (gD g),some F,some (Z e),none,none,none]) (σ:=σ) (s:=.seq (rs.map Rd.D)) (ix:=[]) (fe:=Ja ib (da 0) (eC (Z 0))) Rd.D (λr=>Z r.f) (by simp) (λi _=>Dc some (au rs _ i)) (by omega) (λr _ j=>by
  have:=r0 r (σ++j);simp[this]) (λ_ _=>rfl)
 rw[show rs.map (λr=>Z r.f)=(rs.map Rd.f).map Z by rw[Va];rfl]at l;have s1:=GJ (rs.map Rd.f) σ;have M:∀ f h m n o c d (x:D) (σ:lb),wz (λa b=>a+b) 4 f [h,m,n,o,some x,c,d] σ=cn [h,m,n,o,some x,c,d] (CF (λa b=>a+b) 4 [h,m,n,o,some x,c,d] x) (f [h,m,n,o,some x,c,d] σ):=λ_ _ _ _ _ _ _ _ _=>kR rfl;obtain⟨ώ,P,z,c,d,rfl,rfl⟩:=iO (f:=da 1) (A:=mv g) (ρ:=[some (O (rs.map Rd.D)),some (gD g),some F,some (Z e),some (Z (rs.map Rd.f).sum),none,none]) (σ:=σ) (tg:=Jq 2 (ej (We 5) (ej (We 6) mr))) (body:=bQ) (by rw[<-qW];rfl) (by unfold mv;rw[Sa];have:=u.l;omega) (λi ρ q=>∃ c d,ρ=[some (O (rs.map Rd.D)),some (gD g),some F,some (Z e),some (Z ((rs.map Rd.f).sum+gs e (g.take i))),c,d]/\q=σ) (λi k v ρ q t K=>by
  obtain⟨c,d,rfl,rfl⟩:=K;unfold mv at t;rw[Ta]at t;obtain⟨p,y,H⟩:=Ra.mp t;obtain⟨rfl,rfl⟩:=dt H;have w:=La y;have sb:=dS (u.x p w) e q (mf p.2 e);have L:=J p w;have I:(rs.map Rd.f).sum+gs e (g.take (i+1))=(rs.map Rd.f).sum+gs e (g.take i)+ar p.2 (mf p.2 e) e:=by rw[jz y];unfold gs;simp;omega
  refine⟨[some (O (rs.map Rd.D)),some (gD g),some F,some (Z e),some (Z ((rs.map Rd.f).sum+gs e (g.take i))),some (Z p.1),some (O (p.2.map Lo.D))],[some (O (rs.map Rd.D)),some (gD g),some F,some (Z e),some (Z ((rs.map Rd.f).sum+gs e (g.take (i+1)))),some (Z p.1),some (O (p.2.map Lo.D))],q,rfl,?_,some (Z p.1),some (O (p.2.map Lo.D)),rfl,rfl⟩;rw[I];generalize rs.map Rd.D=G,gD g=E,p.2.map Lo.D=Q,(rs.map Rd.f).sum+gs e (g.take i)=N,ar p.2 (mf p.2 e) e=B,oD (mf p.2 e)=C at *;simp[M,sb,L]) ⟨none,none,by simp[gs],rfl⟩
 rw[show (mv g).length=g.length by unfold mv;simp,gd]at z;unfold Oi oR;generalize rs.map Rd.D=G,gD g=E,(rs.map Rd.f).map Z=C at *;simp[l,s1,z,-vt,-EA]
def Hs(e:Int)(c:List Rx):D:=Ϗ [Z (val e (c.map (·.1))),cD c,Ϫ ((FK e (Js (c.map (·.1)))).map (·.1)) ((FK e (Js (c.map (·.1)))).map (·.2))]
def fV(e:Int)(c:List Rx):cl (Hs e c)=true:=by
 have:=BI c;unfold Hs;generalize cD c=X at *;simp[cl,TU,this]
def t5(e:Int)(q:c.length<=3)(X:∀ p∈c,p.1.x.length<=9)(o:JM (Js (c.map (·.1))))(a:lb):jf [O (c.map λp=>p.1.D),cD c,Z e] a=Y (Hs e c) a:=by
 have Q:(c.map λp=>p.1.D)=(c.map (·.1)).map Rd.D:=by rw[Va];rfl
 have l:=Μ (rs:=c.map (·.1)) (by simpa using q) (λr W=>by obtain⟨p,b,rfl⟩:=va.mp W;exact X p b);rw[Q];unfold Hs val;generalize y:c.map (·.1)=rs at *;have q:rs.length<=3:=by rw[<-y];simpa using q
 generalize T:Js rs=g at *;obtain⟨a0,a1,G,B,C,rfl,rfl⟩:=iO (f:=da 3) (A:=mv g) (ρ:=[some (O (rs.map Rd.D)),some (cD c),some (Z e),some (gD g),some (U a.length),none,none]) (σ:=a++[ϑ []]) (tg:=Jq 2 (ej (We 5) (ej (We 6) mr))) (body:=bW) (by rw[<-qW];rfl) (by unfold mv;rw[Sa];have:=o.l;omega) (λi ρ I=>∃ B C,ρ=[some (O (rs.map Rd.D)),some (cD c),some (Z e),some (gD g),some (U a.length),B,C]/\I=a++[ϑ (FK e (g.take i))]) (λi k v ρ I t S=>by
  obtain⟨B,C,rfl,rfl⟩:=S;unfold mv at t;rw[Ta]at t;obtain⟨p,b,P⟩:=Ra.mp t;obtain⟨rfl,rfl⟩:=dt P;have V:=La b;have ϋ:=V3 (o.x p V) e;have H:=λρ=>Xx (ρ:=ρ) (σ:=a++[ϑ (FK e (g.take i))]) (d:=oD (mf p.2 e)) (n:=a.length) (w:=p.1) (kvs:=FK e (g.take i)) (by simp) (by unfold FK;rw[Sa,Mf];have:=o.l;omega);have ϊ:∀ z∈FK e (g.take i),z.1≠ Ϟ p.1:=λz F s=>by
   unfold FK at F;obtain⟨m,u,rfl⟩:=va.mp F;have s:m.1=p.1:=by simpa using s
   have L:=(wu i g).symm;obtain⟨ό,ώ⟩:=aa.mp b;have M:g.drop i=p::g.drop (i+1):=by rw[<-ώ];exact Ig ό
   have E:=o.d;rw[L,M,Rb,Ga,Od]at E;exact E.2.2 _ (Gd u) _ Ha s
  rw[YB,lB _ ϊ,show FK e (g.take i)++[((Ϟ p.1:Nd),oD (mf p.2 e))]=FK e (g.take (i+1)) by rw[jz b];unfold FK;rw[Rb];rfl]at H;refine⟨[some (O (rs.map Rd.D)),some (cD c),some (Z e),some (gD g),some (U a.length),some (Z p.1),some (O (p.2.map Lo.D))],[some (O (rs.map Rd.D)),some (cD c),some (Z e),some (gD g),some (U a.length),some (Z p.1),some (O (p.2.map Lo.D))],_,rfl,?_,some (Z p.1),some (O (p.2.map Lo.D)),rfl,rfl⟩;generalize rs.map Rd.D=K,gD g=J,p.2.map Lo.D=PD,cD c=CC,oD (mf p.2 e)=FD at *;simp[ϋ,H]) ⟨none,none,rfl,rfl⟩
 rw[show (mv g).length=g.length by unfold mv;simp,gd]at G;have gt:∀ p∈g,vm (U a.length) (Z p.1) (a++[ϑ (FK e g)])=Y (oD (mf p.2 e)) (a++[ϑ (FK e g)]):=λp b=>by
  have h:=k9 (e:=e) o.d p b;unfold vm Ik;simp[Xm,h]
 have sm:=Z3 q o e (a++[ϑ (FK e g)]) (U a.length) gt;have fz:mi a (Y (Ϗ [Z ((rs.map Rd.f).sum+gs e g),cD c,U a.length]) (a++[ϑ (FK e g)]))=Y (Ϗ [Z ((rs.map Rd.f).sum+gs e g),cD c,Ϫ ((FK e g).map (·.1)) ((FK e g).map (·.2))]) a:=by
  unfold mi;dsimp only;rw[ma (by simp)];have h:=CT (σ:=a) (kvs:=FK e g) (j:=[]) (m:=4) (TU ..);have R:=Az (k:=a.length) (σ:=a++[ϑ (FK e g)]) (m:=5) (BI c);have:fz a.length (a++[ϑ (FK e g)]) 6 (Ϗ [Z ((rs.map Rd.f).sum+gs e g),cD c,U a.length])=some (Ϗ [Z ((rs.map Rd.f).sum+gs e g),cD c,Ϫ ((FK e g).map (·.1)) ((FK e g).map (·.2))]):=by
   unfold fz;rw[ra (by simp)];dsimp only;unfold Io;unfold Io;unfold Io;rw[h,R];rfl
  rw[this]
 unfold jf pQ;generalize rs.map Rd.D=K,gD g=J,cD c=CC,(rs.map Rd.f).sum+gs e g=N at *;simp[l,G,sm,fz,-EA]
theorem YX:∀ (b:List Lo) {g:Gr} {k:Nat},(g.map (·.1)).Nodup->g.length<=k->(∀ p∈g,p.2.length<=k)->((b.foldl yc g).map (·.1)).Nodup/\(b.foldl yc g).length<=k+b.length/\∀ p∈b.foldl yc g,p.2.length<=k+b.length
 |[],g,k,e,f,d=>⟨e,f,d⟩
 |l::b,g,k,e,f,d=>by
  have a:=YX b (g:=yc g l) (k:=k+1) (jT g l e) (by unfold yc;split<;>simp<;>omega) (λp c=>by
   unfold yc at c;split at c
   ·obtain⟨x,h,rfl⟩:=va.mp c;have:=d x h;split
    ·simp;omega
    ·omega
   ·rcases Wb.mp c with c|c
    ·have:=d p c;omega
    ·have:p=(l.w,[l]):=by simpa using c
     subst this;simp)
  rw[ub,show k+(b.length+1)=k+1+b.length by omega];exact a
theorem dU:∀ {a:List Rd},(∀ r∈a,r.x.length<=9)->(a.flatMap Rd.x).length<=9 * a.length
 |[],_=>by simp
 |r::a,h=>by
  have c:=h r Ha;have d:=dU λx b=>h x (Aa _ b);rw[oh,Xc,ub];omega
def þ(f:c.length<=3)(e:∀ r∈c,r.x.length<=9):JM (Js c):=by
 have a:=YX (c.flatMap Rd.x) (g:=[]) (k:=0) (by simp) (by simp) (λp h=>by cases h);have b:=dU e;exact⟨a.1,by have:=a.2.1;unfold Js;omega,λp d=>by have:=a.2.2 p d;omega⟩
theorem xK:∀ {a:List (List Rd)} {c:List Rx},Pk a c->∀ p∈c,∃ d∈a,p.1∈d
 |[],[],_,p,h=>by cases h
 |d::a,x::c,h,p,b=>by
  rcases Ma.mp b with rfl|b
  ·exact⟨d,Ha,La h.1⟩
  ·obtain⟨r,e,f⟩:=xK h.2 p b;exact⟨r,Aa _ e,f⟩
 |[],_::_,h,_,_=>h.elim
 |_::_,[],h,_,_=>h.elim
structure zD(RR:List (List Rd)):Prop where
 n:RR.length<=3
 f:∀ rs∈RR,0<rs.length/\rs.length<=2
 x:∀ rs∈RR,∀ r∈rs,r.x.length<=9
def sW(h:Gs ps)(e:Int)(K:List Int):zD (yk e K ps):=by
 refine⟨by unfold yk;rw[Sa];exact h.n,λrs b=>?_,λrs b r c=>?_⟩
 ·obtain⟨p,a,rfl⟩:=va.mp b;rw[Sa];exact h.f p a
 ·obtain⟨p,a,rfl⟩:=va.mp b;obtain⟨s,g,rfl⟩:=va.mp c;unfold rd;rw[Sa];exact(h.d p a s g).2
def vc(e:Int)(c:List Rx):Int:=val e (c.map (·.1))
def Px(e:Int)(a:List (List Rd)):List Rx:=match Wl a [[]]with
 |[]=>[]
 |c::cs=>cu (vc e) cs c
def Ju(e:Int)(a:List (List Rd)):Int:=vc e (Px e a)
def zW(h:c∈Wl b [[]]):Pk b c:=by
 obtain⟨a,d,r,rfl,e⟩:=PK b h;have:a=[]:=by simpa using d
 subst this;exact e
def BX(h:zD a):∃ c b,Wl a [[]]=c::b:=by
 cases e:Wl a [[]]with
 |nil=>exact absurd e (iQ a (λrs d=>(h.f rs d).1) (by simp))
 |cons c b=>exact⟨c,b,rfl⟩
def ŏ(h:zD a)(e:Int):Px e a∈Wl a [[]]:=by
 obtain⟨c,d,b⟩:=BX h;unfold Px;rw[b];exact eH _ _ _
def bZ(e:Int)(a:c∈Wl b [[]]):Ju e b<=vc e c:=by
 unfold Ju Px;cases d:Wl b [[]]with
 |nil=>rw[d]at a;cases a
 |cons x xs=>
  rw[d]at a;exact xI (vc e) xs x c a
def t9(h:Gs ps)(e:Int)(K:List Int)(a:lb):Mh [Zk e K (ps.map qg)] a=Y (Z (Ju e (yk e K ps))) a:=by
 have I:=JZ h e K;have d:=sW h e K;have z:∀ a,Mc [8,9] "every" (Zk e K (ps.map qg)) a=Y (Z e) a:=λa=>Hq (uF rfl) rfl rfl;generalize yk e K ps=b,Zk e K (ps.map qg)=V at *;have c:=zjs d.n (λrs l=>(d.f rs l).2);have k:=HK b [[]] (λrs l=>(d.f rs l).2);have k:(Wl b [[]]).length<=8:=Fb k (by rw[ub,Yg,sG,oK];exact NS d.n);have q:∀ a,qj (dm (Fo (Bj (Ld 1 kf [] (qa (da 1) Pa)))) [1,0] (We 0) Cp (Ld 3 jf [] (qa (Ld 2 Yd [] (qa (da 2) (qa (da 0) Pa))) (qa (da 0) (qa (Dd (Mc [8,9] "every") (da 3)) Pa))))) [some V,some (RL b),none] a=Y (O ((Wl b [[]]).map (Hs e))) a:=λa=>by
  refine Jx (s:=.seq ((Wl b [[]]).map cD)) cD (Hs e) ?_ (λi _=>Dc some (au _ _ i)) (by omega) (λp m j=>?_) (λp _=>fV e p)
  ·generalize RL b=R,(Wl b [[]]).map cD=J at *;simp[c]
  ·have u:=zW m;have P:=u.len;have o:∀ x∈p,x.1.x.length<=9:=λx o=>by obtain⟨rs,A,B⟩:=xK u x o;exact d.x rs A _ B
   have v:=û d.n u;have G:=t5 e (c:=p) (by have:=d.n;omega) o (þ (by have:=d.n;simp;omega) λr l=>by obtain⟨x,E,rfl⟩:=va.mp l;exact o x E);generalize cD p=L,RL b=R,(p.map λp=>p.1.D)=M,Hs e p=g at *;simp[v,G,z]
 have t:∀ a,RA (Ja ib (da 0) (eC (Z 0))) [] [O ((Wl b [[]]).map (Hs e))] a=Y (Hs e (Px e b)) a:=λa=>by
  obtain⟨p,w,m⟩:=BX d;rw[show Px e b=cu (vc e) w p by unfold Px;rw[m],m];refine PV (f:=Hs e) λy _=>?_;have:∀ a,ib (Hs e y) (Z 0) a=Y (Z (vc e y)) a:=λa=>by unfold Hs vc;simp
  generalize Hs e y=ώ at *;simp[this]
 have C:=fV e (Px e b);have F:∀ a,ib (Hs e (Px e b)) (Z 0) a=Y (Z (Ju e b)) a:=λa=>by unfold Hs Ju vc;simp
 generalize Hs e (Px e b)=g,(Wl b [[]]).map (Hs e)=N at *;have H:∀ a,Vj [V] a=Y g a:=λa=>by
  have q:=q a;have t:=t a;unfold Vj LV;generalize RL b=R at *;simp[I,q,t,C,-vt]
 unfold Mh uQ;simp[H,F]
def Sg(c:Lo->Int)(g:Gr):Int:=(g.map λp=>(p.2.map c).sum).sum
def qB(c:Lo->Int)(p:Int × List Lo)(g:Gr):Sg c (p::g)=(p.2.map c).sum+Sg c g:=by simp[Sg]
theorem mS(c:Lo->Int)(l:Lo):∀ {g:Gr},(g.map (·.1)).Nodup->Sg c (yc g l)=Sg c g+c l
 |[],_=>by simp[yc,has,Sg]
 |p::g,h=>by
  rw[Ga,ze]at h;have a:=mS c l h.2;by_cases e:p.1=l.w
  ·have b:has (p::g) l.w=true:=by simp[has,e]
   have f:g.map (λp=>if p.1=l.w then (p.1,p.2++[l])else p)=g:=by
    have:g.map (λp=>if p.1=l.w then (p.1,p.2++[l])else p)=g.map id:=Kb λx i=>ra λz=>h.1 (by rw[e,<-z];exact Gd i);rw[this,List.map_id]
   unfold yc;rw[b,ma rfl,Ga,f,ma e,qB,qB];simp;omega
  ·have b:has (p::g) l.w=has g l.w:=by simp[has,e]
   unfold yc at a ⊢;rw[b];split
   ·next d=>rw[ma d]at a;rw[Ga,ra e,qB,qB,a];omega
   ·next d=>rw[ra d]at a;rw[ky,qB,qB,a];omega
theorem NR(c:Lo->Int):∀ (a:List Lo) {g:Gr},(g.map (·.1)).Nodup->Sg c (a.foldl yc g)=Sg c g+(a.map c).sum
 |[],g,_=>by simp
 |l::a,g,h=>by
  rw[Xg,NR c a (jT g l h),mS c l h];simp;omega
noncomputable def td(P:Lo->Bool)(l:Lo):Bool:=(l.k == "hangs") && P l
def Qj(P:Lo->Bool)(l:Lo):Lo:=if td P l then ⟨l.w, "sure",l.v,l.d⟩else l
def tv(P:Lo->Bool)(l:Lo):Int:=if td P l then l.v else 0
def tR(P:Lo->Bool)(r:Rd):Rd:=⟨r.f+(r.x.map (tv P)).sum,r.x.map (Qj P)⟩
def tG(P:Lo->Bool)(g:Gr):Gr:=g.map λp=>(p.1,p.2.map (Qj P))
theorem B9(P:Lo->Bool)(l:Lo):(Qj P l).w=l.w:=by unfold Qj;split<;>rfl
theorem W2(P:Lo->Bool)(l:Lo):(Qj P l).v=l.v:=by unfold Qj;split<;>rfl
def Ś(P:Lo->Bool)(g:Gr)(l:Lo):yc (tG P g) (Qj P l)=tG P (yc g l):=by
 have e:has (tG P g) l.w=has g l.w:=by unfold has tG;rw[Bt];rfl
 unfold yc;rw[B9,e];split
 ·unfold tG;rw[Va,Va];refine Kb λp _=>?_;simp only[Function.comp];split<;>simp
 ·unfold tG;simp
theorem PU(P:Lo->Bool):∀ (a:List Lo) (g:Gr),(a.map (Qj P)).foldl yc (tG P g)=tG P (a.foldl yc g)
 |[],g=>rfl
 |l::a,g=>by rw[Ga,Xg,Ś,PU P a,Xg]
theorem JS(P:Lo->Bool):∀ rs:List Rd,(rs.map (tR P)).flatMap Rd.x=(rs.flatMap Rd.x).map (Qj P)
 |[]=>rfl
 |r::rs=>by rw[Ga,oh,JS P rs,oh,Rb];rfl
def ĉ(P:Lo->Bool)(rs:List Rd):Js (rs.map (tR P))=tG P (Js rs):=by
 unfold Js;rw[JS];exact PU P (rs.flatMap Rd.x) []
def RX(l:Lo)(a:List Lo)(F:Option Int)(e:Int):ar (l::a) F e=(if cm F e l then l.v else 0)+ar a F e:=by
 unfold ar;rw[Ud];split<;>simp
theorem nP(P:Lo->Bool)(F:Option Int)(e:Int):∀ {a:List Lo},(∀ l∈a,0<=l.v)->ar a F e<=ar (a.map (Qj P)) F e+(a.map (tv P)).sum
 |[],_=>by simp
 |l::a,h=>by
  have i:=nP P F e λx f=>h x (Aa _ f);have g:=h l Ha;rw[Ga,Ga,cj,RX,RX,W2];by_cases t:td P l=true
  ·have b:Qj P l=⟨l.w, "sure",l.v,l.d⟩:=by unfold Qj;rw[ma t]
   have c:tv P l=l.v:=by unfold tv;rw[ma t]
   split<;>omega
  ·have b:Qj P l=l:=by unfold Qj;rw[ra t]
   have c:tv P l=0:=by unfold tv;rw[ra t]
   rw[b,c];omega
def dQ(P:Lo->Bool)(a:List Lo):oq (a.map (Qj P))=oq a:=by
 unfold oq;induction a with
 |nil=>rfl
 |cons l a b=>
  have e:Uw (Qj P l)=Uw l:=by
   unfold Qj;split
   ·next t=>
    have:(l.k == "hangs")=true:=by unfold td at t;simp at t;simpa using t.1
    have:l.k = "hangs":=by simpa using this
    unfold Uw;rw[this];show (("sure") == "open")=(("hangs") == "open");decide
   ·rfl
  rw[Ga,Ud,Ud,e];split
  ·next o=>
   have:Qj P l=l:=by
    unfold Qj;rw[ra];intro t;have c:l.k = "hangs":=by unfold td at t;simp at t;simpa using t.1
    unfold Uw at o;rw[c]at o;exact absurd o (by decide)
   rw[Ga,Ga,b,this]
  ·exact b
theorem VT(P:Lo->Bool)(e:Int):∀ {g:Gr},(∀ p∈g,∀ l∈p.2,0<=l.v)->gs e g<=gs e (tG P g)+Sg (tv P) g
 |[],_=>by simp[tG,Sg]
 |p::g,h=>by
  have i:=VT P e λx b=>h x (Aa _ b);have c:∀ q g,gs e (q::g)=ar q.2 (mf q.2 e) e+gs e g:=λq g=>by simp[gs]
  have d:=Ň p.2 e (x:=mf (p.2.map (Qj P)) e) (by
   have:=eH (λx=>ar (p.2.map (Qj P)) x e) (oq (p.2.map (Qj P))) none;rw[dQ]at this;have a:mf (p.2.map (Qj P)) e=cu (λx=>ar (p.2.map (Qj P)) x e) (oq p.2) none:=by unfold mf;rw[dQ]
   rw[a];exact this)
  have f:=nP P (mf (p.2.map (Qj P)) e) e (h p Ha);rw[show tG P (p::g)=(p.1,p.2.map (Qj P))::tG P g from rfl,c,c,qB];dsimp only at *;omega
theorem yR:∀ (c:List Lo) {g:Gr} {p:Int × List Lo} {l:Lo},p∈c.foldl yc g->l∈p.2->l∈c\/∃ q∈g,l∈q.2
 |[],g,p,l,e,d=>ϖ ⟨p,e,d⟩
 |x::c,g,p,l,e,d=>by
  rcases yR c e d with h|⟨q,b,a⟩
  ·exact ϒ (Aa _ h)
  ·unfold yc at b;split at b
   ·obtain⟨z,f,rfl⟩:=va.mp b;split at a
    ·rcases Wb.mp a with h|h
     ·exact ϖ ⟨z,f,h⟩
     ·exact ϒ (Ma.mpr (ϒ
       (by simpa using h)))
    ·exact ϖ ⟨z,f,a⟩
   ·rcases Wb.mp b with h|h
    ·exact ϖ ⟨q,h,a⟩
    ·have:q=(x.w,[x]):=by simpa using h
     subst this;have:l=x:=by simpa using a
     exact ϒ (by rw[this];exact Ha)
def zxx(P:Lo->Bool)(e:Int)(m:∀ r∈rs,∀ l∈r.x,0<=l.v):val e rs<=val e (rs.map (tR P)):=by
 have o:=VT P e (g:=Js rs) (λp i l c=>by
  rcases yR _ i c with h|⟨q,j,_⟩
  ·obtain⟨r,k,d⟩:=jy.mp h;exact m r k l d
  ·cases j)
 have a:=NR (tv P) (rs.flatMap Rd.x) (g:=[]) (by simp);have b:∀ rs:List Rd,((rs.map (tR P)).map Rd.f).sum=(rs.map Rd.f).sum+((rs.flatMap Rd.x).map (tv P)).sum:=λrs=>by
  induction rs with
  |nil=>rfl
  |cons r rs n=>
   rw[Ga,Ga,cj,n,Ga,cj,oh,Rb,Xy];show r.f+(r.x.map (tv P)).sum+_=_;omega
 unfold val;rw[b,ĉ];have s:Sg (tv P) (Js rs)=0+((rs.flatMap Rd.x).map (tv P)).sum:=a;omega
def tC(P:Lo->Bool)(c:List Rx):List Rx:=c.map λp=>(tR P p.1,p.2)
theorem WX(P:Lo->Bool):∀ (a:List (List Rd)) (acc:List (List Rx)),Wl (a.map λrs=>rs.map (tR P)) (acc.map (tC P))=(Wl a acc).map (tC P)
 |[],acc=>rfl
 |rs::a,acc=>by
  have e:∀ c,ext (rs.map (tR P)) (tC P c)=(ext rs c).map (tC P):=λc=>by
   unfold ext;rw[List.zipIdx_map,Va,Va];refine Kb λp _=>?_;unfold tC;simp[Prod.map]
  show Wl (a.map λrs=>rs.map (tR P)) ((acc.map (tC P)).flatMap (ext (rs.map (tR P))))=(Wl a (acc.flatMap (ext rs))).map (tC P);rw[<-WX P a (acc.flatMap (ext rs))];congr 1;rw[List.flatMap_map,List.map_flatMap];congr 1;funext c;exact e c
def Å(P:Lo->Bool)(e:Int)(h:zD a)(w:∀ rs∈a,∀ r∈rs,∀ l∈r.x,0<=l.v):Ju e a<=Ju e (a.map λrs=>rs.map (tR P)):=by
 have s:zD (a.map λrs=>rs.map (tR P)):=⟨by simpa using h.n,λrs b=>by obtain⟨r,g,rfl⟩:=va.mp b;simpa using h.f r g,λrs b r g=>by
  obtain⟨y,i,rfl⟩:=va.mp b;obtain⟨z,j,rfl⟩:=va.mp g;unfold tR;simpa using h.x y i z j⟩
 have m:=ŏ s e;have ct:=WX P a [[]];rw[show [[]].map (tC P)=[[]]from rfl]at ct;rw[ct]at m;obtain⟨c,o,q⟩:=va.mp m;have d:=bZ e o;have k:=zxx P e (rs:=c.map (·.1)) (λr b l t=>by
  obtain⟨p,u,rfl⟩:=va.mp b;obtain⟨rs,d,k⟩:=xK (zW o) p u;exact w rs d _ k l t)
 have A:Ju e (a.map λrs=>rs.map (tR P))=val e ((c.map (·.1)).map (tR P)):=by
  unfold Ju vc;rw[<-q];unfold tC;simp only[Va];rfl
 unfold vc at d;omega
def zvw{K a:List Int}(x:∀ w∈K,w∈a)(ps:List Pv):yk e a ps=(yk e K ps).map λrs=>rs.map (tR λl=>decide (l.w∈a/\e<l.d)):=by
 unfold yk;rw[Va];refine Kb λp _=>?_;simp only[Function.comp];rw[Va];refine Kb λs _=>?_;have i:∀ t:Ti,lo e a p.1 t=Qj (λl=>decide (l.w∈a/\e<l.d)) (lo e K p.1 t)/\fa e a p.1 t=fa e K p.1 t+tv (λl=>decide (l.w∈a/\e<l.d)) (lo e K p.1 t):=λt=>by
  have m:(("back" : Str) == "hangs")=false:=by decide
  have n:(("open" : Str) == "hangs")=false:=by decide
  have o:(("gone" : Str) == "hangs")=false:=by decide
  have q:(("sure" : Str) == "hangs")=false:=by decide
  have v:AD "sure" = true:=by decide
  have k:AD "hangs" = false:=by decide
  unfold Qj tv td lo fa lk;by_cases j:t.p=p.1
  ·by_cases g:t.y<=0<;>simp[j,g,m,n]
  ·by_cases g:t.y<=0
   ·simp[j,g,o]
   ·by_cases h:t.w∈K/\e<t.y
    ·have f:t.w∈a/\e<t.y:=⟨x _ h.1,h.2⟩
     simp[j,g,h,f,q]
    ·by_cases f:t.w∈a/\e<t.y
     ·simp only[ra j,ra g,ra h,ma f,nb f];simp[v,k]
     ·simp only[ra h,ra f,Oa f];simp[k]
 show rd e a p.1 s=tR _ (rd e K p.1 s);unfold rd tR;dsimp only;have r:s.ts.map (lo e a p.1)=(s.ts.map (lo e K p.1)).map (Qj λl=>decide (l.w∈a/\e<l.d)):=by rw[Va];exact Kb λt _=>(i t).1
 have u:∀ b:List Ti,Qv e a p.1 b=Qv e K p.1 b+((b.map (lo e K p.1)).map (tv λl=>decide (l.w∈a/\e<l.d))).sum:=λb=>by
  induction b with
  |nil=>rfl
  |cons t b z=>
   have c:∀ K,Qv e K p.1 (t::b)=fa e K p.1 t+Qv e K p.1 b:=λK=>by simp[Qv]
   rw[c,c,z,(i t).2,Ga,Ga,cj];omega
 rw[r,u];congr 1;omega
def U6{K K':List Int}(b:∀ w∈K,w∈K')(h:Gs ps):Ju e (yk e K ps)<=Ju e (yk e K' ps):=by
 rw[zvw b];refine Å _ e (sW h e K) λrs g r d l c=>?_;obtain⟨p,f,rfl⟩:=va.mp g;obtain⟨s,i,rfl⟩:=va.mp d;obtain⟨t,j,rfl⟩:=va.mp c;exact h.a p f s i t j
def O9{K c:List Int}(h:∀ p∈ps,∀ s∈p.2,∀ t∈s.ts,(t.w∈c ↔ t.w∈K)):yk e c ps=yk e K ps:=by
 refine Kb λp d=>Kb λs f=>?_;have b:∀ t∈s.ts,lk e c p.1 t=lk e K p.1 t:=λt a=>by
  unfold lk;simp only[h p d s f t a]
 unfold rd Qv;rw[Kb (g:=fa e K p.1) λt a=>by unfold fa;rw[b t a],Kb (g:=lo e K p.1) λt a=>by unfold lo;rw[b t a]]
def Lv{a j:lb}{k:Nat}(h:a[k]?=some o):(a++j)[k]?=some o:=by
 rw[zb (aa.mp h).1,h]
structure Ac where
 (p q:Int)
 c:Nat
 m:Sn
 G:D
 y:List Sn
 L:List D
def Ac.fs(a:Ac):List (Str × D):=[("pot",Z a.p),("side",Z a.q),("mine",a.m.D),("grant",a.G),("may",O (a.y.map Sn.D)),("strikes",O a.L)]
def Dj(σ:lb)(n:Nat)(a:Ac):Prop:=σ[n]?=some (Ϙ a.c a.fs)
def Dj.app(h:Dj σ n a)(j:lb):Dj (σ++j) n a:=Lv h
structure Ac.Ok(a:Ac):Prop where
 p:0<=a.p/\a.p<=2
 q:a.q=0\/a.q=1
 c:[4,5,6,7].contains a.c=true
 g:cl a.G=true
 l:fh a.L=true
section
variable{σ:lb}{n:Nat}{a:Ac}(h:Dj σ n a)(o:a.Ok)
include h
theorem jp:Dm σ (U n)=some (a.c,a.fs):=by
 have h:σ[n]?=some (Ϙ a.c a.fs):=h;unfold Dm;simp[h]
include o
theorem Xr:Mc [4,5,6,7] "pot" (U n) σ=Y (Z a.p) σ:=Hq (jp h) o.c rfl
theorem Rt:Mc [4,5,6,7] "side" (U n) σ=Y (Z a.q) σ:=Hq (jp h) o.c rfl
theorem Hw:Mc [4,5,6,7] "mine" (U n) σ=Y a.m.D σ:=Hq (jp h) o.c rfl
theorem hV:Mc [4,5,6,7] "grant" (U n) σ=Y a.G σ:=Hq (jp h) o.c rfl
theorem wA:Mc [4,5,6,7] "may" (U n) σ=Y (O (a.y.map Sn.D)) σ:=Hq (jp h) o.c rfl
theorem tD:Mc [4,5,6,7] "strikes" (U n) σ=Y (O a.L) σ:=Hq (jp h) o.c rfl
end
theorem ycu(c:Nat)(h:List D->M D)(a b d e f g:D)(σ:lb):Lr c 7 h [a,b,d,e,f,g] σ=gE σ.length (h [U σ.length,a,b,d,e,f,g] (σ++[Ϙ c []])):=mU rfl
def HE{a:Ac}(h:a.Ok)(σ:lb):Lr a.c 7 nk [Z a.p,Z a.q,a.m.D,a.G,O (a.y.map Sn.D),O a.L] σ=Y (U σ.length) (σ++[Ϙ a.c a.fs]):=by
 have t:=HG a.y;have u:=h.l;have o:=h.c;unfold Ac.fs;generalize a.p=j,a.q=k,a.c=c,a.m.D=m,a.G=g,a.L=z,a.y.map Sn.D=y at *;have e:=λf v (b:List (Str × D)) (r:b.length<1000)=>SS (ρ:=[some (U σ.length),some (Z j),some (Z k),some m,some g,some (O y),some (O z)]) (σ:=σ) (cs:=[4,5,6,7]) (f:=f) (d:=v) (c:=c) (fs:=b) o r;have w:∀ p:D,Ip "pot" p []=([("pot",p)]:List (Str × D)):=λ_=>rfl;have x:∀ p s:D,Ip "side" s [("pot",p)]=([("pot",p),("side",s)]:List (Str × D)):=λ_ _=>rfl;have A:∀ p s:D,Ip "mine" m [("pot",p),("side",s)]=([("pot",p),("side",s),("mine",m)]:List (Str × D)):=λ_ _=>rfl;have B:∀ p s:D,Ip "grant" g [("pot",p),("side",s),("mine",m)]=([("pot",p),("side",s),("mine",m),("grant",g)]:List (Str × D)):=λ_ _=>rfl;have p4:∀ p s:D,Ip "may" (O y) [("pot",p),("side",s),("mine",m),("grant",g)]=([("pot",p),("side",s),("mine",m),("grant",g),("may",O y)]:List (Str × D)):=λ_ _=>rfl;have C:∀ p s:D,Ip "strikes" (O z) [("pot",p),("side",s),("mine",m),("grant",g),("may",O y)]=([("pot",p),("side",s),("mine",m),("grant",g),("may",O y),("strikes",O z)]:List (Str × D)):=λ_ _=>rfl;have n:=CI t;have fz:=CI u;have i:nk [U σ.length,Z j,Z k,m,g,O y,O z] (σ++[Ϙ c []])=Y ϛ (σ++[Ϙ c [("pot",Z j),("side",Z k),("mine",m),("grant",g),("may",O y),("strikes",O z)]]):=by
  unfold nk lV;simp[e,w,x,A,B,p4,C,n,fz]
 rw[ycu,i,AM]
def Lc(p q:Int)(m:Sn)(G:D)(L:List D):Ac:=⟨p,q,5,m,G,[m],L⟩
def li(p q:Int)(m o:Sn)(G:D)(L:List D):Ac:=⟨p,q,6,m,G,[m,o],L⟩
def wait(p q:Int)(o m:Sn)(G:D)(L:List D):Ac:=⟨p,q,7,m,G,[o,m],L⟩
def oi(p s:Int)(X:D):D:=Ϗ [ύ "agree",Z p,Z s,X]
def Pp(p s n:Int):D:=Ϗ [ύ "strike",Z p,Z s,Z n]
def Jj(p s:Int)(X:Sn):D:=Ϗ [ύ "offer",Z p,oi p s X.D]
def Dq(p s n:Int):D:=Ϗ [ύ "struck",Z p,Pp p s n]
def Fs(p:Int)(m s:Sn):D:=Ϗ [ύ "accept",Z p,oi p 1 s.D,Pp p 1 m.n]
def Oj(p:Int)(s:Sn):D:=Ϗ [ύ "ask",Z p,Ϗ [Z s.a,Z s.b],Ϗ (s.ts.map Ti.D)]
def eA(p w:Int):D:=Ϗ [ύ "word",Z p,Z w]
def NA{xs:List D}(h:∀ x∈xs,pl n x=true):pl (n+1) (Ϗ xs)=true:=Pb.mpr h
def jZ(n:Nat)(t:Ti):pl (n+1) t.D=true:=by simp[pl,Ti.D]
def wS(n:Nat)(ts:List Ti):pl (n+2) (Ϗ (ts.map Ti.D))=true:=NA λx a=>by obtain⟨t,_,rfl⟩:=va.mp a;exact jZ n t
def AL(n:Nat)(s:Sn):pl (n+3) s.D=true:=NA λx c=>by
 have c:x=Z s.n\/x=Ϗ [Z s.a,Z s.b]\/x=Ϗ (s.ts.map Ti.D):=by simpa using c
 rcases c with rfl|rfl|rfl
 ·simp[pl]
 ·simp[pl]
 ·exact wS n s.ts
def QW(n:Nat)(p q:Int)(s:Sn):pl (n+4) (oi p q s.D)=true:=NA λx a=>by
 have a:x=ύ "agree"\/x=Z p\/x=Z q\/x=s.D:=by simpa using a
 rcases a with rfl|rfl|rfl|rfl
 ·simp[pl]
 ·simp[pl]
 ·simp[pl]
 ·exact AL n s
def uN(p q:Int)(s:Sn):pl 8 (Jj p q s)=true:=NA λx a=>by
 have a:x=ύ "offer"\/x=Z p\/x=oi p q s.D:=by simpa using a
 rcases a with rfl|rfl|rfl
 ·simp[pl]
 ·simp[pl]
 ·exact QW 3 p q s
def bL(p:Int)(m s:Sn):pl 8 (Fs p m s)=true:=NA λx a=>by
 have a:x=ύ "accept"\/x=Z p\/x=oi p 1 s.D\/x=Pp p 1 m.n:=by simpa using a
 rcases a with rfl|rfl|rfl|rfl
 ·simp[pl]
 ·simp[pl]
 ·exact QW 3 p 1 s
 ·simp[pl,Pp]
def WN(p q n:Int):pl 8 (Dq p q n)=true:=by simp[pl,Dq,Pp]
def lA{X:D}(h:cl X=true):cl (oi p s X)=true:=by unfold oi;simp[h]
def Ζ(p q:Int)(s:Sn):cl (Jj p q s)=true:=by unfold Jj;simp[lA (Hn s)]
def yiz(p q n:Int):cl (Dq p q n)=true:=by unfold Dq Pp;simp
def j3(p:Int)(m s:Sn):cl (Fs p m s)=true:=by unfold Fs Pp;simp[lA (Hn s)]
def R6(p:Int)(s:Sn):cl (Oj p s)=true:=by unfold Oj;simp[jL]
section
variable{p:Int}(hp:0<=p/\p<=2)(σ:lb)
include hp
theorem DR{q:Int}(c:q=0\/q=1)(k X:D):Je [Ϗ [k,Z p,Z q,X]] σ=Y (ϐ true) σ:=by
 have a:=SL c σ;have b:=MQ hp σ;unfold Je zS;simp[a,b]
theorem CQ{q:Int}(e:q=0\/q=1){s:Sn}(h:fq s.n s.a s.b s.ts):Mg [oi p q s.D] σ=Y (ϐ true) σ:=by
 have c:=sA h σ;have d:=λX=>DR hp σ e (ύ "agree") X;have t:Pf [oi p q s.D] σ=Y (ϐ true) σ:=by
  unfold Sn.D oi Pf yL;simp[c,d]
 have i:ib (oi p q s.D) (Z 0) σ=Y (ύ "agree") σ:=by unfold oi;simp
 unfold Mg QT;simp[t,i]
theorem BU{q n:Int}(c:q=0\/q=1)(h:0<=n/\n<=1000000):og [Pp p q n] σ=Y (ϐ true) σ:=by
 have a:=zK h σ;have b:=λX=>DR hp σ c (ύ "strike") X;have t:Pf [Pp p q n] σ=Y (ϐ true) σ:=by
  unfold Pp Pf yL;simp[a,b]
 have i:ib (Pp p q n) (Z 0) σ=Y (ύ "strike") σ:=by unfold Pp;simp
 unfold og eV;simp[t,i]
theorem EF{k:Str}{x:D}{r:List D}(c:r.length<=3)(h:yd [Ϗ (ύ k::Z p::x::r)] σ=Y (ϐ true) σ):Kc [Ϗ (ύ k::Z p::x::r)] σ=Y (ϐ true) σ:=by
 have a:=MQ hp σ;have b:yj [Ϗ (ύ k::Z p::x::r)] σ=Y (Z (r.length+3)) σ:=by
  have:=wX (σ:=σ) (ύ k::Z p::x::r);rw[this];congr 2
 have lt:decide ((r.length:Int)+3<3)=false:=Oa (by omega);unfold Kc AW;simp[h,a,b,lt]
theorem cJ{q:Int}(c:q=0\/q=1){s:Sn}(h:fq s.n s.a s.b s.ts):Kc [Jj p q s] σ=Y (ϐ true) σ:=by
 have a:=CQ hp σ c h;refine EF hp σ (by simp) ?_;unfold yd WC;simp[a]
theorem TN{m s:Sn}(h:fq s.n s.a s.b s.ts)(c:0<=m.n/\m.n<=1000000):Kc [Fs p m s] σ=Y (ϐ true) σ:=by
 have a:=CQ hp σ (ϖ rfl) h;have b:=BU hp σ (ϖ rfl) c;refine EF hp σ (by simp) ?_;unfold yd WC;simp[a,b]
theorem yH{q:Int}(a:q=0\/q=1){n:Int}(h:0<=n/\n<=1000000):Kc [Dq p q n] σ=Y (ϐ true) σ:=by
 have b:=BU hp σ a h;refine EF hp σ (by simp) ?_;unfold yd WC;simp[b]
theorem WR{s:Sn}(h:fq s.n s.a s.b s.ts):Kc [Oj p s] σ=Y (ϐ true) σ:=by
 have a:=sA (n:=0) ⟨by omega,h.a,h.b,h.t,h.l,h.d⟩ σ;unfold Cn at a;refine EF hp σ (by simp) ?_;unfold yd WC;simp[a]
theorem ι{w:Int}(h:0<=w/\w<=59):Kc [eA p w] σ=Y (ϐ true) σ:=by
 have e:=MS h σ;refine EF hp σ (by simp) ?_;have a:(("word") == ("offer" : Str))=false:=by decide
 have b:(("word") == ("accept" : Str))=false:=by decide
 have c:(("word" : Str) == ("struck" : Str))=false:=by decide
 have d:(("word" : Str) == ("ask" : Str))=false:=by decide
 unfold yd WC;simp[e,a,b,c,d]
end
def L6{s m:Sn}(h:s.Ok W)(f:m.Ok W)(i:s.n=m.n+1)(c:lb):Af [s.D,m.D] c=Y (ϐ true) c:=by
 have d:=nS h.st c;have e:=DM m.n m.a m.b (ts:=m.ts) (by have:=f.st.l;omega) c;rw[h.w]at d;rw[f.w]at e;have j:=s0 s c;have k:=s0 m c;have g:(s.n == m.n+1)=true:=by simp[i]
 unfold Af aV;unfold Sn.D at *;simp[d,e,j,k,g]
section
variable{σ:lb}{n:Nat}{a:Ac}(h:Dj σ n a)(o:a.Ok)
include h o
theorem SB(s:Int){X:D}(b:cl X=true):na [U n,Z s,X] σ=Y (oi a.p s X) σ:=by
 have p:=Xr h o;unfold na MV oi;simp[p,b]
theorem yC(s:Int)(m:Sn):Ca [U n,Z s,m.D] σ=Y (Pp a.p s m.n) σ:=by
 have p:=Xr h o;have b:=s0 m;unfold Ca sS Pp;simp[p,b]
end
theorem KG{f:D->D->Option Bool}:∀ {xs ys:List D},(∀ x∈xs,∀ y∈ys,∃ b,f x y=some b)->∃ b,Qp f xs ys=some b
 |[],[],_=>⟨_,rfl⟩
 |[],_::_,_=>⟨_,rfl⟩
 |_::_,[],_=>⟨_,rfl⟩
 |x::xs,y::ys,h=>by
  obtain⟨b,d⟩:=h x Ha y Ha;obtain⟨c,e⟩:=KG λa g b i=>h a (Aa _ g) b (Aa _ i);unfold Qp;rw[d,e];exact⟨_,rfl⟩
def jY(σ:lb):∀ (n:Nat) (x y:D),pl n x=true->pl n y=true->∃ b,Jk σ n x y=some b:=by
 intro n;induction n with
 |zero=>intro x y d c;cases x<;>first|(simp[pl]at d;done)|(cases y<;>first|exact⟨_,rfl⟩|(simp[pl]at c;done))
 |succ n g=>
  intro x y d c;cases x with
  |Xa xs=>
   cases y with
   |Xa h=>
    simp only[pl,Pb]at d c;exact KG λa e b f=>g a b (d a e) (c b f)
   |_=>first|exact⟨_,rfl⟩|(simp[pl]at c;done)
  |wa xs=>
   cases y with
   |wa h=>
    simp only[pl,Pb]at d c;exact KG λa e b f=>g a b (d a e) (c b f)
   |_=>first|exact⟨_,rfl⟩|(simp[pl]at c;done)
  |_=>first|(simp[pl]at d;done)|(cases y<;>first|exact⟨_,rfl⟩|(simp[pl]at c;done))
theorem qL(h:(k == a)=false)(e:pl 8 (Ϗ (ύ k::r))=true)(f:pl 8 (Ϗ (ύ a::d))=true)(c:lb):Aj (Ϗ (ύ k::r)) (Ϗ (ύ a::d)) c=Y (ϐ true) c:=by
 simp only[pl,jg,Na,Pb]at e f;obtain⟨b,g⟩:=KG (ys:=d) λx i y j=>jY c 7 x y (e.2 x i) (f.2 y j);refine bG (b:=false) ?_;show Qp (Jk c 7) (ύ k::r) (ύ a::d)=_;unfold Qp;rw[g,show Jk c 7 (ύ k) (ύ a)=some false by simp[Jk,L4.kd,js,gm,h]];rfl
def TF(k a:Str)(b:lb):Aj (ύ k) (ύ a) b=Y (ϐ (!(k == a))) b:=bG (by simp[Jk,L4.kd,js,gm])
def yW(a b:Int)(σ:lb):Aj (Z a) (Z b) σ=Y (ϐ (decide (a≠b))) σ:=by
 by_cases h:a=b<;>simp[h]
def ww(c:0<=p/\p<=2)(d:q=0\/q=1)(a:cl G=true)(b:fh L=true):(Lc p q m G L).Ok:=⟨c,d,rfl,a,b⟩
def LJ(c:0<=p/\p<=2)(d:q=0\/q=1)(a:cl G=true)(b:fh L=true):(li p q m o G L).Ok:=⟨c,d,rfl,a,b⟩
def dJ(c:0<=p/\p<=2)(d:q=0\/q=1)(a:cl G=true)(b:fh L=true):(wait p q m o G L).Ok:=⟨c,d,rfl,a,b⟩
section
variable{σ:lb}{n:Nat}{p:Int}(hp:0<=p/\p<=2){m s:Sn}{W:Int}(hm:m.Ok W)(hs:s.Ok W)(hn:s.n=m.n+1){G:D}{L:List D}(hg:cl G=true)(hl:fh L=true)(hLk:L.length<=100)
include hp hg hl
theorem MN(h:Dj σ n (Lc p 0 m G L))(X:D):Uc [U n,X] σ=Y (Ϗ [U n,ϛ]) σ:=by
 have a:Mc [4,5,6,7] "side" (U n) σ=Y (Z 0) σ:=Rt h (ww hp (ϒ rfl) hg hl);unfold Uc XI;simp[a]
theorem K4(h:Dj σ n (Lc p 1 m G L)){X:D}{k:Str}(e:Kc [X] σ=Y (ϐ true) σ)(d:ib X (Z 0) σ=Y (ύ k) σ)(c:(k == ("offer" : Str))=false):Uc [U n,X] σ=Y (Ϗ [U n,ϛ]) σ:=by
 have b:Mc [4,5,6,7] "side" (U n) σ=Y (Z 1) σ:=Rt h (ww hp (ϖ rfl) hg hl);have a:=TF k "offer" σ;rw[c]at a;unfold Uc XI;simp[b,e,d,a]
theorem nR(h:Dj σ n (li p 0 m s G L)){X:D}(g:Kc [X] σ=Y (ϐ true) σ)(b:Aj X (Fs p m s) σ=Y (ϐ true) σ):Hc [U n,X] σ=Y (Ϗ [U n,ϛ]) σ:=by
 have o:=LJ (m:=m) (o:=s) hp (ϒ rfl) hg hl;have d:Mc [4,5,6,7] "pot" (U n) σ=Y (Z p) σ:=Xr h o;have e:Mc [4,5,6,7] "mine" (U n) σ=Y m.D σ:=Hw h o;have f:Mc [4,5,6,7] "may" (U n) σ=Y (O [m.D,s.D]) σ:=wA h o;have c:na [U n,Z 1,s.D] σ=Y (oi p 1 s.D) σ:=SB h o 1 (Hn s);have k:Ca [U n,Z 1,m.D] σ=Y (Pp p 1 m.n) σ:=yC h o 1 m;have j:∀ a,Bo [(6,na)] 3 "agree_of" a (U n) σ=(a σ).bind (Ql 3 na (U n)):=λa=>Et (jp h) rfl rfl;have i:∀ a,Bo [(6,Ca)] 3 "strike_of" a (U n) σ=(a σ).bind (Ql 3 Ca (U n)):=λa=>Et (jp h) rfl rfl;unfold Fs at b;unfold Hc RK;simp[g,d,e,f,c,k,j,i,b]
theorem i8(h:Dj σ n (wait p 1 m s G L)){X:D}(e:Kc [X] σ=Y (ϐ true) σ)(b:Aj X (Dq p 0 m.n) σ=Y (ϐ true) σ):Gc [U n,X] σ=Y (Ϗ [U n,ϛ]) σ:=by
 have o:=dJ (m:=m) (o:=s) hp (ϖ rfl) hg hl;have c:Mc [4,5,6,7] "pot" (U n) σ=Y (Z p) σ:=Xr h o;have d:Mc [4,5,6,7] "may" (U n) σ=Y (O [m.D,s.D]) σ:=wA h o;have g:Ca [U n,Z 0,m.D] σ=Y (Pp p 0 m.n) σ:=yC h o 0 m;have f:∀ a,Bo [(7,Ca)] 3 "strike_of" a (U n) σ=(a σ).bind (Ql 3 Ca (U n)):=λa=>Et (jp h) rfl rfl;unfold Dq at b;unfold Gc NN;simp[e,c,d,g,f,b]
include hm hs hn
theorem uU(h:Dj a n (Lc p 1 m G L)):Uc [U n,Jj p 0 s] a=Y (Ϗ [U a.length,Fs p m s]) (a++[Ϙ 7 (wait p 1 m s (oi p 0 s.D) L).fs]):=by
 have o:=ww (m:=m) hp (ϖ rfl) hg hl;have d:=h.app [Ϙ 7 (wait p 1 m s (oi p 0 s.D) L).fs];have v:=dJ (p:=p) (q:=1) (m:=m) (o:=s) hp (ϖ rfl) (lA (p:=p) (s:=0) (Hn s)) hl;have A:Lr 7 7 nk [Z p,Z 1,s.D,oi p 0 s.D,O [m.D,s.D],O L] a=Y (U a.length) (a++[Ϙ 7 (wait p 1 m s (oi p 0 s.D) L).fs]):=HE v a;generalize a++[Ϙ 7 (wait p 1 m s (oi p 0 s.D) L).fs]=b at *;have z:=cJ hp a (ϒ rfl) hs.st;have k:Mc [4,5,6,7] "side" (U n) a=Y (Z 1) a:=Rt h o;have l:Mc [4,5,6,7] "pot" (U n) a=Y (Z p) a:=Xr h o;have f:Mc [4,5,6,7] "pot" (U n) b=Y (Z p) b:=Xr d o;have r:Mc [4,5,6,7] "mine" (U n) a=Y m.D a:=Hw h o;have g:Mc [4,5,6,7] "mine" (U n) b=Y m.D b:=Hw d o;have t:Mc [4,5,6,7] "strikes" (U n) a=Y (O L) a:=tD h o;have w:∀ a,ib (Jj p 0 s) (Z 0) a=Y (ύ "offer") a:=λa=>by unfold Jj;simp
 have x:∀ a,ib (Jj p 0 s) (Z 2) a=Y (oi p 0 s.D) a:=λa=>by unfold Jj;simp
 have y:∀ a,ib (oi p 0 s.D) (Z 3) a=Y s.D a:=λa=>by unfold oi;simp
 have j:na [U n,Z 0,s.D] a=Y (oi p 0 s.D) a:=SB h o 0 (Hn s);have e:na [U n,Z 1,s.D] b=Y (oi p 1 s.D) b:=SB d o 1 (Hn s);have H:Ca [U n,Z 1,m.D] b=Y (Pp p 1 m.n) b:=yC d o 1 m;have F:Aj (ύ "offer") (ύ "offer") a=Y (ϐ false) a:=ny (by simp[pl]);have C:∀ c,Bo [(5,na)] 3 "agree_of" c (U n) a=(c a).bind (Ql 3 na (U n)):=λc=>Et (jp h) rfl rfl;have i:∀ c,Bo [(5,na)] 3 "agree_of" c (U n) b=(c b).bind (Ql 3 na (U n)):=λc=>Et (jp d) rfl rfl;have B:∀ c,Bo [(5,Ca)] 3 "strike_of" c (U n) b=(c b).bind (Ql 3 Ca (U n)):=λc=>Et (jp d) rfl rfl;have E:Aj (Jj p 0 s) (Ϗ [ύ "offer",Z p,oi p 0 s.D]) a=Y (ϐ false) a:=ny (uN p 0 s);have u:=L6 hs hm hn a;unfold Fs;unfold Uc XI;simp[z,k,l,f,r,g,t,w,x,y,j,e,H,C,i,B,E,F,u,A]
theorem nY(h:Dj c n (Lc p 0 m G L)):Ve [U n,Ϗ [Z s.a,Z s.b],Ϗ (s.ts.map Ti.D)] c=Y (Ϗ [U c.length,Jj p 0 s]) (c++[Ϙ 6 (li p 0 m s G L).fs]):=by
 have o:=ww (q:=0) (m:=m) hp (ϒ rfl) hg hl;have g:=h.app [Ϙ 6 (li p 0 m s G L).fs];have z:=LJ (p:=p) (q:=0) (m:=m) (o:=s) hp (ϒ rfl) hg hl;have B:Lr 6 7 nk [Z p,Z 0,m.D,G,O [m.D,s.D],O L] c=Y (U c.length) (c++[Ϙ 6 (li p 0 m s G L).fs]):=HE z c;generalize c++[Ϙ 6 (li p 0 m s G L).fs]=e at *;have r:Mc [4,5,6,7] "side" (U n) c=Y (Z 0) c:=Rt h o;have t:Mc [4,5,6,7] "pot" (U n) c=Y (Z p) c:=Xr h o;have f:Mc [4,5,6,7] "pot" (U n) e=Y (Z p) e:=Xr g o;have u:Mc [4,5,6,7] "mine" (U n) c=Y m.D c:=Hw h o;have v:Mc [4,5,6,7] "strikes" (U n) c=Y (O L) c:=tD h o;have y:Mc [4,5,6,7] "grant" (U n) c=Y G c:=hV h o;have A:=s0 m;have k:Nh [m.D] c=Y (Z W) c:=by rw[<-hm.w];exact DM _ _ _ (by have:=hm.st.l;omega) c
 have I:De [s.D,Z W] c=Y (ϐ true) c:=by rw[<-hs.w];exact nS hs.st c
 have H:Ϗ [Z (m.n+1),Ϗ [Z s.a,Z s.b],Ϗ (s.ts.map Ti.D)]=s.D:=by rw[<-hn];rfl
 have F:Aj (ύ "calm") (ύ "calm") c=Y (ϐ false) c:=ny (by simp[pl]);have j:∀ x c,nc [x] c=Y (ύ "calm") c:=λx c=>by unfold nc kI;simp
 have E:∀ d,Bo [(5,nc),(6,Gb),(7,Xb)] 1 "word" d (U n) c=(d c).bind (Ql 1 nc (U n)):=λd=>Et (jp h) rfl rfl;have i:na [U n,Z 0,s.D] e=Y (oi p 0 s.D) e:=SB g o 0 (Hn s);have C:∀ d,Bo [(4,na),(5,na),(6,na),(7,na)] 3 "agree_of" d (U n) e=(d e).bind (Ql 3 na (U n)):=λd=>Et (jp g) rfl rfl;unfold Jj;unfold Ve OH;simp[r,t,f,u,v,y,A,k,I,H,F,j,E,i,C,B]
omit hn
include hLk
theorem N9(h:Dj σ n (li p 0 m s G L)):Hc [U n,Fs p m s] σ=Y (Ϗ [U σ.length,Dq p 0 m.n]) (σ++[Ϙ 5 (Lc p 0 s (oi p 1 s.D) (L++[Z m.n])).fs]):=by
 have o:=LJ (m:=m) (o:=s) hp (ϒ rfl) hg hl;have f:fh (L++[Z m.n])=true:=by rw[nL,hl];rfl
 have w:=ww (p:=p) (q:=0) (m:=s) hp (ϒ rfl) (lA (p:=p) (s:=1) (Hn s)) f;have c:=h.app [Ϙ 5 (Lc p 0 s (oi p 1 s.D) (L++[Z m.n])).fs];have z:Lr 5 7 nk [Z p,Z 0,s.D,oi p 1 s.D,O [s.D],O (L++[Z m.n])] σ=Y (U σ.length) (σ++[Ϙ 5 (Lc p 0 s (oi p 1 s.D) (L++[Z m.n])).fs]):=HE w σ;generalize σ++[Ϙ 5 (Lc p 0 s (oi p 1 s.D) (L++[Z m.n])).fs]=b at *;have y:=TN hp σ (m:=m) hs.st hm.st.n;have l:Mc [4,5,6,7] "side" (U n) σ=Y (Z 0) σ:=Rt h o;have r:Mc [4,5,6,7] "pot" (U n) σ=Y (Z p) σ:=Xr h o;have d:Mc [4,5,6,7] "pot" (U n) b=Y (Z p) b:=Xr c o;have t:Mc [4,5,6,7] "mine" (U n) σ=Y m.D σ:=Hw h o;have e:Mc [4,5,6,7] "mine" (U n) b=Y m.D b:=Hw c o;have u:Mc [4,5,6,7] "strikes" (U n) σ=Y (O L) σ:=tD h o;have v:Mc [4,5,6,7] "may" (U n) σ=Y (O [m.D,s.D]) σ:=wA h o;have k:na [U n,Z 1,s.D] σ=Y (oi p 1 s.D) σ:=SB h o 1 (Hn s);have E:Ca [U n,Z 1,m.D] σ=Y (Pp p 1 m.n) σ:=yC h o 1 m;have i:Ca [U n,Z 0,m.D] b=Y (Pp p 0 m.n) b:=yC c o 0 m;have x:=s0 m;have B:∀ a,Bo [(6,na)] 3 "agree_of" a (U n) σ=(a σ).bind (Ql 3 na (U n)):=λa=>Et (jp h) rfl rfl;have A:∀ a,Bo [(6,Ca)] 3 "strike_of" a (U n) σ=(a σ).bind (Ql 3 Ca (U n)):=λa=>Et (jp h) rfl rfl;have g:∀ a,Bo [(6,Ca)] 3 "strike_of" a (U n) b=(a b).bind (Ql 3 Ca (U n)):=λa=>Et (jp c) rfl rfl;have C:Aj (Fs p m s) (Ϗ [ύ "accept",Z p,oi p 1 s.D,Pp p 1 m.n]) σ=Y (ϐ false) σ:=ny (bL p m s);have j:Sh (O L) (O [Z m.n]) σ=Y (O (L++[Z m.n])) σ:=HD (by unfold Ni;simp;omega);unfold Dq;unfold Hc RK;simp[y,l,r,d,t,e,u,v,k,E,i,x,B,A,g,C,j,z]
theorem D9(h:Dj σ n (wait p 1 m s G L)):Gc [U n,Dq p 0 m.n] σ=Y (Ϗ [U σ.length,ϛ]) (σ++[Ϙ 5 (Lc p 1 s G (L++[Z m.n])).fs]):=by
 have o:=dJ (m:=m) (o:=s) hp (ϖ rfl) hg hl;have b:fh (L++[Z m.n])=true:=by rw[nL,hl];rfl
 have k:=ww (q:=1) (m:=s) hp (ϖ rfl) hg b;have t:Lr 5 7 nk [Z p,Z 1,s.D,G,O [s.D],O (L++[Z m.n])] σ=Y (U σ.length) (σ++[Ϙ 5 (Lc p 1 s G (L++[Z m.n])).fs]):=HE k σ;have r:=yH hp σ (q:=0) (ϒ rfl) hm.st.n;have d:Mc [4,5,6,7] "side" (U n) σ=Y (Z 1) σ:=Rt h o;have e:Mc [4,5,6,7] "pot" (U n) σ=Y (Z p) σ:=Xr h o;have f:Mc [4,5,6,7] "mine" (U n) σ=Y s.D σ:=Hw h o;have g:Mc [4,5,6,7] "strikes" (U n) σ=Y (O L) σ:=tD h o;have i:Mc [4,5,6,7] "may" (U n) σ=Y (O [m.D,s.D]) σ:=wA h o;have j:Mc [4,5,6,7] "grant" (U n) σ=Y G σ:=hV h o;have l:=s0 m;have w:Ca [U n,Z 0,m.D] σ=Y (Pp p 0 m.n) σ:=yC h o 0 m;have u:∀ a,Bo [(7,Ca)] 3 "strike_of" a (U n) σ=(a σ).bind (Ql 3 Ca (U n)):=λa=>Et (jp h) rfl rfl;have v:Aj (Dq p 0 m.n) (Ϗ [ύ "struck",Z p,Pp p 0 m.n]) σ=Y (ϐ false) σ:=ny (WN ..);have c:Sh (O L) (O [Z m.n]) σ=Y (O (L++[Z m.n])) σ:=HD (by unfold Ni;simp;omega);unfold Gc NN;simp[r,d,e,f,g,i,j,l,w,u,v,c,t]
end
def CZ(h:Dj σ n a)(o:a.Ok)(c:a.q=1)(X ϋ:D):Ve [U n,X,ϋ] σ=.ex ⟨2⟩ σ:=by
 have b:Mc [4,5,6,7] "side" (U n) σ=Y (Z 1) σ:=by rw[Rt h o,c]
 unfold Ve OH;simp[b]
def zoi(h:Dj a n (li p 0 m s G L))(o:(li p 0 m s G L).Ok)(X ϋ:D):Ve [U n,X,ϋ] a=.ex ⟨2⟩ a:=by
 have e:Mc [4,5,6,7] "side" (U n) a=Y (Z 0) a:=Rt h o;have c:=TF "offered" "calm" a;rw[show (("offered" : Str) == "calm")=false by decide]at c;have d:∀ x a,Gb [x] a=Y (ύ "offered") a:=λx a=>by unfold Gb uI;simp
 have f:∀ b,Bo [(5,nc),(6,Gb),(7,Xb)] 1 "word" b (U n) a=(b a).bind (Ql 1 Gb (U n)):=λb=>Et (jp h) rfl rfl;unfold Ve OH;simp[e,c,d,f]
abbrev Ka:=Nat × Ac
def Au(b:Nat)(e g:Int):List (Str × D):=[("hand",Z 1),("every",Z e),("last_look",Z 0),("gave",Z g),("known",U (b+1)),("accounts",U (b+2)),("claims",U (b+3)),("seen",U (b+4)),("asked",U (b+5)),("finishing",U (b+6))]
noncomputable def cq(K:List Int):Kv:=K.map λw=>(Ϟ w,ϐ true)
noncomputable def AV(a:List Ka):Kv:=a.map λx=>(Ϟ x.2.p,U x.1)
noncomputable def CV(a:List Ka):Kv:=a.map λx=>(Ϟ x.2.p,.gt ["held"])
noncomputable def SV(a:List Ka):Kv:=a.map λx=>(Ϟ x.2.p,Ϫ [] [])
def As(a:List Ka)(b:lb):Prop:=∀ x∈a,Dj b x.1 x.2/\x.2.Ok
structure Vs(b:Nat)(e g:Int)(K:List Int)(as:List Ka)(σ:lb):Prop where
 h0:σ[b]?=some (Ϙ 9 (Au b e g))
 h1:σ[b+1]?=some (ϑ (cq K))
 h3:σ[b+3]?=some (ϑ (CV as))
 h4:σ[b+4]?=some (ϑ (SV as))
def Vs.app{K:List Int}(h:Vs b e g K a c)(j:lb):Vs b e g K a (c++j):=⟨Lv h.h0,Lv h.h1,Lv h.h3,Lv h.h4⟩
def Yk{a:lb}(n:r≠k)(h:a[k]?=some o):(a.set r x)[k]?=some o:=by
 rw[Kh n,h]
def Vs.set{K:List Int}(h:Vs b e g K a c)(d:r=b+2\/b+4<r)(x:Ob):Vs b e g K a (c.set r x):=⟨Yk (by omega) h.h0,Yk (by omega) h.h1,Yk (by omega) h.h3,Yk (by omega) h.h4⟩
def As.app(h:As a c)(j:lb):As a (c++j):=λx b=>⟨(h x b).1.app j,(h x b).2⟩
def As.set(h:As c b)(d:b[r]?=some (ϑ f))(o:Ob):As c (b.set r o):=λx a=>⟨Yk (λe=>by
 have:=(h x a).1;unfold Dj at this;rw[<-e,d]at this;cases this) (h x a).1,(h x a).2⟩
def VE(h:σ[n]?=some (ϑ a))(b:jl a (Ϟ w)=some d):vm (U n) (Z w) σ=Y d σ:=by
 unfold vm Ik;simp only[Xm,h];simp[b]
theorem MO(c:D):∀ {as:List Ka} {p:Int},(∃ x∈as,x.2.p=p)->jl (as.map λx=>((Ϟ x.2.p:Nd),c)) (Ϟ p)=some c
 |[],p,h=>by obtain⟨x,a,_⟩:=h;cases a
 |y::as,p,h=>by
  by_cases e:y.2.p=p
  ·simp[jl,e]
  ·have:=MO c (as:=as) (p:=p) (by
    obtain⟨x,a,ex⟩:=h;rcases Ma.mp a with rfl|a
    ·exact absurd ex e
    ·exact⟨x,a,ex⟩)
   unfold jl at this ⊢;simpa [e]using this
section
variable{b:Nat}{e g:Int}{K:List Int}{as:List Ka}{σ:lb}(h:Vs b e g K as σ)
include h
theorem ay:Dm σ (U b)=some (9,Au b e g):=by unfold Dm;simp[h.h0]
theorem W5:Mc [8,9] "every" (U b) σ=Y (Z e) σ:=Hq (ay h) rfl rfl
theorem ycd:Mc [8,9] "last_look" (U b) σ=Y (Z 0) σ:=Hq (ay h) rfl rfl
theorem vH:Mc [8,9] "known" (U b) σ=Y (U (b+1)) σ:=Hq (ay h) rfl rfl
theorem J6:Mc [9] "gave" (U b) σ=Y (Z g) σ:=Hq (ay h) rfl rfl
theorem Xt:Mc [9] "accounts" (U b) σ=Y (U (b+2)) σ:=Hq (ay h) rfl rfl
theorem CM:Mc [9] "claims" (U b) σ=Y (U (b+3)) σ:=Hq (ay h) rfl rfl
theorem w8:Mc [9] "seen" (U b) σ=Y (U (b+4)) σ:=Hq (ay h) rfl rfl
theorem oJ:Mc [9] "asked" (U b) σ=Y (U (b+5)) σ:=Hq (ay h) rfl rfl
theorem Ej{m:Str}(n:Nat)(a:List D->M D)(c:M (List D))(d:(Au b e g).lookup m=none):Bo [(9,a)] n m c (U b) σ=(c σ).bind (Ql n a (U b)):=Et (ay h) rfl d
theorem sR{p:Int}(a:∃ x∈as,x.2.p=p):vm (U (b+3)) (Z p) σ=Y (.gt ["held"]) σ:=VE h.h3 (MO _ a)
theorem M4{p:Int}(a:∃ x∈as,x.2.p=p):vm (U (b+4)) (Z p) σ=Y (Ϫ [] []) σ:=VE h.h4 (MO _ a)
end
theorem zU:∀ K:List Int,qz (cq K)=some K
 |[]=>rfl
 |w::K=>by
  have a:=zU K;unfold cq at a ⊢;unfold qz;simp[a]
abbrev ks(K:List Int):List Int:=Ux K
def eF{K:List Int}:w∈ks K ↔ w∈K:=(VD K).mem_iff
def oX{K:List Int}(h:Vs b e g K c a)(k:K.length<=60):ud [U b] a=Y (O ((ks K).map Z)) a:=by
 have i:=vH h;have o:dC [U (b+1)] a=Y (U a.length) (a++[ϔ ((ks K).map Z)]):=by
  have l:xh a (U (b+1))=none:=by unfold xh gh;simp[h.h1]
  have d:Ik a (U (b+1))=some (cq K):=by unfold Ik;simp[h.h1]
  unfold dC;simp only[l];unfold DH;simp only[d,zU];rw[ma (by omega)];rfl
 have f:=rX (ks K);have j:mi a (dC [U (b+1)] a)=Y (O ((ks K).map Z)) a:=by rw[o];exact ZI f
 unfold ud fU;simp[i,j]
def yg7(h:Dj σ n a)(b:a.Ok):Vf [U n,.gt ["held"]] σ=Y (O (a.y.map Sn.D)) σ:=by
 have m:=wA h b;have d:∀ σ,ib (.gt ["held"]) (Z 0) σ=Y (ύ "held") σ:=λσ=>nr rfl;have c:=HG a.y;unfold Vf ZT;simp[d,m,c]
def eJ{xs:List D}(h:gh a n=some xs)(j:lb):gh (a++j) n=some xs:=by
 have e:=gH h;unfold gh;rw[Lv e]
theorem ĥ(j:f ρ σ=Y (U n) σ)(g:σ[n]?=some (ϑ A))(i:src ρ σ=Y nx c)(k:Ft nx e a 1001 0 ρ c=Y (Ϛ d) b)(h:b[n]?=some (.ig A')):lH f (Lx src e a) ρ σ=Y (Ϛ d) (b.set n (ϑ A')):=by
 show QI QO (f ρ) (Lx src e a ρ) σ=_;unfold QI;rw[j];dsimp only;rw[g];rw[EA,i,ut];show ID QO _ (Ft nx e a 1001 0 ρ c)=_;rw[k];unfold ID;simp only[h];rfl
def yo4(c:f b a=Y (U n) a)(g:a[n]?=some (ϑ A)):II f b a=Y (iv A) (a.set n (.ig A)):=by
 show be (f b) MJ a=_;rw[ot,c,Qg];unfold MJ;simp only[g]
def n3{a:lb}(h:a[r]?=some o):a.set r o=a:=by
 obtain⟨b,c⟩:=aa.mp h;rw[<-c];exact List.set_getElem_self b
theorem lP(c:Nat)(f:List D->M D)(a b d e:D)(σ:lb):Lr c 5 f [a,b,d,e] σ=gE σ.length (f [U σ.length,a,b,d,e] (σ++[Ϙ c []])):=mU rfl
def zx0(σ:lb)(K:List Int)(e:Int){ps:List Pv}(A:ps.length<=3)(l:gh σ n=some (ps.map qg)):Wt [U σ.length,Z e,Z 0,O (K.map Z),U n] (σ++[Ϙ 8 []])=Y ϛ (σ++[Ϙ 8 [("every",Z e),("last_look",Z 0),("known",O (K.map Z)),("pots",O (ps.map qg))]]):=by
 have E:=λ(k:List Nat) (r:k.contains 8=true) (f:Str) (w:D) (g:List (Str × D)) (t:g.length<1000)=>SS (ρ:=[some (U σ.length),some (Z e),some (Z 0),some (O (K.map Z)),some (U n)]) (σ:=σ) (cs:=k) (f:=f) (d:=w) (c:=8) (fs:=g) r t;have p:∀ g,mi (σ++[Ϙ 8 g]) (Jr [O (K.map Z)] (σ++[Ϙ 8 g]))=Y (O (K.map Z)) (σ++[Ϙ 8 g]):=λg=>CI (rX K) _;have u:∀ g,qj (dm (Fo (Bj (da 4))) [] (We 0) Cp (wf (qa (Ja ib (da 0) (eC (Z 0))) (qa (qj (ah Jr (qa (Ja ib (da 0) (eC (Z 1))) Pa))) (qa (ah oC (qa (Ja ib (da 0) (eC (Z 2))) Pa)) Pa))))) [some (U σ.length),some (Z e),some (Z 0),some (O (K.map Z)),some (U n)] (σ++[Ϙ 8 g])=Y (O (ps.map qg)) (σ++[Ϙ 8 g]):=λg=>by
  have s1:Oz (U n) (σ++[Ϙ 8 g])=Y (.Bm n) (σ++[Ϙ 8 g]):=by
   show (match gh (σ++[Ϙ 8 g]) n with|some _=>_|none=>_)=_;rw[eJ l]
  exact Jx (ix:=[]) (src:=Bj (da 4)) (s:=.Bm n) (xs:=ps) (ρ:=[some (U σ.length),some (Z e),some (Z 0),some (O (K.map Z)),some (U n)]) (σ:=σ++[Ϙ 8 g]) (fe:=wf (qa (Ja ib (da 0) (eC (Z 0))) (qa (qj (ah Jr (qa (Ja ib (da 0) (eC (Z 1))) Pa))) (qa (ah oC (qa (Ja ib (da 0) (eC (Z 2))) Pa)) Pa)))) qg qg (by simp[s1]) (λi j=>by
    show (gh (σ++[Ϙ 8 g]++j) n).map _=_;rw[eJ (eJ l _),<-au];rfl) (by omega)
   (λv _ j=>by
    have o:=CI (HG v.2);have m:∀ h,oC [Ϫ [] []] h=Y (Ϫ [] []) h:=λh=>nr rfl;unfold qg;simp[o,m]) (λv _=>jS v)
 have x:Ip "every" (Z e) ([]:List (Str × D))=([("every",Z e)]:List (Str × D)):=rfl;have y:∀ a b:D,Ip "last_look" b ([("every",a)]:List (Str × D))=([("every",a),("last_look",b)]:List (Str × D)):=λ_ _=>rfl;have z:∀ a b c:D,Ip "known" c ([("every",a),("last_look",b)]:List (Str × D))=([("every",a),("last_look",b),("known",c)]:List (Str × D)):=λ_ _ _=>rfl;have p4:∀ a b c d:D,Ip "pots" d ([("every",a),("last_look",b),("known",c)]:List (Str × D))=([("every",a),("last_look",b),("known",c),("pots",d)]:List (Str × D)):=λ_ _ _ _=>rfl;have q:∀ ρ σ,qj (ah Jr (qa (da 3) Pa)) ρ σ=mi σ (ah Jr (qa (da 3) Pa) ρ σ):=λ_ _=>rfl;unfold Wt jV;simp[E,x,y,z,p4,p,u,q,-vt]
noncomputable def pv(x:Ka):Pv:=(x.2.q,x.2.y)
def Tz(e:Int)(K:List Int)(a:List Ka):D:=Zk e (ks K) ((a.map pv).map qg)
def IR(e:Int)(K:List Int)(a:List Ka):cl (Tz e K a)=true:=ò _ _ (QP _)
section
variable{b:Nat}{e g:Int}{K:List Int}(hK:K.length<=60){as as':List Ka}{σ:lb}
include hK
theorem IT(h:Vs b e g K as σ)(V:As as' σ)(H:∀ x∈as',∃ y∈as,y.2.p=x.2.p)(X:as'.length<=3){r:Nat}(k:σ[r]?=some (ϑ (AV as')))(T:r=b+2\/b+4<r):Zc [U b,U r] σ=Y (Tz e K as') σ:=by
 have a:=(aa.mp k).1;have A:=h.set T (.ig (AV as'));have u:=V.set k (.ig (AV as'));have C:(σ.set r (.ig (AV as'))).length=σ.length:=Vy;have c:=Lv (j:=[ϔ []]) k;obtain⟨a0,a1,I,E,F,rfl,rfl⟩:=EO (tg:=Jq 2 (ej (We 3) (ej (We 4) mr))) (body:=EQ) (N:=(AV as').length) (λi G s=>∃ E F,G=[some (U b),some (U r),some (U σ.length),E,F]/\s=σ.set r (.ig (AV as'))++[ϔ (((as'.take i).map pv).map qg)]) (λi G s w ό=>by
  obtain⟨E,F,rfl,rfl⟩:=ό;have w:i<as'.length:=by simpa [AV]using w
  have B:as'[i]?=some as'[i]:=aa.mpr ⟨w,rfl⟩;generalize as'[i]=x at *;have z:=La B;have t:=cH (σ:=σ.set r (.ig (AV as'))) (xs:=((as'.take i).map pv).map qg) (d:=qg (pv x)) (by simp;omega);rw[C]at t;have me:∀ m,Vv Vm m (U σ.length) (σ.set r (.ig (AV as'))++[ϔ (((as'.take i).map pv).map qg)])=(m (σ.set r (.ig (AV as'))++[ϔ (((as'.take i).map pv).map qg)])).bind (Vm (U σ.length)):=λm=>jA (xs:=((as'.take i).map pv).map qg) (by unfold xh gh;rw[<-C];simp);have v:=A.app [ϔ (((as'.take i).map pv).map qg)];have M:=CM v;have ώ:=w8 v;have P:=sR v (H x z);have Q:=M4 v (H x z);have l:=(u.app [ϔ (((as'.take i).map pv).map qg)]) x z;have st:=yg7 l.1 l.2;have sd:=Rt l.1 l.2;have tq:Ϗ [Z x.2.q,O (x.2.y.map Sn.D),Ϫ [] []]=qg (pv x):=rfl;rw[show ((as'.take i).map pv).map qg++[qg (pv x)]=((as'.take (i+1)).map pv).map qg by rw[jz B];simp]at t;refine⟨Ϗ [Z x.2.p,U x.1],[some (U b),some (U r),some (U σ.length),some (Z x.2.p),some (U x.1)],[some (U b),some (U r),some (U σ.length),some (Z x.2.p),some (U x.1)],_,?_,rfl,?_,_,_,rfl,rfl⟩
  ·unfold iv AV;simp only[Ta,B];rfl
  ·generalize σ.set r (.ig (AV as'))++[ϔ (((as'.take i).map pv).map qg)]=ϋ,σ.set r (.ig (AV as'))++[ϔ (((as'.take (i+1)).map pv).map qg)]=ϊ at *;simp[M,ώ,P,Q,st,sd,me,tq,t]) (λs=>qS (AV as') s) 1001 0 [some (U b),some (U r),some (U σ.length),none,none] ((σ++[ϔ []]).set r (.ig (AV as'))) (by simp[AV];omega) (by omega) ⟨none,none,rfl,by rw[Su _ _ a];simp⟩
 rw[show (AV as').length=as'.length by simp[AV],gd]at I;have J:=ĥ (f:=da 1) (src:=II (da 1)) (ρ:=[some (U b),some (U r),some (U σ.length),none,none]) (σ:=σ++[ϔ []]) (n:=r) (by simp) c (yo4 (by simp) c) I (A':=AV as') (Lv (by rw[pc a]));rw[Su _ _ (by rw[C];exact a),List.set_set,n3 k]at J;have o:=h.app [ϔ ((as'.map pv).map qg)];have wd:=oX o hK;have mt:=λS=>Ej o (m:="words") 1 ud S rfl;have R:=W5 o;have la:=ycd o;have W:=IR e K as';have mk:mi (σ++[ϔ ((as'.map pv).map qg)]) (Lr 8 5 Wt [Z e,Z 0,O ((ks K).map Z),U σ.length] (σ++[ϔ ((as'.map pv).map qg)]))=Y (Tz e K as') (σ++[ϔ ((as'.map pv).map qg)]):=by
  rw[lP,zx0 _ (ks K) e (n:=σ.length) (ps:=as'.map pv) (by simpa using X) (by unfold gh;simp),AM,l3 (by have:=QP (as'.map pv);generalize (as'.map pv).map qg=L at *;simp[this])];rfl
 have fz:mi σ (Y (Tz e K as') (σ++[ϔ ((as'.map pv).map qg)]))=Y (Tz e K as') σ:=AO W;unfold Zc OS;generalize (as'.map pv).map qg=L at *;simp[-EA,J,R,la,wd,mt,mk,fz]
end
def W(e:Int)(K:List Int)(a:List Ka):Int:=Ju e (yk e (ks K) (a.map pv))
structure Kp where
 (e g:Int)
 K:List Int
 as:List Ka
 Q:Kv
def Kp.W(k:Kp):Int:=K44.W k.e k.K k.as
structure Hj(b:Nat)(k:Kp)(σ:lb):Prop where
 v:Vs b k.e k.g k.K k.as σ
 h2:σ[b+2]?=some (ϑ (AV k.as))
 h5:σ[b+5]?=some (ϑ k.Q)
 a:As k.as σ
 d:(k.as.map (·.2.p)).Nodup
 n:k.as.length<=3
 z:k.K.length<=60
 o:Gs (k.as.map pv)
 q:k.Q.length<=100
def Hj.app(h:Hj b k c)(j:lb):Hj b k (c++j):=⟨h.v.app j,Lv h.h2,Lv h.h5,h.a.app j,h.d,h.n,h.z,h.o,h.q⟩
def hU(h:Gs (a.map pv))(e:Int)(K:List Int)(b:lb):Mh [Tz e K a] b=Y (Z (W e K a)) b:=t9 h e (ks K) b
section
variable{b:Nat}{k:Kp}{σ:lb}(h:Hj b k σ)
include h
theorem KC:Sb [U b] σ=Y (Z k.W) σ:=by
 have v:=IT h.z h.v h.a (λx g=>⟨x,g,rfl⟩) h.n h.h2 (ϒ rfl);have d:=Xt h.v;have w:=hU h.o k.e k.K;have i:=λc=>Ej h.v (m:="view_by") 2 Zc c rfl;have j:=λc=>Ej h.v (m:="view") 1 Be c rfl;have f:=IR k.e k.K k.as;have w:∀ σ,Mh [Tz k.e k.K k.as] σ=Y (Z k.W) σ:=w;generalize Tz k.e k.K k.as=V at *;have l:Be [U b] σ=Y V σ:=by
  unfold Be nU;simp[i,d,v,f]
 unfold Sb nT;simp[j,l,w]
noncomputable def Ch(a:List Ka)(x:Ka):List Ka:=a.map λy=>if y.2.p=x.2.p then x else y
omit h
theorem ZR(c:∃ y∈a,y.2.p=x.2.p):vr (AV a) (Ϟ x.2.p) (U x.1)=AV (Ch a x):=by
 obtain⟨y,d,b⟩:=c;unfold vr AV Ch;rw[ma (Oe.mpr ⟨(Ϟ y.2.p,U y.1),va.mpr ⟨y,d,rfl⟩,by simp[b]⟩)];rw[Va,Va];refine Kb λz _=>?_;simp only[Function.comp];by_cases e:z.2.p=x.2.p
 ·rw[ma e,ma (by rw[e]),e]
 ·rw[ra e,ra λz=>e (by simpa using z)]
theorem DA(h:y∈Ch a x):y=x\/y∈a:=by
 obtain⟨z,b,rfl⟩:=va.mp h;split
 ·exact ϒ rfl
 ·exact ϖ b
theorem MC(a:List Ka)(x:Ka):(Ch a x).map (·.2.p)=a.map (·.2.p):=by
 unfold Ch;rw[Va];refine Kb λy _=>?_;simp only[Function.comp];split
 ·next e=>exact e.symm
 ·rfl
theorem zM(a:List Ka)(x:Ka):(Ch a x).length=a.length:=by unfold Ch;simp
structure ZF(a:Ac):Prop where
 q:a.q=0\/a.q=1
 f:0<a.y.length/\a.y.length<=2
 d:∀ s∈a.y,(s.ts.map Ti.w).Nodup/\s.ts.length<=9
 a:∀ s∈a.y,∀ t∈s.ts,0<=t.a
theorem bS(h:Gs (c.map pv))(g:ZF x.2):Gs ((Ch c x).map pv):=by
 have j:∀ p∈(Ch c x).map pv,p=pv x\/p∈c.map pv:=λp b=>by
  obtain⟨y,i,rfl⟩:=va.mp b;rcases DA i with rfl|i
  ·exact ϒ rfl
  ·exact ϖ (Gd i)
 refine⟨by rw[Sa,zM];simpa using h.n,λp b=>?_,λp b=>?_,λp b=>?_,λp b=>?_⟩<;>rcases j p b with rfl|e
 ·exact g.q
 ·exact h.q p e
 ·exact g.f
 ·exact h.f p e
 ·exact g.d
 ·exact h.d p e
 ·exact g.a
 ·exact h.a p e
include h
theorem PM{x:Ka}(i:Dj σ x.1 x.2)(j:x.2.Ok)(u:ZF x.2)(l:∃ y∈k.as,y.2.p=x.2.p)(d:Int):Ic [U b,U x.1,Z d] σ=Y (ϐ (decide (W k.e k.K (Ch k.as x) ≥ k.W - d))) σ:=by
 have q:=Xt h.v;have s:iE [U (b+2)] σ=Y (U σ.length) (σ++[ϑ (AV k.as)]):=by
  have:Ik σ (U (b+2))=some (AV k.as):=by unfold Ik;simp[h.h2]
  unfold iE;simp only[this]
 have E:∀ ρ,eu ρ (U x.1) (U σ.length) (Z x.2.p) (σ++[ϑ (AV k.as)])=Y (Ϛ ρ) (σ++[ϑ (AV (Ch k.as x))]):=λρ=>by
  rw[Xx (kvs:=AV k.as) (by simp) (by have:=h.n;simp[AV];omega),ZR l,YB]
 have D:=Xr (i.app [ϑ (AV k.as)]) j;have G:=(aa.mp h.h5).1;have F:As (Ch k.as x) σ:=λy c=>by
  rcases DA c with rfl|c
  ·exact⟨i,j⟩
  ·exact h.a y c
 have g:=h.v.app [ϑ (AV (Ch k.as x))];have v:=IT h.z g (F.app [ϑ (AV (Ch k.as x))]) (λy c=>by
  rcases DA c with rfl|c
  ·exact l
  ·exact⟨y,c,rfl⟩) (by rw[zM];exact h.n) (r:=σ.length) (by simp) (ϖ (by omega))
 have w:=hU (bS h.o u) k.e k.K;have A:=KC (h.app [ϑ (AV (Ch k.as x))]);have B:=λf=>Ej g (m:="view_by") 2 Zc f rfl;have C:=λf=>Ej g (m:="worth") 1 Sb f rfl;have fz:∀ t,mi σ (Y (ϐ t) (σ++[ϑ (AV (Ch k.as x))]))=Y (ϐ t) σ:=λt=>AO (by simp);unfold Ic wP;simp[q,s,E,D,v,w,A,B,C,fz]
end
theorem HJ:∀ {a:List Ka},(a.map (·.2.p)).Nodup->∀ x∈a,jl (AV a) (Ϟ x.2.p)=some (U x.1)
 |[],_,x,h=>by cases h
 |y::a,hd,x,b=>by
  rw[Ga,ze]at hd;unfold AV jl;rcases Ma.mp b with rfl|b
  ·simp
  ·have c:y.2.p≠x.2.p:=λe=>hd.1 (e ▸ Gd b);have d:=HJ hd.2 x b;unfold AV jl at d;simpa [c]using d
def L1(h:∀ x∈a,x.2.p≠p):jl (AV a) (Ϟ p)=none:=oU λz c e=>by
 obtain⟨x,b,rfl⟩:=va.mp c;exact h x b (by simpa using e)
def N1(a:List Ka)(x:Ka):CV (Ch a x)=CV a:=by
 have e:∀ a:List Ka,CV a=(a.map (·.2.p)).map λp=>(Ϟ p,.gt ["held"]):=λa=>by unfold CV;rw[Va];rfl
 rw[e,MC,<-e]
def yqd(a:List Ka)(x:Ka):SV (Ch a x)=SV a:=by
 have e:∀ a:List Ka,SV a=(a.map (·.2.p)).map λp=>(Ϟ p,Ϫ [] []):=λa=>by unfold SV;rw[Va];rfl
 rw[e,MC,<-e]
section
variable{b:Nat}{k:Kp}{σ:lb}(h:Hj b k σ)
include h
theorem OL:Ik σ (U (b+2))=some (AV k.as):=by unfold Ik;simp[h.h2]
theorem gL{x:Ka}(a:x∈k.as):wc [U b,Z x.2.p] σ=Y (ϐ true) σ:=by
 have g:=Xt h.v;have c:=CM h.v;have f:=sR h.v ⟨x,a,rfl⟩;have i:Ov (Z x.2.p) (U (b+2)) σ=Y (ϐ true) σ:=by
  unfold Ov;simp only[Xm,OL h,HJ h.d x a];rfl
 have e:∀ σ,SH (.gt ["held"]) (.gt ["held"]) σ=Y (ϐ true) σ:=λσ=>nr rfl;unfold wc tN;simp[g,c,f,i,e]
theorem KQ{p:Int}(a:∀ x∈k.as,x.2.p≠p):wc [U b,Z p] σ=Y (ϐ false) σ:=by
 have c:=Xt h.v;have i:Ov (Z p) (U (b+2)) σ=Y (ϐ false) σ:=by
  unfold Ov;simp only[Xm,OL h,L1 a];rfl
 unfold wc tN;simp[c,i]
theorem Sz{x:Ka}(a:x∈k.as):vm (U (b+2)) (Z x.2.p) σ=Y (U x.1) σ:=VE h.h2 (HJ h.d x a)
theorem Ï{x:Ka}(b:x∈k.as):mi σ (Y (U x.1) σ)=Y (U x.1) σ:=by
 have lt:=(aa.mp (h.a x b).1).1;unfold mi;dsimp only;rw[ma gd];have:fz σ.length σ 6 (U x.1)=some (U x.1):=by
  unfold fz;rw[ra (by simp)];dsimp only;rw[ma lt]
 rw[this]
theorem tM{x:Ka}(a:x∈k.as):qc [U b,Z x.2.p] σ=Y (U x.1) σ:=by
 have e:=Xt h.v;have i:Nx (Z x.2.p) (U (b+2)) σ=Y (ϐ false) σ:=by
  unfold Nx;simp only[Xm,OL h,HJ h.d x a];rfl
 have g:=Sz h a;have c:=Ï h a;unfold qc oW;simp[e,i,g,c]
theorem jW:Md [U b] σ=Y (Z k.g) σ:=by
 have a:=J6 h.v;unfold Md fT;simp[a]
theorem wN{x:Ka}(g:Dj σ x.1 x.2)(i:x.2.Ok)(l:ZF x.2)(j:∃ y∈k.as,y.2.p=x.2.p):(∀ f,eu f (U x.1) (U (b+2)) (Z x.2.p) σ=Y (Ϛ f) (σ.set (b+2) (ϑ (AV (Ch k.as x)))))/\Hj b { k with as:=Ch k.as x } (σ.set (b+2) (ϑ (AV (Ch k.as x)))):=by
 have lt:=(aa.mp h.h2).1;refine⟨λf=>by rw[Xx h.h2 (by have:=h.n;simp[AV];omega),ZR j],?_⟩;have c:=h.v.set (ϒ rfl) (ϑ (AV (Ch k.as x)));refine⟨⟨c.h0,c.h1,?_,?_⟩,pc lt,Yk (by omega) h.h5,?_,?_,?_,h.z,bS h.o l,h.q⟩
 ·show _=some (ϑ (CV (Ch k.as x)));rw[N1];exact c.h3
 ·show _=some (ϑ (SV (Ch k.as x)));rw[yqd];exact c.h4
 ·have m:As (Ch k.as x) σ:=λy e=>by
   rcases DA e with rfl|e
   ·exact⟨g,i⟩
   ·exact h.a y e
  exact m.set h.h2 _
 ·show ((Ch k.as x).map (·.2.p)).Nodup;rw[MC];exact h.d
 ·show (Ch k.as x).length<=3;rw[zM];exact h.n
theorem dY{d:Int}{a:Ev}{c:Ev->M D}(i:c a σ=Y (Z d) σ):QA a [9] "gave" c (U b) σ=Y (Ϛ a) (σ.set b (Ϙ 9 (Au b k.e (k.g+d)))):=by
 have j:=ay h.v;have f:=h.v.h0;have lk:List.lookup ("gave" : Str) (Au b k.e k.g)=some (Z k.g):=rfl;unfold QA;rw[j];simp only[lk];rw[qo,i,ut];unfold wK;simp only[f];rfl
theorem GQ(d:Int):Hj b { k with g:=k.g+d } (σ.set b (Ϙ 9 (Au b k.e (k.g+d)))):=by
 have lt:=(aa.mp h.v.h0).1;refine⟨⟨pc lt,Yk (by omega) h.v.h1,Yk (by omega) h.v.h3,Yk (by omega) h.v.h4⟩,Yk (by omega) h.h2,Yk (by omega) h.h5,λx f=>⟨Yk (λe=>?_) (h.a x f).1,(h.a x f).2⟩,h.d,h.n,h.z,h.o,h.q⟩;have a:=(h.a x f).1;unfold Dj at a;have i:=h.v.h0;rw[e]at i;rw[i]at a;have c:=(h.a x f).2.c;have:x.2.c=9:=by
  have:=Dc (λo=>match o with|some (Ϙ c _)=>c|_=>0) a;exact this.symm
 rw[this]at c;exact absurd c (by decide)
theorem uV{Q:Kv}(c:Q.length<=100):Hj b { k with Q:=Q } (σ.set (b+5) (ϑ Q)):=by
 have lt:=(aa.mp h.h5).1;have e:=h.v.set (r:=b+5) (ϖ (by omega)) (ϑ Q);exact⟨e,Yk (by omega) h.h2,pc lt,h.a.set h.h5 _,h.d,h.n,h.z,h.o,c⟩
end
def Ot(d:Int)(s:Sn):D:=Ϗ [Z d,Ϗ [Z s.a,Z s.b],Ϗ (s.ts.map Ti.D)]
def AQ(Q:Kv):Prop:=∀ z∈Q,∃ d s,z.2=Ot d s
section
variable{b:Nat}{k:Kp}{σ:lb}(h:Hj b k σ)
include h
theorem HM:Ik σ (U (b+5))=some k.Q:=by unfold Ik;simp[h.h5]
theorem Q3{X:D}{kd:Str}(d:∀ σ,ib X (Z 0) σ=Y (ύ kd) σ)(c:(kd == ("offer" : Str))=false):Jb [U b,X] σ=Y (ϐ false) σ:=by
 have a:=TF kd "offer" σ;rw[c]at a;unfold Jb NG;simp[d,a]
theorem Δ(u:AQ k.Q)(p:Int)(s:Sn):(jl k.Q (Ϟ p)=none/\Jb [U b,Jj p 0 s] σ=Y (ϐ false) σ)\/∃ d c e,jl k.Q (Ϟ p)=some (Ot d c)/\Jb [U b,Jj p 0 s] σ=Y (ϐ e) σ:=by
 have l:=oJ h.v;have m:Aj (ύ "offer") (ύ "offer") σ=Y (ϐ false) σ:=ny (by simp[pl]);have i:∀ σ,ib (Jj p 0 s) (Z 0) σ=Y (ύ "offer") σ:=λσ=>by unfold Jj;simp
 have j:∀ σ,ib (Jj p 0 s) (Z 1) σ=Y (Z p) σ:=λσ=>by unfold Jj;simp
 have A:∀ σ,ib (Jj p 0 s) (Z 2) σ=Y (oi p 0 s.D) σ:=λσ=>by unfold Jj;simp
 have B:∀ σ,ib (oi p 0 s.D) (Z 3) σ=Y s.D σ:=λσ=>by unfold oi;simp
 cases f:jl k.Q (Ϟ p)with
 |none=>
  refine ϒ ⟨rfl,?_⟩;have n:Nx (Z p) (U (b+5)) σ=Y (ϐ true) σ:=by
   unfold Nx;simp only[Xm,HM h,f];rfl
  unfold Jb NG;simp[i,j,l,m,n]
 |some v=>
  have n:Nx (Z p) (U (b+5)) σ=Y (ϐ false) σ:=by
   unfold Nx;simp only[Xm,HM h,f];rfl
  obtain⟨d,c,rfl⟩:∃ d c,v=Ot d c:=by
   obtain⟨z,y,rfl⟩:=Ra.mp f;exact u z (Lg y)
  have gt:=VE h.h5 f;have q:zw [Z s.n,Ϗ [Z s.a,Z s.b],Ϗ (s.ts.map Ti.D)] (some 1) none=[Ϗ [Z s.a,Z s.b],Ϗ (s.ts.map Ti.D)]:=rfl;have r:zw [Z d,Ϗ [Z c.a,Z c.b],Ϗ (c.ts.map Ti.D)] (some 1) none=[Ϗ [Z c.a,Z c.b],Ϗ (c.ts.map Ti.D)]:=rfl;have l1:∀ σ,iB s.D (some 1) none σ=Y (Ϗ [Ϗ [Z s.a,Z s.b],Ϗ (s.ts.map Ti.D)]) σ:=λσ=>by
   unfold Sn.D Cn;rw[FU,q]
  have l2:∀ σ,iB (Ot d c) (some 1) none σ=Y (Ϗ [Ϗ [Z c.a,Z c.b],Ϗ (c.ts.map Ti.D)]) σ:=λσ=>by
   unfold Ot;rw[FU,r]
  have o:∀ s:Sn,pl 8 (Ϗ [Ϗ [Z s.a,Z s.b],Ϗ (s.ts.map Ti.D)])=true:=λs=>NA λx g=>by
   have g:x=Ϗ [Z s.a,Z s.b]\/x=Ϗ (s.ts.map Ti.D):=by simpa using g
   rcases g with rfl|rfl
   ·simp[pl]
   ·exact wS 5 s.ts
  obtain⟨e,w⟩:=jY σ 8 _ _ (o s) (o c);have t:Uf (Ϗ [Ϗ [Z s.a,Z s.b],Ϗ (s.ts.map Ti.D)]) (Ϗ [Ϗ [Z c.a,Z c.b],Ϗ (c.ts.map Ti.D)]) σ=Y (ϐ e) σ:=nI w;refine ϖ ⟨d,c,e,rfl,?_⟩;unfold Jb NG;simp[i,j,A,B,l,n,m,gt,l1,l2,t]
end
@[simp] theorem zv5(b:List Nat)(f:Str)(d c:Ev->M D)(a:Ev)(e:lb):EH b f d c a e=cn a (QA a b f d) (c a e):=qo ..
theorem B2{i gs:List (Str × D)}(k:e b a=Y x a)(m:f b a=Y y a)(o:Dm a x=some (c,i))(p:Dm a y=some (d,gs))(n:(c,d)∈l):oz l h e f j g b a=g b a:=by
 unfold oz;rw[qo,k,ut,qo,m,ut];unfold bK;simp only[o,p];rw[ma n]
theorem T7(j:e b σ=Y (U n) σ)(k:f b σ=Y (U n) σ)(q:Dm σ (U n)=some (c,h))(p:(c,c) ∉ l)(o:c∈d)(m:g b σ=Y (Ϯ z) a):oz l d e f g i b σ=Y (Ϯ z) a:=by
 unfold oz;rw[qo,j,ut,qo,k,ut];unfold bK;simp only[q];rw[ra p,ma ⟨trivial,o⟩];unfold UK;simp only[m];rfl
structure SO(T:Int)(s:Sn):Prop where
 ok:s.Ok T
 w:∀ t∈s.ts,t.w<50
def IL(L:List D):Prop:=∀ z∈L,∃ i,z=Z i
theorem IL.cl(h:IL L):fh L=true:=Mr λd a=>by obtain⟨i,rfl⟩:=h d a;rfl
def IL.add(h:IL L)(n:Int):IL (L++[Z n]):=λz a=>by
 rcases Wb.mp a with a|a
 ·exact h z a
 ·exact⟨n,yb.mp a⟩
inductive AI(T:Int->Int)(N:Nat):Ac->Prop where
 |Lc {p q:Int} {m:Sn} {G:D} {L:List D} (hp:0<=p/\p<=2) (hq:q=0\/q=1) (hm:SO (T p) m) (hn:m.n<=N) (hg:cl G=true) (hl:IL L) (hL:L.length<=N):AI T N (Lc p q m G L)
 |li {p:Int} {m s:Sn} {G:D} {L:List D} (hp:0<=p/\p<=2) (hm:SO (T p) m) (hs:SO (T p) s) (hn:s.n=m.n+1) (hN:s.n<=N) (hg:cl G=true) (hl:IL L) (hL:L.length<=N):AI T N (li p 0 m s G L)
 |wait {p:Int} {m s:Sn} {G:D} {L:List D} (hp:0<=p/\p<=2) (hm:SO (T p) m) (hs:SO (T p) s) (hn:s.n=m.n+1) (hN:s.n<=N) (hg:cl G=true) (hl:IL L) (hL:L.length<=N):AI T N (wait p 1 m s G L)
def AI.up{T:Int->Int}{N M:Nat}(h:AI T N a)(k:N<=M):AI T M a:=by
 cases h with
 |Lc b c d f i e g=>exact .Lc b c d (by omega) i e (by omega)
 |li b c d f i e g j=>exact .li b c d f (by omega) e g (by omega)
 |wait b c d f i e g j=>exact .wait b c d f (by omega) e g (by omega)
def AI.ok{T:Int->Int}(h:AI T N a):a.Ok:=by
 cases h with
 |Lc b e g i f c d=>exact ww b e f c.cl
 |li b e g i f c d j=>exact LJ b (ϒ rfl) c d.cl
 |wait b e g i f c d j=>exact dJ b (ϖ rfl) c d.cl
def AI.so{T:Int->Int}(h:AI T N a):(∀ s∈a.y,SO (T a.p) s)/\0<a.y.length/\a.y.length<=2:=by
 cases h with
 |Lc e d c f g i j=>exact⟨λs b=>by
   rw[yb.mp (b)];exact c,by simp[K44.Lc],by simp[K44.Lc]⟩
 |li e d c f g i j k=>exact⟨λs b=>by
   rcases Ma.mp (b)with rfl|b
   ·exact d
   ·rw[yb.mp b];exact c,by simp[K44.li],by simp[K44.li]⟩
 |wait e d c f g i j k=>exact⟨λs b=>by
   rcases Ma.mp (b)with rfl|b
   ·exact d
   ·rw[yb.mp b];exact c,by simp[K44.wait],by simp[K44.wait]⟩
def AI.vA{T:Int->Int}(h:AI T N a):ZF a:=⟨h.ok.q,h.so.2,λs b=>⟨((h.so.1 s b).ok).st.d,by have:=((h.so.1 s b).ok).st.l;omega⟩,λs b t c=>by have:=(((h.so.1 s b).ok).st.t t c).a;omega⟩
def Fr(b:Nat)(c a:lb):Prop:=∀ r o,r<b->c[r]?=some o->a[r]?=some o
def Fr.trans(h:Fr b a c)(g:Fr b c d):Fr b a d:=λr o f e=>g r o f (h r o f e)
def Fr.refl(b:Nat)(a:lb):Fr b a a:=λ_ _ _ e=>e
def Fr.app(b:Nat)(a j:lb):Fr b a (a++j):=λ_ _ _ e=>Lv e
def Fr.set(a:lb)(c:b<=i)(o:Ob):Fr b a (a.set i o):=λr _ d e=>Yk (by omega) e
structure Dn(T:Int->Int)(N b:Nat)(k:Kp)(σ:lb)(k':Kp)(σ':lb):Prop where
 at':Hj b k' σ'
 w:k.W+k.g<=k'.W+k'.g
 e:k'.e=k.e
 K:(∀ v∈k.K,v∈k'.K)/\k'.K.length<=k.K.length+1
 a:∀ y∈k'.as,y∈k.as\/AI T (N+1) y.2
 p:k'.as.map (·.2.p)=k.as.map (·.2.p)
 Q:AQ k'.Q/\k'.Q.length<=k.Q.length+1
 f:Fr b σ σ'
section
variable{T:Int->Int}{N b:Nat}{k:Kp}{σ:lb}(h:Hj b k σ)(hQ:AQ k.Q)
def Dn.same{a:lb}(h:Hj b k a)(hQ:AQ k.Q)(f:Fr b σ a):Dn T N b k σ k a:=⟨h,Dv _,rfl,⟨λ_ h=>h,by omega⟩,λy c=>ϒ c,rfl,⟨hQ,by omega⟩,f⟩
def qR(hQ:AQ Q)(f:Nd × D->Bool):AQ (Q.filter f)/\(Q.filter f).length<=Q.length:=⟨λz a=>hQ z (rf.mp a).1,ng ..⟩
include h
theorem oA{x:Ka}(l:x∈k.as)(j:x.2.c∈[5,6,7]){X:D}(r:ib X (Z 1) σ=Y (Z x.2.p) σ){d:List D->M D}(s:∀ f,Bo [(5,Uc),(6,Hc),(7,Gc)] 2 "taken" f (U x.1) σ=(f σ).bind (Ql 2 d (U x.1)))(t:d [U x.1,X] σ=Y (Ϗ [U x.1,ϛ]) σ):Ib [U b,X] σ=Y (O []) σ:=by
 have m:=Xt h.v;have g:=Sz h l;have q:∀ n o i,oz [(7,5),(5,7),(5,6)] [5,6,7] (Ja ib (da 3) (eC (Z 0))) (Ja vm (Dd (Mc [9] "accounts") (da 0)) (da 2)) (pd (Zh Pa)) i [some (U b),some X,some (Z x.2.p),some (Ϗ [U x.1,ϛ]),n,o] σ=Y (Ϯ (O [])) σ:=λn o i=>by
  refine T7 ?_ ?_ (jp (h.a x l).1) ?_ j ?_
  ·simp
  ·simp[m,g]
  ·rcases by simpa using j with e|e|e<;>rw[e]<;>decide
  ·simp
 unfold Ib HB IB fC;simp[m,g,r,s,t,q]
include hQ
theorem EM{x:Ka}(V:x∈k.as){a':Ac}(hp:a'.p=x.2.p)(H:AI T (N+1) a')(hc:(a'.c,x.2.c)∈[(7,5),(5,7),(5,6)]){X R:D}{L:Bool}(ϋ:∀ σ,ib X (Z 1) σ=Y (Z x.2.p) σ)(ask:(∃ kd,(∀ σ,ib X (Z 0) σ=Y (ύ kd) σ)/\(kd == ("offer" : Str))=false)\/∃ s,X=Jj x.2.p 0 s){fn:List D->M D}(mk:∀ r,Bo [(5,Uc),(6,Hc),(7,Gc)] 2 "taken" r (U x.1) σ=(r σ).bind (Ql 2 fn (U x.1)))(tk:fn [U x.1,X] σ=Y (Ϗ [U σ.length,R]) (σ++[Ϙ a'.c a'.fs]))(rn:∀ σ,Uu R ϛ σ=Y (ϐ L) σ):∃ d k' f,Ib [U b,X] σ=Y d f/\Dn T N b k σ k' f:=by
 have u:=Xt h.v;have t:=Sz h V;have o:=h.app [Ϙ a'.c a'.fs];have ia:Dj (σ++[Ϙ a'.c a'.fs]) σ.length a':=by unfold Dj;simp
 have B:=Fr.app b σ [Ϙ a'.c a'.fs];generalize a4:σ++[Ϙ a'.c a'.fs]=l at *;have J:=Xt o.v;have kq:=oJ o.v;have F:=Sz o V;have P:∀ (C y5:Option D) (gr:Ev->M Fl),oz [(7,5),(5,7),(5,6)] [5,6,7] (Ja ib (da 3) (eC (Z 0))) (Ja vm (Dd (Mc [9] "accounts") (da 0)) (da 2)) (pd (Zh Pa)) gr [some (U b),some X,some (Z x.2.p),some (Ϗ [U σ.length,R]),C,y5] l=gr [some (U b),some X,some (Z x.2.p),some (Ϗ [U σ.length,R]),C,y5] l:=λC y5 gr=>by
  refine B2 (x:=U σ.length) (y:=U x.1) ?_ ?_ (jp ia) (jp (o.a x V).1) hc
  ·simp
  ·simp[J,F]
 have I:∃ y∈k.as,y.2.p=((σ.length,a'):Ka).2.p:=⟨x,V,hp.symm⟩
 have n:=λd=>PM o (x:=(σ.length,a')) ia H.ok H.vA I d;have ϊ:=λr=>Ej o.v (m:="is_good") 3 Ic r rfl;have mq:=λr=>Ej o.v (m:="is_as_asked") 2 Jb r rfl;obtain⟨sa,G⟩:=wN o (x:=(σ.length,a')) ia H.ok H.vA I;rw[hp]at sa;have a3:∀ y∈Ch k.as (σ.length,a'),y∈k.as\/AI T (N+1) y.2:=λy hy=>by
  rcases DA hy with rfl|hy
  ·exact ϖ H
  ·exact ϒ hy
 have Uh:∀ (i:Int) (j:Kv),AQ j->j.length<=k.Q.length->∀ f,Hj b ⟨k.e,k.g+i,k.K,Ch k.as (σ.length,a'),j⟩ f->Fr b l f->W k.e k.K (Ch k.as (σ.length,a')) ≥ k.W - i->Dn T N b k σ ⟨k.e,k.g+i,k.K,Ch k.as (σ.length,a'),j⟩ f:=λi j q1 q2 f S ό z=>⟨S,by
   have e:(⟨k.e,k.g+i,k.K,Ch k.as (σ.length,a'),j⟩:Kp).W=W k.e k.K (Ch k.as (σ.length,a')):=rfl;rw[e];dsimp only;omega,rfl,⟨λ_ h=>h,by dsimp only;omega⟩,a3,MC _ _,⟨q1,by dsimp only;omega⟩,B.trans ό⟩
 have no:Jb [U b,X] l=Y (ϐ false) l->∃ d k' f,Ib [U b,X] σ=Y d f/\Dn T N b k σ k' f:=λw=>by
  by_cases z:W k.e k.K (Ch k.as (σ.length,a')) ≥ k.W - 0
  ·have n:=n 0;rw[nb z]at n;refine⟨O (if L then []else [R]),_,_,?_,Uh 0 k.Q hQ (Ea _) (l.set (b+2) (ϑ (AV (Ch k.as (σ.length,a'))))) (by rw[Int.add_zero];exact G) (.set l (by omega) _) z⟩;unfold Ib HB IB fC SE rE mE QF ZE MF;cases L<;>simp[u,t,J,F,ϋ,mk,tk,P,n,ϊ,mq,w,sa,rn]
  ·have n:=n 0;rw[Oa z]at n;refine⟨O [],k,l,?_,.same o hQ B⟩;unfold Ib HB IB fC SE rE mE QF ZE MF;simp[u,t,J,F,ϋ,mk,tk,P,n,ϊ,mq,w]
 rcases ask with⟨kd,i0,hk⟩|⟨s,rfl⟩
 ·exact no (Q3 o i0 hk)
 ·rcases Δ o hQ x.2.p s with⟨_,w⟩|⟨i,s',e,ό,w⟩
  ·exact no w
  ·cases e with
   |false=>exact no w
   |true=>
    have gq:vm (U (b+5)) (Z x.2.p) l=Y (Ot i s') l:=VE o.h5 ό;have a0:∀ σ,ib (Ot i s') (Z 0) σ=Y (Z i) σ:=λσ=>by unfold Ot;simp
    have n:=n i;by_cases z:W k.e k.K (Ch k.as (σ.length,a')) ≥ k.W - i
    ·rw[nb z]at n;have a2:=oJ G.v;have dq:=HM G;have mp:∀ r,cA XA r (U (b+5)) (l.set (b+2) (ϑ (AV (Ch k.as (σ.length,a')))))=(r (l.set (b+2) (ϑ (AV (Ch k.as (σ.length,a')))))).bind (XA (U (b+5))):=λr=>by
      unfold cA;rw[dq];rfl
     have h5:=G.h5;have a1:Fr b l (l.set (b+2) (ϑ (AV (Ch k.as (σ.length,a'))))):=.set l (by omega) _;generalize l.set (b+2) (ϑ (AV (Ch k.as (σ.length,a'))))=A at *;have po:∃ j,AQ j/\j.length<=k.Q.length/\XA (U (b+5)) [Z x.2.p] A=Y (Ot i s') (A.set (b+5) (ϑ j)):=by
      refine⟨XD k.Q (Ϟ x.2.p),(qR hQ _).1,(qR hQ _).2,?_⟩;unfold XA;simp only[Xm,h5];simp[ό]
     obtain⟨j,q1,q2,po⟩:=po;have S:=uV G (Q:=j) (by have:=h.q;omega);have gv:∀ (y0 y1 y2 y3 C:Option D),QA [y0,y1,y2,y3,C,some (Z i)] [9] "gave" (da 5) (U b) (A.set (b+5) (ϑ j))=Y (Ϛ [y0,y1,y2,y3,C,some (Z i)]) ((A.set (b+5) (ϑ j)).set b (Ϙ 9 (Au b k.e (k.g+i)))):=λy0 y1 y2 y3 C=>dY S (by simp);have h4:=GQ S i;have E:Fr b A (A.set (b+5) (ϑ j)):=.set A (by omega) _;generalize A.set (b+5) (ϑ j)=ώ at *;refine⟨O (if L then []else [R]),_,_,?_,Uh i j q1 q2 (ώ.set b (Ϙ 9 (Au b k.e (k.g+i)))) h4 ((a1.trans E).trans (.set ώ (Ea _) _)) z⟩;unfold Ib HB IB fC SE rE mE QF ZE MF;cases L<;>simp[u,t,J,kq,a2,F,ϋ,mk,tk,P,n,ϊ,mq,w,gq,a0,sa,mp,po,gv,rn]
    ·rw[Oa z]at n;refine⟨O [],k,l,?_,.same o hQ B⟩;unfold Ib HB IB fC SE rE mE QF ZE MF;simp[u,t,J,kq,F,ϋ,mk,tk,P,n,ϊ,mq,w,gq,a0]
end
section
variable{T:Int->Int}{N b:Nat}{k:Kp}{σ:lb}(h:Hj b k σ)(hQ:AQ k.Q){x:Ka}(hx:x∈k.as)
include h hx
theorem Kz{X d:D}{kd:Str}{a:lb}(e:Kc [X] σ=Y (ϐ true) σ)(g:∀ σ,ib X (Z 0) σ=Y (ύ kd) σ)(i:∀ σ,ib X (Z 1) σ=Y (Z x.2.p) σ)(k:(kd == ("word" : Str))=false)(j:(kd == ("ask" : Str))=false)(o:Ib [U b,X] σ=Y d a):Cb [U b,X] σ=Y d a:=by
 have f:=gL h hx;have l:=λc=>Ej h.v (m:="holds") 2 wc c rfl;have n:=λc=>Ej h.v (m:="take_step") 2 Ib c rfl;unfold Cb cG;simp[e,g,i,k,j,f,l,n,o]
theorem dO{s:Sn}(j:fq s.n s.a s.b s.ts)(i:0<=x.2.p/\x.2.p<=2){d:D}{c:lb}(r:rc [U b,Oj x.2.p s] σ=Y d c):Cb [U b,Oj x.2.p s] σ=Y d c:=by
 have f:=WR i σ j;have k:∀ σ,ib (Oj x.2.p s) (Z 0) σ=Y (ύ "ask") σ:=λσ=>by unfold Oj;simp
 have l:∀ σ,ib (Oj x.2.p s) (Z 1) σ=Y (Z x.2.p) σ:=λσ=>by unfold Oj;simp
 have g:=gL h hx;have o:=λe=>Ej h.v (m:="holds") 2 wc e rfl;have q:=λe=>Ej h.v (m:="take_ask") 2 rc e rfl;unfold Cb cG;simp[f,k,l,g,o,q,r]
theorem MW{s:Sn}(k:∀ X ϋ,Ve [U x.1,X,ϋ] σ=.ex ⟨2⟩ σ):rc [U b,Oj x.2.p s] σ=Y (O []) σ:=by
 have e:∀ σ,ib (Oj x.2.p s) (Z 1) σ=Y (Z x.2.p) σ:=λσ=>by unfold Oj;simp
 have f:∀ σ,ib (Oj x.2.p s) (Z 2) σ=Y (Ϗ [Z s.a,Z s.b]) σ:=λσ=>by unfold Oj;simp
 have i:∀ σ,ib (Oj x.2.p s) (Z 3) σ=Y (Ϗ (s.ts.map Ti.D)) σ:=λσ=>by unfold Oj;simp
 have j:=Xt h.v;have c:=Sz h hx;have d:∀ g ρ σ,Nw ρ ⟨2⟩ [⟨Hz [(1,true),(2,true)],none,g⟩] σ=hit ⟨Hz [(1,true),(2,true)],none,g⟩ ρ ⟨2⟩ σ:=λg ρ σ=>JQ rfl;unfold rc QH OJ JJ XH VG;simp[e,f,i,j,c,k,d]
include hQ
theorem t2{p:Int}{m s:Sn}{G:D}{L:List D}(e:x.2=Lc p 0 m G L)(E:0<=p/\p<=2)(B:SO (T p) m)(F:SO (T p) s)(C:s.n=m.n+1)(X:s.n<=(N+1:Nat))(z:cl G=true)(A:IL L)(hL:L.length<=N):∃ d ϋ q,rc [U b,Oj x.2.p s] σ=Y d q/\Dn T N b k σ ϋ q:=by
 have w:x.2.p=p:=by rw[e];rfl
 have j:AI T (N+1) (li p 0 m s G L):=.li E B F C X z A (by omega);have I:∀ σ,ib (Oj x.2.p s) (Z 1) σ=Y (Z x.2.p) σ:=λσ=>by unfold Oj;simp
 have J:∀ σ,ib (Oj x.2.p s) (Z 2) σ=Y (Ϗ [Z s.a,Z s.b]) σ:=λσ=>by unfold Oj;simp
 have M:∀ σ,ib (Oj x.2.p s) (Z 3) σ=Y (Ϗ (s.ts.map Ti.D)) σ:=λσ=>by unfold Oj;simp
 have o:=Xt h.v;have f:=Sz h hx;have R:=nY E B.ok F.ok C z A.cl (show Dj σ x.1 (Lc p 0 m G L)from e ▸ (h.a x hx).1);have i:=h.app [Ϙ 6 (li p 0 m s G L).fs];have ώ:Dj (σ++[Ϙ 6 (li p 0 m s G L).fs]) σ.length (li p 0 m s G L):=by unfold Dj;simp[li]
 have c:=Fr.app b σ [Ϙ 6 (li p 0 m s G L).fs];generalize σ++[Ϙ 6 (li p 0 m s G L).fs]=t at *;have ϊ:=Xt i.v;have l:∃ y∈k.as,y.2.p=((σ.length,li p 0 m s G L):Ka).2.p:=⟨x,hx,w⟩
 have r:=PM i (x:=(σ.length,li p 0 m s G L)) ώ j.ok j.vA l 0;have P:=λό=>Ej i.v (m:="is_good") 3 Ic ό rfl;obtain⟨sa,V⟩:=wN i (x:=(σ.length,li p 0 m s G L)) ώ j.ok j.vA l;have sa:∀ S,eu S (U σ.length) (U (b+2)) (Z x.2.p) t=Y (Ϛ S) (t.set (b+2) (ϑ (AV (Ch k.as (σ.length,li p 0 m s G L))))):=by rw[w];exact sa
 by_cases H:W k.e k.K (Ch k.as (σ.length,li p 0 m s G L)) ≥ k.W - 0
 ·rw[nb H]at r;refine⟨O [Jj p 0 s],_,_,?_,⟨V,?_,rfl,⟨λ_ h=>h,by dsimp only;omega⟩,λy u=>?_,MC _ _,⟨hQ,by dsimp only;omega⟩,c.trans (.set t (by omega) _)⟩⟩
  ·unfold rc QH OJ JJ XH VG;simp[I,J,M,o,f,ϊ,R,r,P,sa]
  ·have e:(⟨k.e,k.g,k.K,Ch k.as (σ.length,li p 0 m s G L),k.Q⟩:Kp).W=W k.e k.K (Ch k.as (σ.length,li p 0 m s G L)):=rfl;show k.W+k.g<=(⟨k.e,k.g,k.K,Ch k.as (σ.length,li p 0 m s G L),k.Q⟩:Kp).W+k.g;rw[e];omega
  ·rcases DA u with rfl|u
   ·exact ϖ j
   ·exact ϒ u
 ·rw[Oa H]at r;refine⟨O [],k,t,?_,.same i hQ c⟩;unfold rc QH OJ JJ XH VG;simp[I,J,M,o,f,R,r,P]
end
def Ir(h:Dj σ n a)(e:a.c=c)(f:Ax l c=some b)(g:a.fs.lookup m=none)(k:Nat)(d:M (List D)):Bo l k m d (U n) σ=(d σ).bind (Ql k b (U n)):=Et (jp h) (by rw[e];exact f) g
noncomputable def wa(a:Ac):Sn:=a.y.getLastD a.m
noncomputable def bc(a:Ac):Sn:=a.y.headD a.m
inductive Lt(T:Int->Int)(N:Nat)(a:Ac):D->Prop where
 |off {s:Sn} (hq:a.q=1) (hs:SO (T a.p) s) (hn:s.n=a.m.n+1):Lt T N a (Jj a.p 0 s)
 |ask {s:Sn} (hq:a.q=0) (hs:SO (T a.p) s) (hn:s.n=a.m.n+1):Lt T N a (Oj a.p s)
 |acc (hq:a.q=0):Lt T N a (Fs a.p a.m (wa a))
 |En (hq:a.q=1):Lt T N a (Dq a.p 0 (bc a).n)
 |wd {w:Int} (hw:0<=w/\w<50):Lt T N a (eA a.p w)
inductive Tu(a:Ac)(T:Int->Int):D->Prop where
 |off {s:Sn} (hq:a.q=0) (hs:SO (T a.p) s):Tu a T (Jj a.p 1 s)
 |ask {s:Sn} (hq:a.q=1) (hs:SO (T a.p) s):Tu a T (Oj a.p s)
 |En {n:Int} (hq:a.q=0) (hn:0<=n/\n<=1000000):Tu a T (Dq a.p 1 n)
def c5:(5:Nat)∈[5,6,7]:=by decide
def c6:(6:Nat)∈[5,6,7]:=by decide
def c7:(7:Nat)∈[5,6,7]:=by decide
def p75:((7,5):Nat × Nat)∈[(7,5),(5,7),(5,6)]:=by decide
def L5:((5,7):Nat × Nat)∈[(7,5),(5,7),(5,6)]:=by decide
def rL:((5,6):Nat × Nat)∈[(7,5),(5,7),(5,6)]:=by decide
def bJ(p q:Int)(s:Sn)(a:lb):ib (Jj p q s) (Z 0) a=Y (ύ "offer") a:=by unfold Jj;simp
def uz(p q:Int)(s:Sn)(a:lb):ib (Jj p q s) (Z 1) a=Y (Z p) a:=by unfold Jj;simp
def ZM(p:Int)(m s:Sn)(a:lb):ib (Fs p m s) (Z 0) a=Y (ύ "accept") a:=by unfold Fs;simp
def VI(p:Int)(m s:Sn)(a:lb):ib (Fs p m s) (Z 1) a=Y (Z p) a:=by unfold Fs;simp
def qD(p q n:Int)(a:lb):ib (Dq p q n) (Z 0) a=Y (ύ "struck") a:=by unfold Dq;simp
def cB(p q n:Int)(a:lb):ib (Dq p q n) (Z 1) a=Y (Z p) a:=by unfold Dq;simp
noncomputable def am(K:List Int)(w:Int):List Int:=if w∈K then K else K++[w]
def yJ{K:List Int}:v∈am K w ↔ v∈K\/v=w:=by
 unfold am;split
 ·next h=>exact⟨ϒ,λz=>z.elim id λe=>e ▸ h⟩
 ·simp
theorem cR(K:List Int)(w:Int):vr (cq K) (Ϟ w) (ϐ true)=cq (am K w):=by
 unfold am;by_cases h:w∈K
 ·have a:(cq K).any (λc=>decide (c.1=Ϟ w))=true:=Oe.mpr ⟨(Ϟ w,ϐ true),va.mpr ⟨w,h,rfl⟩,by simp⟩;unfold vr;rw[a,ma rfl,ma h];unfold cq;rw[Va];refine Kb λv _=>?_;simp only[Function.comp];split<;>rfl
 ·rw[ra h,lB _ λp b e=>by
   obtain⟨d,a,rfl⟩:=va.mp b;have e:d=w:=by simpa using e
   exact h (e ▸ a)]
  unfold cq;rw[Rb];rfl
section
variable{b:Nat}{k:Kp}{σ:lb}(h:Hj b k σ)(hz:k.K.length<60)
include h hz
theorem IG(w:Int):Yc [U b,O [Z w]] σ=Y ϛ (σ.set (b+1) (ϑ (cq (am k.K w))))/\Hj b { k with K:=am k.K w } (σ.set (b+1) (ϑ (cq (am k.K w)))):=by
 have c:=vH h.v;have lt:=(aa.mp h.v.h1).1;have e:∀ ρ,eu ρ (ϐ true) (U (b+1)) (Z w) σ=Y (Ϛ ρ) (σ.set (b+1) (ϑ (cq (am k.K w)))):=λρ=>by
  rw[Xx h.v.h1 (by unfold cq;simp;omega),cR]
 refine⟨?_,⟨Yk (by omega) h.v.h0,pc lt,Yk (by omega) h.v.h3,Yk (by omega) h.v.h4⟩,Yk (by omega) h.h2,Yk (by omega) h.h5,h.a.set h.v.h1 _,h.d,h.n,?_,h.o,h.q⟩
 ·unfold Yc nN;simp[c,e]
 ·show (am k.K w).length<=60;unfold am;split
  ·omega
  ·simp;omega
theorem IX{p w:Int}(c:0<=p/\p<=2)(d:0<=w/\w<=59):Cb [U b,eA p w] σ=Y (O []) (σ.set (b+1) (ϑ (cq (am k.K w)))):=by
 have e:=(IG h hz w).1;have f:=λa=>Ej h.v (m:="learn") 2 Yc a rfl;have lt:=ι c σ d;unfold Cb cG;unfold eA at *;simp[lt,f,e]
theorem W6{T:Int->Int}{N:Nat}(c:AQ k.Q)(w:Int):Dn T N b k σ { k with K:=am k.K w } (σ.set (b+1) (ϑ (cq (am k.K w)))):=by
 refine⟨(IG h hz w).2,?_,rfl,⟨λv a=>yJ.mpr (ϒ a),by unfold am;dsimp only;split<;>simp⟩,λy d=>ϒ d,rfl,⟨c,by dsimp only;omega⟩,.set σ (by omega) _⟩;have:=U6 (e:=k.e) (K':=ks (am k.K w)) (λv a=>eF.mpr (yJ.mpr (ϒ (eF.mp a)))) h.o;show W k.e k.K k.as+k.g<=W k.e (am k.K w) k.as+k.g;unfold W;omega
end
section
variable{T:Int->Int}{N b:Nat}{k:Kp}{σ:lb}(h:Hj b k σ)(hQ:AQ k.Q){x:Ka}(hx:x∈k.as)(hA:AI T N x.2)
include h hx hA
theorem O2{X:D}(s:Tu x.2 T X):Cb [U b,X] σ=Y (O []) σ:=by
 have f:=(h.a x hx).1;have m:=hA.ok;obtain⟨n,a⟩:=x;cases s with
 |ask g r=>exact dO h hx r.ok.st m.p (MW h hx (CZ f m g))
 |off g r=>
  have l:=cJ m.p σ (ϖ rfl) r.ok.st;refine Kz h hx l (bJ _ _ _) (uz _ _ _) (by decide) (by decide) ?_;cases hA with
  |Lc e _ hm k c d j=>
   obtain rfl:_=0:=g;exact oA h hx c5 (uz _ _ _ σ) (Ir f rfl rfl rfl 2) (MN e c d.cl f _)
  |li e hm i k o c d j=>exact oA h hx c6 (uz _ _ _ σ) (Ir f rfl rfl rfl 2) (nR e c d.cl f l (qL (by decide) (uN ..) (bL ..) σ))
  |wait e hm i k o c d j=>cases g
 |En g q=>
  have l:=yH m.p σ (ϖ rfl) q;refine Kz h hx l (qD _ _ _) (cB _ _ _) (by decide) (by decide) ?_;cases hA with
  |Lc e _ hm k c d j=>
   obtain rfl:_=0:=g;exact oA h hx c5 (cB _ _ _ σ) (Ir f rfl rfl rfl 2) (MN e c d.cl f _)
  |li e hm i k o c d j=>exact oA h hx c6 (cB _ _ _ σ) (Ir f rfl rfl rfl 2) (nR e c d.cl f l (qL (by decide) (WN ..) (bL ..) σ))
  |wait e hm i k o c d j=>cases g
include hQ
theorem yg2(E:k.K.length<60)(y:N<=90){X:D}(F:Lt T N x.2 X):∃ d w f,Cb [U b,X] σ=Y d f/\Dn T N b k σ w f:=by
 have r:=(h.a x hx).1;have C:=hA.ok;obtain⟨n,a⟩:=x;have l:∀ {X:D},Cb [U b,X] σ=Y (O []) σ->∃ d w f,Cb [U b,X] σ=Y d f/\Dn T N b k σ w f:=λe=>⟨_,k,σ,e,.same h hQ (.refl b σ)⟩
 cases F with
 |wd hw=>exact⟨_,_,_,IX h E C.p (by omega),W6 h E hQ _⟩
 |@off s v A o=>
  have B:=cJ C.p σ (ϒ rfl) A.ok.st;cases hA with
  |@Lc p q m G L c _ hm u j i t=>
   obtain rfl:_=1:=v;obtain⟨d,w,f,e,z⟩:=EM h hQ hx (a':=wait p 1 m s (oi p 0 s.D) L) rfl (.wait (N:=N+1) c hm A o (by rw[o];show m.n+1<=_;omega) (lA (Hn s)) i (by omega)) p75 (uz _ _ _) (ϖ ⟨s,rfl⟩) (Ir r rfl rfl rfl 2) (uU c hm.ok A.ok o j i.cl r) (λσ=>rfl);exact⟨d,w,f,Kz h hx B (bJ _ _ _) (uz _ _ _) (by decide) (by decide) e,z⟩
  |li c hm g u y j i t=>cases v
  |wait c hm g u y j i t=>exact l (Kz h hx B (bJ _ _ _) (uz _ _ _) (by decide) (by decide) (oA h hx c7 (uz _ _ _ σ) (Ir r rfl rfl rfl 2) (i8 c j i.cl r B (qL (by decide) (uN ..) (WN ..) σ))))
 |@ask s v A o=>
  cases hA with
  |@Lc p q m G L c _ hm u j i t=>
   obtain rfl:_=0:=v;obtain⟨d,w,f,e,z⟩:=t2 h hQ hx rfl c hm A o (by rw[o];show m.n+1<=_;omega) j i t;exact⟨d,w,f,dO h hx A.ok.st c e,z⟩
  |li c hm g u y j i t=>exact l (dO h hx A.ok.st c (MW h hx (zoi r C)))
  |wait c hm g u y j i t=>cases v
 |acc v=>
  cases hA with
  |@Lc p q m G L c _ hm u j i t=>
   obtain rfl:_=0:=v;exact l (Kz h hx (TN c σ hm.ok.st hm.ok.st.n) (ZM _ _ _) (VI _ _ _) (by decide) (by decide) (oA h hx c5 (VI _ _ _ σ) (Ir r rfl rfl rfl 2) (MN c j i.cl r _)))
  |@li p m s G L c hm g u y j i t=>
   obtain⟨d,w,f,e,z⟩:=EM h hQ hx (a':=Lc p 0 s (oi p 1 s.D) (L++[Z m.n])) rfl (.Lc (N:=N+1) c (ϒ rfl) g (by omega) (lA (Hn s)) (i.add _) (by simp;omega)) rL (VI _ _ _) (ϒ ⟨"accept",ZM _ _ _,by decide⟩) (Ir r rfl rfl rfl 2) (N9 c hm.ok g.ok j i.cl (by omega) r) (λσ=>rfl);exact⟨d,w,f,Kz h hx (TN c σ g.ok.st hm.ok.st.n) (ZM _ _ _) (VI _ _ _) (by decide) (by decide) e,z⟩
  |wait c hm g u y j i t=>cases v
 |En v=>
  cases hA with
  |@Lc p q m G L c _ hm u j i t=>
   obtain rfl:_=1:=v;have B:=yH c σ (ϒ rfl) hm.ok.st.n;exact l (Kz h hx B (qD _ _ _) (cB _ _ _) (by decide) (by decide) (oA h hx c5 (cB _ _ _ σ) (Ir r rfl rfl rfl 2) (K4 c j i.cl r B (qD _ _ _ σ) (by decide))))
  |li c hm g u y j i t=>cases v
  |@wait p m s G L c hm g u y j i t=>
   obtain⟨d,w,f,e,z⟩:=EM h hQ hx (a':=Lc p 1 s G (L++[Z m.n])) rfl (.Lc (N:=N+1) c (ϖ rfl) g (by omega) j (i.add _) (by simp;omega)) L5 (cB _ _ _) (ϒ ⟨"struck",qD _ _ _,by decide⟩) (Ir r rfl rfl rfl 2) (D9 c hm.ok g.ok j i.cl (by omega) r) (λσ=>rfl);exact⟨d,w,f,Kz h hx (yH c σ (ϒ rfl) hm.ok.st.n) (qD _ _ _) (cB _ _ _) (by decide) (by decide) e,z⟩
end
theorem nF:∀ {xs:List Int},(∀ x∈xs,0<=x)->0<=xs.sum
 |[],_=>by simp
 |x::xs,h=>by
  have b:=h x Ha;have c:=nF λy a=>h y (Aa _ a);rw[cj];omega
noncomputable def sa(q d a:Int):Int:=if q=0 then a+d else a
noncomputable def sb(q d b:Int):Int:=if q=0 then b else b+d
def MH(c:q=0\/q=1)(a b d:Int)(σ:lb):ff [Ϗ [Z a,Z b],Z q,Z d] σ=Y (Ϗ [Z (sa q d a),Z (sb q d b)]) σ:=by
 unfold ff iY sa sb;rcases c with rfl|rfl<;>simp
abbrev NW(m:Sn)(w:Int):Prop:=w ∉ m.ts.map Ti.w/\m.ts.length<=5
def Us(m:Sn)(q d:Int):Sn:=⟨m.n+1,sa (1 - q) d (sa q (-d) m.a),sb (1 - q) d (sb q (-d) m.b),m.ts⟩
def vl(m:Sn)(t:Ti):Sn:=⟨m.n+1,sa t.p (-t.a) m.a,sb t.p (-t.a) m.b,m.ts++[t]⟩
noncomputable def rm(w:Int)(a:List Ti):List Ti:=a.filter λu=>decide (u.w≠w)
def Uh(m:Sn)(t:Ti)(r:Int):Sn:=⟨m.n+1,sa r t.a m.a,sb r t.a m.b,rm t.w m.ts⟩
section
variable{m s:Sn}{W:Int}(hm:m.Ok W)(hW:W<=2000000000000)(hn:m.n<=99)
def ς(h:∀ c,Ed [s.D] c=Y (ϐ b) c)(c:lb):Oh [Z s.n,Ϗ [Z s.a,Z s.b],Ϗ (s.ts.map Ti.D)] c=if b then Y s.D c else .ex ⟨1⟩ c:=by
 have e:Ϗ [Z s.n,Ϗ [Z s.a,Z s.b],Ϗ (s.ts.map Ti.D)]=s.D:=rfl;have d:=Hn s;unfold Oh zN;cases b<;>simp[e,h,d]
def vN(h:∀ σ,Ed [s.D] σ=Y (ϐ b) σ)(e:s.n=m.n+1)(σ:lb):Td [m.D,Ϗ [Z s.a,Z s.b],Ϗ (s.ts.map Ti.D)] σ=if b then Y s.D σ else .ex ⟨1⟩ σ:=by
 have c:=ς h;rw[e]at c;have f:=s0 m;have d:=Hn s;unfold Td SR;cases b<;>simp[f,c,d]
include hm hW hn
theorem Ē(d:Int)(a:lb):bf [Z d] a=Y (ϐ (bd (Z d) 1 1000000000000)) a:=by
 have b:=dB (d:=Z d) rfl 1 1000000000000 a;unfold bf cN;simp[b]
theorem RV{q d:Int}(f:q=0\/q=1)(i:0<=d)(c:d<=ow q m):(Us m q d).Ok W:=by
 obtain⟨⟨n,a,b,t,l,e⟩,w⟩:=hm;have j:0<=pf m.ts:=by
  refine nF λx h=>?_;obtain⟨u,g,rfl⟩:=va.mp h;have:=(t u g).a;omega
 rcases f with rfl|rfl
 ·simp only[ow,Yh]at c;refine⟨⟨?_,?_,?_,t,l,e⟩,?_⟩<;>simp[Us,sa,sb]<;>omega
 ·simp only[ow]at c;refine⟨⟨?_,?_,?_,t,l,e⟩,?_⟩<;>simp[Us,sa,sb]<;>omega
theorem x3{q:Int}(f:q=0\/q=1)(d:Int)(c:lb):Ek [m.D,Z q,Z d] c=if (1<=d/\d<=1000000000000)/\d<=ow q m then Y (Us m q d).D c else .ex ⟨1⟩ c:=by
 have k:=SL f;have e:=Ē hm hW hn d;by_cases i:1<=d/\d<=1000000000000
 ·have j:bd (Z d) 1 1000000000000=true:=by simp[bd,i]
  rw[j]at e;have v:=MH f m.a m.b (-d);have w:=MH (q:=1 - q) (by omega) (sa q (-d) m.a) (sb q (-d) m.b) d;have x:=UN q;have r:=s1 m;have u:=s2 m;have y:∀ c,Ed [(Us m q d).D] c=Y (ϐ (decide (d<=ow q m))) c:=λc=>by
   by_cases h:d<=ow q m
   ·rw[nb h];exact sA (RV hm hW hn f (by omega) h).st c
   ·rw[Oa h];have:=CN (n:=m.n+1) (a:=(Us m q d).a) (b:=(Us m q d).b) (by have:=hm.st.n;omega) hm.st.t (by have:=hm.st.l;omega) c;have z:Ct (Us m q d).a (Us m q d).b=false:=by
     have:=hm.st.a;have:=hm.st.b;rcases f with rfl|rfl
     ·simp[ow]at h;simp[Us,sa,Ct,bd];omega
     ·simp[ow]at h;simp[Us,sb,Ct,bd];omega
    rw[z,Nq]at this;exact this
  have g:=vN (m:=m) (s:=Us m q d) y rfl;have g:∀ c,Td [m.D,Ϗ [Z (sa (1 - q) d (sa q (-d) m.a)),Z (sb (1 - q) d (sb q (-d) m.b))],Ϗ (m.ts.map Ti.D)] c=if decide (d<=ow q m)then Y (Us m q d).D c else .ex ⟨1⟩ c:=g;have p:=Hn (Us m q d);have o:((1<=d/\d<=1000000000000)/\d<=ow q m)=(d<=ow q m):=by simp[i]
  simp only[o];unfold Ek yO;by_cases h:d<=ow q m<;>simp[k,e,v,w,x,r,u,g,h,p]
 ·have j:bd (Z d) 1 1000000000000=false:=by simp[bd];omega
  rw[j]at e;rw[ra λz=>i z.1];unfold Ek yO;simp[k,e]
theorem IP{t:Ti}(g:t.Ok)(d:t.a<=ow t.p m)(i:NW m t.w):(vl m t).Ok W:=by
 obtain⟨⟨n,a,b,s,l,r⟩,w⟩:=hm;have e:pf (m.ts++[t])=pf m.ts+t.a:=by simp[pf]
 have j:∀ u∈(vl m t).ts,u.Ok:=λu k=>by
  rcases Wb.mp k with h|h
  ·exact s u h
  ·have:u=t:=by simpa using h
   rw[this];exact g
 have l2:(vl m t).ts.length<=6:=by have:=i.2;show (m.ts++[t]).length<=6;simp;omega
 have c:((vl m t).ts.map Ti.w).Nodup:=by
  show ((m.ts++[t]).map Ti.w).Nodup;rw[Rb,Od];exact⟨r,by simp,λx o y q e=>i.1 (by have:=(by simpa using q);rw[<-this,<-e];exact o)⟩
 have v:=g.a;rcases g.p with f|f
 ·rw[f]at d;simp only[ow,Yh]at d;refine⟨⟨?_,?_,?_,j,l2,c⟩,?_⟩<;>simp[vl,sa,sb]<;>omega
 ·rw[f]at d;simp only[ow]at d;refine⟨⟨?_,?_,?_,j,l2,c⟩,?_⟩<;>simp[vl,sa,sb]<;>omega
theorem Θ{t:Ti}(d:t.p=0\/t.p=1)(f:0<=t.w/\t.w<=59)(A:0<=t.y/\t.y<=1000000)(c:lb):Nj [m.D,Z t.p,Z t.a,Z t.w,Z t.y] c=if ((1<=t.a/\t.a<=1000000000000)/\t.a<=ow t.p m)/\NW m t.w then Y (vl m t).D c else .ex ⟨1⟩ c:=by
 have r:Ϗ [Z t.p,Z t.a,Z t.w,Z t.y]=t.D:=rfl;have g:=OV (t:=t) d f A;by_cases j:1<=t.a/\t.a<=1000000000000
 ·have o:bd (Z t.a) 1 1000000000000=true:=by simp[bd,j]
  rw[o]at g;have x:t.Ok:=⟨d,j,f,A⟩
  have E:=MH d m.a m.b (-t.a);have B:=s1 m;have C:=s2 m;have F:∀ c,Sh (Ϗ (m.ts.map Ti.D)) (Ϗ [t.D]) c=Y (Ϗ ((vl m t).ts.map Ti.D)) c:=λc=>by
   rw[zum (by have:=hm.st.l;unfold Ni;simp;omega)];show Y (Ϗ (m.ts.map Ti.D++[t.D])) c=Y (Ϗ ((m.ts++[t]).map Ti.D)) c;rw[Rb];rfl
  have K:∀ c,Ed [(vl m t).D] c=Y (ϐ (decide (t.a<=ow t.p m/\NW m t.w))) c:=λc=>by
   by_cases h:t.a<=ow t.p m/\NW m t.w
   ·rw[nb h];exact sA (IP hm hW hn x h.1 h.2).st c
   ·rw[Oa h];by_cases J:m.ts.length<=5;case neg=>exact ygw (n:=m.n+1) (a:=(vl m t).a) (b:=(vl m t).b) (ts:=m.ts++[t]) (by have:=hm.st.n;omega) (by simp;omega) c
    have:=CN (n:=m.n+1) (a:=(vl m t).a) (b:=(vl m t).b) (ts:=m.ts++[t]) (by have:=hm.st.n;omega) (λu I=>by
     rcases Wb.mp I with h|h
     ·exact hm.st.t u h
     ·have:u=t:=by simpa using h
      rw[this];exact x) (by simp;omega) c
    have z:(Ct (vl m t).a (vl m t).b && decide ((m.ts++[t]).map Ti.w).Nodup)=false:=by
     by_cases e:t.a<=ow t.p m
     ·have H:¬ ((m.ts++[t]).map Ti.w).Nodup:=λz=>h ⟨e,λq=>by
       rw[Rb,Od]at z;exact z.2.2 t.w q t.w (by simp) rfl,J⟩
      rw[Oa H,Oq]
     ·have z:Ct (vl m t).a (vl m t).b=false:=by
       have:=hm.st.a;have:=hm.st.b;rcases d with d|d
       ·rw[d]at e;simp[ow]at e;simp[vl,sa,Ct,bd,d];omega
       ·rw[d]at e;simp[ow]at e;simp[vl,sb,Ct,bd,d];omega
      rw[z,Nq]
    rw[z]at this;exact this
  have i:=vN (m:=m) (s:=vl m t) K rfl;have i:∀ c,Td [m.D,Ϗ [Z (sa t.p (-t.a) m.a),Z (sb t.p (-t.a) m.b)],Ϗ ((vl m t).ts.map Ti.D)] c=if decide (t.a<=ow t.p m/\NW m t.w)then Y (vl m t).D c else .ex ⟨1⟩ c:=i;have v:=Hn (vl m t);have G:(((1<=t.a/\t.a<=1000000000000)/\t.a<=ow t.p m)/\NW m t.w)=(t.a<=ow t.p m/\NW m t.w):=by simp[j]
  simp only[G];by_cases h:t.a<=ow t.p m/\NW m t.w
  ·have k:∀ c,Td [m.D,Ϗ [Z (sa t.p (-t.a) m.a),Z (sb t.p (-t.a) m.b)],Ϗ ((vl m t).ts.map Ti.D)] c=Y (vl m t).D c:=λc=>(i c).trans (by rw[nb h];rfl);rw[ma h];unfold Nj SI;simp[r,g,E,B,C,F,k,v]
  ·have k:∀ c,Td [m.D,Ϗ [Z (sa t.p (-t.a) m.a),Z (sb t.p (-t.a) m.b)],Ϗ ((vl m t).ts.map Ti.D)] c=.ex ⟨1⟩ c:=λc=>(i c).trans (by rw[Oa h];rfl);rw[ra h];unfold Nj SI;simp[r,g,E,B,C,F,k,v]
 ·have o:bd (Z t.a) 1 1000000000000=false:=by simp[bd];omega
  rw[o]at g;rw[ra λz=>j z.1.1];unfold Nj SI;simp[r,g]
end
noncomputable def Fu(w:Int)(a:List Ti):Option Ti:=a.find? λu=>decide (u.w=w)
def oT:Option Ti->D
 |some t=>t.D
 |none=>ϛ
def cK(h:Fu w a=some t):t∈a/\t.w=w:=⟨Lg h,by have:=Up h;simpa using this⟩
def qM(t:Ti)(a:lb):ib t.D (Z 0) a=Y (Z t.p) a:=by unfold Ti.D;simp
def ċ(t:Ti)(b:lb):ib t.D (Z 1) b=Y (Z t.a) b:=by unfold Ti.D;simp
def rN(t:Ti)(a:lb):ib t.D (Z 2) a=Y (Z t.w) a:=by unfold Ti.D;simp
theorem RS(M:Option D)(w:Int)(σ:lb):∀ (ts:List Ti) (x:Option D),∃ y,Zn (We 2) fO (ts.map Ti.D) [M,some (Z w),x] σ=(match Fu w ts with
  |some t=>Y (Ϯ t.D) σ
  |none=>Y (Ϛ [M,some (Z w),y]) σ)
 |[],x=>⟨x,rfl⟩
 |t::ts,x=>by
  obtain⟨y,d⟩:=RS M w σ ts (some t.D);refine⟨y,?_⟩;rw[Ga,yE];simp only[Yf,zi];have a:=rN t;have b:fO [M,some (Z w),some t.D] σ=if t.w=w then Y (Ϯ t.D) σ else Y (Ϛ [M,some (Z w),some t.D]) σ:=by
   by_cases h:t.w=w
   ·simp[a,h]
   ·have c:(t.w == w)=false:=by simp[h]
    simp[a,h,c]
  rw[b];unfold Fu;rw[Ae];by_cases h:t.w=w
  ·rw[ma h,nb h,Qg,ztx]
  ·rw[ra h,Oa h,Qg,Mw,d];rfl
section
variable{m:Sn}{W:Int}(hm:m.Ok W)(hW:W<=2000000000000)(hn:m.n<=99)
def BS(m:Sn)(w:Int)(σ:lb):Hg [m.D,Z w] σ=Y (oT (Fu w m.ts)) σ:=by
 obtain⟨y,a⟩:=RS (some m.D) w σ m.ts none;have b:=s2 m;unfold Hg pW oT;cases h:Fu w m.ts with
 |none=>
  rw[h]at a;simp[b,a]
 |some t=>
  have c:=vJ t;rw[h]at a;simp[b,a,c]
def pb(w p:Int)(a:List Ti):Bool:=match Fu w a with
 |some t=>decide (t.p=p)
 |none=>false
def WT(m:Sn)(w p:Int)(σ:lb):Qf [m.D,Z w,Z p] σ=Y (ϐ (pb w p m.ts)) σ:=by
 have a:=BS m w;unfold Qf VP pb;generalize m.D=c at *;cases h:Fu w m.ts with
 |none=>
  rw[h]at a;have a:∀ σ,Hg [c,Z w] σ=Y ϛ σ:=a;simp[a]
 |some t=>
  rw[h]at a;have a:∀ σ,Hg [c,Z w] σ=Y t.D σ:=a;have d:=qM t;have e:∀ σ,BC t.D ϛ σ=Y (ϐ true) σ:=λσ=>rfl;by_cases b:t.p=p
  ·simp[a,d,e,b]
  ·have f:(t.p == p)=false:=by simp[b]
   simp[a,d,e,b]
def kT(h:Fu w m.ts=some t)(σ:lb):Nf [m.D,Z w] σ=Y t.D σ:=by
 have a:=BS m w;rw[h]at a;have a:∀ σ,Hg [m.D,Z w] σ=Y t.D σ:=a;have c:∀ σ,Uu t.D ϛ σ=Y (ϐ false) σ:=λσ=>rfl;have b:=vJ t;unfold Nf MP;simp[a,c,b]
theorem pU:∀ {d:List Ti} {t:Ti},(d.map Ti.w).Nodup->t∈d->pf (rm t.w d)+t.a=pf d
 |[],t,_,h=>by cases h
 |b::d,t,hd,h=>by
  rw[Ga,ze]at hd;unfold rm;rw[Ud];rcases Ma.mp h with rfl|h
  ·have e:d.filter (λu=>decide (u.w≠t.w))=d:=rl.mpr λu g=>nb λe=>hd.1 (e ▸ Gd g);rw[e];simp[pf];omega
  ·have i:b.w≠t.w:=λe=>hd.1 (e ▸ Gd h);have f:=pU hd.2 h;unfold rm at f;rw[nb i,ma rfl];have c:∀ xs:List Ti,pf (b::xs)=b.a+pf xs:=λxs=>by simp[pf]
   rw[c,c,<-f];omega
include hm hW hn
theorem OO{t:Ti}(g:t∈m.ts){r:Int}(i:r=0\/r=1):(Uh m t r).Ok W:=by
 have q:=pU hm.st.d g;obtain⟨⟨n,a,b,f,l,k⟩,w⟩:=hm;have o:=(f t g).a;have p:0<=pf (rm t.w m.ts):=by
  refine nF λx j=>?_;obtain⟨u,e,rfl⟩:=va.mp j;have:=(f u (rf.mp e).1).a;omega
 have h:∀ u∈(Uh m t r).ts,u.Ok:=λu e=>f u (rf.mp e).1;have l2:(Uh m t r).ts.length<=6:=Fb (ng ..) l;have c:((Uh m t r).ts.map Ti.w).Nodup:=k.sublist (List.filter_sublist.map _);rcases i with rfl|rfl
 ·refine⟨⟨?_,?_,?_,h,l2,c⟩,?_⟩<;>simp[Uh,sa,sb]<;>omega
 ·refine⟨⟨?_,?_,?_,h,l2,c⟩,?_⟩<;>simp[Uh,sa,sb]<;>omega
theorem YR{t:Ti}(g:t∈m.ts){r:Int}(e:r=0\/r=1)(c:lb):ij [m.D,t.D,Z r] c=Y (Uh m t r).D c:=by
 have k:=s1 m;have n:=s2 m;have l:=DF (src:=Bj (Ja ib (da 0) (eC (Z 2)))) (ρ:=[some m.D,some t.D,some (Z r),none]) (σ:=c) (s:=.seq (m.ts.map Ti.D)) (ix:=[1]) (fi:=eT (Ja Aj (Ja ib (da 0) (eC (Z 2))) (Ja ib (da 2) (eC (Z 2))))) (fe:=da 0) Ti.D Ti.D (λu=>decide (u.w≠t.w)) (by
   simp[n]) (λi _=>Dc some (au m.ts _ i)) (by have:=hm.st.l;omega) (λu _ j=>by
  have u2:=rN u (c++j);have q:=rN t (c++j);have p:=yW u.w t.w (c++j);exact⟨by simp[u2,q,p],λ_=>by simp⟩) (λu _ _=>vJ u)
 have l:qj _ _ c=Y (O ((Uh m t r).ts.map Ti.D)) c:=l;have o:=MH e m.a m.b t.a;have h:=ċ t;have d:=λc=>vN (λc=>sA (OO hm hW hn g e).st c) rfl c;have d:∀ c,Td [m.D,Ϗ [Z (sa r t.a m.a),Z (sb r t.a m.b)],Ϗ ((Uh m t r).ts.map Ti.D)] c=Y (Uh m t r).D c:=d;have f:=Hn (Uh m t r);unfold ij gP;simp[l,k,o,h,d,f,-vt]
theorem o0{w:Int}{t:Ti}(h:Fu w m.ts=some t)(σ:lb):Th [m.D,Z w] σ=Y (Uh m t (1 - t.p)).D σ:=by
 have f:=kT h;have a:=(cK h).1;have g:=(hm.st.t t a).p;have b:=YR hm hW hn a (r:=1 - t.p) (by omega);have e:=UN t.p;have d:=qM t;have c:=Hn (Uh m t (1 - t.p));unfold Th vR;simp[f,b,e,d,c]
theorem A8{w:Int}{t:Ti}(h:Fu w m.ts=some t)(σ:lb):Vh [m.D,Z w] σ=Y (Uh m t t.p).D σ:=by
 have f:=kT h;have a:=(cK h).1;have d:=(hm.st.t t a).p;have b:=YR hm hW hn a d;have e:=qM t;have c:=Hn (Uh m t t.p);unfold Vh HR;simp[f,b,e,c]
end
inductive Wi where
 |Bp (d:Int)
 |ir (pay:Bool) (d w y:Int)
 |qh (w:Int)
 |drop (w:Int)
noncomputable def Wi.k:Wi->Str
 | .Bp _=>"give"
 | .ir true _ _ _=>"pay"
 | .ir false _ _ _=>"pass"
 | .qh _=>"settle"
 | .drop _=>"drop"
def Wi.D(a:Int):Wi->L4.D
 | .Bp d=>Ϗ [ύ "give",Z a,Z d]
 | .ir p d w y=>Ϗ [ύ (if p then "pay" else "pass"),Z a,Z d,Z w,Z y]
 | .qh w=>Ϗ [ύ "settle",Z a,Z w]
 | .drop w=>Ϗ [ύ "drop",Z a,Z w]
def Wi.al:Wi->Int
 | .Bp d=>d
 | .ir true d _ _=>d
 |_=>0
def Wi.Ok:Wi->Prop
 | .ir _ _ w y=>(0<=w/\w<50)/\0<=y/\y<=1000000
 |_=>True
def Wi.st(q:Int)(K:List Int)(m:Sn):Wi->Option Sn
 | .Bp d=>if (1<=d/\d<=1000000000000)/\d<=ow q m then some (Us m q d)else none
 | .ir _ d w y=>if ((1<=d/\d<=1000000000000)/\d<=ow q m)/\NW m w then some (vl m ⟨q,d,w,y⟩)else none
 | .qh w=>match Fu w m.ts with
  |some t=>if t.p=1 - q/\w∈K then some (Uh m t q)else none
  |none=>none
 | .drop w=>match Fu w m.ts with
  |some t=>if t.p=q then some (Uh m t q)else none
  |none=>none
def oS(a:lb):Option Sn->Fm D
 |some s=>Y s.D a
 |none=>.ex ⟨1⟩ a
def lX(c:Int)(a:Wi)(b:lb):ib (a.D c) (Z 0) b=Y (ύ a.k) b:=by
 cases a with
 |ir p d w y=>cases p<;>simp[Wi.D,Wi.k]
 |_=>simp[Wi.D,Wi.k]
def JL(a:Int)(b:Wi)(c:lb):ib (b.D a) (Z 1) c=Y (Z a) c:=by cases b<;>simp[Wi.D]
def yql(c:Int)(a:Wi)(b:lb):Df [a.D c] b=Y (Z a.al) b:=by
 unfold Df UQ;cases a with
 |ir p d w y=>cases p<;>simp[Wi.D,Wi.al]
 |_=>simp[Wi.D,Wi.al]
section
variable{b:Nat}{p q:Int}(hp:0<=p/\p<=2)(hq:q=0\/q=1){k:Kp}{σ:lb}(h:Hj b k σ){n:Nat}{m:Sn}{T:Int}(hm:m.Ok T)(hT:T<=2000000000000)(hn:m.n<=99){G:D}{L:List D}(hg:cl G=true)(hl:fh L=true)
include h in
theorem zs7(w:Int):Ov (Z w) (U (b+1)) σ=Y (ϐ (decide (w∈k.K))) σ:=by
 have:Ik σ (U (b+1))=some (cq k.K):=by
  have:=h.v.h1;unfold Ik;simp[this]
 unfold Ov;simp only[Xm,this];have e:∀ K:List Int,(jl (cq K) (Ϟ w)).isSome=decide (w∈K):=λK=>by
  induction K with
  |nil=>rfl
  |cons v K a=>
   unfold cq jl at a ⊢;by_cases h:v=w
   ·simp[h]
   ·have c:¬ w=v:=λz=>h z.symm;simpa [h,c]using a
 simp[e]
include hp hq h hm hT hn hg hl
theorem M1(x:Dj σ n (Lc p q m G L)){s:Wi}(u:s.Ok):Bf [U n,s.D p,U (b+1)] σ=oS σ (s.st q k.K m):=by
 have v:=ww (p:=p) (m:=m) hp hq hg hl;have c:Mc [4,5,6,7] "side" (U n) σ=Y (Z q) σ:=Rt x v;have e:Mc [4,5,6,7] "mine" (U n) σ=Y m.D σ:=Hw x v;have j:=zs7 h;have l:=UN q;unfold Bf lY Wi.D Wi.st;cases s with
 |Bp d=>
  have f:=x3 hm hT hn hq d;have g:=Hn (Us m q d);dsimp only;by_cases h:(1<=d/\d<=1000000000000)/\d<=ow q m
  ·simp only[ma h]at f ⊢;unfold oS;dsimp only;generalize m.D=i,(Us m q d).D=B at *;simp[c,e,f,g]
  ·simp only[ra h]at f ⊢;unfold oS;dsimp only;generalize m.D=i at *;simp[c,e,f]
 |ir py d w y=>
  have f:=Θ (t:=⟨q,d,w,y⟩) hm hT hn hq ⟨u.1.1,by have:=u.1.2;dsimp only;omega⟩ u.2;have g:=Hn (vl m ⟨q,d,w,y⟩);dsimp only at f ⊢;have A:∀ k σ,ib (Ϗ [ύ k,Z p,Z d,Z w,Z y]) (Z 4) σ=Y (Z y) σ:=λk σ=>qX ..;by_cases h:((1<=d/\d<=1000000000000)/\d<=ow q m)/\NW m w
  ·simp only[ma h]at f ⊢;unfold oS;dsimp only;generalize m.D=i,(vl m ⟨q,d,w,y⟩).D=B at *;cases py<;>simp[c,e,f,g,A]
  ·simp only[ra h]at f ⊢;unfold oS;dsimp only;generalize m.D=i at *;cases py<;>simp[c,e,f,A]
 |qh w=>
  have a:=WT m w (1 - q);have j:=j w;unfold pb at a;dsimp only;cases h:Fu w m.ts with
  |none=>
   rw[h]at a;dsimp only at a ⊢;unfold oS;dsimp only;generalize m.D=i at *;simp[c,e,l,a]
  |some t=>
   rw[h]at a;dsimp only at a ⊢;by_cases hp:t.p=1 - q
   ·rw[nb hp]at a;by_cases r:w∈k.K
    ·rw[nb r]at j;have o:=o0 hm hT hn h;rw[show 1 - t.p=q by omega]at o;have g:=Hn (Uh m t q);rw[ma ⟨hp,r⟩];unfold oS;dsimp only;generalize m.D=i,(Uh m t q).D=C at *;simp[c,e,l,a,j,o,g]
    ·rw[Oa r]at j;rw[ra λz=>r z.2];unfold oS;dsimp only;generalize m.D=i at *;simp[c,e,l,a,j]
   ·rw[Oa hp]at a;rw[ra λz=>hp z.1];unfold oS;simp[c,e,l,a]
 |drop w=>
  have a:=WT m w q;unfold pb at a;dsimp only;cases h:Fu w m.ts with
  |none=>
   rw[h]at a;unfold oS;simp[c,e,l,a]
  |some t=>
   rw[h]at a;dsimp only at a ⊢;by_cases hp:t.p=q
   ·rw[nb hp]at a;have o:=A8 hm hT hn h;rw[hp]at o;have g:=Hn (Uh m t q);rw[ma hp];unfold oS;simp[c,e,a,o,g]
   ·rw[Oa hp]at a;rw[ra hp];unfold oS;simp[c,e,a]
omit hp h hg hl
theorem X9{K:List Int}{b:Wi}(a:b.Ok){s:Sn}(h:b.st q K m=some s):s.Ok T/\s.n=m.n+1:=by
 unfold Wi.st at h;cases b with
 |Bp d=>
  dsimp only at h;split at h
  ·next c=>cases h;exact⟨RV hm hT hn hq (by omega) c.2,rfl⟩
  ·cases h
 |ir py d w y=>
  dsimp only at h;split at h
  ·next c=>cases h;exact⟨IP hm hT hn ⟨hq,c.1.1,⟨a.1.1,by have:=a.1.2;dsimp only;omega⟩,a.2⟩ c.1.2 c.2,rfl⟩
  ·cases h
 |qh w=>
  dsimp only at h;split at h
  ·next t e=>
   split at h
   ·cases h;exact⟨OO hm hT hn (cK e).1 hq,rfl⟩
   ·cases h
  ·cases h
 |drop w=>
  dsimp only at h;split at h
  ·next t e=>
   split at h
   ·cases h;exact⟨OO hm hT hn (cK e).1 hq,rfl⟩
   ·cases h
  ·cases h
end
def xa(p q:Int)(m s:Sn)(G:D)(L:List D):Ac:=if q=0 then li p 0 m s G L else wait p 1 m s (oi p 0 s.D) L
def lt(p q:Int)(s:Sn):D:=if q=0 then Jj p 0 s else Oj p s
def Wi.wd(a:Int):Wi->List L4.D
 | .qh w=>[Ϗ [ύ "word",Z a,Z w]]
 |_=>[]
def kF(a:Wi):(a.k == ("finish" : Str))=false:=by
 have b:(("give" : Str) == "finish")=false:=by decide
 have c:(("pay" : Str) == "finish")=false:=by decide
 have e:(("pass" : Str) == "finish")=false:=by decide
 have f:(("settle" : Str) == "finish")=false:=by decide
 have g:(("drop" : Str) == "finish")=false:=by decide
 cases a with
 |ir p d w y=>cases p<;>simp only[Wi.k,c,e]
 |_=>simp only[Wi.k,b,f,g]
section
variable{p q:Int}(hp:0<=p/\p<=2)(hq:q=0\/q=1){m s:Sn}{W:Int}(hm:m.Ok W)(hs:s.Ok W)(hn:s.n=m.n+1){G:D}{L:List D}(hg:cl G=true)(hl:fh L=true){σ:lb}{n:Nat}
include hp hq hm hs hn hg hl
theorem Ū(a:Dj σ n (Lc p q m G L)):sh [U n,s.D] σ=Y (Ϗ [U σ.length,lt p q s]) (σ++[Ϙ (xa p q m s G L).c (xa p q m s G L).fs]):=by
 have b:=ww (p:=p) (m:=m) hp hq hg hl;have g:Mc [4,5,6,7] "side" (U n) σ=Y (Z q) σ:=Rt a b;have h:=s1 s;have i:=s2 s;rcases hq with rfl|rfl
 ·have f:=nY hp hm hs hn hg hl a;show _=Y (Ϗ [U σ.length,Jj p 0 s]) (σ++[Ϙ 6 (li p 0 m s G L).fs]);unfold sh QL;simp[g,h,i,f]
 ·have u:=uU hp hm hs hn hg hl a;show _=Y (Ϗ [U σ.length,Oj p s]) (σ++[Ϙ 7 (wait p 1 m s (oi p 0 s.D) L).fs]);have e:=a.app [Ϙ 7 (wait p 1 m s (oi p 0 s.D) L).fs];generalize σ++[Ϙ 7 (wait p 1 m s (oi p 0 s.D) L).fs]=j at *;have o:Mc [4,5,6,7] "pot" (U n) σ=Y (Z p) σ:=Xr a b;have d:Mc [4,5,6,7] "pot" (U n) j=Y (Z p) j:=Xr e b;have k:na [U n,Z 0,s.D] σ=Y (oi p 0 s.D) σ:=SB a b 0 (Hn s);have t:=Ir (l:=[(4,na),(5,na),(6,na),(7,na)]) (m:="agree_of") a rfl rfl rfl 3;have r:=Ir (l:=[(5,Uc),(6,Hc),(7,Gc)]) (m:="taken") a rfl rfl rfl 2;have f:Ϗ [ύ "offer",Z p,oi p 0 s.D]=Jj p 0 s:=rfl;unfold Oj;unfold sh QL;simp[g,o,d,h,i,u,k,t,r,f]
end
section
variable{T:Int->Int}{N b:Nat}{k:Kp}{σ:lb}(h:Hj b k σ)(hQ:AQ k.Q){x:Ka}(hx:x∈k.as){p q:Int}(hp:0<=p/\p<=2)(hq:q=0\/q=1){m s:Sn}(hm:SO (T p) m)(hs:SO (T p) s)(hn:s.n=m.n+1)(hN:s.n<=(N+1:Nat)){G:D}{L:List D}(hg:cl G=true)(hl:IL L)(hL:L.length<=N)
include h hQ hx hp hq hm hs hn hN hg hl hL
theorem Κ(e:x.2=Lc p q m G L)(a2:k.Q.length<100)(ws:Wi):∃ t ls k' P,Tc [U b,s.D,ws.D p] σ=Y (Ϗ [ϐ t,O ls]) P/\Dn T N b k σ k' P/\(t=false->ls=[]):=by
 have ep:x.2.p=p:=by rw[e];rfl
 have hi:Dj σ x.1 (Lc p q m G L):=e ▸ (h.a x hx).1;have M:AI T (N+1) (xa p q m s G L):=by
  unfold xa;split
  ·exact .li hp hm hs hn hN hg hl (by omega)
  ·exact .wait hp hm hs hn hN (lA (Hn s)) hl (by omega)
 have pa:(xa p q m s G L).p=p:=by unfold xa;split<;>rfl
 have ha:=ww (p:=p) (m:=m) hp hq hg hl.cl;have A:=Ū hp hq hm.ok hs.ok hn hg hl.cl hi;have C:=h.app [Ϙ (xa p q m s G L).c (xa p q m s G L).fs];have ia:Dj (σ++[Ϙ (xa p q m s G L).c (xa p q m s G L).fs]) σ.length (xa p q m s G L):=by unfold Dj;simp
 have i:=Xt h.v;have f:=Sz h hx;rw[ep]at f;have r:Mc [4,5,6,7] "side" (U x.1) σ=Y (Z q) σ:=Rt hi ha;have j:=lX p ws;have B:=JL p ws;have o:=yql p ws;have H:=Fr.app b σ [Ϙ (xa p q m s G L).c (xa p q m s G L).fs];generalize σ++[Ϙ (xa p q m s G L).c (xa p q m s G L).fs]=n at *;have F:=Xt C.v;have ϋ:=oJ C.v;have ώ:∃ y∈k.as,y.2.p=((σ.length,xa p q m s G L):Ka).2.p:=⟨x,hx,by rw[ep];exact pa.symm⟩
 have l:=PM C (x:=(σ.length,xa p q m s G L)) ia M.ok M.vA ώ ws.al;dsimp only at l;have u:=λfs=>Ej C.v (m:="is_good") 3 Ic fs rfl;by_cases hw:K44.W k.e k.K (Ch k.as (σ.length,xa p q m s G L)) ≥ k.W - ws.al
 ·rw[nb hw]at l;refine⟨true,ws.wd p++[lt p q s],?_⟩;rcases hq with rfl|rfl
  ·obtain⟨sa,ό⟩:=wN C (x:=(σ.length,xa p 0 m s G L)) ia M.ok M.vA ώ;have sa:∀ J,eu J (U σ.length) (U (b+2)) (Z p) n=Y (Ϛ J) (n.set (b+2) (ϑ (AV (Ch k.as (σ.length,xa p 0 m s G L))))):=by rw[<-pa];exact sa
   have a0:Fr b n (n.set (b+2) (ϑ (AV (Ch k.as (σ.length,xa p 0 m s G L))))):=.set n (by omega) _;generalize n.set (b+2) (ϑ (AV (Ch k.as (σ.length,xa p 0 m s G L))))=υ at *;have R:∀ (y0 y1 y2 y3 y4 y6:Option D),QA [y0,y1,y2,y3,y4,some (Z ws.al),y6] [9] "gave" (da 5) (U b) υ=Y (Ϛ [y0,y1,y2,y3,y4,some (Z ws.al),y6]) (υ.set b (Ϙ 9 (Au b k.e (k.g+ws.al)))):=λy0 y1 y2 y3 y4 y6=>dY ό (by simp);have h3:=GQ ό ws.al;dsimp only at h3;refine⟨_,_,?_,⟨h3,?_,rfl,⟨λ_ h=>h,by dsimp only;omega⟩,λy I=>?_,MC _ _,⟨hQ,by dsimp only;omega⟩,(H.trans a0).trans (.set υ (Ea _) _)⟩,λz=>by cases z⟩
   ·unfold Tc FH fH KH kH nH PH jI DJ wJ;cases ws with
    |qh w=>
     have w2:∀ σ,ib (Wi.D p (.qh w)) (Z 2) σ=Y (Z w) σ:=λσ=>by unfold Wi.D;simp
     unfold Wi.k at j;unfold Wi.wd;simp[i,f,F,r,j,B,w2,o,A,l,u,sa,R]
    |Bp d=>
     unfold Wi.k at j;unfold Wi.wd;simp[i,f,F,r,j,B,o,A,l,u,sa,R]
    |drop w=>
     unfold Wi.k at j;unfold Wi.wd;simp[i,f,F,r,j,B,o,A,l,u,sa,R]
    |ir py d w y=>
     unfold Wi.wd;cases py<;>unfold Wi.k at j<;>simp[i,f,F,r,j,B,o,A,l,u,sa,R]
   ·have e:(⟨k.e,k.g+ws.al,k.K,Ch k.as (σ.length,xa p 0 m s G L),k.Q⟩:Kp).W=K44.W k.e k.K (Ch k.as (σ.length,xa p 0 m s G L)):=rfl;show k.W+k.g<=(⟨k.e,k.g+ws.al,k.K,Ch k.as (σ.length,xa p 0 m s G L),k.Q⟩:Kp).W+(k.g+ws.al);rw[e];omega
   ·rcases DA I with rfl|I
    ·exact ϖ M
    ·exact ϒ I
  ·have V:=s1 s;have X:=s2 s;have ϊ:∀ J,eu J (Ot ws.al s) (U (b+5)) (Z p) n=Y (Ϛ J) (n.set (b+5) (ϑ (vr k.Q (Ϟ p) (Ot ws.al s)))):=λJ=>Xx C.h5 (by omega);have S:Ϗ [Z ws.al,Ϗ [Z s.a,Z s.b],Ϗ (s.ts.map Ti.D)]=Ot ws.al s:=rfl;have a1:(vr k.Q (Ϟ p) (Ot ws.al s)).length<=k.Q.length+1:=by unfold vr;split<;>simp
   have pq:AQ (vr k.Q (Ϟ p) (Ot ws.al s)):=λz E=>by
    unfold vr at E;split at E
    ·obtain⟨y,I,rfl⟩:=va.mp E;split
     ·exact⟨_,_,rfl⟩
     ·exact hQ y I
    ·rcases Wb.mp E with E|E
     ·exact hQ z E
     ·rw[yb.mp E];exact⟨_,_,rfl⟩
   have ό:=uV C (Q:=vr k.Q (Ϟ p) (Ot ws.al s)) (by omega);refine⟨_,_,?_,⟨ό,Dv _,rfl,⟨λ_ h=>h,by dsimp only;omega⟩,λy I=>ϒ I,rfl,⟨pq,a1⟩,H.trans (.set n (by omega) _)⟩,λz=>by cases z⟩;unfold Tc FH fH KH kH nH PH jI DJ wJ;cases ws with
   |qh w=>
    have w2:∀ σ,ib (Wi.D p (.qh w)) (Z 2) σ=Y (Z w) σ:=λσ=>by unfold Wi.D;simp
    unfold Wi.k at j;unfold Wi.wd;simp[i,f,F,ϋ,r,j,B,w2,o,A,l,u,V,X,S,ϊ]
   |Bp d=>
    unfold Wi.k at j;unfold Wi.wd;simp[i,f,F,ϋ,r,j,B,o,A,l,u,V,X,S,ϊ]
   |drop w=>
    unfold Wi.k at j;unfold Wi.wd;simp[i,f,F,ϋ,r,j,B,o,A,l,u,V,X,S,ϊ]
   |ir py d w y=>
    unfold Wi.wd;cases py<;>unfold Wi.k at j<;>simp[i,f,F,ϋ,r,j,B,o,A,l,u,V,X,S,ϊ]
 ·rw[Oa hw]at l;refine⟨false,[],k,n,?_,.same C hQ H,λ_=>rfl⟩;unfold Tc FH fH KH kH nH PH jI DJ wJ;simp[i,f,r,B,o,A,l,u]
end
def j8(j:q=0\/q=1){K:List Int}{T:Int}(c:SO T m)(g:T<=2000000000000)(i:m.n<=99){e:Wi}(f:e.Ok)(h:e.st q K m=some s):SO T s/\s.n=m.n+1:=by
 have a:=X9 j c.ok g i f h;refine⟨⟨a.1,?_⟩,a.2⟩;unfold Wi.st at h;cases e with
 |Bp d=>
  dsimp only at h;split at h
  ·cases h;exact c.w
  ·cases h
 |ir p d w y=>
  dsimp only at h;split at h
  ·cases h;intro t b;rcases Wb.mp b with b|b
   ·exact c.w t b
   ·rw[yb.mp b];exact f.1.2
  ·cases h
 |qh w=>
  dsimp only at h;split at h
  ·split at h
   ·cases h;exact λt b=>c.w t (rf.mp b).1
   ·cases h
  ·cases h
 |drop w=>
  dsimp only at h;split at h
  ·split at h
   ·cases h;exact λt b=>c.w t (rf.mp b).1
   ·cases h
  ·cases h
section
variable{T:Int->Int}{N b:Nat}{k:Kp}{σ:lb}(h:Hj b k σ)(hQ:AQ k.Q)
include h
theorem Ũ{p:Int}(e:∀ x∈k.as,x.2.p≠p)(a:Wi):Oc [U b,a.D p] σ=Y (Ϗ [ϐ false,O []]) σ:=by
 have d:=KQ h e;have f:=λc=>Ej h.v (m:="holds") 2 wc c rfl;have g:=JL p a;unfold Oc qC OC LC ZB UC nC NB;simp[d,f,g]
include hQ
theorem E7{x:Ka}(H:x∈k.as)(hA:AI T N x.2)(ϋ:N<=90)(ϊ:∀ p,T p<=2000000000000)(ό:k.Q.length<100){j:Wi}(hw:j.Ok):∃ t M X d,Oc [U b,j.D x.2.p] σ=Y (Ϗ [ϐ t,O M]) d/\Dn T N b k σ X d/\(t=false->M=[]):=by
 have I:=(h.a x H).1;have y:=gL h H;have ώ:=λP=>Ej h.v (m:="holds") 2 wc P rfl;have J:=Xt h.v;have kk:=vH h.v;have u:=Sz h H;obtain⟨n,a⟩:=x;dsimp only at *;have z:=lX a.p j;have A:=JL a.p j;have B:=kF j;cases hA with
 |li F hm V hn ϋ C E R=>
  have o:∀ x σ,Gb [x] σ=Y (ύ "offered") σ:=λx σ=>by unfold Gb uI;simp
  have r:=Ir (l:=[(5,nc),(6,Gb),(7,Xb)]) (m:="word") I rfl rfl rfl 1;have f:=TF "offered" "calm" σ;rw[show (("offered" : Str) == "calm")=false by decide]at f;refine⟨false,[],k,σ,?_,.same h hQ (.refl b σ),λ_=>rfl⟩;unfold Oc qC OC LC ZB UC nC NB;simp[y,ώ,J,u,z,A,B,f,o,r]
 |wait F hm V hn ϋ C E R=>
  have o:∀ x σ,Xb [x] σ=Y (ύ "waiting") σ:=λx σ=>by unfold Xb TL;simp
  have r:=Ir (l:=[(5,nc),(6,Gb),(7,Xb)]) (m:="word") I rfl rfl rfl 1;have f:=TF "waiting" "calm" σ;rw[show (("waiting" : Str) == "calm")=false by decide]at f;refine⟨false,[],k,σ,?_,.same h hQ (.refl b σ),λ_=>rfl⟩;unfold Oc qC OC LC ZB UC nC NB;simp[y,ώ,J,u,z,A,B,f,o,r]
 |@Lc p q m G L F S hm hn C E R=>
  have o:∀ x σ,nc [x] σ=Y (ύ "calm") σ:=λx σ=>by unfold nc kI;simp
  have r:=Ir (l:=[(5,nc),(6,Gb),(7,Xb)]) (m:="word") I rfl rfl rfl 1;have f:Aj (ύ "calm") (ύ "calm") σ=Y (ϐ false) σ:=ny (by simp[pl]);have mw:=λP=>Ej h.v (m:="wish_for") 3 Tc P rfl;have c:=M1 F S h hm.ok (ϊ p) (by omega) C E.cl I hw;have W:((n,Lc p q m G L):Ka)∈k.as:=H;have ep:(Lc p q m G L).p=p:=rfl;rw[ep]at y u z A ⊢;cases i:j.st q k.K m with
  |none=>
   rw[i]at c;unfold oS at c;dsimp only at c;have hd:∀ g ρ σ,Nw ρ ⟨1⟩ [⟨Hz [(1,true),(2,false)],none,g⟩] σ=hit ⟨Hz [(1,true),(2,false)],none,g⟩ ρ ⟨1⟩ σ:=λg ρ σ=>JQ rfl;refine⟨false,[],k,σ,?_,.same h hQ (.refl b σ),λ_=>rfl⟩;unfold Oc qC OC LC ZB UC nC NB;simp[y,ώ,J,kk,u,z,A,B,f,o,r,c,hd]
  |some s=>
   rw[i]at c;unfold oS at c;dsimp only at c;obtain⟨V,w⟩:=j8 S hm (ϊ p) (by omega) hw i;obtain⟨t,M,X,d,e,dn,tf⟩:=Κ (N:=N) h hQ W F S hm V w (by rw[w];omega) C E R rfl ό j;refine⟨t,M,X,d,?_,dn,tf⟩;unfold Oc qC OC LC ZB UC nC NB;simp[y,ώ,mw,J,kk,u,z,A,B,f,o,r,c,e]
end
section
variable{σ:lb}{xs:List D}
def AS:yj [U σ.length] (σ++[ϔ xs])=Y (Z xs.length) (σ++[ϔ xs]):=by unfold yj;simp[xh,gh]
theorem ē:Aj (U σ.length) (O []) (σ++[ϔ xs])=Y (ϐ (!xs.isEmpty)) (σ++[ϔ xs]):=by
 refine bG (b:=xs.isEmpty) ?_;have:gh (σ++[ϔ xs]) σ.length=some xs:=Iz xs;show js _ (L4.kd _ (U σ.length)) (L4.kd _ (O []))=_;unfold L4.kd;simp only[this];cases xs<;>rfl
def F3:PB [U σ.length] (σ++[ϔ xs])=Y (Ϗ xs) (σ++[ϔ xs]):=by
 unfold PB;simp[Tj,xh,gh,WL]
def Ž{i:Nat}(a:i<1000)(h:xs[i]?=some y):fA (U σ.length) [Z i] (σ++[ϔ xs])=Y y (σ++[ϔ (xs.take i++xs.drop (i+1))]):=by
 unfold fA;simp only[Iz];rw[ma (by omega),Int.toNat_natCast];simp only[h];rw[YB]
end
theorem rW{ts:List Ti}(e:ts.length<=9)(c:Ti->Int)(b:∀ t σ,ib t.D (Z i) σ=Y (Z (c t)) σ)(d:∀ σ,da 5 ρ σ=Y (U σ0) σ)(a:σ.length=σ0):qj (dm (Fo (Bj (da 5))) [] (We 0) Cp (Ja ib (da 0) (eC (Z i)))) ρ (σ++[ϔ (ts.map Ti.D)])=Y (O ((ts.map c).map Z)) (σ++[ϔ (ts.map Ti.D)]):=by
 subst a;have s1:Oz (U σ.length) (σ++[ϔ (ts.map Ti.D)])=Y (.Bm σ.length) (σ++[ϔ (ts.map Ti.D)]):=by
  show (match gh (σ++[ϔ (ts.map Ti.D)]) σ.length with|some _=>_|none=>_)=_;rw[Iz]
 have:=Jx (ix:=[]) (src:=Bj (da 5)) (s:=.Bm σ.length) (xs:=ts) (ρ:=ρ) (σ:=σ++[ϔ (ts.map Ti.D)]) (fe:=Ja ib (da 0) (eC (Z i))) Ti.D (λt=>Z (c t)) (by rw[VF,d,Qg,s1]) (λk j=>by
  show (gh (σ++[ϔ (ts.map Ti.D)]++j) σ.length).map _=_;rw[eJ (Iz _),<-au];rfl) (by omega) (λt _ j=>by
  have:=b t;simp[this]) (λ_ _=>rfl)
 rw[this,Va];rfl
def iC(a:lb):Hr (Z 10) (Z 12) a=Y (Z 1000000000000) a:=Dz (by simp[Bw])
structure Dl(T:Int)(ts:List Ti):Prop where
 t:∀ t∈ts,t.Ok
 l:ts.length<=6
 d:(ts.map Ti.w).Nodup
 w:∀ t∈ts,t.w<50
 s:pf ts<=T
def Dl.so{T a b n:Int}(h:Dl T ts)(i:T<=2000000000000)(j:0<=a)(k:0<=b)(c:0<=n/\n<=1000000)(e:a+b+pf ts=T):SO T ⟨n,a,b,ts⟩:=by
 have m:0<=pf ts:=nF λx g=>by
  obtain⟨u,f,rfl⟩:=va.mp g;have:=(h.t u f).a;omega
 exact⟨⟨⟨c,by dsimp only;omega,by dsimp only;omega,h.t,h.l,h.d⟩,e⟩,h.w⟩
theorem DU:∀ (b:List Ti) (i:Nat),(∀ t∈b,0<=t.a)->pf (b.take i++b.drop (i+1))<=pf b
 |[],i,_=>by simp
 |t::b,0,h=>by
  have:=h t Ha;have c:pf (t::b)=t.a+pf b:=by simp[pf]
  simp only[List.take_zero,Zy,Fv,List.drop_zero];omega
 |t::b,i+1,h=>by
  have e:=DU b i λu d=>h u (Aa _ d);have c:∀ xs,pf (t::xs)=t.a+pf xs:=λxs=>by simp[pf]
  rw[List.take_succ_cons,Fv,ky,c,c];omega
def Dl.pop{T:Int}(h:Dl T c)(i:Nat):Dl T (c.take i++c.drop (i+1)):=by
 have b:(c.take i++c.drop (i+1)).Sublist c:=by
  have e:=wu i c;conv=>rhs;rw[<-e]
  refine pK (qK _) ?_;rw[<-List.drop_drop];exact List.drop_sublist ..
 exact⟨λt f=>h.t t (b.subset f),Fb b.length_le h.l,h.d.sublist (b.map _),λt f=>h.w t (b.subset f),Int.le_trans (DU c i λt f=>by have:=(h.t t f).a;omega) h.s⟩
def Dl.add{T:Int}(h:Dl T ts){t:Ti}(j:t.Ok)(k:t.w<50)(l:ts.length<=5)(i:t.w ∉ ts.map Ti.w)(m:t.a<=T - pf ts):Dl T (ts++[t]):=by
 refine⟨λu c=>?_,by simp;omega,?_,λu c=>?_,?_⟩
 ·rcases Wb.mp c with c|c
  ·exact h.t u c
  ·rw[yb.mp c];exact j
 ·rw[Rb,Od];exact⟨h.d,by simp,λa f b g e=>i (by have:=yb.mp (show b∈[t.w]from g);rw[<-this,<-e];exact f)⟩
 ·rcases Wb.mp c with c|c
  ·exact h.w u c
  ·rw[yb.mp c];exact k
 ·have:pf (ts++[t])=pf ts+t.a:=by simp[pf]
  omega
abbrev dE(s:Sn)(T d:Int)(a b c e f g:Option D):Ev:=[some s.D,some (Z T),some (Z d),some (Z s.n),some (Ϗ [Z s.a,Z s.b]),a,b,c,e,f,g]
def LQ{T:Int}(ό:0<=T/\T<=2000000000000)(k:SO T s)(d:Int)(σ:lb):∃ a b ts,sg [s.D,Z T,Z d] σ=Y (Ϗ [Ϗ [Z a,Z b],Ϗ (ts.map Ti.D)]) σ/\∀ n,0<=n/\n<=1000000->SO T ⟨n,a,b,ts⟩:=by
 have tn:∀ {ts:List Ti},Dl T ts->0<=pf ts:=λh=>nF λx hx=>by
  obtain⟨u,hu,rfl⟩:=va.mp hx;have:=(h.t u hu).a;omega
 have ώ:Dl T s.ts:=⟨k.ok.st.t,k.ok.st.l,k.ok.st.d,k.w,by have:=k.ok.w;have:=k.ok.st.a;have:=k.ok.st.b;omega⟩
 have e1:KW [some s.D,some (Z T),some (Z d),none,none,none,none,none,none,none,none] σ=Y (Ϛ (dE s T d (some (Ϗ (s.ts.map Ti.D))) none none none none none)) σ:=by
  unfold Sn.D Cn;simp;rfl
 have e2:PP (dE s T d (some (Ϗ (s.ts.map Ti.D))) none none none none none) σ=Y (Ϛ (dE s T d (some (U σ.length)) none none none none none)) (σ++[ϔ (s.ts.map Ti.D)]):=by
  have:Jr [Ϗ (s.ts.map Ti.D)] σ=Y (U σ.length) (σ++[ϔ (s.ts.map Ti.D)]):=by unfold Jr;rfl
  simp[this]
 obtain⟨e,p,e3⟩:∃ e,Dl T e/\cY (dE s T d (some (U σ.length)) none none none none none) (σ++[ϔ (s.ts.map Ti.D)])=Y (Ϛ (dE s T d (some (U σ.length)) none none none none none)) (σ++[ϔ (e.map Ti.D)]):=by
  have E:=ē (σ:=σ) (xs:=s.ts.map Ti.D);have v:=AS (σ:=σ) (xs:=s.ts.map Ti.D);by_cases C:(d % 5 == 0)=true
  ·cases o:s.ts with
   |nil=>
    rw[o]at E;exact⟨[],⟨by simp,by simp,by simp,by simp,by simp[pf];exact ό.1⟩,by
     simp only[kn]at E ⊢;simp[C,E]⟩
   |cons t ts=>
    rw[<-o];have l1:0<s.ts.length:=by rw[o];simp
    have l6:=k.ok.st.l;have L:(d / 5 % (s.ts.length:Int)).toNat<s.ts.length:=by have:=Hi (d / 5) (show 0<(s.ts.length:Int) by omega);have:=ii (d / 5) (show (s.ts.length:Int)≠0 by omega);omega
    have M:=ii (d / 5) (show (s.ts.length:Int)≠0 by omega);refine⟨_,ώ.pop (d / 5 % (s.ts.length:Int)).toNat,?_⟩;have r:∀ g,Qi (Z (d / 5)) (Z (s.ts.length:Int)) g=Y (Z (d / 5 % (s.ts.length:Int))) g:=λg=>EC _ _ (by omega);have gx:(s.ts.map Ti.D)[(d / 5 % (s.ts.length:Int)).toNat]?=some (s.ts[(d / 5 % (s.ts.length:Int)).toNat]).D:=by rw[au,aa.mpr ⟨L,rfl⟩];rfl
    have W:=Ž (σ:=σ) (show (d / 5 % (s.ts.length:Int)).toNat<1000 by omega) gx;rw[gw M]at W;have N:∀ m,Vv fA m (U σ.length) (σ++[ϔ (s.ts.map Ti.D)])=(m (σ++[ϔ (s.ts.map Ti.D)])).bind (fA (U σ.length)):=λm=>jA (xs:=s.ts.map Ti.D) (by unfold xh gh;simp);have em:(s.ts.map Ti.D).isEmpty=false:=by rw[o];rfl
    rw[em]at E;rw[Sa]at v;rw[Rb,List.map_take,List.map_drop];generalize (d / 5 % (s.ts.length:Int)).toNat=I at *;generalize s.ts.map Ti.D=SD,(s.ts.length:Int)=J at *;simp[C,E,v,r,N,W]
  ·exact⟨s.ts,ώ,by simp[C]⟩
 have l1:=rW (σ0:=σ.length) (ts:=e) (by have:=p.l;omega) Ti.a (i:=1) (λt σ=>by unfold Ti.D;simp) (ρ:=(dE s T d (some (U σ.length)) none none none none none)) (σ:=σ) (λ_=>rfl) rfl;have sm:=GJ (e.map Ti.a) (σ++[ϔ (e.map Ti.D)]);have e4:yX (dE s T d (some (U σ.length)) none none none none none) (σ++[ϔ (e.map Ti.D)])=Y (Ϛ (dE s T d (some (U σ.length)) (some (Z (T - pf e))) none none none none)) (σ++[ϔ (e.map Ti.D)]):=by
  unfold pf;generalize (e.map Ti.a).map Z=TA at *;simp[l1,sm,-vt]
 have e5:nQ (dE s T d (some (U σ.length)) (some (Z (T - pf e))) none none none none) (σ++[ϔ (e.map Ti.D)])=Y (Ϛ (dE s T d (some (U σ.length)) (some (Z (T - pf e))) (some (Z (d / 11 % 5))) none none none)) (σ++[ϔ (e.map Ti.D)]):=by simp
 obtain⟨f,y,P,e6⟩:∃ f y,Dl T f/\OT (dE s T d (some (U σ.length)) (some (Z (T - pf e))) (some (Z (d / 11 % 5))) none none none) (σ++[ϔ (e.map Ti.D)])=Y (Ϛ (dE s T d (some (U σ.length)) (some (Z (T - pf f))) (some (Z (d / 11 % 5))) y none none)) (σ++[ϔ (f.map Ti.D)]):=by
  have v:=AS (σ:=σ) (xs:=e.map Ti.D);rw[Sa]at v;have l2:=rW (σ0:=σ.length) (ts:=e) (by have:=p.l;omega) Ti.w (i:=2) (λt σ=>by unfold Ti.D;simp) (ρ:=(dE s T d (some (U σ.length)) (some (Z (T - pf e))) (some (Z (d / 11 % 5))) none none none)) (σ:=σ) (λ_=>rfl) rfl;have F:=qN (σ:=σ++[ϔ (e.map Ti.D)]) (neg:=true) (w:=d / 11 % 5) (x:=O ((e.map Ti.w).map Z)) (ws:=e.map Ti.w) rfl;simp only[Yh]at F;have ap:=cH (σ:=σ) (xs:=e.map Ti.D) (d:=Ϗ [Z (d / 17 % 2),Z (1+d / 13 % min (T - pf e) 1000000000000),Z (d / 11 % 5),Z (d / 19 % 40)]) (by have:=p.l;simp;omega);have N:∀ m,Vv Vm m (U σ.length) (σ++[ϔ (e.map Ti.D)])=(m (σ++[ϔ (e.map Ti.D)])).bind (Vm (U σ.length)):=λm=>jA (xs:=e.map Ti.D) (by unfold xh gh;simp);by_cases Q:d % 5 > 2
  ·have z:decide (d % 5 > 2)=true:=nb Q;by_cases R:T - pf e > 0
   ·have A:decide (T - pf e > 0)=true:=nb R;by_cases S:(e.length:Int)<3
    ·have H:decide ((e.length:Int)<3)=true:=nb S;by_cases B:(e.map Ti.w).any (·== d / 11 % 5)=true
     ·rw[B]at F;refine⟨e,none,p,?_⟩;generalize (e.map Ti.w).map Z=TW,e.map Ti.D=G,T - pf e=j,(e.length:Int)=J at *;simp[z,A,H,v,l2,F,-vt]
     ·have B:(e.map Ti.w).any (·== d / 11 % 5)=false:=by simpa using B
      rw[B]at F;have V:0<min (T - pf e) 1000000000000:=by omega
      have m1:=Hi (d / 13) V;have m2:=ii (d / 13) (show min (T - pf e) 1000000000000≠0 by omega);have r:∀ g,Qi (Z (d / 13)) (Z (min (T - pf e) 1000000000000)) g=Y (Z (d / 13 % min (T - pf e) 1000000000000)) g:=λg=>EC _ _ V;have pw:=iC;have ok:(⟨d / 17 % 2,1+d / 13 % min (T - pf e) 1000000000000,d / 11 % 5,d / 19 % 40⟩:Ti).Ok:=⟨by dsimp only;omega,by dsimp only;omega,by dsimp only;omega,by dsimp only;omega⟩
      refine⟨e++[⟨d / 17 % 2,1+d / 13 % min (T - pf e) 1000000000000,d / 11 % 5,d / 19 % 40⟩],some (Z (1+d / 13 % min (T - pf e) 1000000000000)),p.add ok (by dsimp only;omega) (by omega) (λK=>by
       have:=Si.mp B _ K;simp at this) (by dsimp only;omega),?_⟩
      have et:T - pf (e++[⟨d / 17 % 2,1+d / 13 % min (T - pf e) 1000000000000,d / 11 % 5,d / 19 % 40⟩])=T - pf e - (1+d / 13 % min (T - pf e) 1000000000000):=by simp[pf];omega
      have ed:(e++[(⟨d / 17 % 2,1+d / 13 % min (T - pf e) 1000000000000,d / 11 % 5,d / 19 % 40⟩:Ti)]).map Ti.D=e.map Ti.D++[Ϗ [Z (d / 17 % 2),Z (1+d / 13 % min (T - pf e) 1000000000000),Z (d / 11 % 5),Z (d / 19 % 40)]]:=by rw[Rb];rfl
      rw[et,ed];generalize d / 13 % min (T - pf e) 1000000000000=X at *;generalize (e.map Ti.w).map Z=TW,T - pf e=j,(e.length:Int)=J at *;generalize e.map Ti.D++[Ϗ [Z (d / 17 % 2),Z (1+X),Z (d / 11 % 5),Z (d / 19 % 40)]]=T2,e.map Ti.D=G at *;simp[z,A,H,v,l2,F,r,pw,N,ap,-vt]
    ·have H:decide ((e.length:Int)<3)=false:=Oa S;refine⟨e,none,p,?_⟩;generalize e.map Ti.D=G,T - pf e=j,(e.length:Int)=J at *;simp[z,A,H,v]
   ·have A:decide (T - pf e > 0)=false:=Oa R;refine⟨e,none,p,?_⟩;generalize T - pf e=j at *;simp[z,A]
  ·have z:decide (d % 5 > 2)=false:=Oa Q;exact⟨e,none,p,by simp[z]⟩
 have rn:0<=T - pf f:=by have:=P.s;omega
 have e7:lW (dE s T d (some (U σ.length)) (some (Z (T - pf f))) (some (Z (d / 11 % 5))) y none none) (σ++[ϔ (f.map Ti.D)])=Y (Ϛ (dE s T d (some (U σ.length)) (some (Z (T - pf f))) (some (Z (d / 11 % 5))) y (some (Z (min s.a (T - pf f)))) none)) (σ++[ϔ (f.map Ti.D)]):=by simp
 have a0:=k.ok.st.a;have b0:=k.ok.st.b;obtain⟨c,C,e8⟩:∃ c,(0<=c/\c<=T - pf f)/\aX (dE s T d (some (U σ.length)) (some (Z (T - pf f))) (some (Z (d / 11 % 5))) y (some (Z (min s.a (T - pf f)))) none) (σ++[ϔ (f.map Ti.D)])=Y (Ϛ (dE s T d (some (U σ.length)) (some (Z (T - pf f))) (some (Z (d / 11 % 5))) y (some (Z (min s.a (T - pf f)))) (some (Z c)))) (σ++[ϔ (f.map Ti.D)]):=by
  have r:∀ g,Qi (Z (d / 23)) (Z (T - pf f+1)) g=Y (Z (d / 23 % (T - pf f+1))) g:=λg=>EC _ _ (by omega);have m1:=Hi (d / 23) (show 0<T - pf f+1 by omega);have m2:=ii (d / 23) (show T - pf f+1≠0 by omega);have q4:d / 29 % 4=0\/d / 29 % 4=1\/d / 29 % 4=2\/d / 29 % 4=3:=by omega
  generalize d / 23 % (T - pf f+1)=ϊ at *;generalize T - pf f=j,σ++[ϔ (f.map Ti.D)]=ϋ at *;rcases q4 with q|q|q|q
  ·exact⟨min s.a j,by omega,by simp[r,q]⟩
  ·exact⟨min j (min s.a j+1),by omega,by simp[r,q]⟩
  ·exact⟨ϊ,by omega,by simp[r,q]⟩
  ·exact⟨max 0 (j - s.b),by omega,by simp[r,q]⟩
 have tp:=F3 (σ:=σ) (xs:=f.map Ti.D);have fz:mi σ (Y (Ϗ [Ϗ [Z c,Z (T - pf f - c)],Ϗ (f.map Ti.D)]) (σ++[ϔ (f.map Ti.D)]))=Y (Ϗ [Ϗ [Z c,Z (T - pf f - c)],Ϗ (f.map Ti.D)]) σ:=AO (by simp[jL]);refine⟨c,T - pf f - c,f,?_,λn hn=>P.so ό.2 C.1 (by omega) hn (by omega)⟩;have e9:sU (dE s T d (some (U σ.length)) (some (Z (T - pf f))) (some (Z (d / 11 % 5))) y (some (Z (min s.a (T - pf f)))) (some (Z c))) (σ++[ϔ (f.map Ti.D)])=Y (Ϯ (Ϗ [Ϗ [Z c,Z (T - pf f - c)],Ϗ (f.map Ti.D)])) (σ++[ϔ (f.map Ti.D)]):=by
  generalize f.map Ti.D=G,T - pf f=j at *;simp[tp]
 have hg:XO [some s.D,some (Z T),some (Z d),none,none,none,none,none,none,none,none] σ=Y (Ϯ (Ϗ [Ϗ [Z c,Z (T - pf f - c)],Ϗ (f.map Ti.D)])) (σ++[ϔ (f.map Ti.D)]):=by
  unfold XO;rw[dk,e1,Qg,jk,dk,e2,Qg,jk,dk,e3,Qg,jk,dk,e4,Qg,jk,dk,e5,Qg,jk,dk,e6,Qg,jk,dk,e7,Qg,jk,dk,e8,Qg,jk,e9]
 unfold sg;generalize f.map Ti.D=G,T - pf f=j at *;simp[hg,fz]
def DS{T:Int->Int}(h:AI T N a):SO (T a.p) (wa a)/\SO (T a.p) (bc a)/\(∀ σ,ib (O (a.y.map Sn.D)) (Z (-1)) σ=Y (wa a).D σ)/\(∀ σ,ib (O (a.y.map Sn.D)) (Z 0) σ=Y (bc a).D σ)/\SO (T a.p) a.m/\a.m.n<=N:=by
 cases h with
 |Lc i j hm b f g e=>exact⟨hm,hm,λσ=>ev rfl,λσ=>ev rfl,hm,b⟩
 |li i hm c b d f g e=>exact⟨c,hm,λσ=>ev rfl,λσ=>ev rfl,hm,by rw[b]at d;show (_:Int)<=_;simp only[li];omega⟩
 |wait i hm c b d f g e=>exact⟨c,hm,λσ=>ev rfl,λσ=>ev rfl,c,d⟩
section
variable{T:Int->Int}{N b:Nat}{k:Kp}{σ:lb}(h:Hj b k σ){x:Ka}(hx:x∈k.as)(hA:AI T N x.2)
include h hx hA
theorem Ł(d:Int):∃ E:Wi,E.Ok/\Sd [U b,Z x.2.p,Z d] σ=Y (E.D x.2.p) σ:=by
 have y:=(h.a x hx).1;have w:=hA.ok;have f:=tM h hx;have r:=λF=>Ej h.v (m:="account") 2 qc F rfl;have g:=Rt y w;have j:=Hw y w;have l:=s1 x.2.m;have k:=iT w.q x.2.m;have t:=iC;obtain⟨n,a⟩:=x;dsimp only at *;have G:0<max 1 (ow a.q a.m):=by omega
 have o:∀ c,Qi (Z (d / 64)) (Z (max 1 (ow a.q a.m))) c=Y (Z (d / 64 % max 1 (ow a.q a.m))) c:=λc=>EC _ _ G;have z:∀ c,Bu false (ύ "pay") (Ϗ [ύ "pay",ύ "pass"]) c=Y (ϐ true) c:=λc=>nr rfl;have A:∀ c,Bu false (ύ "pass") (Ϗ [ύ "pay",ύ "pass"]) c=Y (ϐ true) c:=λc=>nr rfl;have B:∀ c,Bu false (ύ "settle") (Ϗ [ύ "pay",ύ "pass"]) c=Y (ϐ false) c:=λc=>nr rfl;have H:∀ c,Bu false (ύ "drop") (Ϗ [ύ "pay",ύ "pass"]) c=Y (ϐ false) c:=λc=>nr rfl;generalize S:d / 64 % max 1 (ow a.q a.m)=M at *;have I:d % 8=0\/d % 8=1\/d % 8=2\/d % 8=3\/d % 8=4\/d % 8=5\/d % 8=6\/d % 8=7:=by omega
 have u:∀ (i:Int) (s:Str) (c:lb),dr [ύ "give",ύ "pay",ύ "pass",ύ "settle",ύ "drop",ύ "pass",ύ "pay",ύ "settle"] i=some (ύ s)->ib (O [ύ "give",ύ "pay",ύ "pass",ύ "settle",ύ "drop",ύ "pass",ύ "pay",ύ "settle"]) (Z i) c=Y (ύ s) c:=λi s c e=>ev e;have J:=λc=>u 0 "give" c rfl;have K:=λc=>u 1 "pay" c rfl;have L:=λc=>u 2 "pass" c rfl;have N:=λc=>u 3 "settle" c rfl;have ώ:=λc=>u 4 "drop" c rfl;have P:=λc=>u 5 "pass" c rfl;have Q:=λc=>u 6 "pay" c rfl;have R:=λc=>u 7 "settle" c rfl;have ok:∀ C,(Wi.ir C (min (1+M) 1000000000000) (d / 8 % 5) (d / 40 % 40)).Ok:=λC=>⟨by omega,by omega,by omega⟩
 rcases I with q|q|q|q|q|q|q|q
 ·exact⟨.Bp (min (1+M) 1000000000000),trivial,by unfold Sd Ky Wi.D;simp[f,r,g,j,l,k,t,o,J,q]⟩
 ·exact⟨.ir true (min (1+M) 1000000000000) (d / 8 % 5) (d / 40 % 40),ok _,by unfold Sd Ky Wi.D;simp[f,r,g,j,l,k,t,o,K,q,z]⟩
 ·exact⟨.ir false (min (1+M) 1000000000000) (d / 8 % 5) (d / 40 % 40),ok _,by unfold Sd Ky Wi.D;simp[f,r,g,j,l,k,t,o,L,q,A]⟩
 ·exact⟨.qh (d / 8 % 5),trivial,by unfold Sd Ky Wi.D;simp[f,r,g,j,l,k,t,o,N,q,B]⟩
 ·exact⟨.drop (d / 8 % 5),trivial,by unfold Sd Ky Wi.D;simp[f,r,g,j,l,k,t,o,ώ,q,H]⟩
 ·exact⟨.ir false (min (1+M) 1000000000000) (d / 8 % 5) (d / 40 % 40),ok _,by unfold Sd Ky Wi.D;simp[f,r,g,j,l,k,t,o,P,q,A]⟩
 ·exact⟨.ir true (min (1+M) 1000000000000) (d / 8 % 5) (d / 40 % 40),ok _,by unfold Sd Ky Wi.D;simp[f,r,g,j,l,k,t,o,Q,q,z]⟩
 ·exact⟨.qh (d / 8 % 5),trivial,by unfold Sd Ky Wi.D;simp[f,r,g,j,l,k,t,o,R,q,B]⟩
theorem HY(ό:∀ p,0<=T p/\T p<=2000000000000)(hN:N<=90)(d:Int):∃ X,Lt T N x.2 X/\Wd [U b,Z x.2.p,Z (T x.2.p),Z d] σ=Y X σ:=by
 have F:=(h.a x hx).1;have l:=hA.ok;have g:=tM h hx;have s:=λR=>Ej h.v (m:="account") 2 qc R rfl;have e:=Rt F l;have j:=Hw F l;have k:=wA F l;have o:=s0 x.2.m;obtain⟨l1,l2,r,V,W,l6⟩:=DS hA;obtain⟨n,a⟩:=x;dsimp only at *;have S:=s0 (bc a);have mn:=W.ok.st.n;obtain⟨sa,sb,ts,i,E⟩:=LQ (ό a.p) l1 (d / 8) σ;have E:=E (a.m.n+1) (by omega);have t:∀ G,Oy (Z 1) G=Y (Z (-1)) G:=λG=>nr rfl;have u:Ϗ [Z (a.m.n+1),Ϗ [Z sa,Z sb],Ϗ (ts.map Ti.D)]=(⟨a.m.n+1,sa,sb,ts⟩:Sn).D:=rfl;have M:=Ζ a.p 0 ⟨a.m.n+1,sa,sb,ts⟩;have K:=R6 a.p ⟨a.m.n+1,sa,sb,ts⟩;have L:=j3 a.p a.m (wa a);have ώ:=yiz a.p 0 (bc a).n;have J:Ϗ [ύ "offer",Z a.p,Ϗ [ύ "agree",Z a.p,Z 0,(⟨a.m.n+1,sa,sb,ts⟩:Sn).D]]=Jj a.p 0 ⟨a.m.n+1,sa,sb,ts⟩:=rfl;have I:Ϗ [ύ "ask",Z a.p,Ϗ [Z sa,Z sb],Ϗ (ts.map Ti.D)]=Oj a.p ⟨a.m.n+1,sa,sb,ts⟩:=rfl;have P:Ϗ [ύ "accept",Z a.p,Ϗ [ύ "agree",Z a.p,Z 1,(wa a).D],Ϗ [ύ "strike",Z a.p,Z 1,Z a.m.n]]=Fs a.p a.m (wa a):=rfl;have Q:Ϗ [ύ "struck",Z a.p,Ϗ [ύ "strike",Z a.p,Z 0,Z (bc a).n]]=Dq a.p 0 (bc a).n:=rfl;have ϊ:gJ [ϐ true] σ=Y (Z 1) σ:=nr rfl;have ϋ:gJ [ϐ false] σ=Y (Z 0) σ:=nr rfl;by_cases H:d % 8<3
 ·have f:decide (d % 8<3)=true:=nb H;rcases l.q with c|c
  ·refine⟨Oj a.p ⟨a.m.n+1,sa,sb,ts⟩,.ask c E rfl,?_⟩;rw[c]at e;generalize (⟨a.m.n+1,sa,sb,ts⟩:Sn).D=z,a.y.map Sn.D=B,(wa a).D=w,ts.map Ti.D=A at *;unfold Wd QC wC AC YC cC sC TB TC;simp[g,s,e,j,k,o,r,i,t,u,f,ϊ,J,I,K]
  ·refine⟨Jj a.p 0 ⟨a.m.n+1,sa,sb,ts⟩,.off c E rfl,?_⟩;rw[c]at e;generalize (⟨a.m.n+1,sa,sb,ts⟩:Sn).D=z,a.y.map Sn.D=B,(wa a).D=w,ts.map Ti.D=A at *;unfold Wd QC wC AC YC cC sC TB TC;simp[g,s,e,j,k,o,r,i,t,u,f,ϋ,J,I,M]
 ·have f:decide (d % 8<3)=false:=Oa H;by_cases c6:d % 8<6
  ·have C:decide (d % 8<6)=true:=nb c6;rcases l.q with c|c
   ·refine⟨Fs a.p a.m (wa a),.acc c,?_⟩;rw[c]at e;generalize (⟨a.m.n+1,sa,sb,ts⟩:Sn).D=z,a.y.map Sn.D=B,(wa a).D=w,ts.map Ti.D=A at *;unfold Wd QC wC AC YC cC sC TB TC;simp[g,s,e,j,k,o,r,i,t,u,f,C,P,L]
   ·refine⟨Dq a.p 0 (bc a).n,.En c,?_⟩;rw[c]at e;generalize (⟨a.m.n+1,sa,sb,ts⟩:Sn).D=z,a.y.map Sn.D=B,(wa a).D=w,(bc a).D=FD,ts.map Ti.D=A at *;unfold Wd QC wC AC YC cC sC TB TC;simp[g,s,e,j,k,o,S,r,V,i,t,u,f,C,Q,ώ]
  ·have C:decide (d % 8<6)=false:=Oa c6;refine⟨eA a.p (d / 8 % 5),.wd (by omega),?_⟩;unfold eA;generalize (⟨a.m.n+1,sa,sb,ts⟩:Sn).D=z,a.y.map Sn.D=B,(wa a).D=w,ts.map Ti.D=A at *;unfold Wd QC wC AC YC cC sC TB TC;simp[g,s,e,j,k,o,r,i,t,u,f,C]
end
def VZ{T:Int->Int}(h:AI T N a)(b:Dj σ n a):∃ c o,(∀ d,Bo [(5,nc),(6,Gb),(7,Xb)] 1 "word" d (U n) σ=(d σ).bind (Ql 1 c (U n)))/\∀ x k,c [x] k=Y (ύ o) k:=by
 cases h with
 |Lc j p hm i f g e=>exact⟨nc, "calm",Ir b rfl rfl rfl 1,λx σ=>by unfold nc kI;simp⟩
 |li j hm m i l f g e=>exact⟨Gb, "offered",Ir b rfl rfl rfl 1,λx σ=>by unfold Gb uI;simp⟩
 |wait j hm m i l f g e=>exact⟨Xb, "waiting",Ir b rfl rfl rfl 1,λx σ=>by unfold Xb TL;simp⟩
def AI.il{T:Int->Int}(h:AI T N a):IL a.L:=by
 cases h<;>assumption
def â{T:Int->Int}(h:AI T N a)(c:Str):pl 8 (Ϗ [ύ c,a.m.D,O (a.y.map Sn.D),O a.L])=true:=NA λx b=>by
 have b:x=ύ c\/x=a.m.D\/x=O (a.y.map Sn.D)\/x=O a.L:=by simpa using b
 rcases b with rfl|rfl|rfl|rfl
 ·simp[pl]
 ·exact AL 4 _
 ·refine Pb.mpr λx b=>?_;obtain⟨s,_,rfl⟩:=va.mp b;exact AL 3 s
 ·refine Pb.mpr λx b=>?_;obtain⟨i,rfl⟩:=h.il x b;simp[pl]
section
variable{T:Int->Int}{N b:Nat}{k:Kp}{σ:lb}(h:Hj b k σ){x:Ka}(hx:x∈k.as)(hA:AI T N x.2)
include h hx hA
theorem f5(hT:∀ p,0<=T p/\T p<=2000000000000)(hN:N<=90)(d:Int):Ee [U b,Z x.2.p,Z (T x.2.p),Z d] σ=Y (ϐ true) σ:=by
 have j:=(h.a x hx).1;have i:=hA.ok;have o:=tM h hx;have J:=λg=>Ej h.v (m:="account") 2 qc g rfl;have I:=λg=>Ej h.v (m:="take") 2 Cb g rfl;have K:=λg=>Ej h.v (m:="worth") 1 Sb g rfl;have F:=KC h;have f:=Rt j i;have z:=Hw j i;have A:=tD j i;have B:=wA j i;have E:=s0 x.2.m;obtain⟨fn,ϋ,ό,V⟩:=VZ hA j;obtain⟨l1,l2,G,H,l5,l6⟩:=DS hA;have R:=fun {X:D} (hX:Tu x.2 T X)=>O2 h hx hA hX;have pt:=â hA ϋ;obtain⟨n,a⟩:=x;dsimp only at *;have C:=s0 (bc a);have mn:=l5.ok.st.n;obtain⟨sa,sb,ts,r,l⟩:=LQ (hT a.p) l1 d σ;have l:=l (a.m.n+1) (by omega);have M:∀ ϊ,Oy (Z 1) ϊ=Y (Z (-1)) ϊ:=λϊ=>nr rfl;have Q:Ϗ [Z (a.m.n+1),Ϗ [Z sa,Z sb],Ϗ (ts.map Ti.D)]=(⟨a.m.n+1,sa,sb,ts⟩:Sn).D:=rfl;have t:Ϗ [ύ "offer",Z a.p,Ϗ [ύ "agree",Z a.p,Z 1,(⟨a.m.n+1,sa,sb,ts⟩:Sn).D]]=Jj a.p 1 ⟨a.m.n+1,sa,sb,ts⟩:=rfl;have s:Ϗ [ύ "ask",Z a.p,Ϗ [Z sa,Z sb],Ϗ (ts.map Ti.D)]=Oj a.p ⟨a.m.n+1,sa,sb,ts⟩:=rfl;have w:Ϗ [ύ "struck",Z a.p,Ϗ [ύ "strike",Z a.p,Z 1,Z (bc a).n]]=Dq a.p 1 (bc a).n:=rfl;have ώ:Aj (O []) (O []) σ=Y (ϐ false) σ:=ny (by simp[pl]);have P:=yW k.W k.W σ;have u:Uf (Ϗ [ύ ϋ,a.m.D,O (a.y.map Sn.D),O a.L]) (Ϗ [ύ ϋ,a.m.D,O (a.y.map Sn.D),O a.L]) σ=Y (ϐ true) σ:=bN pt;rcases i.q with e|e
 ·have to:=R (.off e l);have S:=R (.En (n:=(bc a).n) e l2.ok.st.n);rw[e]at f;by_cases c:d / 64 % 2=1
  ·generalize (⟨a.m.n+1,sa,sb,ts⟩:Sn).D=SD,a.y.map Sn.D=YD,a.m.D=MD,(wa a).D=LD,(bc a).D=FD,ts.map Ti.D=TD at *;unfold Ee VJ ZH YH vI pJ jH iH OI mI KJ;simp[o,J,I,K,F,f,z,A,B,E,C,G,H,r,M,Q,c,t,s,w,S,ώ,P,ό,V,u]
  ·have bb:(d / 64 % 2 == 1)=false:=by simp[c]
   unfold Ee VJ ZH YH vI pJ jH iH OI mI KJ;simp[o,J,I,K,F,f,z,A,B,E,C,G,H,r,M,Q,bb,t,s,w,to,ώ,P,ό,V,u]
 ·have ta:=R (.ask e l);rw[e]at f;have b1:((1:Int) == 0)=false:=rfl;cases c:(d / 64 % 2 == 1)<;>
  ·generalize (⟨a.m.n+1,sa,sb,ts⟩:Sn).D=SD,a.y.map Sn.D=YD,a.m.D=MD,(wa a).D=LD,(bc a).D=FD,ts.map Ti.D=TD at *;unfold Ee VJ ZH YH vI pJ jH iH OI mI KJ;simp[o,J,I,K,F,f,z,A,B,E,C,G,H,r,M,Q,c,b1,t,s,w,ta,ώ,P,ό,V,u]
end
@[simp] theorem yc8(d:List D->M D)(x a b c:D):Ql 4 d x [a,b,c] σ=d [x,a,b,c] σ:=BJ rfl
noncomputable def cS(u v:Int):Sn:=⟨0,u,v,[]⟩
def Ue(l r u v:Int):D:=Ϗ [Z l,Z r,Z u,Z v,Z 30]
def uC{a L:lb}(i:Nat):(a++L)[a.length+i]?=L[i]?:=by
 rw[Bd (by omega),show a.length+i - a.length=i by omega]
def VW{a L:lb}:(a++L)[a.length]?=L[0]?:=uC 0
def V4{a L:lb}(i:Nat)(x:Ob):(a++L).set (a.length+i) x=a++L.set i x:=by
 rw[Te _ _ (by omega),show a.length+i - a.length=i by omega]
def o8{a L:lb}(x:Ob):(a++L).set a.length x=a++L.set 0 x:=V4 0 x
section
variable{σ0:lb}
def yes(h:b.contains 9=true)(g:Nat.ble (a.length+1) 1000=true):WA c b f d (U σ0.length) (σ0++Ϙ 9 a::r)=Y (Ϛ c) (σ0++Ϙ 9 (Ip f d a)::r):=by
 have e:kC b f d (U σ0.length) (σ0++Ϙ 9 a::r)=Y () (σ0++Ϙ 9 (Ip f d a)::r):=by
  have:(σ0++Ϙ 9 a::r)[σ0.length]?=some (Ϙ 9 a):=VW;unfold kC;simp only[this];rw[ma (by rw[h];simpa using (show a.length<1000 from Nat.le_of_ble_eq_true g)),o8];rfl
 unfold WA;rw[e]
def mC(g:c.contains 9=true)(h:Nat.ble (b.length+1) 1000=true)(i:a.length+1=k):Ho c f aw (da 0) (some (U σ0.length)::r) (σ0++Ϙ 9 b::a)=Y (Ϛ (some (U σ0.length)::r)) (σ0++Ϙ 9 (Ip f (U (σ0.length+k)) b)::(a++[ϑ []])):=by
 rw[IS,Ņ,ut,FX,ZD,ut];have e:(σ0++Ϙ 9 b::a).length=σ0.length+k:=by rw[Xc,ub];omega
 have d:(σ0++Ϙ 9 b::a)++[ϑ []]=σ0++Ϙ 9 b::(a++[ϑ []]):=by simp
 rw[e,d];exact yes g h
def YI(g:c.contains 9=true)(h:Nat.ble (a.length+1) 1000=true)(i:e (some (U σ0.length)::r) (σ0++Ϙ 9 a::b)=Y d (σ0++Ϙ 9 a::b)):Ho c f e (da 0) (some (U σ0.length)::r) (σ0++Ϙ 9 a::b)=Y (Ϛ (some (U σ0.length)::r)) (σ0++Ϙ 9 (Ip f d a)::b):=by
 rw[IS,i,ut,FX,ZD,ut,yes g h]
end
section
variable{b:Nat}{k:Kp}{σ:lb}(h:Hj b k σ)
include h
theorem G9{n:Nat}{a:Ac}(ό:Dj σ n a)(H:a.Ok)(A:ZF a)(l:∀ y∈k.as,y.2.p≠a.p)(hn:k.as.length<=2):∃ w,Ce [U b,U n,.gt ["held"],Ϫ [] []] σ=Y ϛ w/\Hj b { k with as:=k.as++[(n,a)] } w/\Fr b σ w:=by
 have T:∀ (F:Ka->D),∀ z∈k.as.map (λx=>((Ϟ x.2.p:Nd),F x)),z.1≠ Ϟ a.p:=λF z ϊ e=>by
  obtain⟨x,A,rfl⟩:=va.mp ϊ;exact l x A (by simpa using e)
 have V:=Xr ό H;have l2:=(aa.mp h.h2).1;have s1:∀ ρ,eu ρ (U n) (U (b+2)) (Z a.p) σ=Y (Ϛ ρ) (σ.set (b+2) (ϑ (AV (k.as++[(n,a)])))):=λρ=>by
  rw[Xx h.h2 (by simp[AV];omega)];unfold AV;rw[lB _ (T λx=>U x.1),Rb];rfl
 have I:As (k.as++[(n,a)]) σ:=λy j=>by
  rcases Wb.mp j with j|j
  ·exact h.a y j
  ·rw[yb.mp j];exact⟨ό,H⟩
 have B:=I.set h.h2 (ϑ (AV (k.as++[(n,a)])));have u:=h.v.set (ϒ rfl) (ϑ (AV (k.as++[(n,a)])));have N:(σ.set (b+2) (ϑ (AV (k.as++[(n,a)]))))[b+5]?=some (ϑ k.Q):=Yk (by omega) h.h5;have K:(σ.set (b+2) (ϑ (AV (k.as++[(n,a)]))))[b+2]?=some (ϑ (AV (k.as++[(n,a)]))):=pc l2;have W:Fr b σ (σ.set (b+2) (ϑ (AV (k.as++[(n,a)])))):=.set σ (by omega) _;have ka:=Xt h.v;generalize σ.set (b+2) (ϑ (AV (k.as++[(n,a)])))=c at *;have s2:∀ ρ,eu ρ (.gt ["held"]) (U (b+3)) (Z a.p) c=Y (Ϛ ρ) (c.set (b+3) (ϑ (CV (k.as++[(n,a)])))):=λρ=>by
  rw[Xx u.h3 (by simp[CV];omega)];unfold CV;rw[lB _ (T λx=>.gt ["held"]),Rb];rfl
 have S:=(aa.mp u.h3).1;have C:=B.set u.h3 (ϑ (CV (k.as++[(n,a)])));have E:(c.set (b+3) (ϑ (CV (k.as++[(n,a)]))))[b]?=_:=Yk (by omega) u.h0;have J:(c.set (b+3) (ϑ (CV (k.as++[(n,a)]))))[b+1]?=_:=Yk (by omega) u.h1;have L:(c.set (b+3) (ϑ (CV (k.as++[(n,a)]))))[b+2]?=_:=Yk (by omega) K;have M:(c.set (b+3) (ϑ (CV (k.as++[(n,a)]))))[b+3]?=some (ϑ (CV (k.as++[(n,a)]))):=pc S;have t:(c.set (b+3) (ϑ (CV (k.as++[(n,a)]))))[b+4]?=_:=Yk (by omega) u.h4;have ώ:(c.set (b+3) (ϑ (CV (k.as++[(n,a)]))))[b+5]?=_:=Yk (by omega) N;have X:Fr b c (c.set (b+3) (ϑ (CV (k.as++[(n,a)])))):=.set c (by omega) _;have kc:=CM u;have r:=Xr (B (n,a) (by simp)).1 H;generalize c.set (b+3) (ϑ (CV (k.as++[(n,a)])))=i at *;have s3:∀ ρ,eu ρ (Ϫ [] []) (U (b+4)) (Z a.p) i=Y (Ϛ ρ) (i.set (b+4) (ϑ (SV (k.as++[(n,a)])))):=λρ=>by
  rw[Xx t (by simp[SV];omega)];unfold SV;rw[lB _ (T λx=>Ϫ [] []),Rb];rfl
 have i2:Dm i (U b)=some (9,Au b k.e k.g):=by unfold Dm;simp[E]
 have R:Mc [9] "seen" (U b) i=Y (U (b+4)) i:=Hq i2 rfl rfl;have s:=Xr (C (n,a) (by simp)).1 H;have r:Mc [4,5,6,7] "pot" (U n) c=Y (Z a.p) c:=r;have s:Mc [4,5,6,7] "pot" (U n) i=Y (Z a.p) i:=s;refine⟨i.set (b+4) (ϑ (SV (k.as++[(n,a)]))),?_,⟨⟨Yk (by omega) E,Yk (by omega) J,Yk (by omega) M,pc (aa.mp t).1⟩,Yk (by omega) L,Yk (by omega) ώ,C.set t _,?_,by simp;omega,h.z,?_,h.q⟩,(W.trans X).trans (.set i (by omega) _)⟩
 ·unfold Ce yQ;simp[V,r,s,ka,kc,R,s1,s2,s3]
 ·show ((k.as++[(n,a)]).map (·.2.p)).Nodup;rw[Rb,Od];exact⟨h.d,by simp,λp m q ϋ e=>by
   obtain⟨y,j,rfl⟩:=va.mp m;exact l y j (e.trans (yb.mp ϋ))⟩
 ·have P:∀ p∈(k.as++[(n,a)]).map pv,p=pv (n,a)\/p∈k.as.map pv:=λp m=>by
   obtain⟨y,j,rfl⟩:=va.mp m;rcases Wb.mp j with j|j
   ·exact ϖ (Gd j)
   ·rw[yb.mp j];exact ϒ rfl
  refine⟨by simp;omega,λp m=>?_,λp m=>?_,λp m=>?_,λp m=>?_⟩<;>rcases P p m with rfl|G
  ·exact A.q
  ·exact h.o.q p G
  ·exact A.f
  ·exact h.o.f p G
  ·exact A.d
  ·exact h.o.d p G
  ·exact A.a
  ·exact h.o.a p G
end
def ztq(h:Hj b k σ){ws:List Int}(t:k.K.length+ws.length<60):∃ c a,Yc [U b,O (ws.map Z)] σ=Y ϛ a/\Hj b { k with K:=c } a/\c.length<=k.K.length+ws.length/\Fr b σ a:=by
 obtain⟨r,a,l,y,c,rfl,f,j,g⟩:=WB (xs:=ws.map Z) (tg:=We 2) (body:=GK) (λi ρ e=>∃ y c,ρ=[some (U b),some (O (ws.map Z)),y]/\Hj b { k with K:=c } e/\c.length<=k.K.length+i/\Fr b σ e) (by simp;omega) (ϒ rfl) (λi d ρ e m n=>by
  obtain⟨y,c,rfl,f,j,g⟩:=n;rw[Ta]at m;obtain⟨w,o,rfl⟩:=Ra.mp m;have s:=(aa.mp o).1;have p:=vH f.v;have q:∀ ρ,eu ρ (ϐ true) (U (b+1)) (Z w) e=Y (Ϛ ρ) (e.set (b+1) (ϑ (cq (am c w)))):=λρ=>by
   rw[Xx f.v.h1 (by unfold cq;simp;omega),cR]
  have l1:=IG f (by dsimp only;omega) w;refine⟨_,[some (U b),some (O (ws.map Z)),some (Z w)],_,rfl,?_,some (Z w),am c w,rfl,l1.2,by unfold am;split<;>(try simp only[Xc,ub,Yg])<;>omega,g.trans (.set e (by omega) _)⟩;simp[p,q]) ⟨none,k.K,rfl,h,by omega,.refl b σ⟩
 rw[Sa]at j;refine⟨c,a,?_,f,j,g⟩;have l:Zn (We 2) GK (ws.map Z) [some (U b),some (O (ws.map Z)),none] σ=_:=l;unfold Yc nN;simp[l]
def sH(a:0<=u/\u<=1000000000000)(b:0<=v/\v<=1000000000000):SO (u+v) (cS u v):=⟨⟨⟨by show 0<=0/\0<=1000000;omega,by show 0<=u/\u<=2000000000000;omega,by show 0<=v/\v<=2000000000000;omega,by simp[cS],by simp[cS],by simp[cS]⟩,by simp[cS,pf]⟩,by simp[cS]⟩
def X1(b:0<=p/\p<=2)(c:q=0\/q=1)(d:0<=u/\u<=1000000000000)(e:0<=v/\v<=1000000000000)(a:lb):Xe [Z p,Z q,Z u,Z v] a=Y (U a.length) (a++[Ϙ 5 (Lc p q (cS u v) ϛ []).fs]):=by
 have f:fj [Z u,Z v] a=Y (cS u v).D a:=Ş d e a;have ok:=ww (m:=cS u v) (G:=ϛ) (L:=[]) b c rfl rfl;have g:Lr 5 7 nk [Z p,Z q,(cS u v).D,ϛ,O [(cS u v).D],O []] a=Y (U a.length) (a++[Ϙ 5 (Lc p q (cS u v) ϛ []).fs]):=HE ok a;unfold Xe WU;simp[f,g]
section
variable{b:Nat}{k:Kp}{σ:lb}(h:Hj b k σ){p l r u v:Int}(A2 A3 A4 x7:Option D)
def wO(σ:lb):ib (Ue l r u v) (Z 0) σ=Y (Z l) σ:=by unfold Ue;simp
def BK(σ:lb):ib (Ue l r u v) (Z 1) σ=Y (Z r) σ:=by unfold Ue;simp
def YS(σ:lb):ib (Ue l r u v) (Z 2) σ=Y (Z u) σ:=by unfold Ue;simp
def gU(σ:lb):ib (Ue l r u v) (Z 3) σ=Y (Z v) σ:=by unfold Ue;simp
def hJ{s x:Int}(a:ib (Ue l r u v) (Z s) σ=Y (Z x) σ)(c:(x == 1)=false):EB [some (U b),some (Z 1),A2,A3,A4,some (Z p),some (Ue l r u v),some (Z s)] σ=Y (Ϛ [some (U b),some (Z 1),A2,A3,A4,some (Z p),some (Ue l r u v),some (Z s)]) σ:=by
 simp[a,c]
def eL{f0 f1:Ev × lb}{a c:lb}(d:EB [some (U b),some (Z 1),A2,A3,A4,some (Z p),some (Ue l r u v),some (Z 0)] σ=Y (Ϛ [some (U b),some (Z 1),A2,A3,A4,some (Z p),some (Ue l r u v),some (Z 0)]) a)(e:EB [some (U b),some (Z 1),A2,A3,A4,some (Z p),some (Ue l r u v),some (Z 1)] a=Y (Ϛ [some (U b),some (Z 1),A2,A3,A4,some (Z p),some (Ue l r u v),some (Z 1)]) c):CA [some (U b),some (Z 1),A2,A3,A4,some (Z p),some (Ue l r u v),x7] σ=Y (Ϛ [some (U b),some (Z 1),A2,A3,A4,some (Z p),some (Ue l r u v),some (Z 1)]) c:=by
 unfold CA;rw[DX];simp -implicitDefEqProofs only[VF,MY,OM,K7,Qg,lO,jO,KO,KY,m8,ut,dR];rw[yE];simp only[Yf,zi];rw[d,Qg,Mw,yE];simp only[Yf,zi];rw[e,Qg,Mw,zty]
def Ò(a:l≠1)(c:r≠1):CA [some (U b),some (Z 1),A2,A3,A4,some (Z p),some (Ue l r u v),x7] σ=Y (Ϛ [some (U b),some (Z 1),A2,A3,A4,some (Z p),some (Ue l r u v),some (Z 1)]) σ:=eL (f0:=([],[])) (f1:=([],[])) _ _ _ _ (hJ _ _ _ (wO σ) (by simp[a])) (hJ _ _ _ (BK σ) (by simp[c]))
include h
theorem LP{q:Int}(e:0<=p/\p<=2)(f:q=0\/q=1)(t:∀ σ,ib (Ue l r u v) (Z q) σ=Y (Z 1) σ)(g:0<=u/\u<=1000000000000)(i:0<=v/\v<=1000000000000)(c:∀ y∈k.as,y.2.p≠p)(x:k.as.length<=2):∃ a,EB [some (U b),some (Z 1),A2,A3,A4,some (Z p),some (Ue l r u v),some (Z q)] σ=Y (Ϛ [some (U b),some (Z 1),A2,A3,A4,some (Z p),some (Ue l r u v),some (Z q)]) a/\Hj b { k with as:=k.as++[(σ.length,Lc p q (cS u v) ϛ [])] } a/\Fr b σ a:=by
 have fa:=X1 e f g i σ;have d:AI (λ_=>u+v) 0 (Lc p q (cS u v) ϛ []):=.Lc e f (sH g i) (by simp[cS]) rfl (λz B=>by cases B) (by simp);have o:=h.app [Ϙ 5 (Lc p q (cS u v) ϛ []).fs];have E:Dj (σ++[Ϙ 5 (Lc p q (cS u v) ϛ []).fs]) σ.length (Lc p q (cS u v) ϛ []):=by unfold Dj;simp[Lc]
 have j:=Fr.app b σ [Ϙ 5 (Lc p q (cS u v) ϛ []).fs];generalize σ++[Ϙ 5 (Lc p q (cS u v) ϛ []).fs]=G at *;obtain⟨a,A,w,s⟩:=G9 o E d.ok d.vA c x;refine⟨a,?_,w,j.trans s⟩;have F:=λn=>Ej h.v (m:="hold") 4 Ce n rfl;have C:=λσ=>YS (l:=l) (r:=r) (u:=u) (v:=v) σ;have D:=λσ=>gU (l:=l) (r:=r) (u:=u) (v:=v) σ;unfold EB;generalize Ue l r u v=P at *;simp[t,C,D,fa,F,A]
theorem JN{q:Int}(i:0<=p/\p<=2)(o:(q=0/\l=1/\r≠1)\/(q=1/\l≠1/\r=1))(j:0<=u/\u<=1000000000000)(m:0<=v/\v<=1000000000000)(c:∀ y∈k.as,y.2.p≠p)(g:k.as.length<=2):∃ a,CA [some (U b),some (Z 1),A2,A3,A4,some (Z p),some (Ue l r u v),x7] σ=Y (Ϛ [some (U b),some (Z 1),A2,A3,A4,some (Z p),some (Ue l r u v),some (Z 1)]) a/\Hj b { k with as:=k.as++[(σ.length,Lc p q (cS u v) ϛ [])] } a/\Fr b σ a:=by
 rcases o with⟨rfl,rfl,s⟩|⟨rfl,n,rfl⟩
 ·obtain⟨a,e,f,d⟩:=LP h A2 A3 A4 (q:=0) i (ϒ rfl) (λσ=>wO σ) j m c g;exact⟨a,eL (f0:=([],[])) (f1:=([],[])) _ _ _ _ e (hJ _ _ _ (BK a) (by simp[s])),f,d⟩
 ·obtain⟨a,e,f,d⟩:=LP h A2 A3 A4 (q:=1) i (ϖ rfl) (λσ=>BK σ) j m c g;exact⟨a,eL (f0:=([],[])) (f1:=([],[])) _ _ _ _ (hJ _ _ _ (wO σ) (by simp[n])) e,f,d⟩
end
def Û(s:1<=e/\e<=9){ps:List (Int × Int × Int × Int)}(t:ps.length<=3)(k:σ[r]?=some (ϔ (ps.map λp=>Ue p.1 p.2.1 p.2.2.1 p.2.2.2))):zg [Z 1,Z e,U r] σ=Y ϛ σ:=by
 have b:=bt (i:=e) (a:=1) (b:=50) (by omega) σ;have j:gh σ r=some (ps.map λp=>Ue p.1 p.2.1 p.2.2.1 p.2.2.2):=by unfold gh;simp[k]
 have s1:Oz (U r) σ=Y (.Bm r) σ:=by
  show (match gh σ r with|some _=>_|none=>_)=_;rw[j]
 obtain⟨o,q,m,y,rfl,rfl⟩:=WB (S:=.Bm r) (xs:=ps.map λp=>Ue p.1 p.2.1 p.2.2.1 p.2.2.2) (tg:=We 3) (body:=DW) (ρ:=[some (Z 1),some (Z e),some (U r),none]) (σ:=σ) (λi ρ c=>∃ y,ρ=[some (Z 1),some (Z e),some (U r),y]/\c=σ) (by simp;omega) (ϖ ⟨r,rfl,λi ρ c g=>by obtain⟨_,_,rfl⟩:=g;exact j⟩) (λi d ρ c h g=>by
  obtain⟨y,rfl,rfl⟩:=g;rw[Ta]at h;obtain⟨⟨l,f,u,v⟩,w,rfl⟩:=Ra.mp h;dsimp only;have p4:ib (Ue l f u v) (Z 4) c=Y (Z 30) c:=qX ..;have n:iB (Ue l f u v) none (some 2) c=Y (Ϗ [Z l,Z f]) c:=nr rfl;obtain⟨B,i⟩:∃ B,Bu false (Z 1) (Ϗ [Z l,Z f]) c=Y (ϐ B) c:=⟨_,qN (ws:=[l,f]) rfl⟩
  have lt:decide (30<e+1)=false:=Oa (by omega);refine⟨[some (Z 1),some (Z e),some (U r),some (Ue l f u v)],[some (Z 1),some (Z e),some (U r),some (Ue l f u v)],c,rfl,?_,_,rfl,rfl⟩;cases B<;>simp[p4,n,i,lt]) ⟨none,rfl,rfl⟩
 unfold zg FR;simp[b,s1,m]
def NH(e f:Nat)(a b c d:Int):List Ka:=[(e,Lc 0 1 (cS a b) ϛ []),(f,Lc 1 0 (cS c d) ϛ [])]
section
variable{e:Int}(he:1<=e/\e<=9){r:Nat}{σ0:lb}{c0 c1 c2 c3:Int}(h0:0<=c0/\c0<=1000000000000)(h1:0<=c1/\c1<=1000000000000)(h2:0<=c2/\c2<=1000000000000)(h3:0<=c3/\c3<=1000000000000){z:Int}(hz:z=1\/z=2)(hr:σ0[r]?=some (ϔ [Ue 0 1 c0 c1,Ue 1 2 c2 c3,Ue 3 z c3 c0]))
include he h0 h1 h2 h3 hz hr
theorem zn1{ws:List Int}(hw:ws.length<60):∃ K n0 n1 o j,Lr 9 5 bu [Z 1,Z e,U r,O (ws.map Z)] σ0=Y (U σ0.length) j/\Hj σ0.length ⟨e,0,K,NH n0 n1 c0 c1 c2 c3++(if z=1 then [(o,Lc 2 1 (cS c3 c0) ϛ [])]else []),[]⟩ j/\K.length<=ws.length/\Fr σ0.length σ0 j:=by
 have a0:=(aa.mp hr).1;have sp:=Û he (r:=r) (σ:=σ0++[Ϙ 9 []]) (ps:=[(0,1,c0,c1),(1,2,c2,c3),(3,z,c3,c0)]) (by simp) (Lv hr);have H:Hj σ0.length ⟨e,0,[],[],[]⟩ (σ0++Ϙ 9 (Au σ0.length e 0)::ϑ []::ϑ []::ϑ []::ϑ []::ϑ []::ϑ []::[]):=⟨⟨VW,uC 1,uC 3,uC 4⟩,uC 2,uC 5,λx hx=>(by cases hx),by simp,by simp,by simp,⟨by simp,λp f=>(by cases f),λp f=>(by cases f),λp f=>(by cases f),λp f=>(by cases f)⟩,by simp⟩
 have C:=Fr.app σ0.length σ0 (Ϙ 9 (Au σ0.length e 0)::ϑ []::ϑ []::ϑ []::ϑ []::ϑ []::ϑ []::[]);generalize V:σ0++Ϙ 9 (Au σ0.length e 0)::ϑ []::ϑ []::ϑ []::ϑ []::ϑ []::ϑ []::[]=ϋ at *;obtain⟨K,ϊ,le,Q,kl,E⟩:=ztq H (ws:=ws) (by simpa using hw);have ml:=λό=>Ej H.v (m:="learn") 2 Yc ό rfl;generalize W:σ0.length=b at *;have w:=E r _ (by omega) (C r _ (by omega) hr);obtain⟨J,p1,R,F⟩:=JN Q (p:=0) (l:=0) (r:=1) (u:=c0) (v:=c1) (q:=1) (some (Z e)) (some (U r)) (some (O (ws.map Z))) none (by omega) (ϖ ⟨rfl,by decide,rfl⟩) h0 h1 (λy g=>by cases g) (by simp);obtain⟨n,p2,I,G⟩:=JN R (p:=1) (l:=1) (r:=2) (u:=c2) (v:=c3) (q:=0) (some (Z e)) (some (U r)) (some (O (ws.map Z))) (some (Z 1)) (by omega) (ϒ ⟨rfl,rfl,by decide⟩) h2 h3 (λy g=>by rw[yb.mp (show y∈[_]from g)];show (0:Int)≠1;decide) (by simp);have h:∃ o c,CA [some (U b),some (Z 1),some (Z e),some (U r),some (O (ws.map Z)),some (Z 2),some (Ue 3 z c3 c0),some (Z 1)] n=Y (Ϛ [some (U b),some (Z 1),some (Z e),some (U r),some (O (ws.map Z)),some (Z 2),some (Ue 3 z c3 c0),some (Z 1)]) c/\Hj b ⟨e,0,K,NH ϊ.length J.length c0 c1 c2 c3++(if z=1 then [(o,Lc 2 1 (cS c3 c0) ϛ [])]else []),[]⟩ c/\Fr b n c:=by
  rcases hz with rfl|rfl
  ·obtain⟨c,B,t,s⟩:=JN I (p:=2) (l:=3) (r:=1) (u:=c3) (v:=c0) (q:=1) (some (Z e)) (some (U r)) (some (O (ws.map Z))) (some (Z 1)) (by omega) (ϖ ⟨rfl,by decide,rfl⟩) h3 h0 (λy g=>by
    rcases Ma.mp (show y∈[_,_]from g)with rfl|g
    ·show (0:Int)≠2;decide
    ·rw[yb.mp g];show (1:Int)≠2;decide) (by simp)
   exact⟨n.length,c,B,t,s⟩
  ·exact⟨0,n,Ò _ _ _ _ (by decide) (by decide),I,.refl b n⟩
 obtain⟨o,c,B,t,s⟩:=h;have a:∀ {τ},τ[r]?=some (ϔ [Ue 0 1 c0 c1,Ue 1 2 c2 c3,Ue 3 z c3 c0])->xh τ (U r)=some [Ue 0 1 c0 c1,Ue 1 2 c2 c3,Ue 3 z c3 c0]:=λX=>by unfold xh gh;simp[X]
 have L:=F r _ (by omega) w;have N:=G r _ (by omega) L;have r3:=s r _ (by omega) N;have S:VC (U r) ϊ=Y (Hy (U r)) ϊ:=zra (a w);have lp:Ft (Hy (U r)) (Jq 2 (ej (We 5) (ej (We 6) mr))) CA 1001 0 [some (U b),some (Z 1),some (Z e),some (U r),some (O (ws.map Z)),none,none,none] ϊ=Y (Ϛ [some (U b),some (Z 1),some (Z e),some (U r),some (O (ws.map Z)),some (Z 2),some (Ue 3 z c3 c0),some (Z 1)]) c:=by
  rw[uJ (k:=1000) (oN (i:=0) (a w) rfl) (ρ1:=[some (U b),some (Z 1),some (Z e),some (U r),some (O (ws.map Z)),some (Z 0),some (Ue 0 1 c0 c1),none]) rfl,p1,Qg,Mw];rw[uJ (k:=999) (oN (i:=1) (a L) rfl) (ρ1:=[some (U b),some (Z 1),some (Z e),some (U r),some (O (ws.map Z)),some (Z 1),some (Ue 1 2 c2 c3),some (Z 1)]) rfl,p2,Qg,Mw];rw[uJ (k:=998) (oN (i:=2) (a N) rfl) (ρ1:=[some (U b),some (Z 1),some (Z e),some (U r),some (O (ws.map Z)),some (Z 2),some (Ue 3 z c3 c0),some (Z 1)]) rfl,B,Qg,Mw];exact fW (k:=997) (F2 (a r3))
 have T:∀ (ώ:D->Ev->Option Ev) (body:Ev->M Fl) (P:Ev) (nx:NX),WM ώ body P nx=Ft nx ώ body 1001 0 P:=λ_ _ _ _=>rfl;subst W;refine⟨K,ϊ.length,J.length,o,c,?_,t,by simpa using kl,((C.trans E).trans F).trans (G.trans s)⟩;have A:bu [U σ0.length,Z 1,Z e,U r,O (ws.map Z)] (σ0++[Ϙ 9 []])=Y ϛ c:=by
  unfold bu IV;rw[Ls,ï];show bB (Zb _ _ [some (U σ0.length),some (Z 1),some (Z e),some (U r),some (O (ws.map Z)),none,none,none] (σ0++[Ϙ 9 []]))=_;rw[dk];simp -implicitDefEqProofs only[TR,yjc,OM,zP,ZD,Qg,lO,jO,KO,Ċ,sp,ut,jR,jk];rw[dk,YI (d:=Z 1) rfl rfl (by simp),Qg,jk];rw[dk,YI (d:=Z e) rfl rfl (by simp),Qg,jk];rw[dk,YI (d:=Z 0) rfl rfl (by simp),Qg,jk];rw[dk,YI (d:=Z 0) rfl rfl (by simp),Qg,jk];rw[dk,mC (k:=1) rfl rfl rfl,Qg,jk];rw[dk,mC (k:=2) rfl rfl rfl,Qg,jk];rw[dk,mC (k:=3) rfl rfl rfl,Qg,jk];rw[dk,mC (k:=4) rfl rfl rfl,Qg,jk];rw[dk,mC (k:=5) rfl rfl rfl,Qg,jk];rw[dk,mC (k:=6) rfl rfl rfl,Qg,jk];show bB (Zb _ _ [some (U σ0.length),some (Z 1),some (Z e),some (U r),some (O (ws.map Z)),none,none,none] (σ0++Ϙ 9 (Au σ0.length e 0)::ϑ []::ϑ []::ϑ []::ϑ []::ϑ []::ϑ []::[]))=_;rw[V,dk];have z1:Bz (eT (Ja Uu (da 4) (eC ϛ))) (Zh Pa) (da 4) [some (U σ0.length),some (Z 1),some (Z e),some (U r),some (O (ws.map Z)),none,none,none] ϋ=Y (O (ws.map Z)) ϋ:=by simp
  simp -implicitDefEqProofs only[TR,Ĕ,ZD,Qg,ml,OM,z1,lO,jO,KO,F8,le,ut,jR,jk];rw[EA];simp -implicitDefEqProofs only[ygq,zP,ZD,Qg,S,ut,T];rw[lp,ę]
 rw[lP,A,AM]
end
def iu(a:List Int)(k:Nat):Int:=a.getD k 0
def xP(a:List Int)(k:Int)(c:0<=k)(b:lb):dc [ϱ a,Z k] b=Y (Z (iu a k.toNat)) b:=by
 unfold dc mX iu;by_cases h:k<a.length
 ·simp[h,xU c h]
 ·have e:a.length<=k.toNat:=by omega
  simp[h,List.getElem?_eq_none e]
def mD(a:lb):Hr (Z 10) (Z 20) a=Y (Z 100000000000000000000) a:=Dz (by simp[Bw])
def WK(a:lb):Hr (Z 5040) (Z 6) a=Y (Z 16390160963076096000000) a:=Dz (by simp[Bw])
def o7(c k:Int):∃ v:Int,∀ a,gf [Z c,Z k] a=Y (Z v) a:=by
 have d:∀ z y:Int,Vw (z % 2147483647) y=true:=λz y=>aY (by omega) (by omega);have e:∀ z:Int,Vw z 48271=true:=λz=>bX (by decide) (by decide);have f:Vw 7919 k=true:=aY (by decide) (by decide);have g:∀ z y:Int,Vw y (z % 2147483629)=true:=λz y=>bX (by omega) (by omega);have b:=λ(z:Int) (a:lb)=>EC (σ:=a) z (10 ^ 40) (by decide);by_cases h:c % 2=1
 ·exact⟨_,λa=>by unfold gf MG;simp[h,VL,d,e,f,g,b,mD,WK];rfl⟩
 ·have i:(c % 2 == 1)=false:=by simpa using h
  cases j:decide (100000000000000000000<=c / 2 % 10000000000000000000000000000000000000000)with
  |true=>exact⟨_,λa=>by unfold gf MG;simp[i,j,VL,d,e,f,g,b,mD,WK];rfl⟩
  |false=>exact⟨_,λa=>by unfold gf MG;simp[i,j,VL,d,e,f,g,b,mD,WK];rfl⟩
def UD(p:Int × Int × Int × Int):D:=Ue p.1 p.2.1 p.2.2.1 p.2.2.2
structure LI(T:Int->Int)(j b r:Nat)(P:List Int)(PL:List (Int × Int × Int × Int))(k:Kp)(σ:lb):Prop where
 h:Hj b k σ
 q:AQ k.Q/\k.Q.length<=j
 a:∀ x∈k.as,AI T j x.2
 p:k.as.map (·.2.p)=P
 K:k.K.length<=5+j
 r:σ[r]?=some (ϔ (PL.map UD))
def LI.next{T:Int->Int}{j b r:Nat}(L:LI T j b r P g k l)(e:r<b)(d:Dn T j b k l i c):LI T (j+1) b r P g i c:=⟨d.at',⟨d.Q.1,by have:=d.Q.2;have:=L.q.2;omega⟩,λy m=>by
 rcases d.a y m with h|h
 ·exact(L.a y h).up (by omega)
 ·exact h,d.p.trans L.p,by have:=d.K.2;have:=L.K;omega,d.f r _ e L.r⟩
def lE(h:List Int)(g:D)(e:Int)(r:Nat)(P:List Int)(b:Nat)(B:Int)(i j k a c d f:Option D):Ev:=[some (ϱ h),some g,some (Z e),some (U r),some (O (P.map Z)),some (U b),some (Z B),i,j,k,a,c,d,f]
section
variable{ns:List Int}{CC:D}{e:Int}{T:Int->Int}{j b r:Nat}{P:List Int}{PL:List (Int × Int × Int × Int)}{k:Kp}{σ:lb}(L:LI T j b r P PL k σ)(hrb:r<b)(hj:j<=50)(hT:∀ p,0<=T p/\T p<=2000000000000)(hP:0<P.length/\P.length<=3)(hPL:∀ p∈P,∃ l rr u v,dr (PL.map UD) p=some (Ue l rr u v)/\u+v=T p)
include L hrb hj hT hP hPL
theorem Í{p:Int}(M:p∈P)(g B:Int)(S w y A C:Option D):∃ s f H I J,wH (lE ns CC e r P b B S (some (Z g)) (some (Z p)) w y A C) σ=Y (Ϛ (lE ns CC e r P b B S (some (Z g)) (some (Z p)) H I J C)) f/\Dn T j b k σ s f:=by
 obtain⟨x,n,ex⟩:=va.mp (show p∈k.as.map (·.2.p) by rw[L.p];exact M);subst ex;have o:=L.a x n;have h:=L.h;by_cases c:g / 3 % 3=0
 ·obtain⟨ws,hw,ώ⟩:=Ł h n o (g / 9);obtain⟨t,G,s,f,R,E,tf⟩:=E7 h L.q.1 n o (by omega) (λp=>(hT p).2) (by have:=L.q.2;omega) hw;have Q:=λF=>Ej h.v (m:="wish") 2 Oc F rfl;refine⟨s,f,some (ϐ t),some (O G),A,?_,E⟩;have nl:∀ i,Aj (O []) (O []) i=Y (ϐ false) i:=λi=>ny (by simp[pl]);have N:∀ (z:Bool) i,Kq .bool (ϐ z) i=Y (ϐ true) i:=λz i=>nr rfl;unfold wH lE;cases t with
  |true=>simp[c,ώ,R,Q,N]
  |false=>
   have:=tf rfl;subst this;simp[c,ώ,R,Q,N,nl]
 ·have V:(g / 3 % 3 == 0)=false:=by simp[c]
  obtain⟨l,rr,u,v,W,ϋ⟩:=hPL x.2.p M;have ϊ:ib (U r) (Z x.2.p) σ=Y (Ue l rr u v) σ:=by
   have G:Tj σ (U r)=some (PL.map UD):=by unfold Tj gh;simp[L.r]
   simp[ib,G,W]
  have i2:=λσ=>YS (l:=l) (r:=rr) (u:=u) (v:=v) σ;have i3:=λσ=>gU (l:=l) (r:=rr) (u:=u) (v:=v) σ;obtain⟨X,hX,le⟩:=HY h n o hT (by omega) (g / 9);obtain⟨d,s,f,te,E⟩:=yg2 h L.q.1 n o (by have:=L.K;omega) (by omega) hX;have tu:=f5 h n o hT (by omega) (g / 72);have mk:=λF=>Ej h.v (m:="take") 2 Cb F rfl;refine⟨s,f,w,y,some (Z (T x.2.p)),?_,E⟩;unfold wH lE;generalize Ue l rr u v=PT at *;cases ό:decide (g / 9 % 64<8)<;>simp[V,ϊ,i2,i3,ϋ,ό,tu,le,mk,te]
theorem M8{i:Int}(G:0<=i/\i<ns.length)(x7 I z q s t o:Option D):∃ a c y8 y9 f l n E,hG (lE ns CC e r P b (k.W+k.g) (some (Z i)) I z q s t o) σ=Y (Ϛ (lE ns CC e r P b (a.W+a.g) (some (Z i)) y8 y9 f l n E)) c/\LI T (j+1) b r P PL a c:=by
 have B:∀ σ,ib (ϱ ns) (Z i) σ=Y (Z (ns.getD i.toNat 0)) σ:=λσ=>xU G.1 G.2;obtain⟨d,V⟩:=o7 (ns.getD i.toNat 0) i;have H:0<(P.length:Int):=by omega
 have m1:=Hi d H;have Q:=ii d (show (P.length:Int)≠0 by omega);have y:(d % (P.length:Int)).toNat<P.length:=by omega
 obtain⟨p,K,J⟩:∃ p∈P,∀ σ,ib (O (P.map Z)) (Z (d % (P.length:Int))) σ=Y (Z p) σ:=by
  refine⟨P[(d % (P.length:Int)).toNat],Ro y,λσ=>?_⟩;have:=ev (σ:=σ) (Gv (xs:=P.map Z) (j:=(d % (P.length:Int)).toNat) (v:=Z P[(d % (P.length:Int)).toNat]) (by rw[Ta,aa.mpr ⟨y,rfl⟩];rfl));rw[gw Q]at this;exact this
 have R:∀ u,Qi (Z d) (Z (P.length:Int)) u=Y (Z (d % (P.length:Int))) u:=λu=>EC _ _ H;have ώ:∀ u,yj [O (P.map Z)] u=Y (Z (P.length:Int)) u:=λu=>by
  have:=sX (σ:=u) (P.map Z);simpa using this
 obtain⟨a,c,f,l,n,X,F⟩:=Í L hrb hj hT hP hPL (ns:=ns) (CC:=CC) (e:=e) K d (k.W+k.g) (some (Z i)) q s t o;have x:=L.next hrb F;have N:=KC x.h;have M:=jW x.h;have ό:=λA=>Ej x.h.v (m:="worth") 1 Sb A rfl;have S:=λA=>Ej x.h.v (m:="given") 1 Md A rfl;have s1:CL (lE ns CC e r P b (k.W+k.g) (some (Z i)) I z q s t o) σ=Y (Ϛ (lE ns CC e r P b (k.W+k.g) (some (Z i)) (some (Z d)) z q s t o)) σ:=by
  unfold CL lE;generalize ns.getD i.toNat 0=C at *;simp[B,V]
 have s2:CO (lE ns CC e r P b (k.W+k.g) (some (Z i)) (some (Z d)) z q s t o) σ=Y (Ϛ (lE ns CC e r P b (k.W+k.g) (some (Z i)) (some (Z d)) (some (Z p)) q s t o)) σ:=by
  unfold CO lE;generalize P.map Z=PD,(P.length:Int)=LN at *;simp[ώ,R,J]
 have ϋ:xO (lE ns CC e r P b (k.W+k.g) (some (Z i)) (some (Z d)) (some (Z p)) f l n o) c=Y (Ϛ (lE ns CC e r P b (k.W+k.g) (some (Z i)) (some (Z d)) (some (Z p)) f l n (some (Z (a.W+a.g))))) c:=by
  unfold xO lE;simp[N,M,ό,S]
 have ϊ:pO (lE ns CC e r P b (k.W+k.g) (some (Z i)) (some (Z d)) (some (Z p)) f l n (some (Z (a.W+a.g)))) c=Y (Ϛ (lE ns CC e r P b (k.W+k.g) (some (Z i)) (some (Z d)) (some (Z p)) f l n (some (Z (a.W+a.g))))) c:=by
  have lt:decide (a.W+a.g<k.W+k.g)=false:=Oa (by have:=F.w;omega);unfold pO lE;simp[lt]
 have s6:JO (lE ns CC e r P b (k.W+k.g) (some (Z i)) (some (Z d)) (some (Z p)) f l n (some (Z (a.W+a.g)))) c=Y (Ϛ (lE ns CC e r P b (a.W+a.g) (some (Z i)) (some (Z d)) (some (Z p)) f l n (some (Z (a.W+a.g))))) c:=by
  unfold JO lE;simp
 refine⟨a,c,some (Z d),some (Z p),f,l,n,some (Z (a.W+a.g)),?_,x⟩;unfold hG;rw[dk,s1,Qg,jk,dk,s2,Qg,jk,dk,X,Qg,jk,dk,ϋ,Qg,jk,dk,ϊ,Qg,jk,s6]
end
section
variable{ns:List Int}{CC:D}{e:Int}{T:Int->Int}{b r:Nat}{P:List Int}{PL:List (Int × Int × Int × Int)}(hrb:r<b)(hT:∀ p,0<=T p/\T p<=2000000000000)(hP:0<P.length/\P.length<=3)(hPL:∀ p∈P,∃ l rr u v,dr (PL.map UD) p=some (Ue l rr u v)/\u+v=T p)
include hrb hT hP hPL
theorem XP:∀ (u:List Nat) (j:Nat) (k:Kp) (σ:lb) (q s t a c d f:Option D),(∀ i∈u,(5:Int)+i<ns.length)->j+u.length<=50->LI T j b r P PL k σ->∃ v I h S z A l m o p,Zn (We 7) hG (u.map λ(i:Nat)=>Z (5+i)) (lE ns CC e r P b (k.W+k.g) q s t a c d f) σ=Y (Ϛ (lE ns CC e r P b (v.W+v.g) S z A l m o p)) h/\LI T I b r P PL v h/\I<=50
 |[],j,k,σ,q,s,t,a,c,d,f,_,x,L=>⟨k,j,σ,q,s,t,a,c,d,f,by simp,L,by simpa using x⟩
 |i::u,j,k,σ,q,s,t,a,c,d,f,H,x,L=>by
  have N:=H i Ha;simp only[ub]at x;obtain⟨v,h,z,A,l,m,o,p,w,J⟩:=M8 L hrb (by omega) hT hP hPL (ns:=ns) (CC:=CC) (e:=e) (i:=5+i) ⟨by omega,N⟩ q s t a c d f;obtain⟨R,Q,G,ό,V,X,B,C,E,F,M,K,y⟩:=XP u (j+1) v h (some (Z (5+i))) z A l m o p (λn ώ=>H n (Aa _ ώ)) (by omega) J;refine⟨R,Q,G,ό,V,X,B,C,E,F,?_,K,y⟩;rw[Ga,yE];have w:hG ((lE ns CC e r P b (k.W+k.g) q s t a c d f).set 7 (some (Z (5+i)))) σ=_:=w;rw[w,Qg,Mw,M]
end
section
variable{b:Nat}{k:Kp}{σ:lb}(h:Hj b k σ){p:Int}(hp:∀ x∈k.as,x.2.p≠p)
include h hp
theorem rQ{X:D}{kd:Str}(c:Kc [X] σ=Y (ϐ true) σ)(e:∀ σ,ib X (Z 0) σ=Y (ύ kd) σ)(f:∀ σ,ib X (Z 1) σ=Y (Z p) σ)(g:(kd == ("word" : Str))=false):Cb [U b,X] σ=Y (O []) σ:=by
 have d:=KQ h hp;have i:=λa=>Ej h.v (m:="holds") 2 wc a rfl;unfold Cb cG;simp[c,e,f,g,d,i]
theorem A1(A:k.K.length<60)(ϊ:p=2)(I:∀ x∈k.as,∀ s∈x.2.y,∀ t∈s.ts,t.w<50)(d:Int):∃ u,Ef [U b,Z p,Z d] σ=Y (ϐ true) u:=by
 have n:0<=p/\p<=2:=by omega
 have T:fq 1 (d % 1000) (d / 1000 % 1000) []:=⟨by omega,by omega,by omega,by simp,by simp,by simp⟩
 have sa:fq 0 5 5 []:=⟨by omega,by omega,by omega,by simp,by simp,by simp⟩
 have ό:=rQ h hp (cJ n σ (q:=0) (ϒ rfl) (s:=⟨1,d % 1000,d / 1000 % 1000,[]⟩) T) (bJ _ _ _) (uz _ _ _) (by decide);have V:=rQ h hp (X:=Oj p ⟨0,5,5,[]⟩) (kd:="ask") (WR n σ sa) (λσ=>by unfold Oj;simp) (λσ=>by unfold Oj;simp) (by decide);have ϋ:=IX h A n (w:=50) (by omega);obtain⟨_,f⟩:=IG h A 50;have L:=KC h;have P:=λc=>Ej h.v (m:="worth") 1 Sb c rfl;have ώ:=λc=>Ej h.v (m:="take") 2 Cb c rfl;generalize σ.set (b+1) (ϑ (cq (am k.K 50)))=a at *;have g:=KC f;have E:({ k with K:=am k.K 50 }:Kp).W=k.W:=by
  show Ju k.e (yk k.e (ks (am k.K 50)) (k.as.map pv))=Ju k.e (yk k.e (ks k.K) (k.as.map pv));rw[O9 λq F s G t H=>?_];obtain⟨x,J,rfl⟩:=va.mp F;have:=I x J s G t H;rw[eF,eF,yJ];exact⟨λz=>z.elim id λe=>by omega,ϒ⟩
 rw[E]at g;have l:=λc=>Ej f.v (m:="worth") 1 Sb c rfl;have N:=λc=>Ej f.v (m:="words") 1 ud c rfl;have M:=λc=>Ej f.v (m:="wish") 2 Oc c rfl;have r:=oX f.v f.z;have o:=Ũ f hp (.Bp 1);unfold Wi.D at o;dsimp only at o;have i:=qN (σ:=a) (neg:=true) (w:=50) (x:=O ((ks (am k.K 50)).map Z)) (ws:=ks (am k.K 50)) rfl;rw[show ((ks (am k.K 50)).any (·== 50))=true from Oe.mpr ⟨50,eF.mpr (yJ.mpr (ϖ rfl)),by simp⟩]at i;have i:Bu true (Z 50) (O ((ks (am k.K 50)).map Z)) a=Y (ϐ false) a:=i;have r:ud [U b] a=Y (O ((ks (am k.K 50)).map Z)) a:=r;have B:∀ a,Sh (O []) (O []) a=Y (O []) a:=λa=>HD (by decide);have C:Uf (O []) (O []) a=Y (ϐ true) a:=bN (by simp[pl]);have j:Uf (Ϗ [ϐ false,O []]) (Ϗ [ϐ false,O []]) a=Y (ϐ true) a:=bN (by simp[pl]);have Q:Ϗ [ύ "offer",Z p,Ϗ [ύ "agree",Z p,Z 0,Ϗ [Z 1,Ϗ [Z (d % 1000),Z (d / 1000 % 1000)],Ϗ []]]]=Jj p 0 ⟨1,d % 1000,d / 1000 % 1000,[]⟩:=rfl;have R:Ϗ [ύ "ask",Z p,Ϗ [Z 5,Z 5],Ϗ []]=Oj p ⟨0,5,5,[]⟩:=rfl;have S:Ϗ [ύ "word",Z p,Z 50]=eA p 50:=rfl;refine⟨a,?_⟩;unfold Ef BQ jU eS PQ lR AX SQ;generalize (ks (am k.K 50)).map Z=KD at *;simp[L,P,ώ,ό,V,ϋ,Q,R,S,B,N,r,i,C,g,l,M,o,j]
end
noncomputable def ME(C:Int):List Int:=((List.range 5).filter λ(i:Nat)=>ji (C / 2 ^ (i:Int).toNat) 1 == 1).map λ(i:Nat)=>(i:Int)
def A5(C:Int):(ME C).length<=5:=by
 unfold ME;rw[Sa];exact Fb (ng ..) (by simp)
theorem ZY(b:List Int)(r:Ev)(a:lb):qj (dm (Fo (Vx (eC (Z 5)))) [0] (We 0) (eT (Ja Uf (Ja zJ (Ja JF (Ja Zl (Ld 2 dc [] (qa (da 2) (qa (eC (Z 4)) Pa))) (eC (Z 18))) (da 0)) (eC (Z 1))) (eC (Z 1)))) (da 0)) (some (ϱ b)::r) a=Y (O ((ME (iu b 4 / 18)).map Z)) a:=by
 have e:Vx (eC (Z 5)) (some (ϱ b)::r) a=Y (.seq ((List.range 5).map λ(i:Nat)=>Z i)) a:=by
  have:mz (Z 5) a=Y (.seq ((List.range 5).map λ(i:Nat)=>Z i)) a:=by rw[cL (by omega) (by omega)];rfl
  simp[this]
 have d:∀ a,dc [ϱ b,Z 4] a=Y (Z (iu b 4)) a:=xP b 4 (by omega);generalize iu b 4=c at *;have l:=DF (ix:=[0]) (fi:=eT (Ja Uf (Ja zJ (Ja JF (Ja Zl (Ld 2 dc [] (qa (da 2) (qa (eC (Z 4)) Pa))) (eC (Z 18))) (da 0)) (eC (Z 1))) (eC (Z 1)))) (fe:=da 0) (λ(i:Nat)=>Z i) (λi=>Z i) (λi=>ji (c / 18 / 2 ^ (i:Int).toNat) 1 == 1) e (λi _=>Dc some (au (List.range 5) _ i)) (by simp) (λi _ j=>by
  exact⟨by simp[d],λ_=>by simp⟩) (λ_ _ _=>rfl)
 exact l.trans (by unfold ME;rw[Va];rfl)
def p6(a:lb):Hr (Z 10) (Z 6) a=Y (Z 1000000) a:=Dz (by simp[Bw])
theorem cW(a b c d e:D)(σ:lb):Fx [a,b,c,d,e] σ=Y (Ϗ [a,b,c,d,e]) σ:=rfl
abbrev uE(i:List Int)(e f g h:Int)(a b c d:Option D):Ev:=[some (ϱ i),some (O [Z e,Z f,Z g,Z h]),a,b,c,d,none,none,none,none,none,none,none,none]
def tw(ns:List Int)(a6:ns.length<=63):∃ σ,Lq [ϱ ns] []=Y (ϐ true) σ:=by
 have c:=λ(k:Nat) (σ:lb)=>xP ns k (by omega) σ;have ϋ:∀ σ,dc [ϱ ns,Z 4] σ=Y (Z (iu ns 4)) σ:=c 4;have c5:∀ σ,dc [ϱ ns,Z 5] σ=Y (Z (iu ns 5)) σ:=c 5;have pw:=iC;have a5:=p6;obtain⟨n,e0⟩:∃ u,u=iu ns 0 % 1000000000001:=⟨_,rfl⟩
 obtain⟨q,ϊ⟩:∃ u,u=iu ns 1 % 1000000000001:=⟨_,rfl⟩
 obtain⟨y,e2⟩:∃ u,u=iu ns 2 % 1000000000001:=⟨_,rfl⟩
 obtain⟨o,e3⟩:∃ u,u=iu ns 3 % 1000000000001:=⟨_,rfl⟩
 have h0:0<=n/\n<=1000000000000:=by omega
 have h1:0<=q/\q<=1000000000000:=by omega
 have h2:0<=y/\y<=1000000000000:=by omega
 have h3:0<=o/\o<=1000000000000:=by omega
 have s1:u1 [some (ϱ ns),none,none,none,none,none,none,none,none,none,none,none,none,none] []=Y (Ϛ (uE ns n q y o none none none none)) []:=by
  have rk:Vx (eC (Z 4)) [some (ϱ ns),none,none,none,none,none,none,none,none,none,none,none,none,none] []=Y (.seq ((List.range 4).map λ(i:Nat)=>Z i)) []:=by
   have:mz (Z 4) []=Y (.seq ((List.range 4).map λ(i:Nat)=>Z i)) []:=by rw[cL (by omega) (by omega)];rfl
   simp[this]
  have l:=Jx (ix:=[0]) (xs:=List.range 4) (fe:=Ja Qi (Ld 2 dc [] (qa (da 2) (qa (da 0) Pa))) (Ja Sh (Ja Hr (eC (Z 10)) (eC (Z 12))) (eC (Z 1)))) (λ(i:Nat)=>Z i) (λi=>Z (iu ns i % 1000000000001)) rk (λi _=>Dc some (au (List.range 4) _ i)) (by simp) (λi _ j=>by
   have ci:=c i;rw[show ((i:Int)).toNat=i by omega]at ci;simp[ci,pw]) (λ_ _=>rfl)
  have el:(List.range 4).map (λi=>Z (iu ns i % 1000000000001))=[Z n,Z q,Z y,Z o]:=by rw[e0,ϊ,e2,e3];rfl
  rw[el]at l;unfold u1;simp[l,-vt]
 generalize a3:iu ns 4=H at *;generalize iu ns 5=C5 at *;obtain⟨e,ee⟩:∃ e,e=1+H % 9:=⟨_,rfl⟩
 have he:1<=e/\e<=9:=by omega
 have s2:∀ σ,u2 (uE ns n q y o none none none none) σ=Y (Ϛ (uE ns n q y o (some (Z e)) none none none)) σ:=λσ=>by
  rw[ee];simp[ϋ]
 have s3:u3 (uE ns n q y o (some (Z e)) none none none) []=Y (Ϛ (uE ns n q y o (some (Z e)) (some (U 0)) none none)) [ϔ [Ue 0 1 n q,Ue 1 2 y o,Ue 3 1 o n]]:=by
  have lk:∀ a b c:D,AE [a,b,c] []=Y (U 0) [ϔ [a,b,c]]:=λ_ _ _=>rfl;unfold Ue;simp[cW,lk]
 have s4:∀ σ,u4 (uE ns n q y o (some (Z e)) (some (U 0)) none none) σ=Y (Ϛ (uE ns n q y o (some (Z e)) (some (U 0)) (some (O ([0,1,2].map Z))) none)) σ:=λσ=>by simp
 obtain⟨z,P,E,s5⟩:∃ z P,((z=1/\P=[0,1,2])\/(z=2/\P=[0,1]))/\u5 (uE ns n q y o (some (Z e)) (some (U 0)) (some (O ([0,1,2].map Z))) none) [ϔ [Ue 0 1 n q,Ue 1 2 y o,Ue 3 1 o n]]=Y (Ϛ (uE ns n q y o (some (Z e)) (some (U 0)) (some (O (P.map Z))) none)) [ϔ [Ue 0 1 n q,Ue 1 2 y o,Ue 3 z o n]]:=by
  by_cases hc:H / 9 % 2=1
  ·refine⟨2,[0,1],ϖ ⟨rfl,rfl⟩,?_⟩;have st:∀ ρ,mF ρ (Ue 3 2 o n) (U 0) (Z 2) [ϔ [Ue 0 1 n q,Ue 1 2 y o,Ue 3 1 o n]]=Y (Ϛ ρ) [ϔ [Ue 0 1 n q,Ue 1 2 y o,Ue 3 2 o n]]:=λρ=>rfl;have et:Ϗ [Z 3,Z 2,Z o,Z n,Z 30]=Ue 3 2 o n:=rfl;have l1:∀ (ρ:Ev) (fo fi:Ev->M D) (d:D) (σ:lb),EG ρ fo fi d σ=cn ρ (nE ρ fi d) (fo ρ σ):=λρ fo fi d σ=>qo ..;have l2:∀ (ρ:Ev) (fi:Ev->M D) (d x:D) (σ:lb),nE ρ fi d x σ=cn ρ (mF ρ d x) (fi ρ σ):=λρ fi d x σ=>qo ..;generalize Ue 0 1 n q=P0,Ue 1 2 y o=P1,Ue 3 1 o n=P2,Ue 3 2 o n=P3 at *;simp[ϋ,hc,cW,et,l1,l2,st]
  ·have hb:(H / 9 % 2 == 1)=false:=by simp[hc]
   exact⟨1,[0,1,2],ϒ ⟨rfl,rfl⟩,by simp[ϋ,hb]⟩
 have N:z=1\/z=2:=by omega
 have L:([ϔ [Ue 0 1 n q,Ue 1 2 y o,Ue 3 z o n]]:lb)[0]?=some (ϔ [Ue 0 1 n q,Ue 1 2 y o,Ue 3 z o n]):=rfl;have wl:=λr σ=>ZY ns r σ;rw[a3]at wl;have a7:=A5 (H / 18);generalize ME (H / 18)=ws at *;obtain⟨K,n0,n1,n2,A,mk,K1,kl,F1⟩:=zn1 he h0 h1 h2 h3 N L (ws:=ws) (by omega);have J:([ϔ [Ue 0 1 n q,Ue 1 2 y o,Ue 3 z o n]]:lb).length=1:=rfl;rw[J]at mk K1 F1;obtain⟨T,eT⟩:∃ T:Int->Int,T=λp=>if p=0 then n+q else if p=1 then y+o else o+n:=⟨_,rfl⟩
 have hT:∀ p,0<=T p/\T p<=2000000000000:=λp=>by
  rw[eT];dsimp only;split
  ·omega
  ·split<;>omega
 have a0:AI T 0 (Lc 0 1 (cS n q) ϛ []):=.Lc (by omega) (ϖ rfl) (by rw[eT];exact sH h0 h1) (by simp[cS]) rfl (λz E=>by cases E) (by simp);have a1:AI T 0 (Lc 1 0 (cS y o) ϛ []):=.Lc (by omega) (ϒ rfl) (by rw[eT];exact sH h2 h3) (by simp[cS]) rfl (λz E=>by cases E) (by simp);have a2:AI T 0 (Lc 2 1 (cS o n) ϛ []):=.Lc (by omega) (ϖ rfl) (by rw[eT];exact sH h3 h0) (by simp[cS]) rfl (λz E=>by cases E) (by simp);have I:LI T 0 1 0 P [(0,1,n,q),(1,2,y,o),(3,z,o,n)] ⟨e,0,K,NH n0 n1 n q y o++(if z=1 then [(n2,Lc 2 1 (cS o n) ϛ [])]else []),[]⟩ A:=by
  refine⟨K1,⟨λz E=>(by cases E),by simp⟩,λx B=>?_,?_,by dsimp only;omega,F1 0 _ (by omega) L⟩
  ·rcases Wb.mp B with B|B
   ·rcases Ma.mp (show x∈[_,_]from B)with rfl|B
    ·exact a0
    ·rw[yb.mp B];exact a1
   ·split at B
    ·rw[yb.mp B];exact a2
    ·cases B
  ·rcases E with⟨rfl,rfl⟩|⟨rfl,rfl⟩<;>rfl
 generalize hk:(⟨e,0,K,NH n0 n1 n q y o++(if z=1 then [(n2,Lc 2 1 (cS o n) ϛ [])]else []),[]⟩:Kp)=k at *;have hP:0<P.length/\P.length<=3:=by rcases E with⟨_,rfl⟩|⟨_,rfl⟩<;>simp
 have a4:∀ p∈P,∃ l rr u v,dr ([(0,1,n,q),(1,2,y,o),(3,z,o,n)].map UD) p=some (Ue l rr u v)/\u+v=T p:=λp hp=>by
  have hp:p=0\/p=1\/p=2:=by rcases E with⟨_,rfl⟩|⟨_,rfl⟩<;>simp at hp<;>omega
  rw[eT];rcases hp with rfl|rfl|rfl
  ·exact⟨0,1,n,q,rfl,rfl⟩
  ·exact⟨1,2,y,o,rfl,rfl⟩
  ·exact⟨3,z,o,n,rfl,rfl⟩
 have s6:u6 (uE ns n q y o (some (Z e)) (some (U 0)) (some (O (P.map Z))) none) [ϔ [Ue 0 1 n q,Ue 1 2 y o,Ue 3 z o n]]=Y (Ϛ (uE ns n q y o (some (Z e)) (some (U 0)) (some (O (P.map Z))) (some (U 1)))) A:=by
  have ad:∀ (F:Ev->M (List D)) (ρ:Ev) (σ:lb),lC [] F ρ σ=(F ρ σ).bind (λl=>ret (l++[])):=λF ρ σ=>rfl;have rt:∀ (l:List D) (σ:lb),(ret (l++[]):M (List D)) σ=Y l σ:=λl σ=>by rw[Xh];rfl
  generalize P.map Z=PD,ws.map Z=WD at *;generalize Ue 0 1 n q=P0,Ue 1 2 y o=P1,Ue 3 z o n=P2 at *;simp[ad,rt,wl,mk,-vt]
 have kw:=KC I.h;have kg:=jW I.h;have mw:=λF=>Ej I.h.v (m:="worth") 1 Sb F rfl;have mg:=λF=>Ej I.h.v (m:="given") 1 Md F rfl;have s7:u7 (uE ns n q y o (some (Z e)) (some (U 0)) (some (O (P.map Z))) (some (U 1))) A=Y (Ϛ (lE ns (O [Z n,Z q,Z y,Z o]) e 0 P 1 (k.W+k.g) none none none none none none none)) A:=by
  unfold lE;simp[kw,kg,mw,mg]
 obtain⟨ώ,j',G,y7,y8,y9,Q,R,S,ό,lp,V,hj⟩:=XP (ns:=ns) (CC:=O [Z n,Z q,Z y,Z o]) (e:=e) (b:=1) (r:=0) (by omega) hT hP a4 (List.range (min (ns.length:Int) 19 - 5).toNat) 0 k A none none none none none none none (λi hi=>by have:=Uz.mp hi;omega) (by simp;omega) I;have s8:u8 (lE ns (O [Z n,Z q,Z y,Z o]) e 0 P 1 (k.W+k.g) none none none none none none none) A=Y (Ϛ (lE ns (O [Z n,Z q,Z y,Z o]) e 0 P 1 (ώ.W+ώ.g) y7 y8 y9 Q R S ό)) G:=by
  have sr:iI (eC (Z 5)) (ah wy (qa (ah yj (qa (da 0) Pa)) (qa (eC (Z 19)) Pa))) (lE ns (O [Z n,Z q,Z y,Z o]) e 0 P 1 (k.W+k.g) none none none none none none none) A=Y (.seq ((List.range (min (ns.length:Int) 19 - 5).toNat).map λ(i:Nat)=>Z (5+i))) A:=by
   have r2:∀ σ,AF (Z 5) (Z (min (ns.length:Int) 19)) σ=Y (.seq ((List.range (min (ns.length:Int) 19 - 5).toNat).map λ(i:Nat)=>Z (5+i))) σ:=λσ=>by
    unfold AF;dsimp only;rw[ma (by simp only[Bx,Ls,Na,Fc];omega)];rfl
   have e:∀ (f g:Ev->M D) ρ σ,iI f g ρ σ=(f ρ σ).bind (jM (g ρ)):=λf g ρ σ=>ot ..;have ϊ:∀ (mm:M D) a σ,jM mm a σ=(mm σ).bind (AF a):=λmm a σ=>ot ..;unfold lE;simp[e,ϊ,r2]
  unfold u8;rw[DX,sr,ut,dR,lp]
 have s9:∃ C,u9 (lE ns (O [Z n,Z q,Z y,Z o]) e 0 P 1 (ώ.W+ώ.g) y7 y8 y9 Q R S ό) G=Y (Ϯ (ϐ true)) C:=by
  have ln:∀ X,yj [O (P.map Z)] X=Y (Z (P.length:Int)) X:=λX=>by
   have:=sX (σ:=X) (P.map Z);simpa using this
  rcases E with⟨_,rfl⟩|⟨_,rfl⟩
  ·exact⟨G,by unfold u9 lE;simp⟩
  ·obtain⟨C,ou⟩:=A1 V.h (p:=2) (λx B e2=>by
    have:x.2.p∈ώ.as.map (·.2.p):=Gd B;rw[V.p,e2]at this;simp at this) (by have:=V.K;omega) rfl (λx B s hs t ht=>((V.a x B).so.1 s hs).w t ht) (C5 % 1000000)
   refine⟨C,?_⟩;unfold u9 lE;simp[c5,a5,ou]
 obtain⟨C,s9⟩:=s9;have Uh:(Zb u1 (Zb u2 (Zb u3 (Zb u4 (Zb u5 (Zb u6 (Zb u7 (Zb u8 u9)))))))) [some (ϱ ns),none,none,none,none,none,none,none,none,none,none,none,none,none] []=Y (Ϯ (ϐ true)) C:=by
  rw[dk,s1,Qg,jk,dk,s2,Qg,jk,dk,s3,Qg,jk,dk,s4,Qg,jk,dk,s5,Qg,jk,dk,s6,Qg,jk,dk,s7,Qg,jk,dk,s8,Qg,jk,s9]
 refine⟨C,?_⟩;unfold Lq OP;generalize (Zb u1 (Zb u2 (Zb u3 (Zb u4 (Zb u5 (Zb u6 (Zb u7 (Zb u8 u9))))))))=AR at *;simp[Uh]
end K44
end
open PySem PySem.W PyProof.Rows
set_option maxRecDepth 100000 in
set_option maxHeartbeats 0 in
theorem PySem.Challenge.cw_sidebook_k44_whole_no_letter_takes_worth_holds : PySem.Challenge.rw_sidebook_k44_whole_no_letter_takes_worth.Holds := by
 w_on;refine hd ?_
 k_fill
 refine L4.TY (l:=PySem.Challenge.rw_sidebook_k44_whole_no_letter_takes_worth) (k:=16) (x:="_law_script") (fn:=K44.Lq) ["least_fate","paper"] rfl rfl ⟨rfl,by decide,by decide⟩ (λw h ϋ=>km_in_of ϋ) ?hK ?hrec ?F K44.tw;case hK=>intro w;kernel_rfl
 case hrec=>kernel_rfl
 case F=>
  intro w mg h KX G TT
  refine' (have q0:nsIn (L2.Ji KX) mainGlobals "NoStand" = some (some (.ref ?C1)):=?p0;have q2:nsIn (L2.Ji KX) mainGlobals "NoDeed" = some (some (.ref ?C2)):=?p2;have q8:nsIn (L2.Ji KX) mainGlobals "Account" = some (some (.ref ?C4)):=?p8;have q9:nsIn (L2.Ji KX) mainGlobals "Calm" = some (some (.ref ?C5)):=?p9;have q10:nsIn (L2.Ji KX) mainGlobals "Offered" = some (some (.ref ?C6)):=?p10;have q11:nsIn (L2.Ji KX) mainGlobals "Waiting" = some (some (.ref ?C7)):=?p11;have q12:nsIn (L2.Ji KX) mainGlobals "View" = some (some (.ref ?C8)):=?iC;have q13:nsIn (L2.Ji KX) mainGlobals "Keeper" = some (some (.ref ?C9)):=?p13;have q14:findIn (L2.Ji KX) (.ref ?C9) "learn" = some (some (.ref ?C22)):=?p14;have q16:findIn (L2.Ji KX) (.ref ?C9) "hold" = some (some (.ref ?C21)):=?p16;?_);(case p0|p2|p8|p9|p10|p11|iC|p13|p14|p16=>dsimp only[L2.Ji];first|k_is|k_exc|rfl)
  refine' (have q18:findIn (L2.Ji KX) (.ref ?C4) "__init__" = some (some (.ref ?C10)):=?p18;have q20:findIn (L2.Ji KX) (.ref ?C9) "__init__" = some (some (.ref ?C20)):=?mD;have q22:findIn (L2.Ji KX) (.ref ?C8) "__init__" = some (some (.ref ?C19)):=?p22;have q24:findIn (L2.Ji KX) (.ref ?C9) "words" = some (some (.ref ?C23)):=?p24;have q26:findIn (L2.Ji KX) (.ref ?C9) "view_by" = some (some (.ref ?C27)):=?p26;have q28:findIn (L2.Ji KX) (.ref ?C9) "view" = some (some (.ref ?C28)):=?p28;have q30:findIn (L2.Ji KX) (.ref ?C9) "worth" = some (some (.ref ?C29)):=?p30;have q32:findIn (L2.Ji KX) (.ref ?C9) "given" = some (some (.ref ?C25)):=?p32;have q34:findIn (L2.Ji KX) (.ref ?C9) "holds" = some (some (.ref ?C32)):=?p34;have q36:findIn (L2.Ji KX) (.ref ?C5) "word" = some (some (.ref ?C13)):=?p36;?_);(case p18|mD|p22|p24|p26|p28|p30|p32|p34|p36=>dsimp only[L2.Ji];first|k_is|k_exc|rfl)
  refine' (have q38:findIn (L2.Ji KX) (.ref ?C6) "word" = some (some (.ref ?C15)):=?p38;have q40:findIn (L2.Ji KX) (.ref ?C7) "word" = some (some (.ref ?C17)):=?JU;have q42:findIn (L2.Ji KX) (.ref ?C4) "agree_of" = some (some (.ref ?C11)):=?p42;have q44:findIn (L2.Ji KX) (.ref ?C4) "strike_of" = some (some (.ref ?C12)):=?p44;have q46:findIn (L2.Ji KX) (.ref ?C5) "taken" = some (some (.ref ?C14)):=?p46;have q48:findIn (L2.Ji KX) (.ref ?C6) "taken" = some (some (.ref ?C16)):=?p48;have q50:findIn (L2.Ji KX) (.ref ?C7) "taken" = some (some (.ref ?C18)):=?p50;have q52:findIn (L2.Ji KX) (.ref ?C9) "is_good" = some (some (.ref ?C31)):=?p52;have q54:findIn (L2.Ji KX) (.ref ?C9) "wish_for" = some (some (.ref ?C34)):=?p54;have q56:findIn (L2.Ji KX) (.ref ?C9) "wish" = some (some (.ref ?C33)):=?rL;?_);(case p38|JU|p42|p44|p46|p48|p50|p52|p54|rL=>dsimp only[L2.Ji];first|k_is|k_exc|rfl)
  refine' (have q58:findIn (L2.Ji KX) (.ref ?C9) "account" = some (some (.ref ?C26)):=?p58;have q60:findIn (L2.Ji KX) (.ref ?C9) "take_ask" = some (some (.ref ?C36)):=?p60;have q62:findIn (L2.Ji KX) (.ref ?C9) "is_as_asked" = some (some (.ref ?C37)):=?p62;have q64:findIn (L2.Ji KX) (.ref ?C9) "take_step" = some (some (.ref ?C38)):=?p64;have q66:findIn (L2.Ji KX) (.ref ?C9) "take" = some (some (.ref ?C35)):=?p66;?_);(case p58|p60|p62|p64|p66=>dsimp only[L2.Ji];first|k_is|k_exc|rfl);refine⟨λn=>([0,?C1,?C2,0,?C4,?C5,?C6,?C7,?C8,?C9,?C10,?C11,?C12,?C13,?C14,?C15,?C16,?C17,?C18,?C19,?C20,?C21,?C22,?C23,0,?C25,?C26,?C27,?C28,?C29,0,?C31,?C32,?C33,?C34,?C35,?C36,?C37,?C38]:List Addr).getD n 0,(K44.tx (L2.Ji KX)).qr,K44.t4 _,K44.G4 ?_⟩;constructor;all_goals (try dsimp only[L2.Ji,List.getD_cons_succ,List.getD_cons_zero]);all_goals (first
   |(refine' L4.jQ KX G (λ_ _ _ _ _ _ us hl=>?z) ?a ?l ?c ?k;(case z=>first|exact bq1 us hl λ_=>rfl|exact bq2 us hl λ_ _=>rfl|exact bq3 us hl λ_ _ _=>rfl|exact bq4 us hl λ_ _ _ _=>rfl|exact bq5 us hl λ_ _ _ _ _=>rfl|exact bq6 us hl λ_ _ _ _ _ _=>rfl|exact bq7 us hl λ_ _ _ _ _ _ _=>rfl);(case a|l|c|k=>k_is))
   |(refine' L4.Y0 (λ_ _ _ _ _ _ us hl=>?z) ?l ?c ?k;(case z=>first|exact bq1 us hl λ_=>rfl|exact bq2 us hl λ_ _=>rfl|exact bq3 us hl λ_ _ _=>rfl|exact bq4 us hl λ_ _ _ _=>rfl|exact bq5 us hl λ_ _ _ _ _=>rfl|exact bq6 us hl λ_ _ _ _ _ _=>rfl|exact bq7 us hl λ_ _ _ _ _ _ _=>rfl);(case l|c|k=>k_is))
   |(refine' L4.B1 KX G K44.N7 ?a ?l ?c ?k ?d;(case a|l|c|k|d=>k_is))
   |(refine' L4.L7 K44.zao ?l ?c ?d;(case l|c|d=>k_is))
   |(refine' L4.Q9 KX G ?a ?b;(case a=>k_is);(case b=>kernel_rfl))
   |(refine' L4.ë KX G ?a;(case a=>k_is))
   |(refine' mg_of KX G ?a;(case a=>k_is))
   |(refine' mg_none_of KX G ?a;(case a=>k_is))
   |(refine' ⟨⟨?a,?b,?c,?d⟩,?e,?f,?g,?h⟩;(case a|b|c|d|e|f|g|h=>k_is))
   |(refine' ⟨?a,?b,?c,?d⟩;(case a|b|c|d=>k_is))
   |(refine' ⟨?a,?b,?c⟩;(case a|b|c=>k_is))
   |(refine' ⟨?a,?b⟩;(case a|b=>k_is))
   |exact λt h t' h' _=>(yb.mp h').trans (yb.mp h).symm
   |(refine' L4.R9 KX G (L4.jQ KX G (λ_ _ _ _ _ _ us hl=>?z) ?a ?l ?c ?k) TT ?d;(case z=>first|exact bq1 us hl λ_=>rfl|exact bq2 us hl λ_ _=>rfl|exact bq3 us hl λ_ _ _=>rfl|exact bq4 us hl λ_ _ _ _=>rfl|exact bq5 us hl λ_ _ _ _ _=>rfl|exact bq6 us hl λ_ _ _ _ _ _=>rfl|exact bq7 us hl λ_ _ _ _ _ _ _=>rfl);(case a|l|c|k=>k_is);(case d=>decide))
   |(refine' (mg_of KX G ?a).trans (mg_of KX G ?b).symm;(case a|b=>k_is))
   |exact TT
   |exact mg_of KX G TT.bm
   |(refine' L4.YZ ?a;(case a=>kernel_rfl))
   |decide
   |k_is
   |k_exc
   |rfl)
