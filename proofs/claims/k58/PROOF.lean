import PyProof.Rows.All
import OpenK.KLine
import OpenK.KOwn
import KE.KNestM
import KE.KDictOf
import Wide.FinOn
import Lean
import PyProof.EqAt
import PyProof.EqKinds
import PyProof.TupleCall
import PyProof.NeKinds
import PyProof.NsDelKeeps
import KE.KTryMore
import PyProof.WalksMore
import PyProof.Rows.SetFrom
import KE.KEqDict
import PyProof.ToksMono
import PyProof.StrCalls6
import PyProof.StrBlock2
import PyProof.SliceStr2
import PyProof.StrLawsTight
import PyProof.InstStoreFacts
import PyProof.Rows.FStr
import PyProof.FactsAll.set
import KE.KDictLaws
import KE.KIntText
import PyProof.Rows.StrWeight2
import PyProof.StrWalks
import PyProof.StrBlockH
import PyProof.WalksEnum
import PyProof.ZipIter
import PyProof.EnumMake
import PyProof.FitsReplace
import PyProof.StrLawsIn
import PyProof.Rows.SortWalk
import PyProof.DictUpdate
import KE.KDictList
import KE.KDictSum
import KE.KPairComp
import PyProof.FactsAll.dict
import KE.KMinKey
import KE.KLam
import PyProof.DictWalks
import PyProof.DictValues
import PySem.Challenge.RW_sidebook_k58_what_is_not_there
set_option Elab.async false
set_option linter.all false
set_option maxRecDepth 100000
namespace PySem.W.Fast
def tw2249040611369618782:=0
def tw12806088932997460588:=0
def tw1892690694989095666:=0
def tw256341635539772221:=0
def tw8583114499334966004:=0
def tw236085659262978080:=0
def tw1212102639824214643:=0
def tw861502493610598483:=0
def tw8156932348028877967:=0
def tw10656201738612077351:=0
def tw6872789842757496876:=0
def tw18090264274711557029:=0
def tw17826623284341320060:=0
def tw13591048310350326776:=0
def tw5760117238175538160:=0
def tw1090689591775485030:=0
def tw7774113678449685934:=0
def tw8586721762622732767:=0
def tw3205012904072760688:=0
def tw12744582225734075806:=0
def tw12546471409375691253:=0
def tw8169806428440432713:=0
def tw280917380089993231:=0
def tw12382470007097167742:=0
def tw10223898402276761379:=0
def tw11509211604773734946:=0
def tw495091267313879439:=0
def tw5320619654261168702:=0
def tw15142623845447829892:=0
def tw5128061309963564778:=0
def tw12053924596057091436:=0
def tw2244891987886370477:=0
def tw4598271963242535575:=0
def tw7828442866392281868:=0
def tw14671739901194505220:=0
def tw13578020157988156910:=0
def tw5665240888008139550:=0
def tw14169547596032710409:=0
def tw17105322094737777421:=0
def tw9584292182412213727:=0
def tw4139333405863992284:=0
def tw18407495941553956032:=0
def tw12361736095285214711:=0
def tw17360015989920007124:=0
def tw4470585836733325578:=0
def tw7181997581385953548:=0
def tw13758190518337804936:=0
def tw10888863842102328177:=0
def tw819570635367399668:=0
def tw14746253646979254834:=0
def tw15359611588545569252:=0
def tw17678831435119133177:=0
def tw1486846090086101256:=0
def tw2931988195819169919:=0
def tw12770481643036789091:=0
def tw3308634892276815127:=0
def tw9074020239141712578:=0
def tw6344153461787385748:=0
def tw8057509151949241040:=0
def tw8514659027417952518:=0
def tw5870289073803223750:=0
def tw4779319495676466695:=0
def tw17949248998541250905:=0
def tw5754261946908034321:=0
def tw10876078143196172821:=0
def tw7830361148116998868:=0
def tw8997383693586321770:=0
def tw1799641797098859658:=0
def tw10085292869130188298:=0
def tw8840235324560252208:=0
def tw11272164335830466941:=0
def tw14546174082565282566:=0
def tw10198052994689861382:=0
def tw2705429854395057126:=0
def tw908424960236905474:=0
def tw8760152093665844161:=0
def tw1866716027138748530:=0
def tw6188973233030003785:=0
def tw3456351732281881909:=0
def tw11161164713144168021:=0
def tw5567260261556248313:=0
def tw8746904540745865596:=0
def tw9561720059484986898:=0
def tw15973625496946761534:=0
def tw12477129341811645039:=0
def tw7424060955962978353:=0
def tw2132029292895624192:=0
def tw8272569733616993153:=0
def tw17137270108147033825:=0
def tw9304451534382375720:=0
def tw12369848792361866835:=0
def tw759444976309323886:=0
def tw16209886269506037329:=0
def tw17880270911999261196:=0
def tw16247262843940693239:=0
def tw29767737687375428:=0
def tw15142666989864626641:=0
def tw10576836333797772347:=0
def tw10988764466652934233:=0
def tw10295913840692754127:=0
def tw15060872555676474952:=0
def tw15150329256914348856:=0
def tw14785633479632635281:=0
def tw12048842499501423295:=0
def tw5299220707016862017:=0
def tw14151252239970057569:=0
def tw15418378422589880096:=0
def tw1149798457248472902:=0
def tw17278973380088787663:=0
def tw17016834523296244275:=0
def tw5338801713223979382:=0
def tw727924238349540522:=0
def tw9162645422354645296:=0
def tw9900248900824953880:=0
def tw9094225154769264635:=0
def tw4545961482378311905:=0
def tw4449799235075362730:=0
def tw13851971633180934007:=0
def tw14811107726043686439:=0
def tw4091352561680426876:=0
def tw15175645125879791985:=0
def tw15418674001244492974:=0
def tw10094733558918713432:=0
def tw2545604723986438874:=0
def tw9003107776662980439:=0
def tw14341141199694864594:=0
def tw3681537716864247207:=0
def tw7403982271040965895:=0
def tw15057269961097804198:=0
def tw17428703557753919723:=0
def tw13160504802963445071:=0
def tw12738610918357793766:=0
def tw15063496595227678153:=0
def tw14938211915633500526:=0
def tw14715273107921467267:=0
def tw4991487270385306882:=0
def tw2483321941437592071:=0
def tw9081141117686163416:=0
def tw6984818610989830729:=0
def tw14859695947638507448:=0
def tw5694767641087392711:=0
def tw7985883749528016586:=0
def tw211337195705725219:=0
def tw9402243437249704421:=0
def tw11151835277377553703:=0
def tw1378205811072252300:=0
def tw2175846933064946826:=0
def tw14811890972901180937:=0
def tw6124413428159637790:=0
def tw18335596039185421423:=0
def tw16482945937283002268:=0
def tw8171798328758944481:=0
def tw6568467687531709037:=0
def tw2080317491765294665:=0
def tw11384182702204212275:=0
def tw4480162626587320490:=0
def tw11548872703181320951:=0
def tw8200933086455070860:=0
def tw13037224057902187189:=0
def tw6701911527682315725:=0
def tw10611411778653204182:=0
def tw7921390202802761869:=0
def tw10282777137419654623:=0
def tw1998347030407657756:=0
def tw11449968299874610285:=0
def tw16060203290454839817:=0
def tw10741264400317747893:=0
def tw14294133066467233204:=0
def tw7480016910919988345:=0
def tw10510019762269167821:=0
def tw4313010194945074917:=0
def tw12298192366917762067:=0
def tw5493063752884776336:=0
def tw15953416312037357384:=0
def tw17435391645217708394:=0
def tw5002640475654186023:=0
def tw8222940686941784037:=0
def tw18441984877410159329:=0
def tw5667099127317398114:=0
def tw9223045988441327695:=0
def tw13053394406489344094:=0
def tw11859619671507778021:=0
def tw3438699932752214802:=0
def tw10164718903369591474:=0
def tw1342123614928995077:=0
def tw17694573340227235524:=0
def tw15481805183316651443:=0
def tw9592300441314626372:=0
def tw16860917588515726111:=0
def tw16773468814595293053:=0
def tw16859961878692490766:=0
def tw9689729476882780088:=0
def tw1692201390411429781:=0
def tw11219443903484984970:=0
def tw15831126876759372255:=0
def tw3581434408401558974:=0
def tw3344036261162260069:=0
def tw17499849576073844966:=0
def tw17346623794827051843:=0
def tw13127508451798649013:=0
def tw7970753398140278972:=0
def tw3328811466098603303:=0
def tw12435058653956393420:=0
def tw11844019762684407370:=0
def tw16583815154217966991:=0
def tw16919654943277366748:=0
def tw10244483600429949813:=0
def tw12528533614272120300:=0
def tw12884060626414724322:=0
def tw890339118813698166:=0
def tw18248855084332350957:=0
def tw12091442091272426231:=0
def tw6657536258744368796:=0
def tw1683588176727124409:=0
def tw1806552939246519952:=0
def tw11662115353561507501:=0
def tw9530734954097333506:=0
def tw5286648830458609394:=0
def tw6843573449127227502:=0
def tw10052031235695348791:=0
def tw5239429619861171699:=0
def tw1000662321505670351:=0
def tw4766597723019941021:=0
def tw5537553045615171315:=0
def tw9767487789085045792:=0
def tw896878414759379649:=0
def tw7725179484283634976:=0
def tw7002614004127435958:=0
def tw9496581404884138560:=0
def tw11837218909656210887:=0
def tw1205604411410820431:=0
def tw8356303796347215682:=0
def tw16217903435359918192:=0
def tw16108870410212019532:=0
def tw3520257249291928256:=0
def tw12393862125047025020:=0
def tw18094105663378112561:=0
def tw16103829930404553856:=0
def tw9103314591280073668:=0
def tw13931877327420345601:=0
def tw578191462805490351:=0
def tw15792790952358468732:=0
def tw7631737481131229992:=0
def tw4772062507164038959:=0
def tw6876597610515428209:=0
def tw12154713052878595195:=0
def tw9630203353718772412:=0
def tw16654469307462801742:=0
def tw609457278022895560:=0
def tw10479991185640055810:=0
def tw9553971096990549364:=0
def tw17508347553164502932:=0
def tw17731313482808627303:=0
def tw3433779192033484610:=0
def tw17658959251048325594:=0
def tw15173544498738437827:=0
def tw2597523674469684444:=0
def tw8622715204490130888:=0
def tw12726496506802146423:=0
def tw15572387867429868682:=0
def tw18418582437962087742:=0
def tw8022291803879963045:=0
def tw3418139289079602111:=0
def tw16802631365582062104:=0
def tw5369961537445033690:=0
def tw4290864757253303354:=0
def tw4334401890000744311:=0
def tw3395767286715763500:=0
def tw17312402878845073609:=0
def tw13730562907999268711:=0
def tw12843764043397292189:=0
def tw5483103596317574428:=0
def tw1835071406663858368:=0
def tw16615150188913437886:=0
def tw1979317910248211280:=0
def tw15577281813014381367:=0
def tw6141218239328293737:=0
def tw14689541978594310382:=0
def tw5240077947681225987:=0
def tw17871049288011112270:=0
def tw5306753302271460952:=0
def tw4547051000311932777:=0
def tw5661595848482461739:=0
def tw11402884983299125971:=0
def tw6277071023269222880:=0
def tw14562155634004365027:=0
def tw8915285831880473931:=0
def tw1537541725227008683:=0
def tw2480015634913765671:=0
def tw12773500944031208451:=0
def tw13571862603940711859:=0
def tw12441744018607269044:=0
def tw123454888095987114:=0
def tw17621402118570541597:=0
def tw6046103115902281144:=0
def tw12297992134047619483:=0
def tw3404582446824842373:=0
def tw9739999909748841315:=0
def tw6849458675059513701:=0
def tw5078490731148736755:=0
def tw15675013803050531044:=0
def tw2620369411171094931:=0
def tw2990168724187919761:=0
def tw10186303709888756887:=0
def tw13032259773685033708:=0
def tw7873786274422454737:=0
def tw11824586356888161845:=0
def tw2078950565319712143:=0
def tw5171440476677080432:=0
def tw13053770412826190925:=0
def tw1198783387198779033:=0
def tw8157277791214410489:=0
def tw4436474186459923750:=0
def tw4323258101793500111:=0
def tw17590705303994421779:=0
def tw8316334369570252376:=0
def tw4859391219904099992:=0
def tw13002473133791111888:=0
def tw1607123104830579860:=0
def tw646091604453992162:=0
def tw7372170664606466022:=0
def tw14022695629967993375:=0
def tw4483904966330829159:=0
def tw11853640710764476214:=0
def tw12888327501576777180:=0
def tw10843851513400154316:=0
def tw14172470266813156586:=0
def tw13349420017058727143:=0
def tw6851275008772768644:=0
def tw11525993766095887173:=0
def tw3778530596728393105:=0
def tw4884199854448574:=0
def tw5344687154915797982:=0
def tw18060790324241045014:=0
def tw8080008513338510535:=0
def tw14564479935002850509:=0
def tw256182404569192445:=0
def tw15475723433398761304:=0
def tw5217270863462422736:=0
def tw18293242582946804979:=0
def tw8191318114535113306:=0
def tw8293125293789966914:=0
def tw6044648929357246223:=0
def tw9786136246686688387:=0
def tw3921418479576321532:=0
def tw4946147512530127568:=0
def tw15850915115632130195:=0
def tw14961746396406840608:=0
def tw5516177513244990836:=0
def tw10978663064860593548:=0
def tw7151132215420815488:=0
def tw1467881925912835984:=0
def tw2768188642542392010:=0
def tw18095796173783872564:=0
def tw6194202620331982285:=0
def tw15806707075529380192:=0
def tw15883763524195236716:=0
def tw18031968618487185184:=0
def tw2424988045566436242:=0
def tw4470468392277007246:=0
def tw7783732676330311197:=0
def tw7766106395892283477:=0
def tw17163426234232328066:=0
def tw8422229294311615681:=0
def tw10624116801336726872:=0
def tw1158361714356455011:=0
def tw17937168697417666835:=0
def tw7867829370405329436:=0
def tw3049343062529576306:=0
def tw14404928986312190071:=0
def tw15166322114958858414:=0
def tw14958820412457663293:=0
def tw13913613514976480042:=0
def tw14819390147424179368:=0
def tw16626521671886133394:=0
def tw11513857634932158529:=0
def tw10842938092177581297:=0
def tw17583645235957782780:=0
def tw16086907953836968628:=0
def tw1956775160557780875:=0
def tw9860861378791804195:=0
def tw10698057553749749337:=0
def tw15771247859494662083:=0
def tw11401859456886640639:=0
def tw11512705759438076691:=0
def tw17431205604353252913:=0
def tw14842496431369740429:=0
def tw5019544711922104826:=0
def tw4773484457636388862:=0
def tw11766667032028208565:=0
def tw2950685276103557050:=0
def tw2827255003249426055:=0
def tw5205737364524765896:=0
def tw11023239771855094739:=0
def tw4964365479395341524:=0
def tw16279288168775177219:=0
def tw14201004317487731011:=0
def tw7787813539459594420:=0
def tw866717566613908145:=0
def tw14845619989558847073:=0
def tw18157406047293677543:=0
def tw9931937742245647033:=0
def tw3538781236444307513:=0
def tw11692469974320434101:=0
def tw5362065267786361690:=0
def tw6030501089693204938:=0
def tw8996207646774452837:=0
def tw8565224436197482051:=0
def tw10792498714594961201:=0
def tw6327569006664949090:=0
def tw1835201335921387983:=0
def tw15764947353670896545:=0
def tw17170472223608059050:=0
def tw10844150739181073093:=0
def tw12732229965196715158:=0
def tw5159533635706498644:=0
def tw6690350156832105676:=0
def tw14550724455855054577:=0
def tw6795434443804541281:=0
def tw7422445781565681216:=0
def tw18367749455379333440:=0
def tw13465540834166320765:=0
def tw4704452742865826424:=0
def tw13313058339493701161:=0
def tw16531682779099013679:=0
def tw12459912946257978736:=0
def tw6548459193220583526:=0
def tw6864887910540207759:=0
def tw17894200724404610344:=0
def tw12488014758255163090:=0
def tw8122695690928665766:=0
def tw3992765435912101610:=0
def tw18275455617680221203:=0
def tw7476452910721959123:=0
def tw8212203176049278890:=0
def tw1517009173149250642:=0
def tw1915925776726481438:=0
def tw6191700953566675008:=0
def tw5449563278759341024:=0
def tw11793702604926673555:=0
def tw16998588944726240723:=0
def tw11220919329744738794:=0
def tw4600438763894957952:=0
def tw14448102724399918634:=0
def tw1986786360949550309:=0
def tw11657350159256941575:=0
def tw1062514266329012355:=0
def tw10341888390210383824:=0
def tw8398943975594018772:=0
def tw9937656116252222267:=0
def tw11095110211248682772:=0
def tw13468011388731342839:=0
def tw5364010647548929812:=0
def tw12269216009862288129:=0
def tw786537726763496527:=0
def tw16109456028575089023:=0
def tw15127105006835628225:=0
def tw4075453323654395381:=0
def tw8274446707539698164:=0
def tw16080672043311297529:=0
def tw16784877000198975444:=0
def tw18383651708701053236:=0
def tw16132249320637822498:=0
def tw13462424878891718212:=0
def tw2789304352393801511:=0
def tw9768259533172459722:=0
def tw15267169705364848929:=0
def tw3641951560692057861:=0
def tw8949853181751564097:=0
def tw5404398260228975080:=0
def tw8972062959192195235:=0
def tw3270257207059953099:=0
def tw58468214095111918:=0
def tw9536688357841153863:=0
def tw10258873121960336067:=0
def tw5702276774652866934:=0
def tw1495895850433845275:=0
def tw17659185236578331656:=0
def tw17951090304560329564:=0
def tw18333273249017474000:=0
def tw8912161614967838395:=0
def tw17709682647362318638:=0
def tw7212858340449540239:=0
def tw8413399678365625193:=0
def tw727553628536289456:=0
def tw14760874974797668852:=0
def tw8733291241859026926:=0
def tw2941924889016668590:=0
def tw16947231599799070506:=0
def tw10519837036962490867:=0
def tw11429584451438056573:=0
def tw16670775579421159206:=0
def tw7086961617601330827:=0
def tw10159399881129095643:=0
def tw3235425350174046738:=0
def tw2570914705882880060:=0
def tw10953238642706405951:=0
def tw15861351967447197489:=0
def tw2187251505897268136:=0
def tw542563422162235373:=0
def tw14553807712399142462:=0
def tw5004237944150599380:=0
def tw3919386906821981792:=0
def tw3946093964270102607:=0
def tw16864618592142003386:=0
def tw9655281029701231213:=0
def tw16260866306193365299:=0
def tw7414940336731374808:=0
def tw7792700002687035005:=0
def tw5371794888043636658:=0
def tw9186807149237001177:=0
def tw18048741565030583774:=0
def tw8285600894249078527:=0
def tw1610191983932160764:=0
def tw14940998509354871970:=0
def tw10151330197121100416:=0
def tw8185545411690514434:=0
def tw2087409540819079288:=0
def tw6329614223026926184:=0
def tw17348111734160510231:=0
def tw5037459499596335280:=0
def tw7353485770183898095:=0
def tw13437419889732721216:=0
def tw8752102160057688731:=0
def tw13394580363473044415:=0
def tw16412085850373738351:=0
def tw13348088958985639553:=0
def tw5832146486336120021:=0
def tw17823556299335049440:=0
def tw11468729153070441980:=0
def tw9757595895972200118:=0
def tw3985964047577975286:=0
def tw6945566481307383155:=0
def tw13674586047789940208:=0
def tw12674610127229643151:=0
def tw13124451607818894078:=0
def tw11502921971960690029:=0
def tw8179860101808600119:=0
def tw12607631887931218998:=0
def tw15505424914810061397:=0
def tw10192404496044350798:=0
def tw1891733041441978011:=0
def tw3075201292733833056:=0
def tw16116027297012810434:=0
def tw12091130801917272685:=0
def tw7926090574327391632:=0
def tw16721508838639397229:=0
def tw11881533405517379953:=0
def tw12669407529647801677:=0
def tw2216542800690825051:=0
def tw431221854992830470:=0
def tw1719895430356276633:=0
def tw258204147387103276:=0
def tw13299628023176669074:=0
def tw14332157829676619468:=0
def tw12001842808677522706:=0
def tw15499940227032437249:=0
def tw12798174099139212305:=0
def tw5812350808301622050:=0
def tw463774138113389760:=0
def tw511232430288663203:=0
def tw4449297822257671152:=0
def tw1484650774730072618:=0
def tw2546767868308347339:=0
def tw17261404542052806724:=0
def tw6060609690816243450:=0
def tw4514232752302053791:=0
def tw17916429707943930468:=0
def tw17184031218471190783:=0
def tw12648489641264462891:=0
def tw12663670905330582409:=0
def tw14135006944967825841:=0
def tw3831019782443316194:=0
def tw3726453103677007866:=0
def tw14904287247971174143:=0
def tw14849461344987154502:=0
def tw1630143524128594353:=0
def tw2641800013201688601:=0
def tw13508144021097492314:=0
def tw5055593616971399804:=0
def tw13303234937177203706:=0
def tw1941844328875101383:=0
def tw11215392098479208961:=0
def tw15012102849882553082:=0
def tw16167708318613246984:=0
def tw17632668173026273278:=0
def tw17558320327384617127:=0
def tw15539815450414544023:=0
def tw16453263628727151865:=0
def tw15326580083554890809:=0
def tw5634867526602368427:=0
def tw13937768818610491111:=0
def tw761803264340522177:=0
def tw1303901927050219478:=0
def tw4211115844707057057:=0
def tw10956520680868813917:=0
def tw1804834754348979943:=0
def tw16457251377207888201:=0
def tw2167315655227761912:=0
def tw8392358500681263680:=0
def tw6084841979344569690:=0
def tw6069091910746083574:=0
def tw5226586810942512283:=0
def tw2983127059725616120:=0
def tw5008593111378822452:=0
def tw6602950584830755452:=0
def tw3099597729799864441:=0
def tw8428246938381088814:=0
def tw9777985068195723015:=0
def tw12307553483252862823:=0
def tw16003985067176294414:=0
def tw2528511596961503537:=0
def tw6782663255696616371:=0
def tw855453113358079251:=0
def tw14261769069557060686:=0
def tw5816495043963226922:=0
def tw17160835175205238506:=0
def tw6557801498797044033:=0
def tw1045582712504079209:=0
def tw12611869695672147664:=0
def tw17339309145561079191:=0
def tw785946285636773999:=0
def tw615563214671542189:=0
def tw6973427100653255629:=0
def tw8865387616306378214:=0
def tw12627051441459223148:=0
def tw9744259246892133002:=0
def tw10203006108894725899:=0
def tw5489724910278218894:=0
def tw8210202977690762169:=0
def tw3665444673518743966:=0
def tw2285686636504529566:=0
def tw18220031379085947620:=0
def tw9294201344175945319:=0
def tw7574704160914276066:=0
def tw18004296560267143027:=0
def tw2466311954974566718:=0
def tw16681507383918705554:=0
def tw14710976976299594304:=0
def tw12461081396071149458:=0
def tw13343918040275786880:=0
def tw2134106378703910346:=0
def tw3328118118096588273:=0
def tw12147665669636231765:=0
def tw5285915839522022235:=0
def tw5010956058597451964:=0
def tw13343301709244559618:=0
def tw2527701527901579348:=0
def tw13861322856664149509:=0
def tw10958628066121416707:=0
def tw14869962595670455896:=0
def tw866652123128751154:=0
def tw7777280633956137809:=0
def tw14349632617732883400:=0
def tw1830731846773895292:=0
def tw18073898193381586223:=0
def tw13861969467909019144:=0
def tw13141587033338554882:=0
def tw13385558918117058561:=0
def tw3165671348270588056:=0
def tw2777980699273126189:=0
def tw11322711164460184488:=0
def tw12960429369202013873:=0
def tw15090471055790725799:=0
def tw17049750858520166293:=0
def tw5708563065076447513:=0
def tw14169059305514679687:=0
def tw13484562703626004877:=0
def tw9320515035125037321:=0
def tw3340072933214586257:=0
def tw5809018184121017179:=0
def tw9678289623588505577:=0
def tw15438627641174518403:=0
def tw14084115638905955733:=0
def tw6607644564249050058:=0
def tw10095894221667365369:=0
def tw12542895121996172375:=0
def tw15052318979288761249:=0
def tw6784737039638806343:=0
def tw5101696844757716304:=0
def tw9252304221032618942:=0
def tw6472337539984862722:=0
def tw10312438410070409164:=0
def tw6798380500665416597:=0
def tw3652199383789512132:=0
def tw6248682570935725439:=0
def tw12750670339961964742:=0
def tw6229817132586351632:=0
def tw17267597263503486738:=0
def tw4046790133079468173:=0
def tw5263133172445716209:=0
def tw11180800956215176064:=0
def tw2400638427578300857:=0
def tw7933485763601977624:=0
def tw4096438862311573950:=0
def tw13953587524928339648:=0
def tw1120146192862113682:=0
def tw3233987462203235646:=0
def tw14617222483516278133:=0
def tw11564986514327137767:=0
def tw9919008367099125623:=0
def tw429539710256275620:=0
def tw2846267367221353805:=0
def tw384561282630992784:=0
def tw14607143338591219252:=0
def tw424408320835691240:=0
def tw14370502638603547748:=0
def tw17483705464198625004:=0
def tw4341293187932698999:=0
def tw9977182230042388008:=0
def tw3350206127114907401:=0
def tw7631320640757110747:=0
def tw2483420100392427323:=0
def tw657363778140553363:=0
def tw2314633323536394700:=0
def tw5341297951324810720:=0
def tw9241517189475517228:=0
def tw11738243743197964597:=0
def tw2333105410213810865:=0
def tw11566098044289413073:=0
def tw5498123283257192965:=0
def tw86012387029904805:=0
def tw10310341975313369176:=0
def tw5890639436620234070:=0
def tw13421457143807847188:=0
def tw7900394595670775223:=0
def tw6900931685637148767:=0
def tw4757880891971583632:=0
def tw4413860948169739490:=0
def tw17817366049700826239:=0
def tw539538531456391632:=0
def tw7607420049574824106:=0
def tw4684226298888400098:=0
def tw13818634655328599666:=0
def tw11823594873375168262:=0
def tw13164499291161521807:=0
def tw1181674027530198351:=0
def tw3042748168174471775:=0
def tw14827714588952709054:=0
def tw140236481695663071:=0
def tw2759284407945088205:=0
def tw1402340071739887797:=0
def tw987426779421491659:=0
def tw5388589039460942527:=0
def tw9615563845995560447:=0
def tw12887044766017154078:=0
def tw18105302477358141223:=0
def tw2403389108928632939:=0
def tw17691633702590694504:=0
def tw4858918184162951299:=0
def tw6284410105664486691:=0
def tw14173793092197918974:=0
def tw16053306600634468012:=0
def tw18124618509676941091:=0
def tw9972681490609642005:=0
def tw17851425793026216551:=0
def tw13885670934486923800:=0
def tw9768418358887946270:=0
def tw1956260828630720203:=0
def tw5459702643516471331:=0
def tw7231845647793152400:=0
def tw15227483606004533461:=0
def tw256976265262469064:=0
def tw14995258362815363992:=0
def tw3382625519597670723:=0
def tw10713865542653931438:=0
def tw2692750590507578028:=0
def tw17590876675597686902:=0
def tw11033627544408312984:=0
def tw16005714805435085966:=0
def tw14074196154385387334:=0
def tw3436067635600285980:=0
def tw2358075552688931204:=0
def tw6306950242917791374:=0
def tw15433366417846715934:=0
def tw17318462890700432884:=0
def tw9456574344343218679:=0
def tw13757698761724263525:=0
def tw11063759124802658401:=0
def tw5323657890516693427:=0
def tw10988312798546598065:=0
def tw2046362190076281809:=0
def tw9848817304349107530:=0
def tw14903569129155370506:=0
def tw3303267245142563540:=0
def tw11308061921803828041:=0
def tw15733337929971156237:=0
def tw15969335453137586327:=0
def tw13384656265869573321:=0
def tw561727478393794602:=0
def tw12772213712371865176:=0
def tw7050804516273991350:=0
def tw9404705873571188630:=0
def tw17510684818845775701:=0
def tw16493865465440409018:=0
def tw3671519592330383864:=0
def tw3208522521903949160:=0
def tw2333531293284704758:=0
def tw977512076041815475:=0
def tw13601115934706021691:=0
def tw13547939009206843870:=0
def tw12483548606279900826:=0
def tw13255938527306859382:=0
def tw11524815483048965402:=0
def tw17397653436517662659:=0
def tw8984893954669693527:=0
def tw523537741815420091:=0
def tw2687584960432607044:=0
def tw1825952489489211193:=0
def tw15214748959534726111:=0
def tw17234092154637527361:=0
def tw9525436842865473142:=0
def tw6162269159774324313:=0
def tw18101783494082082527:=0
def tw5960047855520388891:=0
def tw16636501806038632012:=0
def tw12930229547647579594:=0
def tw9316815775250114193:=0
def tw938635154573522699:=0
def tw17852080271459398996:=0
def tw14329579894275425762:=0
def tw7998583776865276027:=0
def tw18183970276198133131:=0
def tw16325770458623074653:=0
def tw2867421004237479119:=0
def tw1407819163237050398:=0
def tw14540961386073393648:=0
def tw9847850075989111346:=0
def tw17338325484393633139:=0
def tw16792556548410726896:=0
def tw2870957612703475602:=0
def tw5515903443438498500:=0
def tw17216001249096748393:=0
def tw4724775325020269224:=0
def tw14398111036562950334:=0
def tw14935156969734317764:=0
def tw2781137557867543911:=0
def tw5622701340561072331:=0
def tw11907897558876765624:=0
def tw772564365185477556:=0
def tw12431713363859531893:=0
def tw4538635040379822027:=0
def tw10550934584343373414:=0
def tw4102176305081739490:=0
def tw11555995132304969306:=0
def tw18310463660012746435:=0
def tw14520296925931582552:=0
def tw17014754193936795334:=0
def tw908480701973217441:=0
def tw9719393640593047967:=0
def tw306047672372848657:=0
end PySem.W.Fast
namespace PySem.W
open PySem PySem.Spec PySem.Calls PyProof.Rows
def gtO (x : Option Obj) : Option Obj := match x with
  | some ⟨_, _, .freed, _⟩ => none
  | o => o
noncomputable def pk (l : List Obj) : Nat → List Addr → List (Option Obj) := @List.rec Obj (fun _ => Nat → List Addr → List (Option Obj)) (fun _ as => as.map fun _ => none) (fun o _ ih i as => @List.rec Addr (fun _ => List (Option Obj)) [] (fun a r _ => @Bool.rec (fun _ => List (Option Obj)) (ih (Nat.succ i) as) (gtO (some o) :: ih (Nat.succ i) r) (Nat.beq a i)) as) l
def rz : Nat → List Addr → Bool
  | _, [] => true
  | i, a :: r => Nat.ble i a && rz (a + 1) r
theorem rz_le : ∀ (as : List Addr) (i : Nat), rz i as = true → ∀ b ∈ as, i ≤ b
  | [], _, _, b, h => by cases h
  | a :: r, i, h, b, hb => by
    unfold rz at h
    rw [Bool.and_eq_true] at h
    have h1 := Nat.le_of_ble_eq_true h.1
    rcases List.mem_cons.mp hb with rfl | hb
    · exact h1
    · have := rz_le r (a + 1) h.2 b hb; omega
theorem rz_up {a i : Nat} {r : List Addr} (h : rz i (a :: r) = true) (n : a ≠ i) : rz (i + 1) (a :: r) = true := by
  unfold rz at *
  rw [Bool.and_eq_true] at *
  have := Nat.le_of_ble_eq_true h.1
  exact ⟨Nat.ble_eq_true_of_le (by omega), h.2⟩
theorem pk_eq : ∀ (l : List Obj) (i : Nat) (as : List Addr), rz i as = true → pk l i as = as.map fun a => gtO l[a - i]?
  | [], i, as, _ => by
    show as.map _ = _
    exact List.map_congr_left fun a _ => by simp [gtO]
  | o :: l, i, [], _ => rfl
  | o :: l, i, a :: r, h => by
    have step : ∀ as : List Addr, rz (i + 1) as = true → (as.map fun a => gtO l[a - (i + 1)]?) = as.map fun a => gtO (o :: l)[a - i]? := fun as h => List.map_congr_left fun b hb => by
      have := rz_le as _ h b hb
      rw [show b - i = (b - (i + 1)) + 1 by omega, List.getElem?_cons_succ]
    show @Bool.rec (fun _ => List (Option Obj)) (pk l (Nat.succ i) (a :: r)) (gtO (some o) :: pk l (Nat.succ i) r) (Nat.beq a i) = _
    cases e : Nat.beq a i with
    | true =>
      obtain rfl := Nat.eq_of_beq_eq_true e
      have h2 : rz (a + 1) r = true := by unfold rz at h; exact (Bool.and_eq_true_iff.mp h).2
      show gtO (some o) :: pk l (a + 1) r = _
      rw [pk_eq l (a + 1) r h2, step r h2, List.map_cons, Nat.sub_self]; rfl
    | false =>
      have h2 := rz_up h (Nat.ne_of_beq_eq_false e)
      show pk l (i + 1) (a :: r) = _
      rw [pk_eq l (i + 1) _ h2, step _ h2]
noncomputable def kmO (as : List Addr) (h : Heap) : List (Option Obj) := @Bool.rec (fun _ => List (Option Obj)) (as.map h.get?) (pk h.objs.toList 0 as) (rz 0 as)
theorem kmO_eq (as : List Addr) (h : Heap) : kmO as h = as.map h.get? := by
  unfold kmO
  cases e : rz 0 as with
  | false => rfl
  | true =>
    show pk h.objs.toList 0 as = _
    rw [pk_eq _ _ _ e]
    exact List.map_congr_left fun a _ => by
      rw [Nat.sub_zero, Array.getElem?_toList]; rfl
noncomputable def kmH2 (K : Params → Frag) (as : List Addr) (e : ∀ P, as = (K P).map (·.1)) (ts : List Addr) : Hook where
  α := List (Option Obj) × List (Option Obj)
  obs := fun s => (kmO as s.heap, ts.map s.heap.get?)
  val := fun w => ((K w.params).map fun p => some p.2, ts.map fun _ => some (tabObj #[]))
  says := fun w h => InK K w h ∧ ∀ P ∈ ts, h.get? P = some (tabObj #[])
  of := fun w s x => (kmHook K as e ts).of w s (show (as.map s.heap.get?, ts.map s.heap.get?) = _ by rw [← kmO_eq]; exact x)
  keeps := (kmHook K as e ts).keeps
theorem km2_in {K : Params → Frag} {as : List Addr} {e : ∀ P, as = (K P).map (·.1)} {ts : List Addr} {w : World} {h : Heap} (Y : (kmH2 K as e ts).says w h) : (K w.params).In h := (show InK K w h ∧ ∀ P ∈ ts, h.get? P = some (tabObj #[]) from Y).1
end PySem.W
section
open PySem PySem.W PyProof.Rows
set_option maxHeartbeats 0
local macro_rules | `(tactic| o_head ($f $a $b $c $d)) => `(tactic| o_head ((kmH2 $a $b $c) $d))
open_top hd for PySem.Challenge.rw_sidebook_k58_what_is_not_there
end
def Yc:=@beq_eq_false_iff_ne
def kh:=@beq_iff_eq
def IW:=@beq_self_eq_true
def Ef:=@congrArg
def yd:=@decide_eq_false
def ci:=@decide_eq_true
def Kc:=@decide_eq_true_eq
def Zs:=@if_false
def ua:=@if_neg
def ja:=@if_pos
def vm:=@if_true
def lg:=@or_false
open Array renaming append_assoc->im,forIn_toList->Uv,getElem?_eq_getElem->Kb,getElem?_eq_none->Vt,getElem?_eq_none_iff->Fq,getElem?_eq_some_iff->Zd,getElem?_extract->Ut,getElem?_push->ev,getElem?_toList->pf,length_toList->Eb,toArray_toList->Bk
open Bool renaming and_eq_true->Ea,and_false->vA,eq_iff_iff->tz,false_eq_true->xm,false_ne_true->jb,false_or->LB,or_eq_true->di
open Classical renaming choose_spec->zaB
open Int renaming toNat_natCast->yo
open List renaming all_cons->Yg,all_eq_true->Dc,all_map->TC,any_cons->Ff,any_eq_true->Jg,append_nil->Pe,drop_eq_getElem_cons->Oi,drop_eq_nil_of_le->iu,ext_getElem?->aj,filterMap_cons->Og,filter_cons->Aj,find?_cons->Bf,foldl_cons->qz,getD_eq_getElem?_getD->Di,getElem?_append_left->Za,getElem?_append_right->mf,getElem?_cons_zero->Cj,getElem?_eq_getElem->Fb,getElem?_eq_none->wk,getElem?_eq_none_iff->bc,getElem?_eq_some_iff->na,getElem?_map->Xa,getElem?_of_mem->av,getElem?_replicate->Rt,getElem?_set->Pc,getElem?_set_ne->Pk,getElem?_set_self->Pj,getElem?_take_of_lt->Ys,getElem?_toArray->kg,getElem_mem->Bj,getElem_of_mem->Rv,head?_eq_some_iff->yh,length_append->ye,length_cons->Cc,length_drop->fy,length_eq_zero_iff->Sf,length_eraseIdx_of_lt->jr,length_map->Pb,length_nil->rz,length_range->bj,length_set->Xp,length_take->Go,lookup_cons->Va,map_cons->yb,map_map->vn,map_nil->Qj,mem_append->ak,mem_append_left->Ra,mem_append_right->Pa,mem_cons->Da,mem_cons_of_mem->Ka,mem_cons_self->Ua,mem_filter->Vp,mem_filterMap->um,mem_map->Ed,mem_of_getElem?->La,mem_range->Rf,mem_singleton->qc,nodup_append->ux,nodup_cons->bi,nodup_nil->dr,not_mem_nil->Nb,of_mem_zip->Wp,pairwise_iff_getElem->Js,range_succ_eq_map->gu,set_append_left->jv,set_append_right->vk,set_cons_succ->Sd,set_cons_zero->ze,set_set->bD,size_toArray->Aa,take_length->zj,zip_cons_cons->xw,zip_nil_right->ww
open List.Pairwise renaming imp->SF
open List.Perm renaming cons_inv->zaF
open List.cons renaming injEq->bv
open Nat renaming add_assoc->zm,le_of_ble_eq_true->iv,le_of_eq->MF,le_of_lt->ff,le_refl->wa,le_succ->jj,le_trans->Wb,lt_irrefl->Jf,lt_of_le_of_lt->sx,lt_of_lt_of_le->Ga,lt_succ_of_lt->Rb,lt_succ_self->Qb,lt_trans->Ku,lt_trichotomy->iy,mod_lt->ZN,ne_of_gt->gf,ne_of_lt->ya,not_lt->vx,one_ne_zero->wA,zero_le->ij
open Ne renaming symm->Te
open Option renaming bind_eq_some_iff->bh,bind_some->kj,getD_none->uw,isSome_iff_exists->zd,isSome_map->ym,map_eq_some_iff->dc,map_some->Kj
open Option.some renaming inj->Ya,injEq->Dk
open Prod renaming ext->rW
open PyProof.Rows renaming AllBare->ej,IntsAre->fj,IsTup->yw,callWith_builtin1->UI,callWith_type1->Ie,slot_tuple_getitem->Oc,Subscript_->JB,args_list_sort->WN,args_tuple_getitem->IB,boot_isinstance->Tt,boot_list->Ek,boot_sum->aO,boot_tuple->ql,entry_list_iadd'->RF,entry_list_sort->ZI,entry_proto_collect'->uz,entry_tuple_getitem->uA,envOfC->Sg,firstMet->vh,firstMet_length_le->OB,firstMet_succ->LW,firstMet_zero->MW,get?_update_seq->dJ,list_sort_tree->VN,seqObj->ck,size_push'->NB,slicePart_none->SN,slot_list_sort->UN,sortedHeap_at->KW,sortedHeap_old->XN,step_dedup->QB,subscriptTail->NW,subscriptTail_builtinR->mx,tupleItemsOf_->sW
open PyProof.Rows.F renaming entry_set_update_loop->fv
open PyProof.Rows.IsTup renaming new->VI
open PySem renaming Around->Ha,BindsTo->xg,Builtin->gj,CmpOp->jt,DictEntry->YF,Drawn->zw,ElemsOf->iD,Env->Ih,ExceptHandler->Fg,Expr->Fa,FuncData->Nf,GenState->Um,IsPair->fO,IsPart->Vm,ItemsOf->Oq,Keyword->ul,Model->zl,NameKind->ig,Operator->Nu,PassesOwn->Ps,PlainAttrs->Np,Pos->Me,Program->za,boot_len->zb,mem_of_lookup->Lf,Result->Mp,Sem->Io,SetTable->lf,Slot->cO,Str->qa,World->Ma,argsOk->hO,assign->rl,assignEach->Cf,atKey->Nq,attributeBase->Oe,backTo->Bc,backToKw->si,behindInMarks->Yf,behindIsImport->dO,binaryOp->Dg,bindC->xz,bindL->wz,builtinLookup_eq_fast->jy,callWith->Lq,call_list_seq->HW,callerA->Kq,cellsFrom->VF,codeAny_builtin->qd,codeAny_call_builtin->Qm,codeAny_handlers_suite->yx,codeAny_handlers_test->km,codeAny_mono->ah,codeAny_of_tree->bJ,compareOp->Gc,concat_meets->kx,entryFor->gO,entryFor_alias->YN,eqIsQuiet_byValue->aD,eval->Ib,fits_of_scanBound->Oh,foldedSetIterable->Sh,getItem->Sj,getMethod->mj,handleBy->eO,holding->qf,intBits_le_64->pW,intKind->dh,isInstance->Ou,isSubtype_tuple_tuple->ky,isSubtype_type->Mu,isTrue->PB,keywordEach->ng,noFill_tuple_add->Hs,noteFrame->Jh,pickOrder->Rs,plainId_quiet->tf,rawInt->Nc,relayAll->Qq,release->fD,seqIndex_neg->lx,seqIndex_of->pz,seq_tuple_add->Ov,setFlight->Fk,setItem->ju,setNext->Bx,sizeLine_eq->nz,sliceBounds->ri,slot_list_getitem->SC,standAt->pi,starEach->la,storeName->TF,subscripted->kt,swappedStores->Ko,swapsWith->lj,swapsWithSole->Jo,sysModules->Rg,tupleKind->Os,tupleKind_room_in1->rj,typeLookup_type->cJ,typeOf->Op,valueAt->Mq,wpAny_Call_Name_kw->vg,wpAny_Call_method_late->qx,wpAny_Dict_empty->OF,wpAny_Name->GB,wpAny_askSetting->Ks,wpAny_assign_Name->OC,wpAny_attempt->Ho,wpAny_bind->aa,wpAny_call->Ju,wpAny_callSpecial?_slot->af,wpAny_call_entry->Qc,wpAny_comprehension_free->Tv,wpAny_execs_cons->LF,wpAny_execs_nil->yl,wpAny_field->Pm,wpAny_fieldsOf->Rm,wpAny_forIn_list->Ls,wpAny_handleBy_cons->uo,wpAny_holding->Ac,wpAny_in_heap->JW,wpAny_isInstance->Ck,wpAny_isTrue_Compare1->dy,wpAny_ite_split->xh,wpAny_items_cons->NF,wpAny_letGo->ft,wpAny_load->Gp,wpAny_loadName_cell->sA,wpAny_loadName_local->mz,wpAny_loadPart->RN,wpAny_mono->Xb,wpAny_newFunctionEnv->Sm,wpAny_newList->Sv,wpAny_newObj_type->Hc,wpAny_of_eq->vz,wpAny_passesOwn->Hi,wpAny_pure->da,wpAny_pyIter_enum->WC,wpAny_pyIter_list->Rj,wpAny_pyIter_slot->YC,wpAny_pyIter_tuple->KB,wpAny_pyIter_zip->QF,wpAny_rule->nl,wpAny_runValue->Lu,wpAny_seqItems->Qh,wpAny_sequenceKey->QC,wpAny_setEntries_of->oh,wpAny_setEpoch_of->ZC,wpAny_setField->Ph,wpAny_setState_of->Kg,wpAny_specialOf->Ki,wpAny_standAt->Nv,wpAny_storeSet_of->XC,wpAny_truthy_bool->Zc,wpAny_tryCatch->Rh,wpAny_tupleItemsOf->Lp,wpAny_typeOf->ll,wpAny_updateSeq->Li,wp_field_iff->xx,wp_setField_iff->WI
open PySem.Around renaming frames_deeper->fu
open PySem.BindsTo renaming of_defaults->Yd
open PySem.Builtin.Frozenset renaming newClass->yz,updateFrom->zz
open PySem.Builtin.List renaming listExtendWith->gJ,listLengthHint->om,listSameRef->xn,listTooLong->wn,listTouch->fJ
open PySem.Builtin.Range renaming rangeSize->UF
open PySem.Builtin.Slice renaming sliceAdjust->Am,sliceApplied->XF,slicePartIndex->WF,slicePlaces->jg
open PySem.Builtin.Tuple renaming tupleExact->yg,tupleHashOf->Td,tupleItemsOf->Lh
open PySem.Calls renaming Name_function_global->Cq,callWith_builtin->Jj,call_function_entry->ir,evalArgs_plain->Ak
open PySem.CmpOp renaming In->bO,NotIn->eD
open PySem.Code renaming quiet_builtin->vw
open PySem.DictEntry renaming refKey->zaG
open PySem.EntryCells renaming newEntry->Qs
open PySem.F renaming slot_tuple_eq->Ms,slot_tuple_hash->Dj,args_tuple_add_2->Ii,called_set->me,entry_min_loop->sj,entry_tuple_add->Zi,excAttr_ValueError->Jp,excBase_ValueError->Vc,plainAttrs_dict->dj,plainAttrs_list->Zg,plain_extend_loop->Yp,plain_list_iadd->gr,plain_min_loop->Xf,slot_dict_items->cj,slot_dict_update->Dq,slot_list_append->Gq,slot_list_extend->Iq,slot_set_iter->dt,slot_tuple_add->qj,type_dict_items->lr,type_list_append->Hq,type_list_extend->Jq
open PySem.Heap renaming ExtBut->Pp,FlyingW->hD,HeldW->pr,SameBut->Fd,get?_eq_some->wx,get?_push_of_some->ba,get?_push_size->Ba,get?_update_other->fg,get?_update_self->Bd,lt_size->va,size_push->Cd
open PySem.Heap.DictOf renaming new->TN
open PySem.Heap.IsSliceOf renaming new->RC
open PySem.Heap.IsTuple renaming push->XI
open PySem.Heap.SameBut renaming refl->aJ,update->pc
open PySem.Heap.UpToSlots renaming of_keeps->UC
open PySem.IsL renaming update->zaA
open PySem.NameKind renaming cell->sd,free->qb
open PySem.Obj renaming cls_mapFields->xo,data_mapFields->Ic,isFreed_of_fields->wg,mapFields->Kf,mapSeq->rf,putSet->Ax
open PySem.PassesOwn renaming leaving->zaC,looking->zaD
open PySem.Sem renaming wp_bind'->ro,wp_mono->Pv
open PySem.SeqAt renaming EqAt->ve,RcAt->Mj,RcNeAt->mi,in_listAt->gy,in_tupleAt->px
open PySem.SeqAt.EqAt renaming bool_bool->xW,bool_int->yW,bool_none->wW,bool_str->zW,int_bool->BW,int_int->CW,int_none->AW,int_str->Ws,none_bool->tW,none_int->uW,none_str->vW,same->wm,str_bool->EW,str_int->Xs,str_none->DW,str_str->GW
open PySem.SetTable renaming below->og,fresh->Aw,grown->qg,has->ly,insertAt->Al
open PySem.SetTable.below renaming go->Pq
open PySem.SetTable.probe renaming go->Th
open PySem.Shared renaming TypeIs->qr
open PySem.Str renaming ofString->zo
open PySem.Value renaming bool->mm,int->Gg,isInt->dD,isInt_shape->tw,isStrOf->xA,none->ib,ref->cc,str->zx,type->Lj
open PySem.Value.ref renaming inj->zaE
open PySem.W renaming any_some->oz,callWith_K->Ji,cellsFrom_some->HB,hideAll_get->RI,kia_one->bg,kitx_dict->jx,kitx_list->qW,looks_findIn->jm,looks_mroIn->YI,methodCall_KW->Qk,mg_of->Qv,of_hideAll->Mv,plainGet_of->Iu
open PySem.W.KF renaming slot_gs->VC
open PySem.W.Looks renaming ld->Ip
open PySem.W.WData renaming int->eJ
open PySem.Walks renaming list->lm
open PySem.WalksT renaming zip2->MB
open PySem.Within renaming cons->SI
open PySem.pickOrder renaming go->Rq
open Sum.inl renaming inj->Qt
open Sum.inr renaming inj->rA
noncomputable section
namespace L2
open PySem PySem.Spec PyProof.Rows
abbrev gc:=Sum Int qa
noncomputable def NC:gc->Value->Bool
 | .inl k,v=>dD k v
 | .inr x,v=>xA x v
noncomputable def n3(w:Ma):gc->Int
 | .inl k=>hashInt k
 | .inr x=>hashStr w x
theorem Xw:∀ {k:gc} {v:Value},NC k v=true->(∃ i t,k=Sum.inl i/\v=Gg i t)\/(∃ x t,k=Sum.inr x/\v=zx x t)
 | .inl i,v,h=>by
  obtain⟨t,e⟩:=tw h;exact .inl ⟨i,t,rfl,e⟩
 | .inr x,v,h=>by
  obtain⟨t,e⟩:=Value.isStrOf_shape h;exact .inr ⟨x,t,rfl,e⟩
theorem zpw(i:Int)(t:Tok):NC (.inl i) (.int i t)=true:=by simp[NC,dD]
theorem ě(x:qa)(t:Tok):NC (.inr x) (.str x t)=true:=by simp[NC,xA]
theorem yl3(a b:Int):decide ((Sum.inl a:gc)=Sum.inl b)=(a == b):=by
 by_cases e:a=b
 ·subst e;simp
 ·have h:¬ (Sum.inl a:gc)=Sum.inl b:=λq=>e (Qt q);rw[yd h];exact(Yc.mpr e).symm
theorem É(a b:qa):decide ((Sum.inr a:gc)=Sum.inr b)=decide (a=b):=by
 by_cases e:a=b
 ·subst e;simp
 ·have h:¬ (Sum.inr a:gc)=Sum.inr b:=λq=>e (rA q);rw[yd h,yd e]
theorem Ŏ(a:Int)(b:qa):decide ((Sum.inl a:gc)=Sum.inr b)=false:=yd (λq=>nomatch q)
theorem yl6(a:qa)(b:Int):decide ((Sum.inr a:gc)=Sum.inl b)=false:=yd (λq=>nomatch q)
def Ri(c:za)(w:Ma):PySem.KeyKind c w gc where
 is:=NC
 hash:=n3 w
 inj:=λv a b g f=>by
  rcases Xw g with⟨i,t,rfl,rfl⟩|⟨x,t,rfl,rfl⟩
  ·rcases Xw f with⟨j,u,rfl,e⟩|⟨y,u,rfl,e⟩
   ·injection e with e1 _;rw[e1]
   ·exact nomatch e
  ·rcases Xw f with⟨j,u,rfl,e⟩|⟨y,u,rfl,e⟩
   ·exact nomatch e
   ·injection e with e1 _;rw[e1]
 byValue:=λk v h=>by
  rcases Xw h with⟨i,t,rfl,rfl⟩|⟨x,t,rfl,rfl⟩<;>rfl
 pyHash:=λd h=>by
  rcases Xw d with⟨i,t,rfl,rfl⟩|⟨x,t,rfl,rfl⟩
  ·exact wpAny_pyHash_int h
  ·exact wpAny_pyHash_str h
 eqBool:=λl d h=>by
  rcases Xw l with⟨i,t,rfl,rfl⟩|⟨x,t,rfl,rfl⟩
  ·rcases Xw d with⟨j,u,rfl,rfl⟩|⟨y,u,rfl,rfl⟩
   ·rw[yl3]at h;exact wpAny_eqBool_int h
   ·rw[Ŏ]at h;exact Ws i t y u _ _ _ _ h
  ·rcases Xw d with⟨j,u,rfl,rfl⟩|⟨y,u,rfl,rfl⟩
   ·rw[yl6]at h;exact Xs x t j u _ _ _ _ h
   ·rw[É]at h;exact wpAny_eqBool_str h
 «strs»:=λk x t v h=>by
  rcases Xw h with⟨i,u,rfl,e⟩|⟨y,u,rfl,e⟩
  ·exact nomatch e
  ·injection e with e1 _;subst e1;cases v<;>rfl
theorem jZ(a:za)(w:Ma)(i:Int)(t:Tok):(Ri a w).is (.inl i) (.int i t)=true:=zpw i t
theorem P0(a:za)(w:Ma)(x:qa)(t:Tok):(Ri a w).is (.inr x) (.str x t)=true:=ě x t
inductive V where
 |Mc|bl (b:Bool)|int (i:Int)|str (x:qa)|lH (b:Array UInt8)|FB (b:UInt64)|ref (a:Addr)|ty (n:String)
 deriving DecidableEq
def ie:V->Value->Prop
 | .Mc,u=>u=ib
 | .bl b,u=>u=mm b
 | .int i,u=>∃ t,u=Gg i t
 | .str x,u=>∃ t,u=zx x t
 | .lH b,u=>∃ t,u=Value.bytes b t
 | .FB b,u=>∃ t,u=Value.float b t
 | .ref a,u=>u=cc a
 | .ty n,u=>u=Lj n
abbrev jf:List V->List Value->Prop:=Paired ie
theorem jf.length{xs:List V}{a:List Value}(r:jf xs a):xs.length=a.length:=Paired.length r
theorem jf.get:∀ {xs:List V} {us:List Value} {i:Nat} {x:V},jf xs us->xs[i]?=some x->∃ u,us[i]?=some u/\ie x u
 |_,_,_,_,.nil,e=>by simp at e
 |_,_,0,_,.cons r _,e=>by simp at e;subst e;exact⟨_,rfl,r⟩
 |_,_,i+1,x,.cons _ t,e=>by
  obtain⟨u,a,b⟩:=jf.get t (by simpa using e);exact⟨u,by simpa using a,b⟩
theorem jf.set{x:V}{u:Value}(r:ie x u):∀ {xs:List V} {us:List Value} (i:Nat),jf xs us->jf (xs.set i x) (us.set i u)
 |_,_,_,.nil=>.nil
 |_,_,0,.cons _ t=>.cons r t
 |_,_,i+1,.cons q t=>.cons q (jf.set r i t)
theorem jf.append:∀ {xs a:List V} {us ws:List Value},jf xs us->jf a ws->jf (xs++a) (us++ws)
 |_,_,_,_,.nil,s=>s
 |_,_,_,_,.cons r t,s=>.cons r (jf.append t s)
theorem jf.take:∀ {xs:List V} {us:List Value} (n:Nat),jf xs us->jf (xs.take n) (us.take n)
 |_,_,0,_=>.nil
 |_,_,_+1,.nil=>.nil
 |_,_,n+1,.cons r t=>.cons r (jf.take n t)
theorem jf.drop:∀ {xs:List V} {us:List Value} (n:Nat),jf xs us->jf (xs.drop n) (us.drop n)
 |_,_,0,r=>r
 |_,_,_+1,.nil=>.nil
 |_,_,n+1,.cons _ t=>jf.drop n t
theorem jf.none_of:∀ {xs:List V} {us:List Value} {i:Nat},jf xs us->xs[i]?=none->us[i]?=none:=fun {xs us i} r e=>by
 have a:=r.length;have b:=bc.mp e;exact bc.mpr (by omega)
def Ts:Option V->Option Value->Prop
 |some v,some u=>ie v u
 |none,none=>True
 |_,_=>False
def KV{a:Type}:List (a × V)->List (a × Value)->Prop:=Paired λ(p:a × V) (q:a × Value)=>p.1=q.1/\ie p.2 q.2
noncomputable def kV:gc->V
 | .inl i=>.int i
 | .inr x=>.str x
inductive HO where
 |Ca (xs:List V)
 |ub (xs:List V)
 |dK (kvs:List (gc × V))|dT (kvs:List (List gc × V))
 |set (S:Int->Bool) (n:Nat)
 |jc (C dx:Addr) (fs:List (qa × V))
 |own (x:Addr)
 |xd (fs:List (qa × V))
 |met (f x:Addr)
 |xG (lo hi:Int)
 |Vb (o:Obj) (u:HO)
 |eo (ps:Array Value)
 |ext (φ:Heap->Prop)
abbrev Hp:=Addr->Option HO
noncomputable def ic(H:Hp)(a:Addr)(o:HO):Hp:=λb=>if b=a then some o else H b
theorem Hh{H:Hp}{a:Addr}{o:HO}:ic H a o a=some o:=by unfold ic;rw[ja rfl]
theorem Le{H:Hp}{a b:Addr}{o:HO}(h:b≠a):ic H a o b=H b:=by unfold ic;rw[ua h]
theorem nN{H:Hp}{a b:Addr}{o u:HO}(h:H a=some o)(c:H b=some u)(d:o≠u):a≠b:=by
 intro e;subst e;rw[h]at c;exact d (Ya c)
theorem rs{H:Hp}{a b:Addr}{o:HO}(h:H a=some o)(c:H b=none):a≠b:=by
 intro e;subst e;rw[h]at c;cases c
section
variable(P:za)(w:Ma)
def mn(H:Hp)(h:Heap)(a:Addr):HO->Prop
 | .Ca xs=>xs.length<=sizeLine/\∃ (b:List Value) (n:Nat),jf xs b/\h.get? a=some { cls:=.type "list",data:=.seq b.toArray n }
 | .ub xs=>xs.length<=sizeLine/\∃ b:List Value,jf xs b/\yw h a b.toArray
 | .dK c=>c.length<=sizeLine/\(a == Rg)=false/\∃ l,KV c l/\h.DictOf (Ri P w) a l
 | .dT c=>c.length<=sizeLine/\(a == Rg)=false/\∃ xs:List (List gc × Addr × Value),
   Paired (λ(p:List gc × V) (q:List gc × Addr × Value)=>p.1=q.1/\H q.2.1=some (.ub (p.1.map kV))/\ie p.2 q.2.2) c xs/\
   ∃ o i m,h.get? a=some o/\o.ExactDict/\o.data=.dict i m/\i.toList=xs.map (entryOfKey (Os (Ri P w)))/\(xs.map (·.1)).Nodup
 | .set S n=>h.SetOf (dh P w) a S n
 | .jc C g e=>H g=some (.own a)/\e.length<=1000/\g≠a/\h.get? a=some (W.instObj C g)/\
   ∃ d,h.Ns1 g d/\(∀ f,Ts (e.lookup f) (d f))/\PySem.Within d (e.map (·.1))
 | .own _=>∃ o,h.get? a=some o
 | .xd e=>∃ d,h.Ns1 a d/\∀ f,Ts (e.lookup f) (d f)
 | .xG lo r=>∃ t u v,h.get? a=some { cls:=.type "range",data:=.fields #[.int lo t,.int r u,.int 1 v] }
 | .Vb o u=>h.get? a=some o/\mn H h a u
 | .eo s=>h.get? a=some { cls:=.none,data:=.fields s }
 | .met f x=>h.get? a=some (W.methodObj (.ref f) (.ref x))
 | .ext φ=>φ h/\(∃ o,h.get? a=some o)/\∀ j k:Heap,φ j->(∀ o,j.get? a=some o->k.get? a=some o)->φ k
def xj(H:Hp)(h:Heap):Prop:=∀ a o,H a=some o->mn P w H h a o
end
section
variable{P:za}{w:Ma}{H H':Hp}{h h':Heap}{a:Addr}{o:HO}
theorem mn.lt(x:mn P w H h a o):a<h.objs.size:=by
 cases o with
 |Ca xs=>obtain⟨_,_,_,_,e⟩:=x;exact va e
 |ub xs=>obtain⟨_,_,_,p⟩:=x;exact p.lt
 |dK b=>obtain⟨_,_,_,_,o,_,_,e,_⟩:=x;exact va e
 |dT b=>obtain⟨_,_,_,_,o,_,_,e,_⟩:=x;exact va e
 |set S n=>obtain⟨o,_,_,_,e,_⟩:=x;exact va e
 |jc C d c=>obtain⟨_,_,_,e,_⟩:=x;exact va e
 |own y=>obtain⟨_,e⟩:=x;exact va e
 |xd c=>obtain⟨_,⟨_,_,_,e,_⟩,_⟩:=x;exact va e
 |xG lo g=>obtain⟨_,_,_,e⟩:=x;exact va e
 |Vb i u=>obtain⟨e,_⟩:=x;exact va e
 |eo j=>exact va (x)
 |met f y=>exact va (x)
 |ext k=>obtain⟨_,⟨_,e⟩,_⟩:=x;exact va e
theorem Paired.yu{e g:Type}{F G:e->g->Prop}:∀ {c:List e} {d:List g},Paired F c d->(∀ a b,F a b->G a b)->Paired G c d
 |_,_,.nil,_=>.nil
 |_,_,.cons r t,f=>.cons (f _ _ r) (Paired.yu t f)
theorem mn.cm(x:mn P w H h a o)(k:∀ b u,(b=a\/H b=some (.own a))->h.get? b=some u->h'.get? b=some u)
  (E:∀ b,H b=some (.own a)->H' b=some (.own a)) (F:∀ b xs,H b=some (.ub xs)->H' b=some (.ub xs)):mn P w H' h' a o:=by
 induction o with
 |Ca xs=>obtain⟨z,j,n,r,e⟩:=x;exact⟨z,j,n,r,k _ _ (.inl rfl) e⟩
 |ub xs=>obtain⟨z,j,r,ob,e,c⟩:=x;exact⟨z,j,r,ob,k _ _ (.inl rfl) e,c⟩
 |dK l=>obtain⟨z,y,J,r,ob,i,g,e,c⟩:=x;exact⟨z,y,J,r,ob,i,g,k _ _ (.inl rfl) e,c⟩
 |dT l=>
  obtain⟨z,y,xs,r,ob,i,g,e,c⟩:=x;exact⟨z,y,xs,Paired.yu r λp q z=>⟨z.1,F _ _ z.2.1,z.2.2⟩,ob,i,g,k _ _ (.inl rfl) e,c⟩
 |set S n=>obtain⟨ob,i,g,t,e,c⟩:=x;exact⟨ob,i,g,t,k _ _ (.inl rfl) e,c⟩
 |jc C K D=>
  obtain⟨d,z,I,e,m,⟨s,i,g,B,c⟩,r⟩:=x;exact⟨E _ d,z,I,k _ _ (.inl rfl) e,m,⟨s,i,g,k _ _ (.inr d) B,c⟩,r⟩
 |own y=>obtain⟨ob,e⟩:=x;exact⟨ob,k _ _ (.inl rfl) e⟩
 |xd D=>obtain⟨m,⟨s,i,g,e,c⟩,r⟩:=x;exact⟨m,⟨s,i,g,k _ _ (.inl rfl) e,c⟩,r⟩
 |xG lo L=>obtain⟨t,u,v,e⟩:=x;exact⟨t,u,v,k _ _ (.inl rfl) e⟩
 |Vb ob u G=>obtain⟨e,q⟩:=x;exact⟨k _ _ (.inl rfl) e,G q⟩
 |eo M=>
  have e:=x;exact k a _ (.inl rfl) e
 |met f y=>
  have e:=x;exact k a _ (.inl rfl) e
 |ext N=>obtain⟨p,⟨o,e⟩,A⟩:=x;exact⟨A _ _ p λo q=>k _ _ (.inl rfl) q,⟨o,k _ _ (.inl rfl) e⟩,A⟩
theorem xj.lt(x:xj P w H h)(e:H a=some o):a<h.objs.size:=(x a o e).lt
theorem xj.fresh(x:xj P w H h)(e:h.objs.size<=a):H a=none:=by
 cases q:H a with
 |none=>rfl
 |some u=>exact absurd (Ga (x.lt q) e) (Jf _)
theorem xj.kept(x:xj P w H h)(k:∀ b u,h.get? b=some u->h'.get? b=some u):xj P w H h':=λa o e=>
 (x a o e).cm (λb u _ q=>k b u q) (λ_ q=>q) λ_ _ q=>q
theorem xj.laid(x:xj P w H h)(k:∀ b u,h.get? b=some u->h'.get? b=some u)(i:h.objs.size<=a)(d:mn P w (ic H a o) h' a o):xj P w (ic H a o) h':=λb u e=>by
 have g:=x.fresh i;by_cases f:b=a
 ·subst f;rw[Hh]at e;cases e;exact d
 ·rw[Le f]at e;exact(x b u e).cm (λc v _ q=>k c v q) (λc q=>by rw[Le (rs q g)];exact q) λc xs q=>by rw[Le (rs q g)];exact q
end
def Rd(H:Hp)(a:Addr)(u:HO):Prop:=H a=some u\/∃ o,H a=some (.Vb o u)
theorem Rd.of{H:Hp}{a:Addr}{u:HO}(h:H a=some u):Rd H a u:=.inl h
theorem Rd.ok{P:za}{w:Ma}{H:Hp}{h:Heap}{a:Addr}{u:HO}(r:Rd H a u)(x:xj P w H h):mn P w H h a u:=by
 rcases r with r|⟨o,r⟩
 ·exact x a u r
 ·obtain⟨_,q⟩:=x a _ r;exact q
def wE:Option HO->Prop
 |some (.Ca _)=>True
 |some (.dK _)=>True
 |some (.dT _)=>True
 |some (.set _ _)=>True
 |some (.jc _ _ _)=>True
 |some (.ext _)=>True
 |_=>False
section
variable{P:za}{w:Ma}{H:Hp}{h h':Heap}{x e:Addr}{o':HO}
theorem xj.write(ok:xj P w H h)(j:wE (H x))(n:e=x\/H e=some (.own x))(k:∀ b u,b≠e->h.get? b=some u->h'.get? b=some u)(l:∃ u,h'.get? e=some u)
  (m:mn P w (ic H x o') h' x o'):xj P w (ic H x o') h':=λb u q=>by
 have d:∀ c y,H c=some (.own y)->c≠x:=λc y r z=>by subst z;rw[r]at j;exact j
 have f:∀ c xs,H c=some (.ub xs)->c≠x:=λc xs r z=>by subst z;rw[r]at j;exact j
 by_cases g:b=x
 ·subst g;rw[Hh]at q;cases q;exact m
 ·rw[Le g]at q;by_cases a:b=e
  ·have o:H b=some (.own x):=by
    rcases n with z|z
    ·exact absurd (a.trans z) g
    ·rw[a];exact z
   rw[q]at o;cases o;obtain⟨v,p⟩:=l;exact⟨v,by rw[a];exact p⟩
  ·refine(ok b u q).cm (λc v i r=>k c v ?_ r) (λc r=>by rw[Le (d c b r)];exact r) λc xs r=>by rw[Le (f c xs r)];exact r
   rcases i with rfl|i
   ·exact a
   ·rintro rfl;rcases n with z|z
    ·exact d c b i z
    ·rw[i]at z;cases z;exact g rfl
end
structure Un(fs ex:List Addr)(H H':Hp)(h h':Heap):Prop where
 keep:∀ b o,h.get? b=some o->H b=none->b ∉ fs->b ∉ ex->h'.get? b=some o
 slot:∀ b o,h.get? b=some o->H b=none->b∈fs->b ∉ ex->∃ sl,h'.get? b=some { o with slots:=sl }
 free:∀ b o,h.get? b=some o->H b=none->b ∉ ex->H' b=none
 there:∀ b o,h.get? b=some o->b ∉ ex->∃ o',h'.get? b=some o'
 Vj:∀ b xs,H b=some (.ub xs)->H' b=some (.ub xs)
 Ti:∀ b o u,H b=some (.Vb o u)->H' b=some (.Vb o u)
 Gj:∀ b ps,H b=some (.eo ps)->∃ more,H' b=some (.eo (ps++more))
section
variable{fs fs' ex ex':List Addr}{H H1 H2:Hp}{h h1 h2 h':Heap}{a x e:Addr}{o:HO}
theorem Un.any(u:Un fs ex H H1 h h1){b:Addr}{a:Obj}(q:h.get? b=some a)(n:H b=none)(d:b ∉ ex):∃ e,h1.get? b=some { a with slots:=e }:=by
 by_cases c:b∈fs
 ·exact u.slot b a q n c d
 ·exact⟨a.slots,u.keep b a q n c d⟩
theorem Un.trans(a:Un fs ex H H1 h h1)(b:Un fs ex H1 H2 h1 h2):Un fs ex H H2 h h2 where
 keep:=λc e q n g d=>b.keep c e (a.keep c e q n g d) (a.free c e q n d) g d
 slot:=λc e q n g d=>by
  obtain⟨p,f⟩:=a.slot c e q n g d;obtain⟨k,i⟩:=b.slot c _ f (a.free c e q n d) g d;exact⟨k,i⟩
 free:=λc e q n d=>by
  obtain⟨j,f⟩:=a.there c e q d;exact b.free c j f (a.free c e q n d) d
 there:=λc e q d=>by
  obtain⟨j,f⟩:=a.there c e q d;exact b.there c j f d
 Vj:=λc xs q=>b.Vj c xs (a.Vj c xs q)
 Ti:=λc e xs q=>b.Ti c e xs (a.Ti c e xs q)
 Gj:=λc o q=>by
  obtain⟨l,f⟩:=a.Gj c o q;obtain⟨m,i⟩:=b.Gj c _ f;exact⟨l++m,by rw[i,im]⟩
theorem Un.kept(k:∀ b u,h.get? b=some u->h'.get? b=some u):Un fs ex H H h h':=
 ⟨λb a q _ _ _=>k b a q,λb a q _ _ _=>⟨a.slots,k b a q⟩,λ_ _ _ n _=>n,λb a q _=>⟨a,k b a q⟩,λ_ _ q=>q,λ_ _ _ q=>q,λ_ c q=>⟨#[],by rw[q];simp⟩⟩
theorem Un.refl:Un fs ex H H h h:=Un.kept λ_ _ q=>q
theorem Un.laid(k:∀ b u,h.get? b=some u->h'.get? b=some u)(d:h.objs.size<=a)(c:H a=none):Un fs ex H (ic H a o) h h' where
 keep:=λb u q _ _ _=>k b u q
 slot:=λb u q _ _ _=>⟨u.slots,k b u q⟩
 free:=λb u q n _=>by rw[Le (ya (Ga (va q) d))];exact n
 there:=λb u q _=>⟨u,k b u q⟩
 Vj:=λb xs q=>by rw[Le (rs q c)];exact q
 Ti:=λb u xs q=>by rw[Le (rs q c)];exact q
 Gj:=λb e q=>⟨#[],by rw[Le (rs q c),q];simp⟩
theorem Un.write(c:wE (H x))(j:e=x\/H e=some (.own x))(k:∀ b u,b≠e->h.get? b=some u->h'.get? b=some u)(d:∃ u,h'.get? e=some u):Un fs ex H (ic H x o) h h':=by
 have i:∀ b,H b=none->b≠x:=λb n z=>by subst z;rw[n]at c;exact c
 have g:∀ b,H b=none->b≠e:=λb n z=>by
  subst z;rcases j with r|r
  ·exact i b n r
  ·rw[n]at r;cases r
 have f:∀ b u,H b=some u->¬ wE (some u)->b≠x:=λb u q l z=>by subst z;rw[q]at c;exact l c
 refine⟨λb u q n _ _=>k b u (g b n) q,λb u q n _ _=>⟨u.slots,k b u (g b n) q⟩,λb u q n _=>by rw[Le (i b n)];exact n,λb u q _=>?_,
  λb xs q=>by rw[Le (f b _ q λz=>z)];exact q,λb u xs q=>by rw[Le (f b _ q λz=>z)];exact q,λb m q=>⟨#[],by rw[Le (f b _ q λz=>z),q];simp⟩⟩
 by_cases a:b=e
 ·subst a;exact d
 ·exact⟨u,k b u a q⟩
theorem Un.mono(u:Un fs ex H H1 h h1)(f:∀ b∈fs,b∈fs')(d:∀ b∈ex,b∈ex'):Un fs' ex' H H1 h h1:=
 ⟨λb c q n e a=>u.keep b c q n (λz=>e (f b z)) λz=>a (d b z),λ_ _ q n _ a=>u.any q n λz=>a (d _ z),λb c q n a=>u.free b c q n λz=>a (d b z),λb c q a=>u.there b c q λz=>a (d b z),u.Vj,u.Ti,u.Gj⟩
end
noncomputable def HH(h:Heap)(H:Hp):List Addr:=(List.range h.objs.size).filter λa=>(H a).isSome
def Sz(h:Heap)(H:Hp):Heap:=W.hideAll h (HH h H)
theorem W5(h:Heap)(H:Hp):(Sz h H).objs.size=h.objs.size:=W.hideAll_size _ _
theorem ł{h:Heap}{H:Hp}{b:Addr}{o:Obj}(e:h.get? b=some o)(n:H b=none):(Sz h H).get? b=some o:=
 RI _ e λa=>by
  have q:=(Vp.mp a).2;rw[n]at q;simp at q
theorem n7{h:Heap}{H:Hp}{b:Addr}{o:Obj}(e:(Sz h H).get? b=some o):h.get? b=some o/\H b=none:=by
 have a:=Mv (HH h H) e;refine⟨a,?_⟩;cases q:H b with
 |none=>rfl
 |some x=>
  have c:b∈HH h H:=Vp.mpr ⟨Rf.mpr (va a),by simp[q]⟩;have z:(Sz h H).get? b=none:=W.hideAll_none (HH h H) c;rw[z]at e;cases e
noncomputable def SX(g h:Heap)(L:Addr):List (Addr × Obj):=(List.range h.objs.size).filterMap λa=>if a=L\/(g.get? a).isSome=true then none else (h.get? a).map λo=>(a,o)
def nh(g h:Heap)(L d:Addr):List (Addr × Obj):=(SX g h L).filter λp=>decide (p.1≠d)
structure Mod(K:W.Frag)(mg:qa->Option Value)(base:Heap):Prop where
 Ex:K.In base
 glob:base.Ns mainGlobals mg
 blt:∃ mb,base.Ns builtinsNs mb/\∀ x:qa,x ≠ "__name__"->mb x=bootBuiltins x
 nolimit:base.NoLimit
structure Cx where
 prog:za
 w:Ma
 K:W.Frag
 mg:qa->Option Value
 base:Heap
 A:Ha
 N:List qa
 s₀:Shared
 H₀:Hp
 env:Ih
 outer:List Ih
 stack:List Ih
 ex:List Addr
 fn:qa->Bool
 Vh:Bool
 pn:List (Addr × Obj)
 xe:Value->Shared->Prop
noncomputable def Wk(l:List Ih):List Addr:=l.filterMap (·.frame)
abbrev Cx.fs(X:Cx):List Addr:=Wk X.outer
def VG(sc:Scope)(x:qa):Prop:=sc.names.lookup x=some .local\/sc.names.lookup x=some .cell\/sc.names.lookup x=some .free
def Loc(sc:Scope)(x:qa):Prop:=sc.names.lookup x=some .local\/sc.names.lookup x=some .cell
def L3(a:Ih)(h:Heap)(m:qa->Option Value)(x:qa)(u:Value):Prop:=
 (a.kindOf x=some .local/\m x=some u)\/((a.kindOf x=some .cell\/a.kindOf x=some .free)/\∃ c,a.cells.lookup x=some c/\h.IsCell c (some u))
structure Cx.Ok(X:Cx):Prop where
 mod:Mod X.K X.mg X.base
 kind:X.env.scope.kind=.function
 glob:X.env.globals=mainGlobals
 blt:X.env.builtins=builtinsNs
 above:X.s₀.heap.objs.size<=X.env.locals
 inj:∀ x y c,X.env.cells.lookup x=some c->X.env.cells.lookup y=some c->x=y
 has:∀ x,(X.env.kindOf x=some .cell\/X.env.kindOf x=some .free)->∃ c,X.env.cells.lookup x=some c
 aA:∀ x c,X.fn x=true->X.env.cells.lookup x=some c->X.s₀.heap.objs.size<=c
 hd:X.Vh=true->X.A.handled=none
 frames:X.A.frames=some X.stack
 Zr:X.stack=X.outer\/(X.stack=X.env::X.outer/\X.env.frame=some X.env.locals)
 GA:∀ b∈X.ex,b≠X.env.locals/\∀ x c,X.env.cells.lookup x=some c->c≠b
 bs:∀ b o,X.base.get? b=some o->X.s₀.heap.get? b=some o/\X.H₀ b=none
 su:X.base.objs.size<=X.s₀.heap.objs.size
 Ht:∀ b o,X.base.get? b=some o->b ∉ X.ex
 Pt:∀ b∈X.ex,b ∉ X.fs
 xk:X.s₀.heap.FunFrames X.base X.outer
 Kw:∀ b∈X.fs,X.H₀ b=none
structure Qa(X:Cx)(pins:List (Addr × Obj))(σ:List (Option V))(H:Hp)(s:Shared):Prop where
 ok:X.Ok
 os:s.os=X.s₀.os
 bare:ej s.gens
 base:Un X.fs X.ex X.H₀ H X.s₀.heap s.heap
 loc:∃ m,s.heap.Ns X.env.locals m/\∀ (i:Nat) (x:qa) (v:V),X.N[i]?=some x->σ[i]?=some (some v)->VG X.env.scope x->∃ u,ie v u/\L3 X.env s.heap m x u
 cell:∀ x c,X.env.cells.lookup x=some c->∃ v,s.heap.IsCell c v
 free:H X.env.locals=none
 lh:∀ x c,X.env.cells.lookup x=some c->H c=none
 pin:∀ p∈X.pn++pins,s.heap.get? p.1=some p.2/\H p.1=none/\p.1≠X.env.locals/\p.1 ∉ X.fs/\∀ v,p.2.data≠.cell v
 md:xj X.prog X.w H s.heap
 len:σ.length=X.N.length
section
variable{X:Cx}{pins:List (Addr × Obj)}{σ:List (Option V)}{H H':Hp}{s:Shared}{h':Heap}
theorem Cx.Ok.mK(ok:X.Ok){b:Addr}{o:Obj}(e:X.base.get? b=some o):b ∉ X.fs:=λa=>by
 have:=(ok.xk.mem a).1;rw[e]at this;cases this
theorem Qa.bs(I:Qa X pins σ H s):∀ b o,X.base.get? b=some o->s.heap.get? b=some o/\H b=none:=λb o e=>
 ⟨I.base.keep b o (I.ok.bs b o e).1 (I.ok.bs b o e).2 (I.ok.mK e) (I.ok.Ht b o e),I.base.free b o (I.ok.bs b o e).1 (I.ok.bs b o e).2 (I.ok.Ht b o e)⟩
theorem Qa.bk(I:Qa X pins σ H s):∀ b o,X.base.get? b=some o->s.heap.get? b=some o:=λb o e=>(I.bs b o e).1
theorem Qa.mod(I:Qa X pins σ H s):Mod X.K X.mg X.base:=I.ok.mod
theorem Qa.Yj(I:Qa X pins σ H s):X.K.In s.heap:=I.ok.mod.Ex.keeps I.bk
theorem Qa.nolimit(I:Qa X pins σ H s):s.heap.NoLimit:=I.ok.mod.nolimit.keeps I.bk
theorem Qa.fr(I:Qa X pins σ H s):∃ m,Fr X.base X.env.locals s.heap m:=
 let ⟨m,a,_⟩:=I.loc
 ⟨m,a,I.bk,Wb I.ok.su I.ok.above⟩
theorem Qa.lt(I:Qa X pins σ H s):X.env.locals<s.heap.objs.size:=let ⟨_,a,_⟩:=I.loc;a.lt
theorem Qa.sz(I:Qa X pins σ H s):X.s₀.heap.objs.size<=s.heap.objs.size:=Wb I.ok.above (ff I.lt)
theorem Qa.vD(I:Qa X pins σ H s){a:Addr}(h:s.heap.objs.size<=a):a ∉ X.fs:=λb=>by
 obtain⟨_,o,c,_⟩:=I.ok.xk.mem b;exact absurd (Ga (va c) (Wb I.sz h)) (Jf _)
theorem Qa.mE(I:Qa X pins σ H s):∀ x c,X.env.cells.lookup x=some c->c≠X.env.locals:=λx c e z=>by
 obtain⟨v,o,f,d⟩:=I.cell x c e;obtain⟨m,⟨i,h,g,b,a,_⟩,_⟩:=I.loc;rw[z,b]at f;cases f;rw[a]at d;cases d
theorem Qa.xk(I:Qa X pins σ H s):s.heap.FunFrames X.base X.outer:=by
 have a:∀ l,(∀ b∈Wk l,b∈X.fs)->X.s₀.heap.FunFrames X.base l->s.heap.FunFrames X.base l:=by
  intro l;induction l with
  |nil=>intro _ _;trivial
  |cons env r p=>
   intro g j;obtain⟨i,⟨L,o,f,k,m,h⟩,n⟩:=j;have c:=g L (by unfold Wk;rw[Og,f];exact Ua);obtain⟨q,e⟩:=I.base.slot L o m (I.ok.Kw L c) c λz=>I.ok.Pt L z c;exact⟨i,⟨L,_,f,k,e,h⟩,p (λb d=>g b (by unfold Wk;rw[Og,f];exact Ka _ d)) n⟩
 exact a X.outer (λ_ d=>d) I.ok.xk
theorem Qa.stack(I:Qa X pins σ H s):s.heap.FunFrames X.base X.stack:=by
 rcases I.ok.Zr with e|⟨e,a⟩
 ·rw[e];exact I.xk
 ·rw[e];obtain⟨m,b,_⟩:=I.loc;refine .cons (by rw[I.ok.kind];decide) a b ?_ I.xk;exact Heap.get?_none_of_le (Wb I.ok.su I.ok.above)
theorem Qa.Bu(I:Qa X pins σ H s):∀ b∈Wk X.stack,b∈X.env.locals::X.fs:=λb a=>by
 rcases I.ok.Zr with e|⟨e,c⟩
 ·rw[e]at a;exact Ka _ a
 ·rw[e]at a;unfold Wk at a;rw[Og,c]at a;exact a
theorem Qa.Vl(I:Qa X pins σ H s):∀ b∈Wk X.stack,H b=none:=λb a=>by
 rcases Da.mp (I.Bu b a)with e|a
 ·rw[e];exact I.free
 ·obtain⟨_,o,c,_⟩:=I.ok.xk.mem a;exact I.base.free b o c (I.ok.Kw b a) λz=>I.ok.Pt b z a
theorem Qa.step{T:Array Um}{t':Nat}{Z:zw}{ch:List Addr}(I:Qa X pins σ H s)
  (h:∀ b∈ch,(b∈X.ex\/X.s₀.heap.objs.size<=b)/\b≠X.env.locals/\(∀ x c,X.env.cells.lookup x=some c->c≠b)/\∀ p∈X.pn++pins,p.1≠b)
  (j:∀ b o,b≠X.env.locals->b ∉ X.fs->b ∉ ch->s.heap.get? b=some o->H b=none->h'.get? b=some o)
  (B:∀ b o,b≠X.env.locals->b∈X.fs->b ∉ ch->s.heap.get? b=some o->H b=none->∃ R,h'.get? b=some { o with slots:=R }) (f:∀ b o,b ∉ ch->s.heap.get? b=some o->H b=none->H' b=none)
  (D:∀ b o,b ∉ ch->s.heap.get? b=some o->∃ L,h'.get? b=some L)
  (N:∀ b xs,H b=some (.ub xs)->H' b=some (.ub xs)) (G:∀ b o u,H b=some (.Vb o u)->H' b=some (.Vb o u)) (M:∀ b O,H b=some (.eo O)->∃ J,H' b=some (.eo (O++J)))
  (ns:∀ m,s.heap.Ns X.env.locals m->h'.Ns X.env.locals m) (Q:xj X.prog X.w H' h') (hg:ej T) :
  Qa X pins σ H' { s with heap:=h',gens:=T,drawn:=Z,toks:=t' }:=by
 have K:∀ b o,X.s₀.heap.get? b=some o->b≠X.env.locals:=λb o e=>ya (Ga (va e) I.ok.above);have A:∀ b o,X.s₀.heap.get? b=some o->b ∉ X.ex->b ∉ ch:=λb o e a C=>by
  rcases(h b C).1 with z|z
  ·exact a z
  ·exact absurd (Ga (va e) z) (Jf _)
 have g:∀ x c,X.env.cells.lookup x=some c->∀ v,s.heap.IsCell c v->h'.IsCell c v:=λx c e v ⟨o,E,P⟩=>by
  have t:=λz=>(h c z).2.2.1 x c e rfl;by_cases U:c∈X.fs
  ·obtain⟨R,q⟩:=B c o (I.mE x c e) U t E (I.lh x c e);exact⟨_,q,P⟩
  ·exact⟨o,j c o (I.mE x c e) U t E (I.lh x c e),P⟩
 refine⟨I.ok,I.os,hg,⟨λb o e n C a=>?_,λb o e n C a=>?_,λb o e n a=>?_,λb o e a=>?_,λb xs e=>N b xs (I.base.Vj b xs e),λb o xs e=>G b o xs (I.base.Ti b o xs e),λb O e=>?_⟩,?_,λx c e=>?_,?_,λx c e=>?_,λp V=>?_,Q,I.len⟩
 ·exact j b o (K b o e) C (A b o e a) (I.base.keep b o e n C a) (I.base.free b o e n a)
 ·obtain⟨R,y⟩:=I.base.slot b o e n C a;obtain⟨S,F⟩:=B b _ (K b o e) C (A b o e a) y (I.base.free b o e n a);exact⟨S,F⟩
 ·obtain⟨L,y⟩:=I.base.there b o e a;exact f b L (A b o e a) y (I.base.free b o e n a)
 ·obtain⟨L,y⟩:=I.base.there b o e a;exact D b L (A b o e a) y
 ·obtain⟨m1,y⟩:=I.base.Gj b O e;obtain⟨m2,F⟩:=M b _ y;exact⟨m1++m2,by rw[F,im]⟩
 ·obtain⟨m,hn,hl⟩:=I.loc;refine⟨m,ns m hn,λi x v y F e3=>?_⟩;obtain⟨u,r,l⟩:=hl i x v y F e3;refine⟨u,r,?_⟩;rcases l with l|⟨k,c,e,z⟩
  ·exact .inl l
  ·exact .inr ⟨k,c,e,g x c e _ z⟩
 ·obtain⟨v,z⟩:=I.cell x c e;exact⟨v,g x c e v z⟩
 ·obtain⟨m,⟨o,_,_,E,_⟩,_⟩:=I.loc;exact f _ o (λz=>(h _ z).2.1 rfl) E I.free
 ·obtain⟨v,o,E,P⟩:=I.cell x c e;exact f c o (λz=>(h c z).2.2.1 x c e rfl) E (I.lh x c e)
 ·obtain⟨e,n,W,Y,d⟩:=I.pin p V;have t:=λz=>(h p.1 z).2.2.2 p V rfl;exact⟨j p.1 p.2 W Y t e n,f p.1 p.2 t e n,W,Y,d⟩
theorem Qa.un{t':Nat}(I:Qa X pins σ H s)(u:Un X.fs [] H H' s.heap h')(g:xj X.prog X.w H' h'):Qa X pins σ H' { s with heap:=h',toks:=t' }:=by
 obtain⟨m,⟨o,p,l,h,r⟩,_⟩:=id I.loc;obtain⟨v,i⟩:=u.any h I.free (by simp);exact I.step (ch:=[]) (λ_ z=>nomatch z) (λb o _ f _ e n=>u.keep b o e n f (by simp)) (λb o _ f _ e n=>u.slot b o e n f (by simp)) (λb o _ e n=>u.free b o e n (by simp)) (λb o _ e=>u.there b o e (by simp)) u.Vj u.Ti u.Gj (λq j=>by
  obtain⟨t,d,c,a,k⟩:=j;rw[h]at a;cases a;exact⟨_,d,c,i,k⟩) g I.bare
theorem Qa.call{k:Array Um}{t':Nat}{q:zw}{ch:List Addr}(I:Qa X pins σ H s)(u:Un (Wk X.stack) ch H H' s.heap h')(j:xj X.prog X.w H' h')(v:ej k)
  (d:∀ b∈ch,(b∈X.ex\/X.s₀.heap.objs.size<=b)/\b≠X.env.locals/\(∀ x c,X.env.cells.lookup x=some c->c≠b)/\∀ p∈X.pn++pins,p.1≠b) :
  Qa X pins σ H' { s with heap:=h',gens:=k,drawn:=q,toks:=t' }:=by
 obtain⟨m,⟨o,C,B,l,r⟩,_⟩:=id I.loc;obtain⟨F,i⟩:=u.any l I.free λz=>(d _ z).2.1 rfl;exact I.step d (λb o i t a e n=>u.keep b o e n (λz=>(Da.mp (I.Bu b z)).elim i t) a) (λb o _ _ a e n=>u.any e n a) (λb o a e n=>u.free b o e n a) (λb o a e=>u.there b o e a) u.Vj u.Ti u.Gj (λD y=>by
  obtain⟨E,h,g,f,A⟩:=y;rw[l]at f;cases f;exact⟨_,h,g,i,A⟩) j v
theorem Qa.turned{t':Nat}{it:Addr}(I:Qa X pins σ H s)(k:∀ b o,b≠it->s.heap.get? b=some o->h'.get? b=some o)(y:H it=none)(f:it≠X.env.locals)
  (i:it∈X.ex\/X.s₀.heap.objs.size<=it) (j:∀ x c,X.env.cells.lookup x=some c->c≠it) (l:∀ p∈X.pn++pins,p.1≠it):Qa X pins σ H { s with heap:=h',toks:=t' }:=by
 have d:∀ b u,H b=some u->b≠it:=λb u e z=>by rw[z,y]at e;cases e
 refine I.step (ch:=[it]) (λb t=>?_) (λb o _ _ a e _=>k b o (λz=>a (by simp[z])) e) (λb o _ _ a e _=>⟨o.slots,k b o (λz=>a (by simp[z])) e⟩) (λ_ _ _ _ n=>n)
  (λb o a e=>⟨o,k b o (λz=>a (by simp[z])) e⟩) (λ_ _ e=>e) (λ_ _ _ e=>e) (λb B e=>⟨#[],by rw[e];simp⟩) (λm w=>?_) (λb u e=>?_) I.bare
 ·have e:b=it:=by simpa using t
  subst e;exact⟨i,f,j,l⟩
 ·obtain⟨o,h,g,A,r⟩:=w;exact⟨o,h,g,k _ o (Te f) A,r⟩
 ·refine(I.md b u e).cm (λc v a q=>k c v ?_ q) (λ_ q=>q) λ_ _ q=>q;rcases a with z|z
  ·rw[z];exact d b u e
  ·exact d c _ z
theorem Qa.tok(I:Qa X pins σ H s)(t:Nat):Qa X pins σ H { s with toks:=t }:=I.un Un.refl I.md
theorem Qa.kept{t':Nat}(I:Qa X pins σ H s)(k:∀ b u,s.heap.get? b=some u->h'.get? b=some u):Qa X pins σ H { s with heap:=h',toks:=t' }:=I.un (Un.kept k) (I.md.kept k)
theorem Qa.laid{a:Addr}{o:HO}{t':Nat}(I:Qa X pins σ H s)(k:∀ b u,s.heap.get? b=some u->h'.get? b=some u)(c:s.heap.objs.size<=a)(d:mn X.prog X.w (ic H a o) h' a o) :
  Qa X pins σ (ic H a o) { s with heap:=h',toks:=t' }:=I.un (Un.laid k c (I.md.fresh c)) (I.md.laid k c d)
theorem Qa.write{x e:Addr}{o:HO}{t':Nat}(I:Qa X pins σ H s)(f:wE (H x))(d:e=x\/H e=some (.own x))(k:∀ b u,b≠e->s.heap.get? b=some u->h'.get? b=some u)(a:∃ u,h'.get? e=some u)
  (c:mn X.prog X.w (ic H x o) h' x o):Qa X pins σ (ic H x o) { s with heap:=h',toks:=t' }:=I.un (Un.write f d k a) (I.md.write f d k a c)
theorem Qa.fk{a:List (Addr × Obj)}(I:Qa X pins σ H s)(h:∀ p∈a,s.heap.get? p.1=some p.2/\H p.1=none/\p.1≠X.env.locals/\p.1 ∉ X.fs/\∀ v,p.2.data≠.cell v):Qa X a σ H s:=
 ⟨I.ok,I.os,I.bare,I.base,I.loc,I.cell,I.free,I.lh,λp b=>(ak.mp b).elim (λz=>I.pin p (Ra _ z)) (h p),I.md,I.len⟩
theorem FL{N:List qa}(e:N.Nodup){i j:Nat}{x:qa}(a:N[i]?=some x)(b:N[j]?=some x):i=j:=by
 obtain⟨f,c⟩:=na.mp a;obtain⟨g,d⟩:=na.mp b;exact(List.getElem_inj e).mp (c.trans d.symm)
theorem nS{M:zl}{A:Ha}{E:Value->Shared->Prop}{i:Nat}{x:qa}{v:V}{u:Value}{Q:Unit->Shared->Prop}(I:Qa X pins σ H s)(hN:X.N.Nodup)(T:X.N[i]?=some x)(B:Loc X.env.scope x)(r:ie v u)
  (h:∀ s',Qa X pins (σ.set i (some v)) H s'->(∃ a,Fd a s.heap s'.heap/\(a=X.env.locals\/X.env.cells.lookup x=some a))->Q () s') (hf:X.fn x=true\/X.env.scope.names.lookup x=some .local:=by first|exact .inl rfl|exact .inr rfl|assumption):wpAny M A (TF X.env x u) Q E s:=by
 obtain⟨m,hn,hl⟩:=id I.loc;have S:(X.env.scope.kind == .class || (X.env.scope.kind == .module && X.env.locals != X.env.globals))=false:=by rw[I.ok.kind];rfl
 have F:i<σ.length:=by rw[I.len];exact(na.mp T).1
 have J:=I.mE;have l:∀ {a:Addr} {h':Heap},(∃ o,s.heap.get? a=some o/\H a=none)->Fd a s.heap h'->xj X.prog X.w H h':=fun {a h'} ha f b ob e=>by
  obtain⟨_,_,C⟩:=ha;refine(I.md b ob e).cm (λc w' t q=>(f.2 c ?_).trans q) (λ_ q=>q) λ_ _ q=>q;rintro rfl;rcases t with rfl|t
  ·rw[C]at e;cases e
  ·rw[C]at t;cases t
 rcases B with G|G
 ·refine wpAny_storeName_local G hn (λh' a0 f=>?_) S;obtain⟨oL,_,_,a1,_⟩:=id hn;refine h _ ⟨I.ok,I.os,I.bare,⟨λb o e n K B=>?_,λb o e n K B=>?_,I.base.free,λb o e B=>?_,I.base.Vj,I.base.Ti,I.base.Gj⟩,⟨_,a0,λj y v' g D e3=>?_⟩,λy c e=>?_,I.free,I.lh,λp hp=>?_,l ⟨oL,a1,I.free⟩ f,by simpa using I.len⟩ ⟨_,f,.inl rfl⟩
  ·exact(f.2 b (ya (Ga (va e) I.ok.above))).trans (I.base.keep b o e n K B)
  ·obtain⟨sl,g⟩:=I.base.slot b o e n K B;exact⟨sl,(f.2 b (ya (Ga (va e) I.ok.above))).trans g⟩
  ·obtain⟨o',g⟩:=I.base.there b o e B;exact⟨o',(f.2 b (ya (Ga (va e) I.ok.above))).trans g⟩
  ·by_cases O:j=i
   ·subst O;rw[T]at g;cases g;rw[Pj F]at D;cases D;exact⟨u,r,.inl ⟨G,by simp⟩⟩
   ·rw[Pk (Te O)]at D;obtain⟨u',r',q⟩:=hl j y v' g D e3;refine⟨u',r',?_⟩;rcases q with⟨k,e⟩|⟨k,c,e,z⟩
    ·refine .inl ⟨k,?_⟩;have:y≠x:=λe=>O (FL hN g (e ▸ T));simp[this,e]
    ·exact .inr ⟨k,c,e,z.sameBut f (J y c e)⟩
  ·obtain⟨w',z⟩:=I.cell y c e;exact⟨w',z.sameBut f (J y c e)⟩
  ·obtain⟨e,n,Z,nf,d⟩:=I.pin p hp;exact⟨(f.2 p.1 Z).trans e,n,Z,nf,d⟩
 ·have L:X.fn x=true:=by
   rcases hf with z|z
   ·exact z
   ·rw[z]at G;cases G
  obtain⟨c,t⟩:=I.ok.has x (.inl G);obtain⟨w',z⟩:=I.cell x c t;refine wpAny_storeName_cell I.ok.kind G t z (λh' P f=>?_);obtain⟨oc,U,W⟩:=id z;refine h { s with heap:=h' } ⟨I.ok,I.os,I.bare,⟨λb o e n K B=>?_,λb o e n K B=>?_,I.base.free,λb o e B=>?_,I.base.Vj,I.base.Ti,I.base.Gj⟩,⟨m,hn.sameBut f (Te (J x c t)),λj y v' g D e3=>?_⟩,λy Y e=>?_,I.free,I.lh,λp hp=>?_,l ⟨oc,U,I.lh x c t⟩ f,by simpa using I.len⟩ ⟨c,f,.inr t⟩
  ·exact(f.2 b (ya (Ga (va e) (I.ok.aA x c L t)))).trans (I.base.keep b o e n K B)
  ·obtain⟨sl,g⟩:=I.base.slot b o e n K B;exact⟨sl,(f.2 b (ya (Ga (va e) (I.ok.aA x c L t)))).trans g⟩
  ·obtain⟨o',g⟩:=I.base.there b o e B;exact⟨o',(f.2 b (ya (Ga (va e) (I.ok.aA x c L t)))).trans g⟩
  ·by_cases O:j=i
   ·subst O;rw[T]at g;cases g;rw[Pj F]at D;cases D;exact⟨u,r,.inr ⟨.inl G,c,t,P⟩⟩
   ·rw[Pk (Te O)]at D;obtain⟨u',r',q⟩:=hl j y v' g D e3;refine⟨u',r',?_⟩;rcases q with q|⟨k,Y,e,z'⟩
    ·exact .inl q
    ·refine .inr ⟨k,Y,e,z'.sameBut f ?_⟩;rintro rfl;exact O (FL hN g (I.ok.inj _ _ _ e t ▸ T))
  ·by_cases R:Y=c
   ·subst R;exact⟨_,P⟩
   ·obtain⟨w2,z2⟩:=I.cell y Y e;exact⟨w2,z2.sameBut f R⟩
  ·obtain⟨e,n,Z,nf,d⟩:=I.pin p hp;refine⟨(f.2 p.1 ?_).trans e,n,Z,nf,d⟩;intro q;rw[q,U]at e;have q':=Ya e;exact d w' (by rw[<-q'];exact W)
theorem aG{M:zl}{A:Ha}{E:Value->Shared->Prop}{i:Nat}{x:qa}{v:V}{u:Value}{Q:Unit->Shared->Prop}(I:Qa X pins σ H s)(c:X.N.Nodup)(e:X.N[i]?=some x)(f:Loc X.env.scope x)(r:ie v u)
  (h:∀ a,Qa X pins (σ.set i (some v)) H a->Q () a) (d:X.fn x=true\/X.env.scope.names.lookup x=some .local:=by first|exact .inl rfl|exact .inr rfl|assumption):wpAny M A (TF X.env x u) Q E s:=
 nS I c e f r (λa b _=>h a b) d
theorem Qa.Gw{s':Shared}{ch:List Addr}(I:Qa X pins σ H s)(g:s'.os=s.os)(u:Un (Wk X.stack) ch H H' s.heap s'.heap)(d:xj X.prog X.w H' s'.heap)(f:ej s'.gens)
  (a:∀ b∈ch,(b∈X.ex\/X.s₀.heap.objs.size<=b)/\b≠X.env.locals/\(∀ x c,X.env.cells.lookup x=some c->c≠b)/\∀ p∈X.pn++pins,p.1≠b):Qa X pins σ H' s':=by
 obtain⟨h',i,h,t',j⟩:=s';have e:=g;subst e;exact I.call u d f a
end
abbrev XK:=Value->Option Addr->Hp->Prop
abbrev St:=List (Option V)
abbrev VK:=V->Hp->Prop
abbrev TE:=St->Hp->VK->Prop
abbrev TT:=St->Hp->(Bool->Hp->Prop)->Prop
abbrev TA:=St->Hp->(List V->Hp->Prop)->Prop
structure El where
 nx:St->Hp->Prop
 rt:VK
 bk:St->Hp->Prop:=λ_ _=>False
 ct:St->Hp->Prop:=λ_ _=>False
abbrev TS:=El->St->Hp->Prop
def EP(X:Cx)(a:List (Addr × Obj))(d:St)(Q:VK)(u:Value)(c:Shared):Prop:=∃ v b,Qa X a d b c/\ie v u/\Q v b
def TP(X:Cx)(a:List (Addr × Obj))(e:St)(Q:Bool->Hp->Prop)(b:Bool)(d:Shared):Prop:=∃ c,Qa X a e c d/\Q b c
def AP(X:Cx)(a:List (Addr × Obj))(f:St)(Q:List V->Hp->Prop)(e:List Value)(d:Shared):Prop:=∃ c b,Qa X a f b d/\jf c e/\Q c b
def SP(X:Cx)(b:List (Addr × Obj))(D:El)(f:Flow)(d:Shared):Prop:=
 match f with
 | .next=>∃ a c,Qa X b a c d/\D.nx a c
 | .brk=>∃ a c,Qa X b a c d/\D.bk a c
 | .cont=>∃ a c,Qa X b a c d/\D.ct a c
 | .ret u=>∃ v a c,Qa X b a c d/\ie v u/\D.rt v c
def PE(X:Cx)(e:Fa)(t:TE):Prop:=
 ∀ (a:List (Addr × Obj)) (s:Shared) (σ:St) (H:Hp) (Q:VK),Qa X a σ H s->t σ H Q->wpAny (model X.prog X.w) X.A (Ib e X.env) (EP X a σ Q) X.xe s
def PT(X:Cx)(e:Fa)(t:TT):Prop:=
 ∀ (a:List (Addr × Obj)) (s:Shared) (σ:St) (H:Hp) (Q:Bool->Hp->Prop),Qa X a σ H s->t σ H Q->wpAny (model X.prog X.w) X.A (PB e X.env (Ib e X.env)) (TP X a σ Q) X.xe s
def PW(X:Cx)(e:Fa)(t:TT):Prop:=
 ∀ (a:Io Value) (pins:List (Addr × Obj)) (s:Shared) (σ:St) (H:Hp) (Q:Bool->Hp->Prop),Qa X pins σ H s->t σ H Q->wpAny (model X.prog X.w) X.A (PB e X.env a) (TP X pins σ Q) X.xe s
theorem PW.pt{X:Cx}{e:Fa}{t:TT}(h:PW X e t):PT X e t:=h _
def PA(X:Cx)(b:List Fa)(t:TA):Prop:=
 ∀ (a:Me) (pins:List (Addr × Obj)) (s:Shared) (σ:St) (H:Hp) (Q:List V->Hp->Prop),Qa X pins σ H s->t σ H Q->wpAny (model X.prog X.w) X.A (spliced (Bc a (la b X.env))) (AP X pins σ Q) X.xe s
def PS(X:Cx)(b:Stmt)(t:TS):Prop:=
 ∀ (a:List (Addr × Obj)) (s:Shared) (σ:St) (H:Hp) (D:El),Qa X a σ H s->t D σ H->wpAny (model X.prog X.w) X.A (exec b X.env) (SP X a D) X.xe s
def Xu(X:Cx)(b:List Stmt)(t:TS):Prop:=
 ∀ (a:List (Addr × Obj)) (s:Shared) (σ:St) (H:Hp) (D:El),Qa X a σ H s->t D σ H->wpAny (model X.prog X.w) X.A (execs b X.env) (SP X a D) X.xe s
theorem Re{c:Type}{t:Io c}{Q b:c->Shared->Prop}{M:zl}{A:Ha}{E:Value->Shared->Prop}{s:Shared}(h:wpAny M A t Q E s)(d:∀ a s,Q a s->b a s):wpAny M A t b E s:=Xb h d λ_ _ x=>x
section
variable{X:Cx}
theorem bin{a b:Fa}{l m:TE}(q:PE X a l)(r:PE X b m){c:List (Addr × Obj)}{s:Shared}{e:St}{H:Hp}{R:V->V->Hp->Prop}(I:Qa X c e H s)(h:l e H λx k=>m e k λy d=>R x y d)
  {n:Type} {Q:n->Shared->Prop} {f:Value->Value->Io n}
  (t:∀ v u j x y d,Qa X c e d j->ie x v->ie y u->R x y d->wpAny (model X.prog X.w) X.A (f v u) Q X.xe j) :
  wpAny (model X.prog X.w) X.A (Ib a X.env) (λv g=>wpAny (model X.prog X.w) X.A (Ib b X.env) (λu i=>wpAny (model X.prog X.w) X.A (f v u) Q X.xe i) X.xe g) X.xe s:=by
 refine Re (q c s e H _ I h) λv s1 ⟨x,k,o,B,q1⟩=>?_;refine Re (r c s1 e k _ o q1) λu j ⟨y,d,p,C,z⟩=>?_;exact t v u j x y d p B C z
noncomputable def Ŭ(i:Nat):TE:=λa H Q=>∃ v,a[i]?=some (some v)/\Q v H
noncomputable def tC(v:V):TE:=λ_ H Q=>Q v H
theorem V0{i:Nat}{x:qa}{k:Me}(o:X.N[i]?=some x)(w:VG X.env.scope x)(j:(x == ("__debug__" : qa))=false:=by decide)(g:(x == ("__classdict__" : qa))=false:=by decide):PE X (.Name x k) (Ŭ i):=by
 intro f s y H Q I h;obtain⟨v,e,h⟩:=h;obtain⟨m,t,p⟩:=I.loc;obtain⟨u,r,l⟩:=p i x v o e w;have b:EP X f y Q u s:=⟨v,H,I,r,h⟩
 rcases l with⟨d,q⟩|⟨d,c,n,a⟩
 ·exact GB (mz I.ok.kind d t q b) j
 ·rcases d with d|d
  ·exact GB (sA I.ok.kind d n a b) j
  ·exact GB (wpAny_loadName_free I.ok.kind d n a b g) j
theorem P2{i j pos}:PE X (.Constant (.int i) j pos) (tC (.int i)):=λ_ _ _ H _ I h=>wpAny_Constant_int ⟨.int i,H,I.tok _,⟨_,rfl⟩,h⟩
theorem Ķ{b j pos}:PE X (.Constant (.bool b) j pos) (tC (.bl b)):=λ_ _ _ H _ I h=>Constant_bool ⟨.bl b,H,I,rfl,h⟩
theorem AY{j pos}:PE X (.Constant .none j pos) (tC .Mc):=λ_ _ _ H _ I h=>Constant_none ⟨.Mc,H,I,rfl,h⟩
theorem K3{x j pos}:PE X (.Constant (.str x) j pos) (tC (.str x)):=λ_ _ _ H _ I h=>Calls.Constant_str ⟨.str x,H,I.tok _,⟨_,rfl⟩,h⟩
def Gl(X:Cx)(x:qa):Prop:=X.env.kindOf x=some .globalImplicit
theorem MA{E:Value->Shared->Prop}{a:List (Addr × Obj)}{s:Shared}{f:St}{H:Hp}{x:qa}{u:Value}{b:Me}{Q:Value->Shared->Prop}(I:Qa X a f H s)(d:Gl X x)(e:X.mg x=some u)(h:Q u s)
  (c:(x == ("__debug__" : qa))=false:=by decide):wpAny (model X.prog X.w) X.A (Ib (.Name x b) X.env) Q E s:=
 Cq I.ok.kind d (Calls.loadGlobal_global (by rw[I.ok.glob];exact I.mod.glob.keeps I.bk) e h) c
theorem Gy{E:Value->Shared->Prop}{a:List (Addr × Obj)}{s:Shared}{k:St}{H:Hp}{x:qa}{u:Value}{b:Me}{Q:Value->Shared->Prop}(I:Qa X a k H s)(f:Gl X x)(g:X.mg x=none)(j:bootBuiltins x=some u)(h:Q u s)
  (i:x ≠ "__name__":=by decide) (e:(x == ("__debug__" : qa))=false:=by decide):wpAny (model X.prog X.w) X.A (Ib (.Name x b) X.env) Q E s:=by
 obtain⟨l,c,d⟩:=I.mod.blt;exact Cq I.ok.kind f (Calls.loadGlobal_builtin (by rw[I.ok.glob];exact I.mod.glob.keeps I.bk) g (by rw[I.ok.blt];exact c.keeps I.bk) ((d x i).trans j) h) e
theorem AI{x:qa}{v:V}{u:Value}{a:Me}(c:Gl X x)(d:X.mg x=some u)(r:ie v u)(b:(x == ("__debug__" : qa))=false:=by decide):PE X (.Name x a) (tC v):=
 λ_ _ _ H _ I h=>MA I c d ⟨v,H,I,r,h⟩ b
theorem IQ{x:qa}{v:V}{u:Value}{a:Me}(c:Gl X x)(d:X.mg x=none)(f:bootBuiltins x=some u)(r:ie v u)(e:x ≠ "__name__":=by decide)(b:(x == ("__debug__" : qa))=false:=by decide):PE X (.Name x a) (tC v):=
 λ_ _ _ H _ I h=>Gy I c d f ⟨v,H,I,r,h⟩ e b
variable{a b:Fa}{ta tb:TE}{pos:Me}
def PC(X:Cx)(f:jt)(a b:Fa)(t:TE):Prop:=
 ∀ (c:List (Addr × Obj)) (s:Shared) (σ:St) (H:Hp) (Q:VK),Qa X c σ H s->t σ H Q->
  wpAny (model X.prog X.w) X.A (Ib a X.env) (λv d=>wpAny (model X.prog X.w) X.A (Ib b X.env) (λu e=>wpAny (model X.prog X.w) X.A (Gc f v u) (EP X c σ Q) X.xe e) X.xe d) X.xe s
theorem ŭ(b:Fa){a:jt}(h:a≠.In)(e:a≠.NotIn):Yf a b=false:=by
 have c:(a == bO)=false:=by cases a<;>first|rfl|exact absurd rfl h
 have d:(a == eD)=false:=by cases a<;>first|rfl|exact absurd rfl e
 cases b<;>simp[Yf,c,d]
noncomputable def tB(t:TE):TT:=λb H Q=>t b H λx a=>∃ c,x=.bl c/\Q c a
theorem yn9{g:jt}{t:TE}(h:PC X g a b t)(f:Yf g b=false:=by first|exact ŭ _ (by decide) (by decide)|rfl):PT X (.Compare a [g] [b] pos) (tB t):=by
 intro e s m H Q I k;refine dy (Re (h e s m H _ I k) λv n f=>Re f λu o j=>Re j λc s3 ⟨x,H1,i,l,q1⟩=>?_) f;obtain⟨d,rfl,q⟩:=q1;cases l;exact Zc ⟨H1,i,q⟩
theorem B3{e:Fa}{t:TE}(h:PE X e t)(f:∀ a,PB e X.env a=(do let v <-a;pi e.pos;qf [v] (truthy v)):=by intro _;rfl):PT X e (tB t):=by
 intro b s j H Q I g;refine isTrue_plain (Re (h b s j H _ I g) λv s1 ⟨x,H1,c,i,q1⟩=>?_) (f _);obtain⟨d,rfl,q⟩:=q1;cases i;exact Zc ⟨H1,c,q⟩
variable{tA tB':TT}{nh:List Fa}
noncomputable def ı(t u:TT):TT:=λb H Q=>t b H λc a=>if c=true then u b a Q else Q false a
noncomputable def n8(t u:TT):TT:=λb H Q=>t b H λc a=>if c=true then Q true a else u b a Q
noncomputable def Z9(t:TT):TT:=λb H Q=>t b H λc a=>Q (!c) a
theorem J5(d:PT X a tA):PW X (.BoolOp .And [a] pos) tA:=by
 intro i b s f H Q I h;refine isTrue_and (Re (d b s f H Q I h) λc g e=>?_);cases c with
 |true=>exact isTrue_and_nil e
 |false=>exact e
theorem yoe(d:PT X a tA):PW X (.BoolOp .Or [a] pos) tA:=by
 intro i b s f H Q I h;refine isTrue_or (Re (d b s f H Q I h) λc g e=>?_);cases c with
 |false=>exact isTrue_or_nil e
 |true=>exact e
theorem Ū(g:PT X a tA)(i:PW X (.BoolOp .And (b::nh) pos) tB'):PW X (.BoolOp .And (a::b::nh) pos) (ı tA tB'):=by
 intro j d s f H Q I h;refine isTrue_and (Re (g d s f H _ I h) λc s1 ⟨H1,e,q1⟩=>?_);cases c with
 |true=>exact i j d s1 f H1 Q e q1
 |false=>exact⟨H1,e,q1⟩
theorem BZ(g:PT X a tA)(i:PW X (.BoolOp .Or (b::nh) pos) tB'):PW X (.BoolOp .Or (a::b::nh) pos) (n8 tA tB'):=by
 intro j d s f H Q I h;refine isTrue_or (Re (g d s f H _ I h) λc s1 ⟨H1,e,q1⟩=>?_);cases c with
 |true=>exact⟨H1,e,q1⟩
 |false=>exact i j d s1 f H1 Q e q1
theorem ā(e:PT X a tA):PT X (.UnaryOp .Not a pos) (Z9 tA):=by
 intro b s f H Q I h;exact isTrue_not (e b s f H (λc d=>Q (!c) d) I h)
noncomputable def yv2(ta tb:TE):TE:=λb H Q=>ta b H λx a=>∃ c,x=.bl c/\if c=true then tb b a Q else Q (.bl false) a
noncomputable def xbv(ta tb:TE):TE:=λb H Q=>ta b H λx a=>∃ c,x=.bl c/\if c=true then Q (.bl true) a else tb b a Q
noncomputable def Z1(ta:TE):TE:=λb H Q=>ta b H λx a=>∃ c,x=.bl c/\Q (.bl (!c)) a
theorem Ż{op}{t:TE}(h:PE X a t):PE X (.BoolOp op [a] pos) t:=λb s d H Q I c=>BoolOp_one (h b s d H Q I c)
theorem W1(g:PE X a ta)(i:PE X (.BoolOp .And (b::nh) pos) tb):PE X (.BoolOp .And (a::b::nh) pos) (yv2 ta tb):=by
 intro d s f H Q I h;refine BoolOp_and (Re (g d s f H _ I h) λv s1 ⟨x,H1,e,j,q1⟩=>?_);obtain⟨c,rfl,q1⟩:=q1;cases j;refine Zc ?_;cases c with
 |true=>exact i d s1 f H1 Q e q1
 |false=>exact⟨.bl false,H1,e,rfl,q1⟩
theorem Ŋ(g:PE X a ta)(i:PE X (.BoolOp .Or (b::nh) pos) tb):PE X (.BoolOp .Or (a::b::nh) pos) (xbv ta tb):=by
 intro d s f H Q I h;refine BoolOp_or (Re (g d s f H _ I h) λv s1 ⟨x,H1,e,j,q1⟩=>?_);obtain⟨c,rfl,q1⟩:=q1;cases j;refine Zc ?_;cases c with
 |false=>exact i d s1 f H1 Q e q1
 |true=>exact⟨.bl true,H1,e,rfl,q1⟩
theorem G1(e:PE X a ta):PE X (.UnaryOp .Not a pos) (Z1 ta):=by
 intro b s g H Q I h;refine UnaryOp_ (Re (e b s g H _ I h) λv s1 ⟨x,H1,d,f,q1⟩=>?_);obtain⟨c,rfl,q1⟩:=q1;cases f;exact not_of (Zc ⟨.bl (!c),H1,d,rfl,q1⟩)
noncomputable def Ø(t:TT)(ta tb:TE):TE:=λa H Q=>t a H λc b=>if c=true then ta a b Q else tb a b Q
theorem Q9{c:Fa}(k:PT X c tA)(i:PE X a ta)(j:PE X b tb):PE X (.IfExp c a b pos) (Ø tA ta tb):=by
 intro e s f H Q I h;refine wpAny_IfExp (Re (k e s f H _ I h) λd s1 ⟨H1,g,q1⟩=>?_);cases d with
 |true=>exact i e s1 f H1 Q g q1
 |false=>exact j e s1 f H1 Q g q1
end
def Cg(K:W.Frag)(H:Hp)(a:Addr)(xs:List V):Prop:=
 Rd H a (.Ca xs)\/
  ∃ (o:Obj) (b:Array Value) (n:Nat),K.lookup a=some o/\o.cls=.type "list"/\o.dict=none/\o.data=.seq b n/\b.size<=sizeLine/\jf xs b.toList
def Wi(K:W.Frag)(H:Hp)(a:Addr)(xs:List V):Prop:=
 Rd H a (.ub xs)\/
  ∃ (o:Obj) (b:Array Value) (n:Nat),K.lookup a=some o/\o.cls=.type "tuple"/\o.data=.seq b n/\b.size<=sizeLine/\jf xs b.toList
noncomputable def yxm:Value->Option V
 | .none=>some .Mc
 | .bool b=>some (.bl b)
 | .int i _=>some (.int i)
 | .str x _=>some (.str x)
 | .bytes b _=>some (.lH b)
 | .float b _=>some (.FB b)
 | .ref a=>some (.ref a)
 | .type n=>some (.ty n)
 |_=>none
theorem ie.abs{x:V}{u:Value}(r:ie x u):yxm u=some x:=by
 cases x with
 |Mc=>cases r;rfl
 |bl _=>cases r;rfl
 |int _=>obtain⟨t,rfl⟩:=r;rfl
 |str _=>obtain⟨t,rfl⟩:=r;rfl
 |lH _=>obtain⟨t,rfl⟩:=r;rfl
 |FB _=>obtain⟨t,rfl⟩:=r;rfl
 |ref _=>cases r;rfl
 |ty _=>cases r;rfl
theorem ie.inj{x y:V}{u:Value}(r:ie x u)(q:ie y u):x=y:=Ya (r.abs.symm.trans q.abs)
theorem jf.inj:∀ {xs a:List V} {us:List Value},jf xs us->jf a us->xs=a
 |_,_,_,.nil,.nil=>rfl
 |_,_,_,.cons r t,.cons b c=>by rw[r.inj b,jf.inj t c]
section
variable{X:Cx}{pins:List (Addr × Obj)}{σ:St}{H:Hp}{s:Shared}{a:Addr}{xs ys:List V}
theorem Cg.of{K:W.Frag}(h:H a=some (.Ca xs)):Cg K H a xs:=.inl (.inl h)
theorem Wi.of{K:W.Frag}(h:H a=some (.ub xs)):Wi K H a xs:=.inl (.inl h)
theorem Qa.list(I:Qa X pins σ H s)(h:Cg X.K H a xs):∃ its:List Value,jf xs its/\PlainL s.heap a its.toArray/\xs.length<=sizeLine:=by
 rcases h with h|⟨o,its,n,d,b,c,f,g,r⟩
 ·obtain⟨z,its,n,r,e⟩:=h.ok I.md;exact⟨its,r,⟨_,n,e,rfl,rfl,rfl⟩,z⟩
 ·refine⟨its.toList,r,⟨o,n,I.Yj a o d,b,c,by simpa using f⟩,?_⟩;have e:=r.length;simp only[Eb]at e;omega
theorem Qa.tuple(I:Qa X pins σ H s)(h:Wi X.K H a xs):∃ its:List Value,jf xs its/\yw s.heap a its.toArray/\xs.length<=sizeLine:=by
 rcases h with h|⟨o,its,n,c,b,d,f,r⟩
 ·obtain⟨z,its,r,p⟩:=h.ok I.md;exact⟨its,r,p,z⟩
 ·refine⟨its.toList,r,⟨o,I.Yj a o c,b,n,by simpa using d⟩,?_⟩;have e:=r.length;simp only[Eb]at e;omega
theorem Qa.Dl(I:Qa X pins σ H s)(h:Cg X.K H a xs)(h':Cg X.K H a ys):xs=ys:=by
 obtain⟨its,r,⟨o,n,e,_,_,d⟩,_⟩:=I.list h;obtain⟨b,g,⟨j,i,f,_,_,c⟩,_⟩:=I.list h';rw[e]at f;cases f;rw[d]at c;injection c with d1 _;have:its=b:=by simpa using Ef Array.toList d1
 subst this;exact r.inj g
theorem Qa.pv(I:Qa X pins σ H s)(h:Wi X.K H a xs)(h':Wi X.K H a ys):xs=ys:=by
 obtain⟨its,r,⟨o,e,_,n,d⟩,_⟩:=I.tuple h;obtain⟨b,g,⟨j,f,_,i,c⟩,_⟩:=I.tuple h';rw[e]at f;cases f;rw[d]at c;injection c with d1 _;have:its=b:=by simpa using Ef Array.toList d1
 subst this;exact r.inj g
end
abbrev Cx.Zn(X:Cx)(E:Value->Shared->Prop):Cx:={ X with xe:=E }
noncomputable abbrev Cx.eq(X:Cx):Cx:=X.Zn λ_ _=>False
theorem Cx.Ok.Zn{X:Cx}(ok:X.Ok)(E:Value->Shared->Prop):(X.Zn E).Ok:=
 ⟨ok.mod,ok.kind,ok.glob,ok.blt,ok.above,ok.inj,ok.has,ok.aA,ok.hd,ok.frames,ok.Zr,ok.GA,ok.bs,ok.su,ok.Ht,ok.Pt,ok.xk,ok.Kw⟩
theorem Cx.Ok.Fi{X:Cx}{E:Value->Shared->Prop}(ok:(X.Zn E).Ok):X.Ok:=
 ⟨ok.mod,ok.kind,ok.glob,ok.blt,ok.above,ok.inj,ok.has,ok.aA,ok.hd,ok.frames,ok.Zr,ok.GA,ok.bs,ok.su,ok.Ht,ok.Pt,ok.xk,ok.Kw⟩
section
variable{X:Cx}{pins:List (Addr × Obj)}{σ:St}{H:Hp}{s:Shared}{E:Value->Shared->Prop}
theorem Qa.Zn(I:Qa X pins σ H s)(E:Value->Shared->Prop):Qa (X.Zn E) pins σ H s:=⟨I.ok.Zn E,I.os,I.bare,I.base,I.loc,I.cell,I.free,I.lh,I.pin,I.md,I.len⟩
theorem Qa.Fi(I:Qa (X.Zn E) pins σ H s):Qa X pins σ H s:=⟨I.ok.Fi,I.os,I.bare,I.base,I.loc,I.cell,I.free,I.lh,I.pin,I.md,I.len⟩
theorem SP.Fi{D:El}{f:Flow}{c:Shared}(h:SP (X.Zn E) pins D f c):SP X pins D f c:=by
 cases f with
 |next=>obtain⟨a,b,I,q⟩:=h;exact⟨a,b,I.Fi,q⟩
 |brk=>obtain⟨a,b,I,q⟩:=h;exact⟨a,b,I.Fi,q⟩
 |cont=>obtain⟨a,b,I,q⟩:=h;exact⟨a,b,I.Fi,q⟩
 |ret u=>obtain⟨v,a,b,I,r,q⟩:=h;exact⟨v,a,b,I.Fi,r,q⟩
theorem PE.eq{e:Fa}{t:TE}(h:PE X.eq e t):PE X e t:=λpins s σ H Q I c=>
 Xb (h pins s σ H Q (I.Zn _) c) (λ_ _ ⟨v,a,b,r,q⟩=>⟨v,a,b.Fi,r,q⟩) λ_ _ z=>False.elim z
theorem PT.eq{e:Fa}{t:TT}(h:PT X.eq e t):PT X e t:=λpins s σ H Q I c=>
 Xb (h pins s σ H Q (I.Zn _) c) (λ_ _ ⟨a,b,q⟩=>⟨a,b.Fi,q⟩) λ_ _ z=>False.elim z
theorem Xu.eq{a:List Stmt}{t:TS}(h:Xu X.eq a t):Xu X a t:=λpins s σ H D I b=>
 Xb (h pins s σ H D (I.Zn _) b) (λ_ _ q=>q.Fi) λ_ _ z=>False.elim z
end
section
variable{X:Cx}{st:Stmt}{nh:List Stmt}{t u:TS}{e:Fa}{te:TE}{pos:Me}
noncomputable def U2:TS:=λD a H=>D.nx a H
noncomputable def š(t u:TS):TS:=λD a H=>t { D with nx:=u D } a H
theorem YY:Xu X [] U2:=λ_ _ a H _ I h=>yl ⟨a,H,I,h⟩
theorem J1(e:PS X st t)(g:Xu X nh u):Xu X (st::nh) (š t u):=by
 intro a s j H D I h;refine LF (Re (e a s j H { D with nx:=u D } I h) λf i q=>?_);cases f with
 |next=>
  obtain⟨b,c,d,q⟩:=q;exact g a i b c D d q
 |ret v=>exact q
 |brk=>exact q
 |cont=>exact q
theorem yfq(b:PS X st t):Xu X [st] t:=by
 intro a s c H D I h;refine LF (Re (b a s c H D I h) λf d q=>?_);cases f with
 |next=>exact yl q
 |ret v=>exact q
 |brk=>exact q
 |cont=>exact q
theorem Qa.quiet{a:List (Addr × Obj)}{b:St}{H:Hp}{s:Shared}(I:Qa X a b H s):interactive X.env=false:=by simp[interactive,I.ok.kind]
noncomputable def θ(te:TE):TS:=λD a H=>te a H λ_ b=>D.nx a b
theorem hX(d:PE X e te)(f:lj e none pos.line X.env=pure false:=by rfl):PS X (.Expr e pos) (θ te):=by
 intro a s b H D I h;exact wpAny_Expr_any (Re (d a s b H _ I h) λv s1 ⟨x,H1,c,g,q1⟩=>⟨b,H1,c,q1⟩) I.quiet f
noncomputable def W4(te:TE):TS:=λD a H=>te a H D.rt
theorem yn7(d:PE X e te):PS X (.Return (some e) pos) (W4 te):=by
 intro a s b H D I h;exact wpAny_Return_some (Re (d a s b H _ I h) λv s1 ⟨x,H1,c,f,q1⟩=>⟨x,b,H1,c,f,q1⟩)
noncomputable def ń(c:TT)(t u:TS):TS:=λD a H=>c a H λb d=>if b=true then t D a d else u D a d
theorem yuj{c:Fa}{a b:List Stmt}{i:TT}(l:PT X c i)(j:Xu X a t)(k:Xu X b u):PS X (.If c a b pos) (ń i t u):=by
 intro e s f H D I h;refine wpAny_If (Re (l e s f H _ I h) λd s1 ⟨H1,g,q1⟩=>?_);cases d with
 |true=>exact j e s1 f H1 D g q1
 |false=>exact k e s1 f H1 D g q1
end
abbrev TG:=V->St->Hp->(St->Hp->Prop)->Prop
abbrev jA:=List V->St->Hp->(St->Hp->Prop)->Prop
def PG(X:Cx)(a:Fa)(t:TG):Prop:=
 ∀ (b:List (Addr × Obj)) (s:Shared) (σ:St) (H:Hp) (v:V) (u:Value) (Q:St->Hp->Prop),Qa X b σ H s->ie v u->t v σ H Q->
  wpAny (model X.prog X.w) X.A (rl a X.env u) (λ_ e=>∃ c d,Qa X b c d e/\Q c d) X.xe s
def qF(X:Cx)(f:List Fa)(t:jA):Prop:=
 ∀ (a:List (Addr × Obj)) (s:Shared) (σ:St) (H:Hp) (d:List V) (us:List Value) (Q:St->Hp->Prop),Qa X a σ H s->jf d us->t d σ H Q->
  wpAny (model X.prog X.w) X.A (assignInOrder ((Cf f X.env).map (·.2)) us) (λ_ e=>∃ b c,Qa X a b c e/\Q b c) X.xe s
abbrev GI:=V->V->V->Hp->(Hp->Prop)->Prop
def DL(X:Cx)(t:GI):Prop:=
 ∀ (a:List (Addr × Obj)) (s:Shared) (σ:St) (H:Hp) (o i v:V) (d c u:Value) (Q:Hp->Prop),Qa X a σ H s->ie o d->ie i c->ie v u->t o i v H Q->
  wpAny (model X.prog X.w) X.A (ju d c u) (λ_ e=>∃ b,Qa X a σ b e/\Q b) X.xe s
abbrev gH:=V->V->Hp->VK->Prop
def KN(X:Cx)(b:Nu)(t:gH):Prop:=
 ∀ (a:List (Addr × Obj)) (s:Shared) (σ:St) (H:Hp) (x y:V) (v u:Value) (Q:VK),Qa X a σ H s->ie x v->ie y u->t x y H Q->
  wpAny (model X.prog X.w) X.A (inplaceOp b v u) (EP X a σ Q) X.xe s
section
variable{X:Cx}{pos:Me}
noncomputable def qP(i:Nat):TG:=λv a H Q=>Q (a.set i (some v)) H
theorem M9{i:Nat}{x:qa}(c:X.N.Nodup)(e:X.N[i]?=some x)(f:Loc X.env.scope x)(d:X.fn x=true\/X.env.scope.names.lookup x=some .local:=by first|exact .inl rfl|exact .inr rfl|assumption):PG X (.Name x pos) (qP i):=by
 intro a s j H v u Q I r h;exact OC (aG I c e f r (λg b=>⟨_,H,b,h⟩) d)
noncomputable def bY:jA:=λa b H Q=>a=[]/\Q b H
noncomputable def F8(t:TG)(u:jA):jA:=λc d H Q=>∃ v r,c=v::r/\t v d H λa b=>u r a b Q
theorem yfh:qF X [] bY:=by
 intro a s b H d c Q I r h;obtain⟨e,h⟩:=h;subst e;cases r;exact assignInOrder_nil ⟨b,H,I,h⟩
theorem Y4{e:Fa}{b:List Fa}{t:TG}{u:jA}(g:PG X e t)(i:qF X b u)
  (j:(Cf (e::b) X.env).map (·.2)=rl e X.env::(Cf b X.env).map (·.2):=by rfl):qF X (e::b) (F8 t u):=by
 intro a s l H o m Q I r h;obtain⟨v,n,f,h⟩:=h;subst f;cases r with
 |cons r k=>
  rw[j];refine assignInOrder_cons (Re (g a s l H _ _ _ I r h) λ_ s1 ⟨c,H1,d,q1⟩=>?_);exact i a s1 c H1 _ _ Q d k q1
noncomputable def Q2(K:W.Frag)(n:Nat)(t:jA):TG:=λv b H Q=>∃ a xs,v=.ref a/\Wi K H a xs/\xs.length=n/\t xs b H Q
theorem QW{d:List Fa}{k:Nat}{t:jA}{n:Nat}(p:X.Vh=true)(h:qF X d t)
  (w:(Cf d X.env).length=n:=by rfl) (f:(Cf d X.env).findIdx? (·.1)=none:=by rfl):PG X (.Tuple d k pos) (Q2 X.K n t):=by
 intro c s j H v u Q I r g;obtain⟨a,xs,m,x,q,g⟩:=g;subst m;cases r;obtain⟨its,i,y,A⟩:=I.tuple x;refine assign_Tuple_tuple (I.ok.hd p) y (by simp[w,<-q,i.length]) f λh' z=>?_;have l:Qa X c j H { s with heap:=h' }:=I.kept λb o e=>z b o (ya (va e)) e;exact h c _ j H xs _ Q l (by simpa using i) g
noncomputable def ς(f e:TE)(t:GI):TG:=λv a H Q=>f a H λo b=>e a b λi c=>t o i v c λd=>Q a d
theorem RM{o i:Fa}{f e:TE}{t:GI}(p:PE X o f)(n:PE X i e)(q:DL X t)
  (C:∀ v,rl (.Subscript o i pos) X.env v=(do
   let b <-qf [v] (Ib o X.env);let c <-qf [v,b] (Ib i X.env)
   pi pos
   qf [v,b,c] (ju b c v)
   fD [v,b,c] []):=by intro _;rfl):PG X (.Subscript o i pos) (ς f e t):=by
 intro a s d H v u Q I r h;refine aa (Ac (Re (p a s d H _ I h) λb s1 ⟨x,H1,k,A,q1⟩=>?_));refine aa (Ac (Re (n a s1 d H1 _ k q1) λc s2 ⟨y,g,l,B,w⟩=>?_));refine aa (Nv (aa (Ac (Re (q a s2 d g x y v b c u _ l A B r w) λ_ s3 ⟨j,m,z⟩=>?_))));exact wpAny_release ⟨d,j,m,z⟩
noncomputable def cV(c:TE)(g:TG):TS:=λD a H=>c a H λx b=>g x a b D.nx
theorem MN{tg e:Fa}{b:TE}{g:TG}(i:PE X e b)(j:PG X tg g)(k:Jo [tg] e pos.line X.env=pure false:=by rfl)(l:Ko [tg] e X.env=pure none:=by rfl)
  (f:(Cf [tg] X.env).map (·.2)=[rl tg X.env]:=by rfl):PS X (.Assign [tg] e pos) (cV b g):=by
 intro a s c H D I h;refine wpAny_Assign_stores (Re (i a s c H _ I h) λv s1 ⟨x,H1,d,m,q1⟩=>?_) k l;rw[f];exact Re (j a s1 c H1 x v _ d m q1) λ_ n q=>q
theorem LX{i:Nat}{x:qa}{e:Fa}{c:TE}{a:Me}(g:X.N.Nodup)(l:X.N[i]?=some x)(n:Loc X.env.scope x)(j:PE X e c)(m:lj e (some (.Name x a)) pos.line X.env=pure false:=by rfl)(k:X.fn x=true\/X.env.scope.names.lookup x=some .local:=by first|exact .inl rfl|exact .inr rfl|assumption) :
  PS X (.Assign [.Name x a] e pos) (cV c (qP i)):=by
 intro b s p H D I h;refine wpAny_Assign_Name (Re (j b s p H _ I h) λv s1 ⟨y,H1,d,o,q1⟩=>?_) m;exact aG d g l n o (λq f=>⟨_,H1,f,q1⟩) k
noncomputable def O4(i:Nat)(d:TE)(e:gH):TS:=λD a H=>∃ x,a[i]?=some (some x)/\d a H λy b=>e x y b λz c=>D.nx (a.set i (some z)) c
theorem Ŝ{i:Nat}{x:qa}{e:Fa}{B:TE}{o:Nu}{C:gH}{f:Me}(M:X.N.Nodup)(t:X.N[i]?=some x)(n:Loc X.env.scope x)(P:PE X e B)(U:KN X o C)(Q:X.fn x=true\/X.env.scope.names.lookup x=some .local:=by first|exact .inl rfl|exact .inr rfl|assumption) :
  PS X (.AugAssign (.Name x f) o e pos) (O4 i B C):=by
 intro a s E H D I h;obtain⟨v,L,h⟩:=h;obtain⟨m,T,R⟩:=I.loc;have p:VG X.env.scope x:=by rcases n with k|k;exact .inl k;exact .inr (.inl k)
 obtain⟨u,r,l⟩:=R i x v t L p;refine wpAny_AugAssign_Name ?_;have q:wpAny (model X.prog X.w) X.A (Ib e X.env) (λw g=>wpAny (model X.prog X.w) X.A (inplaceOp o u w) (λr j=>wpAny (model X.prog X.w) X.A (TF X.env x r) (λ_=>SP X a D .next) X.xe j) X.xe g) X.xe s:=by
  refine Re (P a s E H _ I h) λw s1 ⟨y,H1,G,W,q1⟩=>?_;refine Re (U a s1 E H1 v y u w _ G r W q1) λz s2 ⟨zv,F,J,Y,V⟩=>?_;exact aG J M t n Y (λZ K=>⟨_,F,K,V⟩) Q
 rcases l with⟨b,S⟩|⟨b,c,O,d⟩
 ·exact mz I.ok.kind b T S q
 ·rcases b with b|b
  ·exact sA I.ok.kind b O d q
  ·rcases n with k|k
   ·have:X.env.scope.names.lookup x=some .free:=b;rw[k]at this;cases this
   ·have:X.env.scope.names.lookup x=some .free:=b;rw[k]at this;cases this
noncomputable def jQ(f:Int->Int->Int):gH:=λx y H Q=>∃ i j,x=.int i/\y=.int j/\Q (.int (f i j)) H
theorem AZ:KN X .Add (jQ λi j=>i+j):=by
 intro a s f H x y v u Q I d e h;obtain⟨i,j,b,c,q⟩:=h;subst b;subst c;obtain⟨t,rfl⟩:=d;obtain⟨t',rfl⟩:=e;exact iadd_int ⟨.int _,H,I.tok _,⟨_,rfl⟩,q⟩
end
section
variable{X:Cx}{pos:Me}
end
structure It where
 go:Nat->Hp->Prop
 fC:Nat->Hp->V->Hp->Prop
 stop:Nat->Hp->Prop
def yn(X:Cx)(a:List (Addr × Obj))(H:Hp)(b:Addr):Prop:=
 H b=none/\b≠X.env.locals/\b ∉ X.fs/\(b∈X.ex\/X.s₀.heap.objs.size<=b)/\(∀ x c,X.env.cells.lookup x=some c->c≠b)/\∀ p∈X.pn++a,p.1≠b
theorem Qa.sr{X:Cx}{a:List (Addr × Obj)}{i:St}{H f:Hp}{s:Shared}{b:Addr}(I:Qa X a i H s)(d:s.heap.objs.size<=b)(g:f b=none):yn X a f b:=by
 refine⟨g,gf (Ga I.lt d),I.vD d,.inr (Wb I.sz d),λx c e z=>?_,λp h z=>?_⟩
 ·obtain⟨v,q⟩:=I.cell x c e;exact absurd (Ga q.lt (by rw[z];exact d)) (Jf _)
 ·exact absurd (Ga (va (I.pin p h).1) (by rw[z];exact d)) (Jf _)
structure Mr(P:za)(w:Ma)(K:W.Frag)(tg:Fa)(J:It)(fp:List Addr)(it:Addr)(tn:Nat->Heap->Prop):Prop where
 mem:it∈fp
 obj:∀ i h,tn i h->∀ b∈fp,∃ o,h.get? b=some o/\∀ v,o.data≠.cell v
 keep:∀ i h h',tn i h->(∀ b∈fp,∀ o,h.get? b=some o->h'.get? b=some o)->tn i h'
 item:∀ (X:Cx),X.prog=P->X.w=w->X.K=K->X.Vh=true->∀ (i:Nat) (pins:List (Addr × Obj)) (s:Shared) (σ:St) (H:Hp) (E:Value->Shared->Prop),Qa X pins σ H s->(∀ b∈fp,yn X pins H b)->tn i s.heap->J.go i H->
  wpAny (model P w) X.A (pyNext (.ref it)) (λr s1=>∃ u,r=some u/\
   wpAny (model P w) X.A (letOwnedTupleGo tg (.ref it) u) (λ_ s2=>∃ x H',Qa X pins σ H' s2/\ie x u/\J.fC i H x H'/\tn (i+1) s2.heap/\∀ b∈fp,H' b=none) E s1) E s
 done:∀ (X:Cx),X.prog=P->X.w=w->X.K=K->X.Vh=true->∀ (i:Nat) (pins:List (Addr × Obj)) (s:Shared) (σ:St) (H:Hp) (E:Value->Shared->Prop),Qa X pins σ H s->(∀ b∈fp,yn X pins H b)->tn i s.heap->J.stop i H->
  wpAny (model P w) X.A (pyNext (.ref it)) (λr s1=>r=none/\Qa X pins σ H s1) E s
 self:∀ (A:Ha) (i:Nat) (s:Shared) (Q:Value->Shared->Prop) (E:Value->Shared->Prop),tn i s.heap->Q (.ref it) s->wpAny (model P w) A (pyIter (.ref it)) Q E s
abbrev TI:=St->Hp->(It->Hp->Prop)->Prop
def sR(X:Cx)(a:List (Addr × Obj))(i:St)(tg:Fa)(R:It->Hp->Prop)(d:Value)(g:Shared):Prop:=
 ∃ (f:Addr) (e:List Addr) (h:Nat->Heap->Prop) (J:It) (c:Hp),d=.ref f/\Qa X a i c g/\Mr X.prog X.w X.K tg J e f h/\h 0 g.heap/\(∀ b∈e,yn X a c b)/\R J c
def PI(X:Cx)(tg b:Fa)(d:TI):Prop:=
 ∀ (a:List (Addr × Obj)) (s:Shared) (σ:St) (H:Hp) (R:It->Hp->Prop),Qa X a σ H s->d σ H R->
  wpAny (model X.prog X.w) X.A (Ib b X.env) (λv c=>wpAny (model X.prog X.w) X.A (pyIter v) (sR X a σ tg R) X.xe c) X.xe s
theorem pG {M : zl} {A : Ha} {E : Value -> Shared -> Prop} {s : Shared} {tg : Fa} {b : Addr} {u : Value} {o : Obj} {n : String} {c : Array Value} {Q : Unit -> Shared -> Prop} (g : s.heap.get? b = some o) (d : o.cls = .type n) (e : o.data = .fields c)
    (f : ["enumerate","zip","dict_itemiterator","dict_reverseitemiterator","odict_iterator","itertools.zip_longest","itertools.pairwise"].contains n = false) (a : Q () s) : wpAny M A (letOwnedTupleGo tg (.ref b) u) Q E s := by
  cases tg <;> first
    | exact da a
    | (cases u <;> first
        | exact da a
        | (refine aa (Gp g ?_)
           rw [d, e];show wpAny M A (if (["enumerate","zip","dict_itemiterator","dict_reverseitemiterator","odict_iterator","itertools.zip_longest","itertools.pairwise"].contains n && c[0]? == some (Nc _)) = true then _ else _) Q E s;rw [ua (by intro h; rw [f, Bool.false_and] at h; cases h)];exact da a))
noncomputable def lL(K:W.Frag)(a:Addr):It:=
 ⟨λi H=>∃ xs x,Cg K H a xs/\xs[i]?=some x,λi H x b=>b=H/\∀ xs,Cg K H a xs->xs[i]?=some x,λi H=>∃ xs,Cg K H a xs/\xs.length<=i⟩
noncomputable def JL(K:W.Frag)(a:Addr):It:=
 ⟨λi H=>∃ xs x,Wi K H a xs/\xs[i]?=some x,λi H x b=>b=H/\∀ xs,Wi K H a xs->xs[i]?=some x,λi H=>∃ xs,Wi K H a xs/\xs.length<=i⟩
noncomputable def aH(b:Int)(n:Nat):It:=⟨λi _=>i<n,λi H x a=>a=H/\x=.int (b+i),λi _=>n<=i⟩
theorem TX{P:za}{w:Ma}{K:W.Frag}{tg:Fa}(a l:Addr):Mr P w K tg (lL K a) [l] l (λi h=>h.IsListIter l a i) where
 mem:=by simp
 obj:=λi h f b j=>by
  have e:b=l:=by simpa using j
  subst e;obtain⟨o,e,c,d⟩:=f;exact⟨o,e,λv z=>by rw[d]at z;cases z⟩
 keep:=λi h h' f k=>f.at λo e=>k l (by simp) o e
 item:=by
  intro X D G C M i g s N H E I n f F;subst D G C;obtain⟨xs,x,q,J⟩:=F;obtain⟨its,L,p,U⟩:=I.list q;obtain⟨u,S,V⟩:=L.get J;obtain⟨r,t,R,y,A,B⟩:=n l (by simp);refine wpAny_pyNext_list_item f p.isList (by simpa using S) λh' m Y=>?_;have O:Qa X g N H { s with heap:=h' }:=I.turned (λb o j e=>(Y.2 b j).trans e) r t y A B;obtain⟨o,e,c,d⟩:=id m;exact⟨u,rfl,pG e c d (by decide) ⟨x,H,O,V,⟨rfl,λys T=>by rw[I.Dl T q];exact J⟩,m,λb j=>(n b j).1⟩⟩
 done:=by
  intro X D G C M i g s N H E I n f F;subst D G C;obtain⟨xs,q,J⟩:=F;obtain⟨its,L,p,U⟩:=I.list q;obtain⟨r,t,R,y,A,B⟩:=n l (by simp);have Z:=L.length;exact wpAny_pyNext_list_end (I.ok.hd M) f p.isList (by simp;omega) λh' Q=>⟨rfl,I.turned (λb o j e=>Q b o j e) r t y A B⟩
 self:=λ_ _ _ _ _ f h=>wpAny_pyIter_listiter f h
theorem ą{P:za}{w:Ma}{K:W.Frag}{tg:Fa}(a l:Addr):Mr P w K tg (JL K a) [l] l (λi h=>h.IsTupleIter l a i) where
 mem:=by simp
 obj:=λi h f b j=>by
  have e:b=l:=by simpa using j
  subst e;obtain⟨o,e,c,d⟩:=f;exact⟨o,e,λv z=>by rw[d]at z;cases z⟩
 keep:=λi h h' f k=>f.at λo e=>k l (by simp) o e
 item:=by
  intro X D G C M i g s N H E I n f F;subst D G C;obtain⟨xs,x,q,J⟩:=F;obtain⟨its,L,p,U⟩:=I.tuple q;obtain⟨u,S,V⟩:=L.get J;obtain⟨r,t,R,y,A,B⟩:=n l (by simp);refine wpAny_pyNext_tuple_item f (p) (by simpa using S) λh' m Y=>?_;have O:Qa X g N H { s with heap:=h' }:=I.turned (λb o j e=>(Y.2 b j).trans e) r t y A B;obtain⟨o,e,c,d⟩:=id m;exact⟨u,rfl,pG e c d (by decide) ⟨x,H,O,V,⟨rfl,λys T=>by rw[I.pv T q];exact J⟩,m,λb j=>(n b j).1⟩⟩
 done:=by
  intro X D G C M i g s N H E I n f F;subst D G C;obtain⟨xs,q,J⟩:=F;obtain⟨its,L,p,U⟩:=I.tuple q;obtain⟨r,t,R,y,A,B⟩:=n l (by simp);have Z:=L.length;exact wpAny_pyNext_tuple_end (I.ok.hd M) f (p) (by simp;omega) λh' Q=>⟨rfl,I.turned (λb o j e=>Q b o j e) r t y A B⟩
 self:=λ_ _ _ _ _ f h=>wpAny_pyIter_tupleiter f h
theorem Ĕ{P:za}{w:Ma}{K:PySem.W.Frag}{tg:Fa}(c:Addr)(l:Int)(n:Nat):Mr P w K tg (aH l n) [c] c (λi h=>IsRangeIter h c (l+(i:Nat) * 1) ((n:Int) - (i:Nat)) 1) where
 mem:=by simp
 obj:=λi h a b f=>by
  have e:b=c:=by simpa using f
  subst e;exact⟨_,a,λv z=>by
   have O:=z;cases O⟩
 keep:=λi h h' a k=>k c (by simp) _ a
 item:=by
  intro X y C x A i d s D H E I j a B;subst y C x;obtain⟨m,p,J,q,r,u⟩:=j c (by simp);have W:=Walks.range (prog:=X.prog) (w:=X.w) (I.ok.hd A) c l 1 n;refine W.item i s _ _ B a λv h' N L g M=>?_;obtain⟨t,rfl⟩:=L;have F:Qa X d D H { s with heap:=h',toks:=N }:=I.turned (λb o f e=>M b o (by simpa using f) e) m p q r u;refine⟨_,rfl,pG g rfl rfl (by decide) ⟨.int (l+i),H,F,⟨t,?_⟩,⟨rfl,rfl⟩,g,λb f=>(j b f).1⟩⟩;rw[Int.mul_one]
 done:=by
  intro X y C x A i d s D H E I j a B;subst y C x;obtain⟨m,p,J,q,r,u⟩:=j c (by simp);exact wpAny_pyNext_range_end (I.ok.hd A) a (by have:n<=i:=B;omega) λh' G=>⟨rfl,I.turned (λb o f e=>G b o f e) m p q r u⟩
 self:=λ_ _ _ _ _ a h=>wpAny_pyIter_rangeiter a h
section
variable{X:Cx}{tg:Fa}
theorem uV{d:List (Addr × Obj)}{g:St}{H:Hp}{s:Shared}{R:It->Hp->Prop}{E:Value->Shared->Prop}{a c:Int}{t u v:Tok}{h:Nat}(I:Qa X d g H s)(k:-(2 ^ 62)<=a)(l:a<2 ^ 62)(m:-(2 ^ 62)<=c)(n:c<2 ^ 62)
  (q:R (aH a (c - a).toNat) H):wpAny (model X.prog X.w) X.A (pyIter (.ref s.heap.objs.size)) (sR X d g tg R) E { s with heap:=s.heap.push { cls:=.type "range",data:=.fields #[.int a t,.int c u,.int 1 v] },toks:=h }:=by
 refine wpAny_pyIter_range (IsRange.new ..) (small_one k l m n) ?_;have f:Qa X d g H { s with heap:=s.heap.push { cls:=.type "range",data:=.fields #[.int a t,.int c u,.int 1 v] },toks:=h }:=I.kept λb o e=>ba _ e;refine⟨(s.heap.push { cls:=.type "range",data:=.fields #[.int a t,.int c u,.int 1 v] }).objs.size,[(s.heap.push { cls:=.type "range",data:=.fields #[.int a t,.int c u,.int 1 v] }).objs.size],_,_,H,rfl,
  f.kept λb o e=>ba _ e,Ĕ _ a (c - a).toNat,?_,λb p=>?_,q⟩
 ·have i:a+(0:Nat) * 1=a:=by simp
  have j:((c - a).toNat) - (0:Nat)=UF a c 1:=by rw[rangeSize_one];split<;>omega
  rw[i,j];exact Ba _ rfl
 ·have e:b=(s.heap.push { cls:=.type "range",data:=.fields #[.int a t,.int c u,.int 1 v] }).objs.size:=by simpa using p
  subst e;exact f.sr (wa _) (f.md.fresh (wa _))
def Q1(b:TA):TI:=λd H R=>b d H λc a=>∃ j:Int,c=[.int j]/\-(2 ^ 62)<=j/\j<2 ^ 62/\R (aH 0 j.toNat) a
def OZ(b:TA):TI:=λd H R=>b d H λc a=>∃ i j:Int,c=[.int i,.int j]/\(-(2 ^ 62)<=i/\i<2 ^ 62/\-(2 ^ 62)<=j/\j<2 ^ 62)/\R (aH i (j - i).toNat) a
theorem zq8{a:Fa}{d:TA}{p c:Me}(i:Gl X "range")(k:X.mg "range" = none)(g:PA X [a] d)(l:la [a] X.env=[(false,Ib a X.env)]:=by rfl):PI X tg (.Call (.Name "range" p) [a] [] c) (Q1 d):=by
 intro b s u H R I h;refine Call_ (Gy I i k boot_range (Ie (Re (g c b s u H _ I h) λus s1 ⟨v,H1,f,n,q1⟩=>?_) l rfl));obtain⟨j,e,q1,m,q⟩:=q1;subst e;cases n with
 |cons r o=>
  cases o;obtain⟨t,rfl⟩:=r;exact call_range_1 (uV f (by omega) (by omega) q1 m (by simpa using q))
theorem G0{a b:Fa}{k:TA}{p f:Me}(n:Gl X "range")(o:X.mg "range" = none)(m:PA X [a,b] k)(u:la [a,b] X.env=[(false,Ib a X.env),(false,Ib b X.env)]:=by rfl)(c:la [b] X.env=[(false,Ib b X.env)]:=by rfl) :
  PI X tg (.Call (.Name "range" p) [a,b] [] f) (OZ k):=by
 intro d s A H R I h;refine Call_ (Gy I n o boot_range (Ie (Re (m f d s A H _ I h) λus s1 ⟨B,H1,l,z,q1⟩=>?_) (by rw[u,c]) (by rw[c];rfl)));obtain⟨i,j,e,⟨q1,v,w,x⟩,q⟩:=q1;subst e;cases z with
 |cons r g=>
  cases g with
  |cons y g=>
   cases g;obtain⟨t,rfl⟩:=r;obtain⟨t',rfl⟩:=y;exact call_range_2 (uV l q1 v w x q)
noncomputable def Y5(k:TI)(g:TG)(j:TS):TS:=λD a H=>k a H λJ f=>∃ W:Nat->Nat->St->Hp->Prop,(∃ m,W 0 m a f)/\∀ i m a H,W i m a H->
 (J.stop i H/\D.nx a H)\/(J.go i H/\∃ N:St->Hp->Prop,(∀ c b,N c b->∃ e,e<m/\W (i+1) e c b)/\∀ x b,J.fC i H x b->g x a b λd h=>j { D with nx:=N,ct:=N,bk:=D.nx } d h)
noncomputable def wD(a:List Addr)(h:Heap):List (Addr × Obj):=a.filterMap λb=>(h.get? b).map λo=>(b,o)
theorem oH{a:List Addr}{h:Heap}{b:Addr}{o:Obj}(c:b∈a)(e:h.get? b=some o):(b,o)∈wD a h:=um.mpr ⟨b,c,by rw[e];rfl⟩
theorem G8{a:List Addr}{h:Heap}{p:Addr × Obj}(f:p∈wD a h):p.1∈a/\h.get? p.1=some p.2:=by
 obtain⟨b,d,e⟩:=um.mp f;cases q:h.get? b with
 |none=>rw[q]at e;cases e
 |some o=>
  rw[q]at e;have c:=Ya e;subst c;exact⟨d,q⟩
theorem Qa.pinned{a:List (Addr × Obj)}{h:St}{H:Hp}{s:Shared}{c:List Addr}(I:Qa X a h H s)(l:∀ b∈c,yn X a H b)(m:∀ b∈c,∃ o,s.heap.get? b=some o/\∀ v,o.data≠.cell v):Qa X (a++wD c s.heap) h H s:=
 I.fk λp n=>(ak.mp n).elim (λz=>I.pin p (Pa _ z)) λz=>by
  obtain⟨g,e⟩:=G8 z;obtain⟨i,j,k,_⟩:=l p.1 g;obtain⟨o,f,d⟩:=m p.1 g;rw[e]at f;cases f;exact⟨e,i,j,k,d⟩
theorem Qa.Kl{a pl:List (Addr × Obj)}{b:St}{H:Hp}{s:Shared}(I:Qa X (a++pl) b H s):Qa X a b H s:=I.fk λp c=>I.pin p (Pa _ (Ra _ c))
theorem RT{q:Fa}{body:List Stmt}{wi:TI}{g:TG}{tb:TS}{Y:Me}(K:Ps (model X.prog X.w) X.A X.env X.xe)(hc:X.Vh=true)(hi:PI X tg q wi)(hg:PG X tg g)(p:Xu X body tb)
  (hs:∀ x,Sh q X.env x=pure x:=by intro _;rfl):PS X (.For tg q body [] Y) (Y5 wi g tb):=by
 intro a s σ H D I h;refine wpAny_For (Re (hi a s σ H _ I h) λv s1 h1=>Re h1 λa2 s2 h2=>?_) hs;obtain⟨it,F,tn,J,H2,e,I2,T,a0,f2,W,⟨m0,w0⟩,Q⟩:=h2;subst e;have t:∀ {B:Hp},(∀ b∈F,B b=none)->∀ b∈F,yn X a B b:=λhn b p=>⟨hn b p,(f2 b p).2⟩
 refine codeAny_forLoop_any (λn s'=>∃ i y B,Qa X a y B s'/\tn i s'.heap/\(∀ b∈F,B b=none)/\W i n y B) ?_ m0 ⟨0,σ,H2,I2,a0,λb p=>(f2 b p).1,w0⟩;rintro n s3 ⟨i,z,R,I3,M,G,w3⟩;rcases Q i n z R w3 with⟨P,qn⟩|⟨go,N,hN,O⟩
 ·refine Hi K (Re (T.done X rfl rfl rfl hc i a s3 z R X.xe I3 (t G) M P) λr s4 ⟨V,I4⟩=>?_);subst V;exact yl ⟨z,R,I4,qn⟩
 ·refine Hi K (Re (T.item X rfl rfl rfl hc i a s3 z R X.xe I3 (t G) M go) λr s4 ⟨u,V,h4⟩=>?_);subst V;refine Hi K (Re h4 λ_ s5 ⟨x,H5,I5,r5,y5,E,U⟩=>?_);have S:=I5.pinned (t U) (T.obj _ _ E);refine Hi K (Re (hg _ s5 z H5 x u _ S r5 (O x H5 y5)) λ_ s6 ⟨a1,H6,I6,q6⟩=>?_);refine Hi K (Re (p _ s6 a1 H6 _ I6 q6) λf Z C=>?_);have l:∀ {c:St} {j:Hp},Qa X (a++wD F s5.heap) c j Z->N c j->∃ m,m<n/\∃ i y B,Qa X a y B Z/\tn i Z.heap/\(∀ b∈F,B b=none)/\W i m y B:=fun {c j} k L=>by
   obtain⟨m',hm,w7⟩:=hN c j L;refine⟨m',hm,i+1,c,j,k.Kl,T.keep _ _ _ E λb p o e=>(k.pin (b,o) (Pa _ (Pa _ (oH p e)))).1,λb p=>?_,w7⟩;obtain⟨o,e,d⟩:=T.obj _ _ E b p;exact(k.pin (b,o) (Pa _ (Pa _ (oH p e)))).2.1
  cases f with
  |next=>obtain⟨c,j,k,L⟩:=C;exact l k L
  |cont=>obtain⟨c,j,k,L⟩:=C;exact l k L
  |brk=>obtain⟨c,j,k,C⟩:=C;exact⟨c,j,k.Kl,C⟩
  |ret v=>obtain⟨x7,c,j,k,r7,C⟩:=C;exact⟨x7,c,j,k.Kl,r7,C⟩
end
abbrev R2:=V->V->Hp->VK->Prop
def yj(X:Cx)(f:Value->Value->Io Value)(r:R2):Prop:=
 ∀ (a:List (Addr × Obj)) (s:Shared) (σ:St) (H:Hp) (x y:V) (v u:Value) (Q:VK),Qa X a σ H s->ie x v->ie y u->r x y H Q->
  wpAny (model X.prog X.w) X.A (f v u) (EP X a σ Q) X.xe s
def yG(X:Cx)(f:Value->Io Value)(r:V->Hp->VK->Prop):Prop:=
 ∀ (a:List (Addr × Obj)) (s:Shared) (σ:St) (H:Hp) (x:V) (v:Value) (Q:VK),Qa X a σ H s->ie x v->r x H Q->
  wpAny (model X.prog X.w) X.A (f v) (EP X a σ Q) X.xe s
def Oo(X:Cx)(f:Value)(r:List V->Hp->VK->Prop):Prop:=
 ∀ (a:List (Addr × Obj)) (s:Shared) (σ:St) (H:Hp) (xs:List V) (us:List Value) (Q:VK),Qa X a σ H s->jf xs us->r xs H Q->
  wpAny (model X.prog X.w) X.A (call f us) (EP X a σ Q) X.xe s
noncomputable def JF(r:R2)(d e:TE):TE:=λa H Q=>d a H λx b=>e a b λy c=>r x y c Q
def x5(r:V->Hp->VK->Prop)(b:TE):TE:=λc H Q=>b c H λx a=>r x a Q
def rI(C:Int->Int->Prop)(g:Int->Int->V):R2:=λx y H Q=>∃ i j,x=.int i/\y=.int j/\C i j/\Q (g i j) H
noncomputable def wv(g:Int->Int->V):R2:=λx y H Q=>∃ i j,x=.int i/\y=.int j/\Q (g i j) H
def rU(g:Int->V):V->Hp->VK->Prop:=λx H Q=>∃ i,x=.int i/\Q (g i) H
section
variable{X:Cx}{a b c:Fa}{ta tb tc:TE}{pos:Me}
theorem QL(n:PE X a ta)(o:PE X b tb){c:List (Addr × Obj)}{s:Shared}{e:St}{H:Hp}{R:V->V->Hp->Prop}(I:Qa X c e H s)
  (h:ta e H λx k=>tb e k λy d=>R x y d) {Q:Value->Shared->Prop} {f:Value->Value->Io Value}
  (p:∀ v u j x y d,Qa X c e d j->ie x v->ie y u->R x y d->wpAny (model X.prog X.w) X.A (f v u) Q X.xe j) :
  wpAny (model X.prog X.w) X.A (Ib a X.env) (λv g=>wpAny (model X.prog X.w) X.A (Ib b X.env) (λu i=>wpAny (model X.prog X.w) X.A (f v u) Q X.xe i) X.xe g) X.xe s:=by
 refine Re (n c s e H _ I h) λv s1 ⟨x,k,l,r,q1⟩=>?_;refine Re (o c s1 e k _ l q1) λu j ⟨y,d,m,t,q⟩=>?_;exact p v u j x y d m r t q
theorem ŗ{d:Nu}{r:R2}(j:yj X (Dg d) r)(g:PE X a ta)(i:PE X b tb):PE X (.BinOp a d b pos) (JF r ta tb):=by
 intro c s n H Q I h;exact wpAny_BinOp (QL g i I h λv u m x y e f k l q=>j c m n e x y v u Q f k l q)
theorem y6{c:UnaryOp}{r:V->Hp->VK->Prop}(g:yG X (unaryOp c) r)(f:PE X a ta):PE X (.UnaryOp c a pos) (x5 r ta):=by
 intro b s d H Q I h;exact UnaryOp_ (Re (f b s d H _ I h) λv s1 ⟨x,H1,e,i,q1⟩=>g b s1 d H1 x v Q e i q1)
theorem rL{f:Value->Value->Io Value}{C:Int->Int->Prop}{g:Int->Int->Int}
  (a:∀ (i j:Int) (t u:Tok) (s:Shared) (Q:Value->Shared->Prop) (E:Value->Shared->Prop),C i j->Q (.int (g i j) s.toks) { s with toks:=s.toks+1 }->wpAny (model X.prog X.w) X.A (f (.int i t) (.int j u)) Q E s) :
  yj X f (rI C λi j=>.int (g i j)):=by
 intro b s k H x y v u Q I d e h;obtain⟨i,j,rfl,rfl,c,q⟩:=h;obtain⟨t,rfl⟩:=d;obtain⟨t',rfl⟩:=e;exact a i j t t' s _ _ c ⟨.int (g i j),H,I.tok _,⟨_,rfl⟩,q⟩
theorem SV{f:Value->Value->Io Value}{g:Int->Int->Int}
  (a:∀ (i j:Int) (t u:Tok) (s:Shared) (Q:Value->Shared->Prop) (E:Value->Shared->Prop),Q (.int (g i j) s.toks) { s with toks:=s.toks+1 }->wpAny (model X.prog X.w) X.A (f (.int i t) (.int j u)) Q E s) :
  yj X f (wv λi j=>.int (g i j)):=by
 intro b s e H x y v u Q I c d h;obtain⟨i,j,rfl,rfl,q⟩:=h;obtain⟨t,rfl⟩:=c;obtain⟨t',rfl⟩:=d;exact a i j t t' s _ _ ⟨.int (g i j),H,I.tok _,⟨_,rfl⟩,q⟩
theorem qJ{f:Value->Value->Io Value}{g:Int->Int->Bool}
  (a:∀ (i j:Int) (t u:Tok) (s:Shared) (Q:Value->Shared->Prop) (E:Value->Shared->Prop),Q (.bool (g i j)) s->wpAny (model X.prog X.w) X.A (f (.int i t) (.int j u)) Q E s) :
  yj X f (wv λi j=>.bl (g i j)):=by
 intro b s e H x y v u Q I c d h;obtain⟨i,j,rfl,rfl,q⟩:=h;obtain⟨t,rfl⟩:=c;obtain⟨t',rfl⟩:=d;exact a i j t t' s _ _ ⟨.bl (g i j),H,I,rfl,q⟩
def vP(i j:Int):Prop:=0<j/\j<1073741824
def ZO(i j:Int):Prop:=0<=j/\j<=1000000/\i.natAbs<2 ^ 64
def aP(i j:Int):Prop:=(-(2 ^ 64)<i/\i<2 ^ 64)\/(-(2 ^ 64)<j/\j<2 ^ 64)
theorem aP.ok{i j:Int}(h:aP i j):IntMulOk i j:=by
 rcases h with⟨a,b⟩|⟨a,b⟩
 ·exact .of_left (pW a b)
 ·exact .of_right (pW a b)
theorem yna:yj X (Dg .Add) (wv λi j=>.int (i+j)):=SV λ_ _ _ _ _ _ _ q=>add_int q
theorem kE:yj X (Dg .Sub) (wv λi j=>.int (i - j)):=SV λ_ _ _ _ _ _ _ q=>sub_int q
theorem RX:yj X (Dg .FloorDiv) (rI vP λi j=>.int (i / j)):=rL λi j _ _ _ _ _ a q=>by
 have b:=a.1;have c:=a.2;exact floordiv_int (by omega) (by rw[Int.fdiv_eq_ediv_of_nonneg i (by omega)];exact q) (.inl (PyProof.noPylong_small (by omega)))
theorem nD:yj X (Dg .Mod) (rI (λ_ j=>0<j) λi j=>.int (i % j)):=rL λi j _ _ _ _ _ a q=>by
 exact mod_int' (by omega) (by rw[Int.fmod_eq_emod_of_nonneg i (by omega)];exact q)
theorem xL:yj X (Dg .Pow) (rI ZO λi j=>.int (i ^ j.toNat)):=rL λ_ _ _ _ _ _ _ a q=>pow_int_small a.1 a.2.1 a.2.2 q
theorem DX{f:Value->Io Value}{g:Int->Int}
  (a:∀ (i:Int) (t:Tok) (s:Shared) (Q:Value->Shared->Prop) (E:Value->Shared->Prop),Q (.int (g i) s.toks) { s with toks:=s.toks+1 }->wpAny (model X.prog X.w) X.A (f (.int i t)) Q E s) :
  yG X f (rU λi=>.int (g i)):=by
 intro b s d H x v Q I c h;obtain⟨i,rfl,q⟩:=h;obtain⟨t,rfl⟩:=c;exact a i t s _ _ ⟨.int (g i),H,I.tok _,⟨_,rfl⟩,q⟩
theorem qL:yG X (unaryOp .USub) (rU λi=>.int (-i)):=DX λ_ _ _ _ _ q=>neg_int q
end
section
variable{X:Cx}{a b c:Fa}{ta tb tc:TE}{pos:Me}
theorem XQ{a:List (Addr × Obj)}{c:St}{H:Hp}{s:Shared}{Q:VK}{k b:Bool}(I:Qa X a c H s)(q:Q (.bl k) H)(e:k=b):EP X a c Q (.bool b) s:=by
 subst e;exact⟨.bl k,H,I,rfl,q⟩
theorem HG:yj X (Gc .Lt) (wv λi j=>.bl (decide (i<j))):=qJ λ_ _ _ _ _ _ _ q=>lt_int q
theorem hU:yj X (Gc .LtE) (wv λi j=>.bl (decide (i<=j))):=qJ λ_ _ _ _ _ _ _ q=>le_int q
theorem OP:yj X (Gc .Gt) (wv λi j=>.bl (decide (j<i))):=qJ λ_ _ _ _ _ _ _ q=>gt_int q
theorem CH:yj X (Gc .Is) (λx y H Q=>y=.Mc/\Q (.bl (decide (x=.Mc))) H):=by
 intro a s d H x y v u Q I b c h;obtain⟨rfl,q⟩:=h;cases c;refine is_none_gen (XQ I q ?_);cases x<;>first
  |(cases b;rfl)
  |(obtain⟨t,rfl⟩:=b;rfl)
theorem lZ:yj X (Gc .IsNot) (λx y H Q=>y=.Mc/\Q (.bl (!decide (x=.Mc))) H):=by
 intro a s d H x y v u Q I b c h;obtain⟨rfl,q⟩:=h;cases c;refine isnot_none_gen (XQ I q ?_);cases x<;>first
  |(cases b;rfl)
  |(obtain⟨t,rfl⟩:=b;rfl)
theorem yj.or{f:Value->Value->Io Value}{r b:R2}(h:yj X f r)(h':yj X f b):yj X f (λx y H Q=>r x y H Q\/b x y H Q):=by
 intro a s e H x y v u Q I c d q;rcases q with q|q
 ·exact h a s e H x y v u Q I c d q
 ·exact h' a s e H x y v u Q I c d q
theorem Xi(b:Fa){a:jt}(h:a≠.In:=by decide)(e:a≠.NotIn:=by decide):Yf a b=false:=by
 have c:(a == bO)=false:=by cases a<;>first|rfl|exact absurd rfl h
 have d:(a == eD)=false:=by cases a<;>first|rfl|exact absurd rfl e
 cases b<;>simp[Yf,c,d]
theorem B5{d:jt}{r:R2}(k:yj X (Gc d) r)(g:PE X a ta)(i:PE X b tb)(j:Yf d b=false):PE X (.Compare a [d] [b] pos) (JF r ta tb):=by
 intro c s o H Q I h;exact wpAny_Compare1 (QL g i I h λv u n x y e f l m q=>k c n o e x y v u Q f l m q) j
noncomputable def iY(t:TE):TT:=λb H Q=>t b H λx a=>∃ k,x=.bl k/\Q k a
theorem γ{f:jt}{r:R2}(t:yj X (Gc f) r)(o:PE X a ta)(p:PE X b tb)(q:Yf f b=false):PT X (.Compare a [f] [b] pos) (iY (JF r ta tb)):=by
 intro d s g H Q I h;refine dy (Re (o d s g H _ I h) λv s1 ⟨x,H1,l,B,q1⟩=>Re (p d s1 g H1 _ l q1) λu s2 ⟨y,i,m,C,w⟩=>
  Re (t d s2 g i x y v u _ m B C w) λc s3 ⟨z,j,n,D,k,e,A⟩=>?_) q
 subst e;cases D;exact Zc ⟨j,n,A⟩
noncomputable def SW(r f:R2)(ta tb tc:TE):TE:=λa H Q=>ta a H λx c=>tb a c λy d=>r x y d λz b=>∃ k,z=.bl k/\
 (if k=true then tc a b λg e=>f y g e Q else Q (.bl false) b)
theorem Ů{l g:jt}{r p:R2}(J:yj X (Gc l) r)(j:yj X (Gc g) p)(D:PE X a ta)(E:PE X b tb)(F:PE X c tc)
  (G:lastMarks [l,g] [b,c]=false:=by with_unfolding_all rfl):PE X (.Compare a [l,g] [b,c] pos) (SW r p ta tb tc):=by
 intro f s i H Q I h;refine Compare_chain (Re (D f s i H _ I h) λv s1 ⟨x,H1,A,M,q1⟩=>chain_link (Re (E f s1 i H1 _ A q1) λu s2 ⟨y,t,B,q,K⟩=>
  Re (J f s2 i t x y v u _ B M q K) λd s3 ⟨z,m,n,N,k,e,o⟩=>?_)) G
 subst e;cases N;refine Zc ?_;cases k with
 |false=>exact ite_ff ⟨.bl false,m,n,rfl,o⟩
 |true=>exact ite_tt (chain_last (Re (F f s3 i m _ n o) λP s4 ⟨R,w,C,O,L⟩=>j f s4 i w y R u P Q C q O L))
theorem iG:(sizeLine:Nat)<2 ^ 63:=by rw[nz];decide
theorem U4:yj X (Dg .Add) (λx y H Q=>∃ i j,x=.str i/\y=.str j/\i.length+j.length<=sizeLine/\Q (.str (i++j)) H):=by
 intro a s f H x y v u Q I c d h;obtain⟨i,j,rfl,rfl,b,q⟩:=h;obtain⟨t,rfl⟩:=c;obtain⟨t',rfl⟩:=d;exact add_str (λt' e=>⟨.str (i++j),H,I.tok _,⟨_,rfl⟩,q⟩) b
theorem jw{x:V}{a:List Value}(r:jf [x] a):∃ u,a=[u]/\ie x u:=by
 cases r with
 |cons b c=>cases c;exact⟨_,rfl,b⟩
theorem YJ{x y:V}{a:List Value}(r:jf [x,y] a):∃ u b,a=[u,b]/\ie x u/\ie y b:=by
 cases r with
 |cons c d=>
  cases d with
  |cons e f=>cases f;exact⟨_,_,rfl,c,e⟩
end
structure mu(h:Heap)(x dx C:Addr)(mA:qa->Option Value):Prop where
 obj:h.get? x=some (W.instObj C dx)
 ns:h.Ns1 dx mA
 ne:dx≠x
theorem T0{h:Heap}{d:Addr}{g:qa->Option Value}(n:h.Ns1 d g):∃ i,h.get? d=some i/\∀ b,W.lookIn b i=some (g b):=by
 obtain⟨o,f,s,p,k,l,_,m⟩:=n;refine⟨o,p,λb=>?_⟩;have e:=m b;unfold nsFind findBy at e;rw[<-Array.find?_toList]at e;unfold W.lookIn;rw[k];dsimp only;split
 ·rename_i y q
  rw[q]at e;exact Ef some e
 ·rename_i q
  rw[q]at e;have a:f.toList.any (·.refKey)=false:=by
   rw[List.any_eq_false];intro y r;obtain⟨z,t,c⟩:=l y (Array.mem_toList_iff.mp r);simp[zaG,c]
  have j:¬ f.toList.any (·.refKey)=true:=by rw[a];exact jb
  rw[ua j];exact Ef some e
theorem mu.look{h:Heap}{x c C:Addr}{d:qa->Option Value}(I:mu h x c C d):∃ b,W.InstAt h x (W.instObj C c) C (some b)/\∀ a,W.lookIn a b=some (d a):=
 let ⟨b,f,e⟩:=T0 I.ns
 ⟨b,⟨I.obj,rfl,rfl,f⟩,e⟩
section
variable{prog:za}{w:Ma}{A:Ha}{E:Value->Shared->Prop}{s:Shared}{K:W.Frag}{x dx C f:Addr}{mA:qa->Option Value}{name:qa}{v:Value}
theorem ţ{a:Bool}{Q:Value->Shared->Prop}(X:K.In s.heap)(I:mu s.heap x dx C mA)(d:W.plainGet K C name=true)(e:W.hasDictIn K C=true)
  (c:W.findIn K (.ref C) name=some none) (g:mA name=some v) (b:W.handedIn v=true) (h:Q v { s with toks:=s.toks+1 }) :
  wpAny (model prog w) A (getAttr (.ref x) name a) Q E s:=by
 obtain⟨i,J,f⟩:=I.look;exact W.get_value X J (Iu d).1 (W.findObj_own e c rfl (by rw[f,g])) b h
theorem N0{pl:Io Bool}{Q:Value × List Value->Shared->Prop}(X:K.In s.heap)(I:mu s.heap x dx C mA)(a:W.plainGet K C name=true)
  (b:W.findIn K (.ref C) name=some (some (.ref f))) (d:W.isFn K (.ref f)=true) (e:mA name=none) (h:Q (.ref f,[.ref x]) s) :
  wpAny (model prog w) A (mj (.ref x) name pl) Q E s:=by
 obtain⟨g,J,c⟩:=I.look;exact W.method_fn X J (Iu a).1 (Iu a).2 b (kh.mp d) (by show (W.lookIn name g).map (·.isSome)=some false;rw[c,e];rfl) h
theorem ygu{i:List qa}{Q:Unit->Shared->Prop}(X:K.In s.heap)(I:mu s.heap x dx C mA)
  (o:W.findIn K (.ref C) "__setattr__" = some (some (.builtin "object.__setattr__"))) (n:W.plainOver K C=true) (q:W.takerIn K C name=some none) (m:W.hasDictIn K C=true)
  (r:PySem.Within mA i) (p:i.length<=sizeLine)
  (h:∀ h',mu h' x dx C (λy=>if y=name then some v else mA y)->Fd dx s.heap h'->Q () { s with heap:=h',toks:=s.toks+2 }) :
  wpAny (model prog w) A (setAttr (.ref x) name v) Q E s:=by
 obtain⟨D,J,z⟩:=I.look;refine W.set_plain X J o (W.osa_open X J n q λb=>?_);obtain⟨u,l,e⟩:=oz m;have t:=I.obj;refine aa (da (aa (aa (RN t (aa (W.Looks.here (W.looks_clsIn X l) ?_))))));rw[e];refine da (aa (da (aa ?_)));refine wpAny_nsSet1 I.ns λh' a c=>?_;obtain⟨B,k,j,g,f,d⟩:=a.count (SI name v r);refine aa (wpAny_lookBehind g (by rw[f];exact pastItsLine_dict (Wb d (by rw[Cc];omega))) ?_);exact da (h _ ⟨(c.2 _ (Te I.ne)).trans I.obj,a,I.ne⟩ c)
theorem zvo{R:Mp->Shared->Prop}{c:List Value}{b:List (qa × Value)}(X:K.In s.heap)(j:W.makesIn K C=true)
  (i:W.findIn K (.ref C) "__init__" = some (some (.ref f))) (e:W.typeIn K (.ref f)=some (.type "function"))
  (h:codeAny (model prog w) (A.under (.builtin "type.__call__" ⟨.ref C::c,b⟩)) (.call (.ref f) ⟨.ref (s.heap.objs.size+1)::c,b⟩) (W.InitBack (s.heap.objs.size+1) R)
   { s with heap:=(s.heap.push W.emptyDict).push (W.instObj C s.heap.objs.size) }) :
  codeAny (model prog w) A (.call (.ref C) ⟨c,b⟩) R s:=by
 obtain⟨k,g,d,t,l⟩:=s;exact W.make_core (W.makes_of X j) (jm X i) (λa=>W.bind_fn X a e) (.inl rfl) h
end
noncomputable def Nr(f:qa)(v:V):List (qa × V)->List (qa × V)
 |[]=>[(f,v)]
 |(g,x)::r=>if g=f then (g,v)::r else (g,x)::Nr f v r
theorem AQ(f g:qa)(v:V):∀ c:List (qa × V),(Nr f v c).lookup g=if g=f then some v else c.lookup g
 |[]=>by
  show List.lookup g [(f,v)]=_;by_cases h:g=f
  ·have a:=kh.mpr h;simp only[List.lookup,a,ja h]
  ·have a:(g == f)=false:=Yc.mpr h;simp only[List.lookup,a,ua h]
 |(k,x)::r=>by
  have d:=AQ f g v r;rw[show Nr f v ((k,x)::r)=(if k=f then (k,v)::r else (k,x)::Nr f v r)from rfl];by_cases b:k=f
  ·rw[ja b];by_cases h:g=k
   ·have a:(g == k)=true:=kh.mpr h;simp only[List.lookup,a,ja (h.trans b)]
   ·have a:(g == k)=false:=Yc.mpr h;simp only[List.lookup,a,ua (λe:g=f=>h (e.trans b.symm))]
  ·rw[ua b];by_cases h:g=k
   ·have a:(g == k)=true:=kh.mpr h;simp only[List.lookup,a,ua (λe:g=f=>b (h.symm.trans e))]
   ·have a:(g == k)=false:=Yc.mpr h;simp only[List.lookup,a];exact d
theorem GM(f:qa)(v:V):∀ a:List (qa × V),f∈(Nr f v a).map (·.1)/\∀ g,g∈a.map (·.1)->g∈(Nr f v a).map (·.1)
 |[]=>⟨by simp[Nr],λg h=>by simp at h⟩
 |(k,x)::r=>by
  obtain⟨c,d⟩:=GM f v r;rw[show Nr f v ((k,x)::r)=(if k=f then (k,v)::r else (k,x)::Nr f v r)from rfl];by_cases b:k=f
  ·rw[ja b];subst b;exact⟨by simp,λg h=>by simpa using h⟩
  ·rw[ua b];refine⟨?_,λg h=>?_⟩
   ·rw[yb];exact Ka _ c
   ·rw[yb]at h ⊢;rcases Da.mp h with e|e
    ·exact Da.mpr (.inl e)
    ·exact Ka _ (d g e)
theorem pQ(f:qa)(v:V):∀ a:List (qa × V),(Nr f v a).length<=a.length+1
 |[]=>by simp[Nr]
 |(k,x)::r=>by
  have c:=pQ f v r;rw[show Nr f v ((k,x)::r)=(if k=f then (k,v)::r else (k,x)::Nr f v r)from rfl];by_cases b:k=f
  ·rw[ja b,Cc,Cc];omega
  ·rw[ua b,Cc,Cc];omega
theorem Ts.some_of{v:V}{o:Option Value}(r:Ts (some v) o):∃ u,o=some u/\ie v u:=by
 cases o with
 |none=>exact(r).elim
 |some u=>exact⟨u,rfl,r⟩
theorem Ts.none_of{o:Option Value}(r:Ts none o):o=none:=by
 cases o with
 |none=>rfl
 |some u=>exact(r).elim
theorem Ρ{v:V}{u:Value}(r:ie v u):W.handedIn u=true:=by
 cases v with
 |Mc=>cases (r);rfl
 |bl b=>cases (r);rfl
 |int i=>obtain⟨t,e⟩:=(r);cases e;rfl
 |str x=>obtain⟨t,e⟩:=(r);cases e;rfl
 |lH b=>obtain⟨t,e⟩:=(r);cases e;rfl
 |FB b=>obtain⟨t,e⟩:=(r);cases e;rfl
 |ref a=>cases (r);rfl
 |ty n=>cases (r);rfl
section
variable{P:za}{w:Ma}{H H':Hp}{h h':Heap}{a C dx:Addr}{fs fs':List (qa × V)}
theorem FH(c:xj P w H h)(e:H a=some (.jc C dx fs)):∃ b,mu h a dx C b/\(∀ f,Ts (fs.lookup f) (b f))/\PySem.Within b (fs.map (·.1))/\fs.length<=1000/\H dx=some (.own a):=by
 obtain⟨d,z,g,ob,b,n,r,q⟩:=(c a _ e)
 exact⟨b,⟨ob,n,g⟩,r,q,z,d⟩
end
structure Dm(K:W.Frag)(C:Addr):Prop where
 pg:W.plainGet K C Str.empty=true
 hd:W.hasDictIn K C=true
 po:W.plainOver K C=true
 sa:W.findIn K (.ref C) "__setattr__" = some (some (.builtin "object.__setattr__"))
theorem Dm.get{K:W.Frag}{C:Addr}(c:Dm K C)(f:qa):W.plainGet K C f=true:=c.pg
def Ng(K:W.Frag)(C:Addr)(f:qa):Prop:=W.findIn K (.ref C) f=some none
theorem Ng.WD{K:W.Frag}{C:Addr}{f:qa}(n:Ng K C f):W.takerIn K C f=some none:=by
 unfold W.takerIn;rw[n];rfl
structure Con(K:W.Frag)(C:Addr)(f:qa)(v:V)(u:Value):Prop where
 at_:W.findIn K (.ref C) f=some (some u)
 rel:ie v u
 get:W.specialIn K u "__get__" = some none
 cp:W.copiedNames.contains f=false
structure He(K:W.Frag)(C:Addr)(m:qa)(f:Addr):Prop where
 at_:W.findIn K (.ref C) m=some (some (.ref f))
 fn:W.isFn K (.ref f)=true
 kp:W.keepIn K (.ref f)=true
section
variable{X:Cx}{pins:List (Addr × Obj)}{σ:St}{H:Hp}{s:Shared}{a C dx:Addr}{fs:List (qa × V)}{f:qa}{v:V}{A:Ha}{E:Value->Shared->Prop}
theorem Ò{b:Bool}{Q:Value->Shared->Prop}(I:Qa X pins σ H s)(e:H a=some (.jc C dx fs))(c:Dm X.K C)(n:Ng X.K C f)(l:fs.lookup f=some v)
  (h:∀ u g,Qa X pins σ H g->ie v u->Q u g):wpAny (model X.prog X.w) A (getAttr (.ref a) f b) Q E s:=by
 obtain⟨j,O,r,_,_,_⟩:=FH I.md e;obtain⟨u,i,d⟩:=Ts.some_of (by rw[<-l];exact r f);exact ţ I.Yj O (c.get f) c.hd n i (Ρ d) (h u _ (I.tok _) d)
theorem uK{m:qa}{g:Addr}{pl:Io Bool}{Q:Value × List Value->Shared->Prop}(I:Qa X pins σ H s)(e:H a=some (.jc C dx fs))(c:Dm X.K C)(k:He X.K C m g)(l:fs.lookup m=none)
  (h:Q (.ref g,[.ref a]) s):wpAny (model X.prog X.w) A (mj (.ref a) m pl) Q E s:=by
 obtain⟨d,O,r,_,_,_⟩:=FH I.md e;have b:=Ts.none_of (by rw[<-l];exact r m);exact N0 I.Yj O (c.get m) k.at_ k.fn b h
theorem M4{y:V}{u:Value}{Q:Unit->Shared->Prop}(I:Qa X pins σ H s)(e:H a=some (.jc C dx fs))(c:Dm X.K C)(n:Ng X.K C f)(F:fs.length<1000)(B:ie y u)
  (h:∀ k,Qa X pins σ (ic H a (.jc C dx (Nr f y fs))) k->Q () k):wpAny (model X.prog X.w) A (setAttr (.ref a) f u) Q E s:=by
 obtain⟨j,O,r,l,_,i⟩:=FH I.md e;have x:(fs.map (·.1)).length<=sizeLine:=by rw[Pb,nz];omega
 refine ygu I.Yj O c.sa c.po n.WD c.hd l x λh' d D=>h _ ?_;have t:∃ o,h'.get? dx=some o:=let ⟨o,_,_,m,_⟩:=d.ns;⟨o,m⟩;refine I.write (by rw[e];exact True.intro) (.inr i) (λb q p z=>(D.2 b p).trans z) t ?_;refine⟨by rw[Le O.ne];exact i,?_,O.ne,d.obj,_,d.ns,λg=>?_,λg v=>?_⟩
 ·have:=pQ f y fs;omega
 ·show Ts ((Nr f y fs).lookup g) (if g=f then some u else j g);rw[AQ];by_cases q:g=f
  ·rw[ja q,ja q];exact B
  ·rw[ua q,ua q];exact r g
 ·by_cases q:g=f
  ·rw[q];exact(GM f y fs).1
  ·refine(GM f y fs).2 g (l g λz=>v ?_);show (if g=f then some u else j g)=none;rw[ua q];exact z
theorem Qa.made(I:Qa X pins σ H s):Qa X pins σ (ic (ic H s.heap.objs.size (.own (s.heap.objs.size+1))) (s.heap.objs.size+1) (.jc C s.heap.objs.size []))
  { s with heap:=(s.heap.push W.emptyDict).push (W.instObj C s.heap.objs.size) }:=by
 have a:(s.heap.push W.emptyDict).get? s.heap.objs.size=some W.emptyDict:=Ba s.heap rfl;have f:((s.heap.push W.emptyDict).push (W.instObj C s.heap.objs.size)).get? (s.heap.objs.size+1)=some (W.instObj C s.heap.objs.size):=by
  have:=Ba (s.heap.push W.emptyDict) (o:=W.instObj C s.heap.objs.size) rfl
  rwa [Cd]at this
 have g:(s.heap.push W.emptyDict).Ns s.heap.objs.size (λ_=>none):=⟨W.emptyDict,#[],_,a,rfl,(λe h=>absurd h (by simp)),λ_=>rfl⟩
 have d:=I.laid (o:=.own (s.heap.objs.size+1)) (t':=s.toks) (λb u q=>ba _ q) (wa _) ⟨_,a⟩;refine d.laid (λb u q=>ba _ q) (MF (Cd _ _)) ?_;have c:s.heap.objs.size≠s.heap.objs.size+1:=ya (Qb _);refine⟨by rw[Le c,Hh],ij _,c,f,λ_=>none,(Heap.Ns1.of_empty g).at λo q=>ba _ q,λ_=>True.intro,λy i=>absurd rfl i⟩
theorem ž{b:za}{w:Ma}{a:Ih}{e:Fa}{f:qa}{d:Me}{s:Shared}{Q:Value->Shared->Prop}(g:Oe e f a (Ib e a)=Ib e a)
  (h:wpAny (model b w) A (Ib e a) (λo c=>wpAny (model b w) A (getAttr o f true) Q E c) E s):wpAny (model b w) A (Ib (.Attribute e f d) a) Q E s:=
 Attribute_any_ h (by rw[arm_eval_Attribute,g])
end
def ĺ(K:W.Frag)(e:TE)(f:qa):TE:=λg H Q=>e g H λx b=>∃ a C d c v,x=.ref a/\b a=some (.jc C d c)/\Dm K C/\Ng K C f/\c.lookup f=some v/\Q v b
def ν(K:W.Frag)(h i:TE)(f:qa):TS:=λD c H=>i c H λy g=>h c g λx d=>∃ a C e b,x=.ref a/\d a=some (.jc C e b)/\Dm K C/\Ng K C f/\b.length<1000/\
 D.nx c (ic d a (.jc C e (Nr f y b)))
section
variable{X:Cx}{o e value:Fa}{f:qa}{pos pos' tpos:Me}{ta tv:TE}
theorem K8(k:PE X e ta)(j:Oe e f X.env (Ib e X.env)=Ib e X.env):PE X (.Attribute e f pos) (ĺ X.K ta f):=by
 intro b s p H Q I h;refine ž j (Re (k b s p H _ I h) λu s1 ⟨x,H1,d,o,a,C,r,t,v,ex,i,c,n,l,q⟩=>?_);subst ex;obtain rfl:u=cc a:=o;exact Ò d i c n l λy w g m=>⟨v,H1,g,m,q⟩
theorem dX(k:PE X o ta)(p:PE X value tv)(m:lj value (some (.Attribute o f pos')) pos.line X.env=pure false):PS X (.Assign [.Attribute o f pos'] value pos) (ν X.K ta tv f):=by
 intro b s d H D I h;refine plainObj_wpAny_Assign_Attribute (Re (p b s d H _ I h) λu s1 ⟨y,H1,e,w,q⟩=>Re (k b s1 d H1 _ e q) λr s2 ⟨x,z,g,v,a,C,A,B,ex,j,c,n,l,t⟩=>?_) m;subst ex;obtain rfl:r=cc a:=v;exact M4 g j c n l w λE i=>⟨d,_,i,t⟩
end
section
variable{X:Cx}{pins:List (Addr × Obj)}{σ:St}{H:Hp}{s:Shared}{A:Ha}{E:Value->Shared->Prop}{Q:Value->Shared->Prop}{c:Value}{b:Bool}
inductive Hm(K:W.Frag)(H:Hp):V->Value->Prop where
 |Mc:Hm K H .Mc (.type "NoneType")
 |bl (x:Bool):Hm K H (.bl x) (.type "bool")
 |int (i:Int):Hm K H (.int i) (.type "int")
 |str (x:qa):Hm K H (.str x) (.type "str")
 |FB (x:UInt64):Hm K H (.FB x) (.type "float")
 |Ca {a:Addr} {xs:List V} (e:H a=some (.Ca xs)):Hm K H (.ref a) (.type "list")
 |Vb {a:Addr} {o:Obj} {xs:List V} (e:H a=some (.Vb o (.Ca xs))):Hm K H (.ref a) (.type "list")
 |ub {a:Addr} {xs:List V} (e:H a=some (.ub xs)):Hm K H (.ref a) (.type "tuple")
 |dK {a:Addr} {kvs:List (gc × V)} (e:H a=some (.dK kvs)):Hm K H (.ref a) (.type "dict")
 |dT {a:Addr} {kvs:List (List gc × V)} (e:H a=some (.dT kvs)):Hm K H (.ref a) (.type "dict")
 |jc {a C dx:Addr} {fs:List (qa × V)} (e:H a=some (.jc C dx fs)) (cl:Dm K C) (ha:W.findIn K (.ref C) "__class__" = some (some (.builtin "object.__class__")))
   (hn:W.specialIn K (.builtin "object.__class__") "__get__" = some (some (.builtin "getset_descriptor.__get__"))) (htk:W.takesIn K (.builtin "object.__class__")=some true)
   (hm:W.mroIn K C (.type "object")=some true):Hm K H (.ref a) (.ref C)
theorem QV{x:V}{u t:Value}(I:Qa X pins σ H s)(f:ie x u)(ty:Hm X.K H x t)(e:W.kitOne X.K t c=some b)(h:∀ D,Q (.bool b) { s with toks:=D }) :
  wpAny (model X.prog X.w) A (call (.builtin "isinstance") [u,c]) Q E s:=by
 cases ty with
 |Mc=>cases (f);exact bg W.kitx_none I.Yj True.intro e (λz=>nomatch z) h
 |bl y=>cases (f);exact bg W.kitx_bool I.Yj True.intro e (λz=>nomatch z) h
 |int i=>obtain⟨t,q⟩:=(f);cases q;exact bg W.kitx_int I.Yj True.intro e (λz=>nomatch z) h
 |str y=>obtain⟨t,q⟩:=(f);cases q;exact bg W.kitx_str I.Yj True.intro e (λz=>nomatch z) h
 |FB y=>obtain⟨t,q⟩:=(f);cases q;exact bg W.kitx_float I.Yj True.intro e (λz=>nomatch z) h
 |@Ca a xs d=>
  cases (f);obtain⟨_,_,n,_,g⟩:=(I.md a _ d)
  exact bg qW I.Yj ⟨_,g,rfl⟩ e (λz=>nomatch z) h
 |@Vb a M xs d=>
  cases (f);obtain⟨_,_,_,n,_,g⟩:=(I.md a _ d)
  exact bg qW I.Yj ⟨_,g,rfl⟩ e (λz=>nomatch z) h
 |@ub a xs d=>
  cases (f);obtain⟨_,_,_,p⟩:=(I.md a _ d)
  obtain⟨o,g,j,_⟩:=p;exact bg W.kitx_tuple I.Yj ⟨o,g,j⟩ e (λz=>nomatch z) h
 |@dK a l d=>
  cases (f);obtain⟨_,_,P,_,p⟩:=(I.md a _ d)
  obtain⟨o,r,m,g,j,_⟩:=p;exact bg jx I.Yj ⟨o,g,j.1⟩ e (λz=>nomatch z) h
 |@dT a l d=>
  cases (f);obtain⟨_,_,xs,_,o,r,m,g,j,_⟩:=(I.md a _ d)
  exact bg jx I.Yj ⟨o,g,j.1⟩ e (λz=>nomatch z) h
 |@jc a C F G d cl v B k hm=>
  cases (f);obtain⟨L,O,_⟩:=FH I.md d;obtain⟨N,J,_⟩:=O.look;exact bg (W.kitx_own (cl.get _) cl.hd v B k hm) I.Yj J e (λz=>nomatch z) h
end
structure Ce(k:Nat)(A:Ha):Prop where
 hd:A.handled=none
 dp:A.depth+3 * k+5<recursionLimit
 un:A.units+16 * k+200<cLine
theorem Ce.mono{j k:Nat}{A:Ha}(r:Ce k A)(h:j<=k):Ce j A:=⟨r.hd,by have:=r.dp;omega,by have:=r.un;omega⟩
theorem Ce.deeper{k:Nat}{A:Ha}(r:Ce (k+1) A)(a:Ih):Ce k (A.deeper a):=
 ⟨r.hd,by have:=r.dp;show A.depth+1+3 * k+5<_;omega,by have:=r.un;show A.units+3+16 * k+200<_;omega⟩
theorem Ce.in1{k:Nat}{A:Ha}(r:Ce (k+1) A):Ce k A.in1:=
 ⟨r.hd,by have:=r.dp;show A.depth+3 * k+5<_;omega,by have:=r.un;show A.units+1+16 * k+200<_;omega⟩
theorem Ō{A:Ha}{C:Addr}{b:List Value}{a:List (qa × Value)}:(A.under (.builtin "type.__call__" ⟨.ref C::b,a⟩)).depth=A.depth+1:=by
 first|rfl|simp
theorem FY{A:Ha}{C:Addr}{b:List Value}{a:List (qa × Value)}:(A.under (.builtin "type.__call__" ⟨.ref C::b,a⟩)).units=A.units+1:=by
 first|rfl|simp
theorem Ce.make{k:Nat}{A:Ha}(r:Ce (k+1) A)(C:Addr)(b:List Value)(a:List (qa × Value)):Ce k (A.under (.builtin "type.__call__" ⟨.ref C::b,a⟩)):=
 ⟨r.hd,by have:=r.dp;rw[Ō];omega,by have:=r.un;rw[FY];omega⟩
theorem Ce.depth{k:Nat}{A:Ha}(r:Ce k A):A.depth<recursionLimit:=by have:=r.dp;omega
theorem Ce.units{k:Nat}{A:Ha}(r:Ce k A):A.units+64<cLine:=by have:=r.un;omega
noncomputable def OY:TA:=λ_ H Q=>Q [] H
noncomputable def yv3(d:TE)(e:TA):TA:=λa H Q=>d a H λx b=>e a b λxs c=>Q (x::xs) c
section
variable{X:Cx}{e:Fa}{es:List Fa}{te:TE}{t:TA}{pos:Me}
theorem aw:PA X [] OY:=λ_ _ _ _ H Q I h=>Calls.spliced_nil ⟨[],H,I,.nil,h⟩
theorem Dt(g:PE X e te)(i:PA X es t)(j:la (e::es) X.env=(false,Ib e X.env)::la es X.env:=by rfl):PA X (e::es) (yv3 te t):=by
 intro pos a s b H Q I h;rw[j];refine Calls.spliced_cons (Re (g a s b H _ I h) λu s1 ⟨x,H1,d,l,q1⟩=>?_);exact Re (i pos a s1 b H1 _ d q1) λus s2 ⟨xs,c,f,m,k⟩=>⟨x::xs,c,f,.cons l m,k⟩
def ŝ(t:TA):TE:=λb H Q=>t b H λxs a=>xs.length<=sizeLine/\∀ p,a p=none->Q (.ref p) (ic a p (.ub xs))
def WY(t:TA):TE:=λb H Q=>t b H λxs a=>xs.length<=sizeLine/\∀ p,a p=none->Q (.ref p) (ic a p (.Ca xs))
theorem ģ{x1}(h:PA X es t):PE X (.Tuple es x1 pos) (ŝ t):=by
 intro a s g H Q I f;refine wpAny_Tuple_spliced (Re (h pos a s g H _ I f) λus s1 ⟨xs,H1,c,r,z,q⟩=>⟨by rw[<-r.length];exact z,?_⟩);have d:=c.md.fresh (wa _);refine⟨.ref s1.heap.objs.size,ic H1 s1.heap.objs.size (.ub xs),c.laid (λb u e=>ba _ e) (wa _) ?_,rfl,q _ d⟩;exact⟨z,us,r,⟨_,Ba _ rfl,rfl,_,rfl⟩⟩
theorem jT(h:PA X es t):PE X (.List es pos) (WY t):=by
 intro a s g H Q I f;refine wpAny_List_spliced (Re (h pos a s g H _ I f) λus s1 ⟨xs,H1,c,r,z,q⟩=>⟨by rw[<-r.length];exact z,?_⟩);have d:=c.md.fresh (wa _);refine⟨.ref s1.heap.objs.size,ic H1 s1.heap.objs.size (.Ca xs),c.laid (λb u e=>ba _ e) (wa _) ?_,rfl,q _ d⟩;exact⟨z,us,0,r,Ba _ rfl⟩
end
abbrev Sp:=List V->Hp->VK->XK->Prop
abbrev bx:=List Ih->Hp->Shared->XK->Value->Shared->Prop
structure Ap(P:za)(w:Ma)(K:W.Frag)(mg:qa->Option Value)(base:Heap)(A:Ha)(outer:List Ih)(s:Shared)(H:Hp):Prop where
 frames:A.frames=some outer
 mod:Mod K mg base
 bs:∀ b o,base.get? b=some o->s.heap.get? b=some o/\H b=none
 su:base.objs.size<=s.heap.objs.size
 xk:s.heap.FunFrames base outer
 Kw:∀ b∈Wk outer,H b=none
 md:xj P w H s.heap
 bare:ej s.gens
def CE(a:List Ih)(P:za)(w:Ma)(H:Hp)(s:Shared)(Q:VK)(u:Value)(b:Shared):Prop:=
 ∃ v c,b.os=s.os/\ej b.gens/\Un (Wk a) [] H c s.heap b.heap/\xj P w c b.heap/\ie v u/\Q v c
def CR(c:bx)(a:List Ih)(P:za)(w:Ma)(H:Hp)(s:Shared)(Q:VK)(E:XK)(r:Mp)(b:Shared):Prop:=
 match r with
 | .ok (.ret u)=>CE a P w H s Q u b
 | .ok _=>False
 | .error e=>c a H s E e b
structure Ei(P:za)(w:Ma)(K:W.Frag)(mg:qa->Option Value)(base:Heap)(CX:bx)(k:Nat)(f:Addr)(fd:Nf)(ps:List qa)(sp:Sp):Prop where
 len:∀ vs H Q E,sp vs H Q E->vs.length=ps.length
 Gd:∀ (A:Ha) (outer:List Ih) (s:Shared) (H:Hp) (args:Args) (us:List Value) (vs:List V) (Q:VK) (E:XK),Ce k A->Ap P w K mg base A outer s H->xg s fd args (ps.zip us)->jf vs us->sp vs H Q E->
  codeAny (model P w) A (.call (.ref f) args) (CR CX outer P w H s Q E) s
theorem Ei.mono{P:za}{w:Ma}{K:W.Frag}{g:qa->Option Value}{a:Heap}{d:bx}{j k:Nat}{f:Addr}{e:Nf}{i:List qa}{l:Sp}(F:Ei P w K g a d j f e i l)(h:j<=k) :
  Ei P w K g a d k f e i l:=⟨F.len,λA b s H c n o Q E m=>F.Gd A b s H c n o Q E (m.mono h)⟩
theorem Ei.imp{P:za}{w:Ma}{K:W.Frag}{j:qa->Option Value}{a:Heap}{g:bx}{k:Nat}{f:Addr}{i:Nf}{l:List qa}{m e:Sp}(F:Ei P w K j a g k f i l m)
  (h:∀ c H Q E,e c H Q E->m c H Q E):Ei P w K j a g k f i l e:=
 ⟨λc H Q E q=>F.len c H Q E (h _ _ _ _ q),λA b s H d u c Q E p o n t r=>F.Gd A b s H d u c Q E p o n t (h _ _ _ _ r)⟩
theorem Ap.make{P:za}{w:Ma}{K:W.Frag}{c:qa->Option Value}{b:Heap}{A:Ha}{a:List Ih}{s:Shared}{H:Hp}(e:Ap P w K c b A a s H)(C:Addr)(f:List Value)(d:List (qa × Value)) :
  Ap P w K c b (A.under (.builtin "type.__call__" ⟨.ref C::f,d⟩)) a s H:=⟨by first|exact e.frames|(simpa using e.frames),e.mod,e.bs,e.su,e.xk,e.Kw,e.md,e.bare⟩
theorem Ap.in1{P:za}{w:Ma}{K:W.Frag}{c:qa->Option Value}{b:Heap}{A:Ha}{a:List Ih}{s:Shared}{H:Hp}(e:Ap P w K c b A a s H) :
  Ap P w K c b A.in1 a s H:=⟨e.frames,e.mod,e.bs,e.su,e.xk,e.Kw,e.md,e.bare⟩
section
variable{X:Cx}{pins:List (Addr × Obj)}{σ:St}{H:Hp}{s s':Shared}
theorem Qa.AD(I:Qa X pins σ H s):Ap X.prog X.w X.K X.mg X.base X.A X.stack s H:=
 ⟨I.ok.frames,I.ok.mod,I.bs,Wb I.ok.su I.sz,I.stack,I.Vl,I.md,I.bare⟩
theorem Qa.after{Q:VK}{u:Value}(I:Qa X pins σ H s)(h:CE X.stack X.prog X.w H s Q u s'):EP X pins σ Q u s':=by
 obtain⟨v,f,i,a,j,c,r,q⟩:=h;obtain⟨k,g,d,t,e⟩:=s';obtain rfl:e=s.os:=i;exact⟨v,f,I.call j c a (λb z=>absurd z (by simp)),r,q⟩
end
def uu(K:W.Frag)(c:Nf)(b:List qa)(a:List Value):Prop:=
 ∀ (s:Shared) (us:List Value),K.In s.heap->(us++a).length=b.length->xg s c ⟨us,[]⟩ (b.zip (us++a))
theorem uu.all{K:W.Frag}{c:Nf}{b:List qa}(h:∀ a:List Value,a.length=b.length->bindArgs c ⟨a,[]⟩=pure (b.zip a)):uu K c b []:=λs a _ d=>by
 rw[Pe]at d ⊢;exact .of_eq (h a d)
section
variable{X:Cx}{CX:bx}{k:Nat}{f C:Addr}{fd:Nf}{ps:List qa}{sp:Sp}{dvs:List V}{ds:List Value}{E:XK}{x m:qa}{p pos apos:Me}{e o:Fa}{es:List Fa}{ta:TE}{t:TA}
structure Mk(K:W.Frag)(C f:Addr):Prop where
 makes:W.makesIn K C=true
 init:W.findIn K (.ref C) "__init__" = some (some (.ref f))
 fn:W.isFn K (.ref f)=true
 kp:W.keepIn K (.ref C)=true
end
section
variable{X:Cx}{CX:bx}{k:Nat}{f C:Addr}{fd:Nf}{ps ks:List qa}{sp:Sp}{E:XK}{x m:qa}{p pos apos kpos:Me}{e o:Fa}{es:List Fa}{kws:List ul}{te ta:TE}{t tk:TA}{nm:Option qa}
structure kL(K:W.Frag)(fd:Nf)(ps ks:List qa)(g:List Value->List Value->List Value)(gV:List V->List V->List V):Prop where
 to:∀ (s:Shared) (us ws:List Value),K.In s.heap->(g us ws).length=ps.length->xg s fd ⟨us,ks.zip ws⟩ (ps.zip (g us ws))
 rel:∀ {vs:List V} {us:List Value} {zs:List V} {ws:List Value},jf vs us->jf zs ws->jf (gV vs zs) (g us ws)
variable{g:List Value->List Value->List Value}{gV:List V->List V->List V}
end
structure ra(N P:List qa)(sc:Scope):Prop where
 kind:sc.kind=.function
 co:sc.isCoroutine=false
 gen:sc.isGenerator=false
 nd:N.Nodup
 pre:N.take P.length=P
 par:∀ x∈P,sc.names.lookup x=some .local\/sc.names.lookup x=some .cell
 yB:∀ y∈sc.names,y.2≠.free
theorem OU{b:qa->Option ig}{x:qa}:∀ {a:List (qa × Value)} {m:qa->Option Value},(∀ v,(x,v) ∉ a)->wz b a m x=m x
 |[],_,_=>rfl
 |(n,v)::r,m,h=>by
  unfold wz;rw[OU λw c=>h w (Ka _ c)];split
  ·have:x≠n:=by rintro rfl;exact h v Ua
   simp[this]
  ·rfl
theorem iP{b:qa->Option ig}{x:qa}:∀ {a:List (qa × Value)} {m:qa->Option Value},(∀ v,(x,v) ∉ a)->xz b a m x=m x
 |[],_,_=>rfl
 |(n,v)::r,m,h=>by
  unfold xz;rw[iP λw c=>h w (Ka _ c)];split
  ·rfl
  ·have:x≠n:=by rintro rfl;exact h v Ua
   simp[this]
theorem PQ{a:qa->Option ig}{x:qa}{v:Value}:∀ {P:List qa} {b:List Value} {i:Nat} {m:qa->Option Value},P.Nodup->P[i]?=some x->b[i]?=some v->a x=some .local->
  wz a (P.zip b) m x=some v
 |[],_,_,_,_,h,_,_=>by simp at h
 |_::_,[],_,_,_,_,h,_=>by simp at h
 |p::P,w::b,0,m,f,c,d,e=>by
  simp at c d;subst c;subst d;show wz a ((p,w)::P.zip b) m p=_;unfold wz;rw[OU λv g=>(bi.mp f).1 (Wp g).1,ja e];simp
 |p::P,w::b,i+1,m,f,c,d,e=>by
  show wz a ((p,w)::P.zip b) m x=_;exact PQ (bi.mp f).2 (by simpa using c) (by simpa using d) e
theorem GQ{a:qa->Option ig}{x:qa}{v:Value}:∀ {P:List qa} {b:List Value} {i:Nat} {m:qa->Option Value},P.Nodup->P[i]?=some x->b[i]?=some v->a x≠some .local->
  xz a (P.zip b) m x=some v
 |[],_,_,_,_,h,_,_=>by simp at h
 |_::_,[],_,_,_,_,h,_=>by simp at h
 |p::P,w::b,0,m,f,c,d,e=>by
  simp at c d;subst c;subst d;show xz a ((p,w)::P.zip b) m p=_;unfold xz;rw[iP λv g=>(bi.mp f).1 (Wp g).1,ua e];simp
 |p::P,w::b,i+1,m,f,c,d,e=>by
  show xz a ((p,w)::P.zip b) m x=_;exact GQ (bi.mp f).2 (by simpa using c) (by simpa using d) e
noncomputable def Pw(N:List qa)(a:List V):St:=a.map some++List.replicate (N.length - a.length) none
noncomputable def Wq(g:bx)(P:za)(w:Ma)(K:W.Frag)(mg:qa->Option Value)(base:Heap)(N:List qa)(b:qa)(a:Scope)(f:Addr)(d:Value)(A:Ha)(outer:List Ih)(s:Shared)(H:Hp)(E:XK):Cx where
 prog:=P
 w:=w
 K:=K
 mg:=mg
 base:=base
 A:=A.deeper (Sg b a s.heap.objs.size f d)
 N:=N
 s₀:=s
 H₀:=H
 env:=Sg b a s.heap.objs.size f d
 outer:=outer
 stack:=Sg b a s.heap.objs.size f d::outer
 ex:=[]
 Vh:=true
 fn:=λ_=>true
 pn:=[]
 xe:=λe i=>wpAny (model P w) (A.deeper (Sg b a s.heap.objs.size f d)) (leaving (Sg b a s.heap.objs.size f d) e) (λ_ c=>g outer H s E e c) (λh c=>g outer H s E h c) i
theorem vT{sc:Scope}{n:Nat}{x:qa}(h:sc.names.lookup x=some .cell):∃ c,(VF n sc.names []).lookup x=some c:=by
 have q:=HB sc.names n [] (.inl h);exact zd.mp q
theorem zpn{O:bx}{P:za}{w:Ma}{K:W.Frag}{L:qa->Option Value}{m:Heap}{N B:List qa}{j:qa}{d:Scope}{f:Addr}{G:Value}{A:Ha}{g:List Ih}{s T:Shared}{H:Hp}{E:XK}{M:List Value}{C:List V}
  (S:ra N B d) (X:A.handled=none) (n:Ap P w K L m A g s H) (hl:C.length=B.length) (r:jf C M)
  (x:InCallC s s.heap.objs.size (wz (Sg j d s.heap.objs.size f G).kindOf (B.zip M) λ_=>none) (VF (s.heap.objs.size+1) d.names []) (xz (Sg j d s.heap.objs.size f G).kindOf (B.zip M) λ_=>none) T) :
  Qa (Wq O P w K L m N j d f G A g s H E) [] (Pw N C) H T:=by
 have Y:B.length<=N.length:=by have:=Ef List.length S.pre;rw[Go]at this;omega
 obtain⟨I,tk,rfl,Q⟩:=x.done;have t:∀ b:Addr,b ∉ (Wq O P w K L m N j d f G A g s H E).ex:=λb z=>absurd (show b∈[]from z) (by simp);refine⟨⟨n.mod,S.kind,rfl,rfl,wa _,λy z c I l=>?_,λy o=>?_,λy c _ h=>?_,λ_=>X,fu n.frames,.inr ⟨rfl,rfl⟩,λb z=>absurd z (t b),n.bs,n.su,λb _ _=>t b,λb z=>absurd z (t b),n.xk,n.Kw⟩,
  rfl,n.bare,Un.kept Q,⟨_,x.toInCall.ns,λi y v I l h3=>?_⟩,λy c h=>⟨_,x.cell y c h⟩,n.md.fresh (wa _),λy c h=>?_,λp D=>absurd (show p∈[]from D) (by simp),n.md.kept Q,?_⟩
 ·exact name_of_addr x.apart (Lf I) (Lf l)
 ·have o:=o;rcases o with o|o
  ·exact vT o
  ·exact absurd rfl (S.yB _ (Lf o))
 ·exact ff (x.above y c (Lf h))
 ·have J:i<C.length:=by
   unfold Pw at l;by_cases J:i<C.length
   ·exact J
   ·rw[mf (by simpa using J)]at l;rw[Rt]at l;split at l<;>cases l
  have U:C[i]?=some v:=by
   unfold Pw at l;rw[Za (by simpa using J),Xa]at l;cases e:C[i]? with
   |none=>rw[e]at l;cases l
   |some a=>rw[e]at l;cases l;rfl
  obtain⟨u,R,Z⟩:=r.get U;have D:B[i]?=some y:=by
   rw[<-S.pre,Ys (by omega)];exact I
  have F:B.Nodup:=by rw[<-S.pre];exact S.nd.sublist (List.take_sublist _ _)
  refine⟨u,Z,?_⟩;rcases S.par y (La D)with k|k
  ·exact .inl ⟨k,PQ F D R k⟩
  ·obtain⟨c,e⟩:=vT k;refine .inr ⟨.inl k,c,e,?_⟩;have q:=x.cell y c e;rw[GQ F D R (by show d.names.lookup y≠_;rw[k];decide)]at q;exact q
 ·exact n.md.fresh (ff (x.above y c (Lf h)))
 ·unfold Pw;show _=N.length;rw[ye,Pb,List.length_replicate];omega
theorem aQ{R:bx}{P:za}{w:Ma}{K:W.Frag}{T:qa->Option Value}{h:Heap}{k:Nat}{f:Addr}{z d:qa}{i:Arguments}{j:List Stmt}{a:Scope}{dV kV F pm g ct oc:Value}{an od:Option Addr}
  {a0:Array (Option Value)} {N U:List qa} {sp:Sp} (lk:K.lookup f=some ⟨oc,od,.func (W.fnOf z d i j a dV kV F pm an g ct),a0⟩) (X:W.codeIn K g d=true) (S:ra N U a)
  (O:∀ l H Q E,sp l H Q E->l.length=U.length)
  (B:∀ (A:Ha) (c:List Ih) (s:Shared) (H:Hp) (l:List V) (Q:VK) (E:XK),Ce k (A.deeper (Sg d a s.heap.objs.size f g))->sp l H Q E->
   ∃ t,Xu (Wq R P w K T h N d a f g A c s H E) j t/\t { nx:=λ_ p=>Q .Mc p,rt:=Q } (Pw N l) H) :
  Ei P w K T h R (k+1) f (W.fnOf z d i j a dV kV F pm an g ct) U sp:=by
 refine⟨O,λA c s H a1 us l Q E Y G hb r M=>?_⟩;have hl:=O _ _ _ _ M;have KX:=G.mod.Ex.keeps λb o e=>(G.bs b o e).1;have Z:=G.mod.nolimit.keeps λb o e=>(G.bs b o e).1;have C:∀ y∈U.zip us,a.names.lookup y.1=some .local\/(a.names.lookup y.1=some .cell/\((VF (s.heap.objs.size+1) a.names []).lookup y.1).isSome=true):=λ⟨n,v⟩ hy=>by
  rcases S.par n (Wp hy).1 with q|q
  ·exact .inl q
  ·exact .inr ⟨q,HB _ _ _ (.inl q)⟩
 refine codeAny_call_function Y.depth (KX _ _ lk) rfl S.co S.gen rfl (W.codeRec_of KX X) (hb _ _ _ _ ?_);refine wpAny_newFunctionEnv_cells S.kind C λa2 he s1 x=>?_;subst he;refine⟨Z.keeps x.toInCall.keep,codeAny_func ?_⟩;obtain⟨t,ht,hq⟩:=B A c s H l Q E (Y.deeper _) M;have I:Qa (Wq R P w K T h N d a f g A c s H E) [] (Pw N l) H s1:=zpn S Y.hd G hl r x;refine Xb (ht [] s1 (Pw N l) H _ I hq) (λfl s' D=>?_) λe s' D=>D;have L:∀ {m:St} {p:Hp} {v:V} {u:Value},Qa (Wq R P w K T h N d a f g A c s H E) [] m p s'->ie v u->Q v p->CE c P w H s Q u s':=
  fun {m p v u} J rv q=>⟨v,p,J.os,J.bare,J.base,J.md,rv,q⟩
 cases fl with
 |ret u=>
  obtain⟨v,m,p,J,rv,q⟩:=D;exact L J rv q
 |next=>
  obtain⟨m,p,J,q⟩:=D;exact L (v:=V.Mc) J rfl q
 |brk=>
  obtain⟨_,_,_,q⟩:=D;exact False.elim q
 |cont=>
  obtain⟨_,_,_,q⟩:=D;exact False.elim q
section
variable{X:Cx}{x:qa}{p pos:Me}{e:Fa}{es:List Fa}{t:TA}{id T:String}{r:List V->Hp->VK->Prop}
def uN(r:List V->Hp->VK->Prop)(t:TA):TE:=λc H Q=>t c H λb a=>r b a Q
theorem lC(i:Oo X (.builtin id) r)(k:Gl X x)(l:X.mg x=none)(n:bootBuiltins x=some (.builtin id))(g:PA X (e::es) t)(m:x ≠ "__name__":=by decide)(b:(x == ("__debug__" : qa))=false:=by decide)
  (j:la (e::es) X.env=(false,Ib e X.env)::la es X.env:=by rfl) (c:(Bc pos (la es X.env)).any (·.1)=false:=by rfl):PE X (.Call (.Name x p) (e::es) [] pos) (uN r t):=by
 intro a s d H Q I h;refine vg (Gy I k l n ?_ m b);exact UI (Re (g pos a s d H _ I h) λus s1 ⟨q,H1,f,o,q1⟩=>i a s1 d H1 q us Q f o q1) j c
theorem sL(i:Oo X (.type T) r)(k:Gl X x)(l:X.mg x=none)(n:bootBuiltins x=some (.type T))(g:PA X (e::es) t)(m:x ≠ "__name__":=by decide)(b:(x == ("__debug__" : qa))=false:=by decide)
  (j:la (e::es) X.env=(false,Ib e X.env)::la es X.env:=by rfl) (c:(Bc pos (la es X.env)).any (·.1)=false:=by rfl):PE X (.Call (.Name x p) (e::es) [] pos) (uN r t):=by
 intro a s d H Q I h;refine vg (Gy I k l n ?_ m b);exact Ie (Re (g pos a s d H _ I h) λus s1 ⟨q,H1,f,o,q1⟩=>i a s1 d H1 q us Q f o q1) j c
end
end L2
namespace HT
open PySem PyProof.Rows
section
open PySem.SeqAt
open PySem.AutoSeq1 (wpAny_loadPart')
open PySem.MeetsSeq PySem.MeetsSeq2 PySem.MeetsSeq3
end
section
variable{prog:za}{w:Ma}{A:Ha}{E:Value->Shared->Prop}{s:Shared}
theorem uy{t b:Addr}{d a:List Value}{Q:Value->Shared->Prop}(C:yw s.heap t d.toArray)(y:yw s.heap b a.toArray)(q:d≠[])
  (v:a=[]->Q (.ref t) s) (x:a≠[]->Q (.ref s.heap.objs.size) { s with heap:=s.heap.push { cls:=.type "tuple",data:=.seq (d++a).toArray } })
  (m:d.length+a.length<=sizeLine):wpAny (model prog w) A (Dg .Add (.ref t) (.ref b)) Q E s:=by
 obtain⟨⟨cls,p,data,u⟩,h,z,n,B⟩:=id C;obtain⟨⟨o,f,j,g⟩,c,k,r,l⟩:=id y;subst z B k l;have e:d.toArray++a.toArray=(d++a).toArray:=by simp
 by_cases i:a=[]
 ·exact kx ⟨_,h,rfl⟩ ⟨_,c,rfl⟩ Hs Ov qj Zi (Ii _ _)
   (tuple_addW1 t b d.toArray a.toArray n r p f u g (by simpa using q) (by simp[i])) ⟨h,c,v i⟩
 ·refine kx ⟨_,h,rfl⟩ ⟨_,c,rfl⟩ Hs Ov qj Zi (Ii _ _)
   (tuple_addW2 t b d.toArray a.toArray n r p f u g (by simpa using q) (by simpa using i) (by rw[Aa,Aa];exact m)) ⟨h,c,?_⟩
  rw[e];exact x i
noncomputable def Hg(n d:Nat):Option Int->Nat
 |none=>d
 |some v=>if v<0 then (v+(n:Int)).toNat else min v.toNat n
theorem XR(v:Int)(n d:Nat):(if v<0 then max (v+(n:Int)) 0 else min v (n:Int))=((Hg n d (some v):Nat):Int):=by
 show (if v<0 then max (v+n) 0 else min v n)=(if v<0 then (v+n).toNat else min v.toNat n);by_cases a:v<0
 ·simp only[ja a];omega
 ·simp only[ua a];omega
theorem k8(b a:Option Int)(n:Nat):Am b a 1 (n:Int)=(((Hg n 0 b:Nat):Int),((Hg n n a:Nat):Int)):=by
 refine rW ?_ ?_
 ·cases b with
  |none=>rfl
  |some v=>exact XR v n 0
 ·cases a with
  |none=>rfl
  |some v=>exact XR v n n
theorem zm5(i j:Nat):jg (i:Int) (j:Int) 1=j - i:=by
 unfold jg;split<;>omega
theorem fT{v:Value}{o:Option Int}{Q:Option Int->Shared->Prop}(p:Vm v o)(h:Q o s):wpAny (model prog w) A (WF v) Q E s:=by
 cases p with
 |none=>exact SN h
 |int i t=>exact slicePart_int h
theorem rS{e:Addr}{f g:Value}{a c:Option Int}{n:Nat}{Q:Int × Int × Nat->Shared->Prop}(j:s.heap.IsSliceOf e f g .none)(pl:Vm f a)(k:Vm g c)
  (h:Q (((Hg n 0 a:Nat):Int),1,Hg n n c - Hg n 0 a) s):wpAny (model prog w) A (XF (.ref e) (pure (n:Int))) Q E s:=by
 obtain⟨l,d,i,b⟩:=id j;refine aa (aa (Pm d b rfl (aa (Pm d b rfl (aa (Pm d b rfl (da ?_)))))));refine aa (SN ?_);refine aa (fT pl (aa (fT k (aa (da ?_)))));show wpAny _ _ (match Am a c 1 n with|(a,c)=>pure (a,(1:Int),jg a c 1)) _ _ s;rw[k8 a c n];show wpAny _ _ (pure (((Hg n 0 a):Int),1,jg (Hg n 0 a:Nat) ((Hg n n c:Nat):Int) 1)) _ _ s;rw[zm5];exact da h
theorem w4(xs:Array Value)(i k:Nat):((List.range k).filterMap λ(m:Nat)=>xs[((i:Int)+(m:Int) * 1).toNat]?).toArray=((xs.toList.drop i).take k).toArray:=by
 have e:(λ(m:Nat)=>xs[(i+(m:Int) * 1).toNat]?)=λm=>xs[i+m]?:=by
  funext m;have:(i+(m:Int) * 1).toNat=i+m:=by omega
  rw[this]
 rw[e];have:=pick_run xs i k;rw[List.filterMap_map]at this;have a:((λx=>xs[x]?) ∘ λx=>i+x)=λm=>xs[i+m]?:=rfl;rw[a]at this;rw[this]
theorem Bl{t k:Addr}{a:Array Value}{n o:Value}{c d:Option Int}{Q:Value->Shared->Prop}(e:yw s.heap t a)(l:s.heap.IsSliceOf k n o .none)(pl:Vm n c)(x:Vm o d)
  (u:¬ (Hg a.size 0 c=0/\Hg a.size a.size d=a.size))
  (h:Q (.ref s.heap.objs.size) { s with heap:=s.heap.push { cls:=.type "tuple",data:=.seq ((a.toList.drop (Hg a.size 0 c)).take (Hg a.size a.size d - Hg a.size 0 c)).toArray } })
  (r:a.size<=sizeLine):wpAny (model prog w) A (Sj (.ref t) (.ref k)) Q E s:=by
 have b:sizeOk (.seq ((a.toList.drop (Hg a.size 0 c)).take (Hg a.size a.size d - Hg a.size 0 c)).toArray):=by
  show ((a.toList.drop (Hg a.size 0 c)).take (Hg a.size a.size d - Hg a.size 0 c)).toArray.size<=sizeLine;rw[Aa,Go,fy,Eb];omega
 obtain⟨v,j,g,p⟩:=id l;have f:s.TypeIs (.ref k) "slice":=⟨v,j,g⟩
 unfold Sj;try with_reducible refine Ac ?_
 refine aa (QC e.typeIs (by decide) ?_);refine aa (af e.typeIs Oc
  (Qc Oc e.typeIs uA ?_ (IB _ _)))
 show wpAny _ _ (Lh (.ref t) >>= _) _ _ s;refine aa (sW e ?_);refine aa (ll f ?_);refine aa (rS l pl x ?_);have i:¬ ((((Hg a.size 0 c):Int) == 0 && (1:Int) == 1 && (Hg a.size a.size d - Hg a.size 0 c) == a.size)=true):=by
  intro q;rw[Ea,Ea]at q;have q1:((Hg a.size 0 c):Int)=0:=eq_of_beq q.1.1;have y:Hg a.size a.size d - Hg a.size 0 c=a.size:=eq_of_beq q.2;exact u ⟨by omega,by omega⟩
 show wpAny _ _ (if (((Hg a.size 0 c:Nat):Int) == 0 && (1:Int) == 1 && (Hg a.size a.size d - Hg a.size 0 c) == a.size)=true then _ else _) _ _ s;rw[ua i,w4];first
  |exact aa (m:=yg _) (Hc (da ⟨_,rfl,da h⟩) b)
  |exact aa (m:=yg _) (Hc (aa (da (da ⟨_,rfl,da h⟩))) b)
  |exact aa (aa (m:=yg _) (Hc (da (da ⟨_,rfl,da h⟩)) b))
  |exact aa (aa (m:=yg _) (Hc (da ⟨_,rfl,da h⟩) b))
end
end HT
namespace L2
open PySem PySem.Spec PyProof.Rows
abbrev TO:=St->Hp->(Option Int->Hp->Prop)->Prop
def PO(X:Cx)(e:Option Fa)(t:TO):Prop:=
 ∀ (a:List (Addr × Obj)) (s:Shared) (σ:St) (H:Hp) (Q:Option Int->Hp->Prop),Qa X a σ H s->t σ H Q->
  wpAny (model X.prog X.w) X.A (evalPart e X.env) (λu c=>∃ o b,Qa X a σ b c/\Vm u o/\Q o b) X.xe s
noncomputable def MY:TO:=λ_ H Q=>Q none H
noncomputable def ywa(t:TE):TO:=λb H Q=>t b H λx a=>∃ i,x=.int i/\Q (some i) a
theorem dL{a:List Int}:∀ {b:List Value},jf (a.map V.int) b->fj b a:=by
 induction a with
 |nil=>intro b r;rw[Qj]at r;cases r;exact .nil
 |cons n a c=>
  intro b r;cases r with
  |cons d f=>
   obtain⟨t,e⟩:=d;subst e;exact .cons n t (c f)
section
variable{X:Cx}{e:Fa}{te:TE}{lo hi:Option Fa}{tl th:TO}{pos p2:Me}
theorem y2:PO X none MY:=by
 intro a s b H Q I h;exact da ⟨none,H,I,.none,h⟩
theorem ş(h:PE X e te):PO X (some e) (ywa te):=by
 intro a s f H Q I c;refine Re (h a s f H _ I c) λu s1 ⟨x,H1,b,d,q1⟩=>?_;obtain⟨i,rfl,q⟩:=q1;obtain⟨t,rfl⟩:=d;exact⟨some i,H1,b,.int i t,q⟩
def Gx(X:Cx)(r:V->Option Int->Option Int->Hp->VK->Prop):Prop:=
 ∀ (a:List (Addr × Obj)) (s:Shared) (σ:St) (H:Hp) (x:V) (v c d:Value) (lo hi:Option Int) (b:Addr) (Q:VK),Qa X a σ H s->ie x v->s.heap.IsSliceOf b c d .none->Vm c lo->Vm d hi->r x lo hi H Q->
  ∃ T e,typeLookup (.type T) "__getitem__" = pure (some (.builtin e))/\s.TypeIs v T/\wpAny (model X.prog X.w) X.A (Sj v (.ref b)) (EP X a σ Q) X.xe s
theorem Gx.or{r d:V->Option Int->Option Int->Hp->VK->Prop}(h:Gx X r)(h':Gx X d):Gx X (λx lo hi H Q=>r x lo hi H Q\/d x lo hi H Q):=by
 intro a s j H x v g i lo hi f Q I e b pl c q;rcases q with q|q
 ·exact h a s j H x v g i lo hi f Q I e b pl c q
 ·exact h' a s j H x v g i lo hi f Q I e b pl c q
def Z8(r:V->Option Int->Option Int->Hp->VK->Prop)(te:TE)(tl th:TO):TE:=λa H Q=>te a H λx b=>tl a b λl c=>th a c λu d=>r x l u d Q
theorem O6{r:V->Option Int->Option Int->Hp->VK->Prop}(y:Gx X r)(p:PE X e te)(w:PO X lo tl)(A:PO X hi th):PE X (.Subscript e (.Slice lo hi none p2) pos) (Z8 r te tl th):=by
 intro a s c H Q I h;refine JB (Re (p a s c H _ I h) λv s1 ⟨x,H1,j,D,q1⟩=>?_);refine wpAny_Slice (Re (w a s1 c H1 _ j q1) λd s2 ⟨l,i,k,pl,B⟩=>Re (A a s2 c i _ k B) λf s3 ⟨u,g,m,pu,C⟩=>?_);refine da ?_;have n:Qa X a c g { s3 with heap:=s3.heap.push { cls:=.type "slice",data:=.fields #[d,f,.none] } }:=m.kept λb ob q=>ba _ q;obtain⟨T,E,o,z,t⟩:=y a { s3 with heap:=s3.heap.push { cls:=.type "slice",data:=.fields #[d,f,.none] } } c g x v d f l u s3.heap.objs.size Q n D (RC ..) pl pu C;exact tail_any z o t (by with_unfolding_all rfl)
def nC(xs:List V)(lo hi:Option Int):List V:=(xs.drop (HT.Hg xs.length 0 lo)).take (HT.Hg xs.length xs.length hi - HT.Hg xs.length 0 lo)
theorem xS(xs:List V)(lo hi:Option Int):(nC xs lo hi).length<=xs.length:=by
 unfold nC;rw[Go,fy];omega
def KR(K:W.Frag):V->Option Int->Option Int->Hp->VK->Prop:=λx lo hi H Q=>∃ a xs,x=.ref a/\Wi K H a xs/\
 ¬ (HT.Hg xs.length 0 lo=0/\HT.Hg xs.length xs.length hi=xs.length)/\∀ p,H p=none->Q (.ref p) (ic H p (.ub (nC xs lo hi)))
theorem Q0:Gx X (KR X.K):=by
 intro f s p H x v n o lo hi m Q I l g pl k h;obtain⟨a,xs,rfl,j,i,q⟩:=h;cases l;obtain⟨its,r,d,e⟩:=I.tuple j;have c:its.toArray.size=xs.length:=by rw[Aa];exact r.length.symm
 refine⟨"tuple",_,Oc.lookup,d.typeIs,?_⟩;refine HT.Bl d g pl k (by rw[c];exact i) ?_ (by rw[c];exact e);rw[c];refine⟨.ref s.heap.objs.size,_,I.laid (λb ob q=>ba _ q) (wa _) ?_,rfl,q _ (I.md.fresh (wa _))⟩;exact⟨Wb (xS xs lo hi) e,_,(r.drop (HT.Hg xs.length 0 lo)).take (HT.Hg xs.length xs.length hi - HT.Hg xs.length 0 lo),VI _ _⟩
def N8(K:W.Frag):R2:=λx y H Q=>∃ a b xs c,x=.ref a/\y=.ref b/\Wi K H a xs/\Wi K H b c/\xs≠[]/\xs.length+c.length<=sizeLine/\
 (c=[]->Q (.ref a) H)/\(c≠[]->∀ p,H p=none->Q (.ref p) (ic H p (.ub (xs++c))))
theorem jf.Bs{xs:List V}{a:List Value}(r:jf xs a):a=[] ↔ xs=[]:=by
 cases r with
 |nil=>simp
 |cons _ _=>simp
theorem J8:yj X (Dg .Add) (N8 X.K):=by
 intro g s p H x y v u Q I m n h;obtain⟨a,b,xs,o,rfl,rfl,i,j,k,e,q1,l⟩:=h;cases m;cases n;obtain⟨its,d,p1,_⟩:=I.tuple i;obtain⟨f,c,p2,_⟩:=I.tuple j;refine HT.uy p1 p2 (λz=>k (d.Bs.mp z)) (λz=>⟨.ref a,H,I,rfl,q1 (c.Bs.mp z)⟩) (λz=>?_) (by rw[<-d.length,<-c.length];exact e);refine⟨.ref s.heap.objs.size,_,I.laid (λb ob q=>ba _ q) (wa _) ?_,rfl,l (λw=>z (c.Bs.mpr w)) _ (I.md.fresh (wa _))⟩;exact⟨by rw[ye];exact e,_,d.append c,VI _ _⟩
end
noncomputable def Xv(n:Nat)(i:Int):Option Nat:=if 0<=i then (if i<n then some i.toNat else none)else if -(n:Int)<=i then some (i+n).toNat else none
def tq{a:Type}(xs:List a)(i:Int):Option a:=(Xv xs.length i).bind λj=>xs[j]?
theorem vS{n:Nat}{i:Int}{j:Nat}(h:Xv n i=some j):seqIndex? i n=some j/\j<n/\-(n:Int)<=i/\i<n:=by
 unfold Xv at h;by_cases b:0<=i
 ·rw[ja b]at h;by_cases a:i<n
  ·rw[ja a]at h;have e:=Ya h;exact⟨by rw[pz b a,e],by omega,by omega,a⟩
  ·rw[ua a]at h;cases h
 ·rw[ua b]at h;by_cases a:-n<=i
  ·rw[ja a]at h;have e:=Ya h;exact⟨by rw[lx (by omega) a,e],by omega,a,by omega⟩
  ·rw[ua a]at h;cases h
theorem nW{a:Type}{xs:List a}{i:Int}{v:a}(h:tq xs i=some v):∃ j,seqIndex? i xs.length=some j/\xs[j]?=some v/\j<xs.length/\-(xs.length:Int)<=i/\i<xs.length:=by
 unfold tq at h;cases e:Xv xs.length i with
 |none=>rw[e]at h;cases h
 |some j=>
  rw[e]at h;obtain⟨b,c,d,f⟩:=vS e;exact⟨j,b,h,c,d,f⟩
theorem Wv{a:Type}{xs:List a}{j:Nat}{v:a}(h:xs[j]?=some v):tq xs (j:Int)=some v:=by
 have b:=(na.mp h).1;have e:Xv xs.length j=some j:=by
  unfold Xv;rw[ja (by omega),ja (by omega)];simp
 unfold tq;rw[e];exact h
def DJ(b:Fa):Prop:=∀ o i,kt b false o i=operate [o,i] (Sj o i)
def cz(X:Cx)(r:R2):Prop:=
 ∀ (b a:Fa) (pins:List (Addr × Obj)) (s:Shared) (σ:St) (H:Hp) (x y:V) (v u:Value) (Q:VK),Qa X pins σ H s->ie x v->ie y u->r x y H Q->
  kt a false v u=operate [v,u] (Sj v u)->wpAny (model X.prog X.w) X.A (NW b a v u) (EP X pins σ Q) X.xe s
def Zw(X:Cx)(b:String)(r:V->List V->Hp->VK->Prop):Prop:=
 ∀ (a:List (Addr × Obj)) (s:Shared) (σ:St) (H:Hp) (x:V) (xs:List V) (v:Value) (us:List Value) (Q:VK),Qa X a σ H s->ie x v->jf xs us->r x xs H Q->
  wpAny (model X.prog X.w) X.A (call (.builtin b) (v::us)) (EP X a σ Q) X.xe s
section
variable{X:Cx}{a b:Fa}{ta tb:TE}{pos:Me}
theorem cz.or{r e:R2}(h:cz X r)(h':cz X e):cz X (λx y H Q=>r x y H Q\/e x y H Q):=by
 intro b a c s i H x y v u Q I f g q d;rcases q with q|q
 ·exact h b a c s i H x y v u Q I f g q d
 ·exact h' b a c s i H x y v u Q I f g q d
theorem Zw.or{b:String}{r c:V->List V->Hp->VK->Prop}(h:Zw X b r)(h':Zw X b c):Zw X b (λx xs H Q=>r x xs H Q\/c x xs H Q):=by
 intro a s g H x xs v f Q I e d q;rcases q with q|q
 ·exact h a s g H x xs v f Q I e d q
 ·exact h' a s g H x xs v f Q I e d q
theorem N3{r:R2}(i:cz X r)(f:PE X a ta)(g:PE X b tb)(j:DJ b):PE X (.Subscript a b pos) (JF r ta tb):=by
 intro c s n H Q I h;exact JB (QL f g I h λv u m x y d e k l q=>i a b c m n d x y v u Q e k l q (j _ _))
noncomputable def pN(K:W.Frag):R2:=λx y H Q=>∃ p xs i v,x=.ref p/\y=.int i/\Cg K H p xs/\tq xs i=some v/\Q v H
noncomputable def HL(K:W.Frag):R2:=λx y H Q=>∃ p xs i v,x=.ref p/\y=.int i/\Wi K H p xs/\tq xs i=some v/\Q v H
theorem aY:cz X (pN X.K):=by
 intro g f b s G H x y v u Q I E F h m;obtain⟨p,xs,i,z,rfl,rfl,D,B,q⟩:=h;cases E;obtain⟨t,rfl⟩:=F;obtain⟨its,r,pl,M⟩:=I.list D;obtain⟨j,c,n,J,o,A⟩:=nW B;obtain⟨w,k,e⟩:=r.get n;have C:=r.length;have L:=iG;have a:EP X b G Q w s:=⟨z,H,I,e,q⟩
 by_cases l:0<=i
 ·have d:i.toNat=j:=by
   rw[pz l A]at c;exact Ya c
  exact item_listR pl.isList l (by omega) (by rw[d];simpa using k) a m
 ·have d:(i+its.toArray.size).toNat=j:=by
   rw[lx (by omega) o]at c;rw[Aa,<-C];exact Ya c
  exact mx pl.isList.typeIs SC.lookup
   (wpAny_getItem_list_neg pl.isList (by omega) (by rw[Aa]<;>omega) (by omega) (by rw[d];simpa using k) ⟨rfl,a⟩) m
theorem π:cz X (HL X.K):=by
 intro e d a s C H x y v u Q I A B h o;obtain⟨p,xs,i,z,rfl,rfl,n,l,q⟩:=h;cases A;obtain⟨t,rfl⟩:=B;obtain⟨its,r,pl,J⟩:=I.tuple n;obtain⟨j,g,k,D,E,F⟩:=nW l;obtain⟨w,f,c⟩:=r.get k;have m:=r.length;have G:=iG;have b:EP X a C Q w s:=⟨z,H,I,c,q⟩
 exact mx pl.typeIs slot_tuple_getitem.lookup
  (getItem_tuple pl (by omega) (by omega) (by rw[Aa,<-m];exact g) (by simpa using f) ⟨rfl,b⟩) o
theorem M2(a:List Value)(n j:Nat)(u:Value):rf (·.setIfInBounds j u) { cls:=.type "list",data:=.seq a.toArray n }={ cls:=.type "list",data:=.seq (a.set j u).toArray n }:=by
 simp[rf]
theorem Qa.Ca{a:List (Addr × Obj)}{b:St}{H:Hp}{s:Shared}{p:Addr}{xs:List V}(I:Qa X a b H s)(h:H p=some (.Ca xs)) :
  ∃ (its:List Value) (n:Nat),jf xs its/\s.heap.get? p=some { cls:=.type "list",data:=.seq its.toArray n }/\xs.length<=sizeLine:=by
 obtain⟨z,its,n,r,e⟩:=I.md p _ h;exact⟨its,n,r,e,z⟩
theorem Qa.nB{c:List (Addr × Obj)}{j:St}{H:Hp}{s:Shared}{p:Addr}{xs g:List V}{its a:List Value}{n d:Nat}{f:Obj->Obj}(I:Qa X c j H s)(h:H p=some (.Ca xs))
  (l:s.heap.get? p=some { cls:=.type "list",data:=.seq its.toArray n }) (i:f { cls:=.type "list",data:=.seq its.toArray n }={ cls:=.type "list",data:=.seq a.toArray d }) (r:jf g a) (m:g.length<=sizeLine) (t:Nat) :
  Qa X c j (ic H p (.Ca g)) { s with heap:=s.heap.update p f,toks:=t }:=by
 have e:(s.heap.update p f).get? p=some { cls:=.type "list",data:=.seq a.toArray d }:=by
  rw[Bd f l (by rw[i]<;>rfl),i]
 refine I.write (by rw[h];trivial) (.inl rfl) (λb u k q=>(fg _ _ (Te k)).trans q) ⟨_,e⟩ ?_;exact⟨m,a,d,r,e⟩
def ì:V->V->V->Hp->(Hp->Prop)->Prop:=λo i v H Q=>∃ p xs k j,o=.ref p/\i=.int k/\H p=some (.Ca xs)/\Xv xs.length k=some j/\Q (ic H p (.Ca (xs.set j v)))
theorem e8:DL X ì:=by
 intro w s G H o i v F E u Q I A z B h;obtain⟨p,xs,k,j,rfl,rfl,m,x,q⟩:=h;cases A;obtain⟨t,rfl⟩:=z;obtain⟨its,n,r,d,y⟩:=I.Ca m;obtain⟨a,C,g,l⟩:=vS x;have c:=r.length;have D:=iG;have e:=
  I.nB m d (M2 its n j u) (r.set B j) (by rw[Xp];exact y) s.toks
 by_cases f:0<=k
 ·have b:k.toNat=j:=by
   rw[pz f l]at a;exact Ya a
  exact W.ki_setAt d f (by omega) (by rw[Aa,<-c];exact l) (by rw[b];exact⟨_,e,q⟩)
 ·have b:(k+its.toArray.size).toNat=j:=by
   rw[lx (by omega) g]at a;rw[Aa,<-c];exact Ya a
  exact W.ki_setBack d (by omega) (by rw[Aa,<-c];exact g) (by omega) (by rw[b];exact⟨_,e,q⟩)
theorem QZ(b a:Option Int)(n:Nat):(ri b a none n).1=((HT.Hg n 0 b:Nat):Int)/\(ri b a none n).2.1=((HT.Hg n n a:Nat):Int)/\(ri b a none n).2.2=1:=by
 refine⟨?_,?_,rfl⟩
 ·cases b with
  |none=>simp[ri,HT.Hg]
  |some i=>
   simp only[ri,HT.Hg,uw];by_cases h:i<0
   ·simp only[h,vm]<;>omega
   ·simp only[h,Zs]<;>omega
 ·cases a with
  |none=>simp[ri,HT.Hg]
  |some i=>
   simp only[ri,HT.Hg,uw];by_cases h:i<0
   ·simp only[h,vm]<;>omega
   ·simp only[h,Zs]<;>omega
theorem zg1(a:List Value)(b c:Option Int):slicePick a.toArray b c none=((a.drop (HT.Hg a.length 0 b)).take (HT.Hg a.length a.length c - HT.Hg a.length 0 b)).toArray:=by
 obtain⟨d,e,f⟩:=QZ b c a.toArray.size;unfold slicePick;rw[d,e,f];simp only[sliceRange_one,pick_run]<;>rfl
def kQ(K:W.Frag):V->Option Int->Option Int->Hp->VK->Prop:=λx c b H Q=>∃ a xs,x=.ref a/\Cg K H a xs/\∀ p,H p=none->Q (.ref p) (ic H p (.Ca (nC xs c b)))
theorem Ì:Gx X (kQ X.K):=by
 intro g s t H x v o p d e n Q I m i pl l h;obtain⟨a,xs,rfl,j,q⟩:=h;cases m;obtain⟨its,r,f,k⟩:=I.list j;have c:=r.length;refine⟨"list",_,SC.lookup,f.isList.typeIs,?_⟩;refine wpAny_getItem_list_slice f.isList i pl l .none (by simp) ?_ (by rw[Aa]<;>omega);rw[zg1,<-c];refine⟨.ref s.heap.objs.size,_,I.laid (λb ob q=>ba _ q) (wa _) ?_,rfl,q _ (I.md.fresh (wa _))⟩;exact⟨Wb (xS xs d e) k,_,0,(r.drop (HT.Hg xs.length 0 d)).take (HT.Hg xs.length xs.length e - HT.Hg xs.length 0 d),Ba _ rfl⟩
noncomputable def dk:V->Bool
 | .Mc=>true
 | .bl _=>true
 | .int _=>true
 | .str _=>true
 |_=>false
noncomputable def Jn:V->V->Bool
 | .Mc,.Mc=>true
 | .bl a,.bl b=>a == b
 | .bl a,.int b=>(if a then 1 else 0) == b
 | .int a,.bl b=>a == (if b then 1 else 0)
 | .int a,.int b=>a == b
 | .str a,.str b=>a == b
 |_,_=>false
theorem MK{A:Ha}{s:Shared}{y x:V}{u v:Value}(f:ie y u)(c:ie x v)(g:dk y=true)(e:dk x=true):ve A s u v (Jn y x):=by
 cases y with
 |Mc=>
  cases f;cases x with
  |Mc=>cases c;exact wm _
  |bl b=>cases c;exact tW b
  |int b=>obtain⟨t,rfl⟩:=c;exact uW b t
  |str b=>obtain⟨t,rfl⟩:=c;exact vW b t
  |_=>exact absurd (e) jb
 |bl a=>
  cases f;cases x with
  |Mc=>cases c;exact wW a
  |bl b=>cases c;exact xW a b
  |int b=>obtain⟨t,rfl⟩:=c;exact yW a b t
  |str b=>obtain⟨t,rfl⟩:=c;exact zW a b t
  |_=>exact absurd (e) jb
 |int a=>
  obtain⟨d,rfl⟩:=f;cases x with
  |Mc=>cases c;exact AW a d
  |bl b=>cases c;exact BW a d b
  |int b=>obtain⟨t,rfl⟩:=c;exact CW a d b t
  |str b=>obtain⟨t,rfl⟩:=c;exact Ws a d b t
  |_=>exact absurd (e) jb
 |str a=>
  obtain⟨d,rfl⟩:=f;cases x with
  |Mc=>cases c;exact DW a d
  |bl b=>cases c;exact EW a d b
  |int b=>obtain⟨t,rfl⟩:=c;exact Xs a d b t
  |str b=>obtain⟨t,rfl⟩:=c;exact GW a d b t
  |_=>exact absurd (e) jb
 |_=>exact absurd (g) jb
def wy(x:V)(u:Value):Bool:=match u with
 | .none=>Jn .Mc x
 | .bool b=>Jn (.bl b) x
 | .int i _=>Jn (.int i) x
 | .str z _=>Jn (.str z) x
 |_=>false
theorem bV{x y:V}{u:Value}(r:ie y u)(f:dk y=true):wy x u=Jn y x:=by
 cases y with
 |Mc=>cases r;rfl
 |bl b=>cases r;rfl
 |int i=>obtain⟨t,rfl⟩:=r;rfl
 |str z=>obtain⟨t,rfl⟩:=r;rfl
 |_=>exact absurd (f) jb
theorem cN{x:V}:∀ {xs:List V} {us:List Value},jf xs us->xs.all dk=true->us.any (wy x)=xs.any λy=>Jn y x
 |_,_,.nil,_=>rfl
 |y::xs,u::us,.cons r t,f=>by
  rw[Yg,Ea]at f;rw[Ff,Ff,bV r f.1,cN t f.2]
theorem hL{A:Ha}{s:Shared}{x:V}{v:Value}(c:ie x v)(b:dk x=true):∀ {xs:List V} {us:List Value},jf xs us->xs.all dk=true->∀ u∈us,ve A s u v (wy x u)
 |_,_,.nil,_=>λu a=>by cases a
 |y::xs,u::us,.cons r t,f=>λd a=>by
  rw[Yg,Ea]at f;rcases Da.mp a with rfl|a
  ·rw[bV r f.1];exact MK r c f.1 b
  ·exact hL c b t f.2 d a
def LI(x:V)(xs:List V):Bool:=xs.any λy=>Jn y x
def TR(K:W.Frag)(a:Bool):R2:=λx y H Q=>∃ p xs,y=.ref p/\(Cg K H p xs\/Wi K H p xs)/\dk x=true/\xs.all dk=true/\Q (.bl (if a then !LI x xs else LI x xs)) H
theorem LR:yj X (Gc .In) (TR X.K false):=by
 intro e s j H x y v u Q I f i h;obtain⟨p,xs,rfl,a,d,b,q⟩:=h;cases i;rcases a with a|a
 ·obtain⟨its,r,pl,g⟩:=I.list a;refine gy (wy x) pl.isList (λw c=>hL f d r b w (by simpa using c)) ⟨.bl _,H,I,rfl,?_⟩;rw[show its.toArray.any (wy x)=its.any (wy x) by simp,cN r b];exact q
 ·obtain⟨its,r,pl,g⟩:=I.tuple a;refine px (wy x) pl (λw c=>hL f d r b w (by simpa using c)) ⟨.bl _,H,I,rfl,?_⟩;rw[show its.toArray.any (wy x)=its.any (wy x) by simp,cN r b];exact q
theorem Qr:Oo X (.builtin "len") (λxs H Q=>∃ p b,xs=[.ref p]/\(Cg X.K H p b\/Wi X.K H p b)/\Q (.int b.length) H):=by
 intro e s k H xs j Q I r h;obtain⟨p,b,rfl,c,q⟩:=h;obtain⟨u,rfl,g⟩:=jw r;cases g;have i:=iG;rcases c with c|c
 ·obtain⟨its,d,pl,f⟩:=I.list c;have a:=d.length;exact Calls.call_len_list pl.isList (by simp only[Aa]<;>omega) ⟨.int b.length,H,I.tok _,⟨s.toks+1,by rw[Aa,a]⟩,q⟩
 ·obtain⟨its,d,pl,f⟩:=I.tuple c;have a:=d.length;exact len_tuple pl (by simp only[Aa]<;>omega) ⟨.int b.length,H,I.tok _,⟨s.toks+1,by rw[Aa,a]⟩,q⟩
theorem Oo.or{f:Value}{r b:List V->Hp->VK->Prop}(h:Oo X f r)(h':Oo X f b):Oo X f (λxs H Q=>r xs H Q\/b xs H Q):=by
 intro a s e H xs d Q I c q;rcases q with q|q
 ·exact h a s e H xs d Q I c q
 ·exact h' a s e H xs d Q I c q
theorem sB:Oo X (.type "list") (λxs H Q=>∃ p d,xs=[.ref p]/\(Cg X.K H p d\/Wi X.K H p d)/\∀ l,H l=none->Q (.ref l) (ic H l (.Ca d))):=by
 intro m s A H xs B Q I r h;obtain⟨p,d,rfl,i,q⟩:=h;obtain⟨u,rfl,z⟩:=jw r;cases z;have f:∀ its,jf d its->d.length<=sizeLine->∀ h' a,(∀ b y,s.heap.get? b=some y->h'.get? b=some y)->
   h'.get? s.heap.objs.size=some { cls:=.type "list",dict:=none,data:=.seq its.toArray a,slots:=#[] }->EP X m A Q (.ref s.heap.objs.size) { s with heap:=h' }:=λits c j h' a k e=>
  ⟨.ref s.heap.objs.size,_,I.laid k (wa _) (show mn X.prog X.w _ h' _ (.Ca d)from⟨j,its,a,c,e⟩),rfl,q _ (I.md.fresh (wa _))⟩
 rcases i with i|i
 ·obtain⟨its,c,pl,j⟩:=I.list i;have g:=c.length;obtain⟨o,x,t,n,v⟩:=pl.isList;exact HW p (.inl rfl) x t v (λh' a k e=>f its c j h' a k e) (by simp only[Aa]<;>omega)
 ·obtain⟨its,c,pl,j⟩:=I.tuple i;have g:=c.length;obtain⟨o,x,t,n,v⟩:=pl;exact HW p (.inr rfl) x t v (λh' a k e=>f its c j h' a k e) (by simp only[Aa]<;>omega)
def fQ(K:W.Frag)(T:String)(x:V)(H:Hp):Prop:=match x with
 | .str _=>T = "str"
 | .int _=>T = "int"
 | .ref p=>(T = "list"/\∃ xs,Cg K H p xs)\/(T = "tuple"/\∃ o,K.lookup p=some o/\o.cls=.type "tuple"/\o.dict=none)\/
   (T = "dict"/\((∃ a,H p=some (.dK a))\/∃ a,H p=some (.dT a)))\/(T = "set"/\∃ S n,H p=some (.set S n))
 |_=>False
theorem fY{d:List (Addr × Obj)}{l:St}{H:Hp}{s:Shared}{T:String}{x:V}{v:Value}(I:Qa X d l H s)(r:ie x v)(ty:fQ X.K T x H) :
  s.TypeIs v T/\∀ a,v=.ref a->∃ ob,s.heap.get? a=some ob/\ob.dict=none:=by
 cases x with
 |str z=>
  obtain⟨t,rfl⟩:=r;cases (ty);exact⟨typeIs_str s z t,λ_ e=>nomatch e⟩
 |int i=>
  obtain⟨t,rfl⟩:=r;cases (ty);exact⟨typeIs_int s i t,λ_ e=>nomatch e⟩
 |ref p=>
  cases r;rcases ty with⟨rfl,xs,k⟩|⟨rfl,o,b,j,g⟩|⟨rfl,b⟩|⟨rfl,S,n,b⟩
  ·obtain⟨its,_,pl,_⟩:=I.list k;refine⟨pl.isList.typeIs,λa e=>?_⟩;cases e;obtain⟨o,n,e,c,g,_⟩:=pl;exact⟨o,e,g⟩
  ·refine⟨⟨o,I.Yj p o b,j⟩,λa e=>?_⟩;cases e;exact⟨o,I.Yj _ o b,g⟩
  ·have z:∃ o,s.heap.get? p=some o/\o.ExactDict:=by
    rcases b with⟨h,b⟩|⟨h,b⟩
    ·obtain⟨_,_,_,_,o,_,_,e,ex,_⟩:=I.md p _ b;exact⟨o,e,ex⟩
    ·obtain⟨_,_,_,_,o,_,_,e,ex,_⟩:=I.md p _ b;exact⟨o,e,ex⟩
   obtain⟨o,e,ex⟩:=z;refine⟨⟨o,e,ex.1⟩,λa f=>?_⟩;cases f;exact⟨o,e,ex.2.1⟩
  ·obtain⟨o,_,_,_,e,ex,_⟩:=I.md p _ b;refine⟨⟨o,e,ex.1⟩,λa f=>?_⟩;cases f;exact⟨o,e,ex.2.1⟩
 |_=>exact False.elim ty
def x4(K:W.Frag)(T:String)(r:V->List V->Hp->VK->Prop)(d:TE)(t:TA):TE:=λb H Q=>d b H λx a=>fQ K T x a/\t b a λxs c=>r x xs c Q
variable{o e:Fa}{es:List Fa}{to:TE}{t:TA}{name:qa}{apos cpos:Me}{T id:String}{r:V->List V->Hp->VK->Prop}
theorem vY(B:Np T)(g:cO T name id)(i:Op (.builtin id)=pure (.type "method_descriptor"))(y:Zw X id r)(z:PE X o to)(w:PA X (e::es) t)
  (c:Oe o name X.env (Ib o X.env)=Ib o X.env:=by rfl)
  (f:((Bc cpos (la (e::es) X.env)).all (λx=>!x.1) && (si cpos (ng [] X.env)).all (λx=>x.1.isSome)
   && decide ((e::es).length+([]:List ul).length+(if ([]:List ul).isEmpty then 0 else 1)<30))=true:=by rfl)
  (d:(apos.endLine == cpos.line)=true:=by rfl) (A:la (e::es) X.env=(false,Ib e X.env)::la es X.env:=by rfl) (b:(Bc cpos (la es X.env)).any (·.1)=false:=by rfl) :
  PE X (.Call (.Attribute o name apos) (e::es) [] cpos) (x4 X.K T r to t):=by
 intro a s j H Q I h;refine qx c f d rfl (Re (z a s j H _ I h) λv s1 ⟨x,H1,k,m,ty,q1⟩=>?_);obtain⟨q,u⟩:=fY k m ty;refine⟨T,id,B,g,i,q,u,?_⟩;have l:=w cpos a s1 j H1 _ k q1;rw[A]at l ⊢;refine Jj (by show (false || (Bc cpos (la es X.env)).any (·.1))=false;rw[b]<;>rfl) (Ak ?_);exact Re l λus s2 ⟨E,n,p,D,C⟩=>y a s2 j n x E v us Q p m D C
end
def nP(X:Cx)(b:String)(r:V->List V->Hp->VK->Prop):Prop:=
 ∀ (a:List (Addr × Obj)) (s:Shared) (σ:St) (H:Hp) (x:V) (xs:List V) (v:Value) (us:List Value) (Q:VK),Qa X a σ H s->ie x v->jf xs us->r x xs H Q->
  wpAny (model X.prog X.w) X.A (call (.builtin b) (v::us)) (EP X a σ Q) X.xe s
theorem jf.one:∀ {x:V} {us:List Value},jf [x] us->∃ u,us=[u]/\ie x u
 |_,_,.cons r .nil=>⟨_,rfl,r⟩
theorem jf.two:∀ {x y:V} {us:List Value},jf [x,y] us->∃ u v,us=[u,v]/\ie x u/\ie y v
 |_,_,_,.cons r (.cons q .nil)=>⟨_,_,rfl,r,q⟩
theorem jf.zero:∀ {a:List Value},jf [] a->a=[]
 |_,.nil=>rfl
theorem jf.eraseIdx:∀ {xs:List V} {us:List Value} (i:Nat),jf xs us->jf (xs.eraseIdx i) (us.eraseIdx i)
 |_,_,_,.nil=>.nil
 |_,_,0,.cons _ t=>t
 |_,_,i+1,.cons r t=>.cons r (jf.eraseIdx i t)
section
variable{X:Cx}{pins:List (Addr × Obj)}{σ:St}{H:Hp}{s:Shared}{l b:Addr}{xs ys zs:List V}
theorem Qa.qE{its a:List Value}{n:Nat}{f:Array Value->Array Value}{t':Nat}(I:Qa X pins σ H s)(b:H l=some (.Ca xs))
  (e:s.heap.get? l=some { cls:=.type "list",data:=.seq its.toArray n }) (d:f its.toArray=a.toArray) (h:jf ys a) (i:ys.length<=sizeLine) :
  Qa X pins σ (ic H l (.Ca ys)) { s with heap:=s.heap.update l (rf f),toks:=t' }:=by
 have q:=zaA e f;rw[d]at q;refine I.write (by rw[b];exact trivial) (.inl rfl) (λj u c g=>(fg s.heap (rf f) (Te c)).trans g) ⟨_,q⟩ ?_;exact⟨i,a,_,h,q⟩
theorem Qa.VA{its:List Value}{t':Nat}(I:Qa X pins σ H s)(a:jf ys its)(b:ys.length<=sizeLine) :
  Qa X pins σ (ic H s.heap.objs.size (.Ca ys)) { s with heap:=s.heap.push { cls:=.type "list",data:=.seq its.toArray },toks:=t' }:=
 I.laid (λ_ _ q=>ba _ q) (wa _) ⟨b,its,0,a,Ba _ rfl⟩
theorem Qa.fresh(I:Qa X pins σ H s):H s.heap.objs.size=none:=I.md.fresh (wa _)
theorem Qa.Nw(I:Qa X pins σ H s)(a:H l=some (.Ca xs)):xs.length<=sizeLine/\∃ (its:List Value) (n:Nat),jf xs its/\xs.length=its.length/\s.heap.get? l=some { cls:=.type "list",data:=.seq its.toArray n }:=by
 obtain⟨z,its,n,r,e⟩:=I.md l _ a;exact⟨z,its,n,r,r.length,e⟩
theorem F5{n:Nat}(h:n<=sizeLine):wn n=false:=by
 exact yd (by omega)
end
section
variable{X:Cx}
def CL:V->List V->Hp->VK->Prop:=λx a H Q=>∃ l xs y,x=.ref l/\a=[y]/\H l=some (.Ca xs)/\xs.length<sizeLine/\Q .Mc (ic H l (.Ca (xs++[y])))
theorem NJ:nP X "list.append" CL:=by
 intro b s m H x k v j Q I f d h;obtain⟨l,xs,y,rfl,rfl,a,i,q⟩:=h;cases f;obtain⟨u,rfl,c⟩:=d.one;obtain⟨z,its,n,r,g,e⟩:=I.Nw a;refine call_meets F.slot_list_append ⟨_,e,rfl⟩ F.entry_list_append (F.args_list_append_2 _ _) (PySem.list_append l its.toArray n u (by rw[Aa];omega)) ⟨e,?_⟩;refine⟨.Mc,_,I.qE a e (by simp) (r.append (.cons c .nil)) ?_,rfl,q⟩;rw[ye,List.length_singleton];omega
def jW:V->List V->Hp->VK->Prop:=λx c H Q=>∃ l b xs a,x=.ref l/\c=[.ref b]/\H l=some (.Ca xs)/\H b=some (.Ca a)/\xs.length+a.length<=sizeLine/\Q .Mc (ic H l (.Ca (xs++a)))
theorem qS:nP X "list.extend" jW:=by
 intro g s G H x C v B Q I w t h;obtain⟨l,b,xs,E,rfl,rfl,f,j,A,q⟩:=h;cases w;obtain⟨u,rfl,p⟩:=t.one;cases p;obtain⟨z,its,n,r,y,e⟩:=I.Nw f;obtain⟨D,a,m,o,k,i⟩:=I.Nw j;have d:its.toArray.size+a.toArray.size<=sizeLine:=by rw[Aa,Aa];omega
 have c:¬ (!its.toArray.isEmpty && wn (its.toArray.size+a.toArray.size))=true:=by
  rw[F5 d,vA];exact jb
 refine call_meets F.slot_list_extend ⟨_,e,rfl⟩ F.entry_list_extend (F.args_list_extend_2 _ _)
  (AutoSeq1.list_extend_list_list_0 l its.toArray n b a.toArray m c (by rw[Aa];omega) (by omega)) ⟨e,i,?_⟩
 refine⟨.Mc,_,I.qE f e (by simp) (r.append o) ?_,rfl,q⟩;rw[ye];omega
def xae:R2:=λx y H Q=>∃ l b xs a,x=.ref l/\y=.ref b/\H l=some (.Ca xs)/\H b=some (.Ca a)/\xs.length+a.length<=sizeLine/\∀ p,H p=none->Q (.ref p) (ic H p (.Ca (xs++a)))
theorem o7:yj X (Dg .Add) xae:=by
 intro c s C H x y v u Q I m o h;obtain⟨l,b,xs,B,rfl,rfl,i,g,t,q⟩:=h;cases m;cases o;obtain⟨z,its,n,r,p,e⟩:=I.Nw i;obtain⟨A,a,w,k,j,d⟩:=I.Nw g;refine PySem.P.add_list e d ?_ (by rw[Aa,Aa];omega);have f:its.toArray++a.toArray=(its++a).toArray:=by simp
 rw[f];exact⟨.ref _,_,I.VA (r.append k) (by rw[ye];omega),rfl,q _ I.fresh⟩
end
section
variable{prog:za}{w:Ma}{A:Ha}{E:Value->Shared->Prop}{s:Shared}
set_option maxRecDepth 100000 in
end
section
variable{X:Cx}
end
end L2
namespace Att
open PySem PySem.W PySem.Calls PyProof.Rows
theorem m3{P:Params}{h:Heap}:∀ (c:List Int) (d:List Value),WellAll P h d (c.map eJ)->fj d c:=by
 intro c;induction c with
 |nil=>
  intro d w;cases w;exact .nil
 |cons n c e=>
  intro d w;cases w with
  |cons a b=>
   cases a;exact .cons _ _ (e _ b)
theorem D2{l:OpenLaw}{n:Nat}(v:l.most=some n){P:Params}{h:Heap}{args:List WData}{e:List Value}
  (b:l.row.toRowW.claim.pre args=true) (m:WellAll P h e args) :
  ∃ a o c,e=[cc a]/\args=[WData.list (c.map eJ)]/\h.get? a=some { cls:=.type "list",data:=.seq o.toArray }/\fj o c/\c.length<=n:=by
 have k:=(pre_splitW b).1;have u:=(pre_splitW b).2;obtain⟨d,r,rfl,p,s⟩:=hasAllW_cons k;obtain rfl:=hasAllW_nil s;obtain⟨xs,rfl,t⟩:=hasW_list p;obtain⟨c,rfl⟩:=items_int t;have g:c.length<=n:=by
  have i:(WTm.not (.lt (.lit (.int n)) (.len (.arg 0)))).holds [] { args:=[.list (c.map .int)] }=true:=by
   have i:=(holds_andW u).1;rw[v]at i;exact i
  have j:=condW_of i (w_not (w_lt w_lit (w_len_list (w_arg rfl))));refine Nat.le_of_not_lt λq=>?_;first
   |(rw[ci q']at j;exact absurd j (by decide))
   |(simp at j;omega)
 cases m with
 |cons x y=>
  cases y;cases x with
  |list w f=>exact⟨_,_,c,rfl,rfl,w,m3 c _ f,g⟩
theorem Ï(l:OpenLaw)(a:List WData):l.row.toRowW.claim.post a (.bool true) a=true:=
 postW_of
  (show WShape.has [] (.bool true) .bool=true by first|rfl|decide|simp)
  (w_eq_bool (w_res rfl) w_lit) rfl
theorem Kt{l:OpenLaw}{n:Nat}{q:za}{c:List qa}{E:(qa->Option Value)->Heap->Prop}{F:Ma->Heap->Prop}{d:DefRec}
  (T:l.most=some n) (z:d.params.defaults=[])
  (j:∀ (w:Ma) (e b:Shared) (u C:qa->Option Value) (k:Addr) (o:Obj) (D t g:Value) (a:Addr) (i:List Value) (v:List Int),
   Ground q c [] E w e u C b.heap->F w b.heap->
   b.heap.get? k=some o->o.data=.func (docDef d.name d.params d.body d.scope D t g)->b.heap.CodeRec t d.name->u d.name=some (.ref k)->
   b.heap.get? a=some { cls:=.type "list",data:=.seq i.toArray }->fj i v->v.length<=n->b.gens=#[]->
   codeAny (model l.prog w) Kq (.call (.ref k) ⟨[.ref a],[]⟩) (λr x=>r=.ok (.ret (.bool true))/\OldK b.heap x.heap/\x.os=b.os/\ej x.gens) b) :
  WalkO q c E F l.row.toRowW d [] (λf i=>PySem.call f i):=by
 intro w e b u C G Y k o D t g L kV U P y I A Q H K X s J W B R;obtain rfl:L=.none:=Dflts.none I z;obtain rfl:kV=.none:=Dflts.noKw I;obtain⟨a,i,v,rfl,rfl,p,h,m⟩:=D2 T s B;refine enter_call (ah (j w e b u C k o D t g a i v G Y U (fd_plain P) y A p h m Q) λr x V=>?_);obtain⟨rfl,M,N,O⟩:=V;exact⟨.inl ⟨.bool true,.bool true,[],rfl,λ_=>rfl,.bool true,Ï l _,λ_=>⟨List.Pairwise.nil,λ_ S=>(nomatch S)⟩⟩,M,N,O⟩
section
variable{prog:za}{w:Ma}{A:Ha}{E:Value->Shared->Prop}{s:Shared}{K:Frag}
end
end Att
namespace L2
open PySem PySem.Spec PyProof.Rows
theorem EF:∀ {a:List Value} {ns:List Int},fj a ns->jf (ns.map V.int) a
 |_,_,.nil=>.nil
 |_,_,.cons n t h=>.cons ⟨t,rfl⟩ (EF h)
noncomputable abbrev Zf{K:W.Frag}{h:Heap}(_:K.In h):W.Frag:=K
noncomputable def En(s:Stmt):Arguments:=match s with
 | .FunctionDef _ a _ _ _ _ _ _ _ _=>a
 |_=>{ posonlyargs:=[],args:=[],vararg:=none,kwonlyargs:=[],kw_defaults:=[],kwarg:=none,defaults:=[] }
noncomputable def uj(s:Stmt):List Stmt:=match s with
 | .FunctionDef _ _ b _ _ _ _ _ _ _=>b
 |_=>[]
noncomputable def Ec(s:Stmt):Scope:=match s with
 | .FunctionDef _ _ _ _ _ _ sc _ _ _=>sc
 |_=>{ kind:=.function,names:=[],isGenerator:=false,isCoroutine:=false }
noncomputable abbrev lR:bx:=λ_ _ _ _ _ _=>False
noncomputable abbrev E0:XK:=λ_ _ _=>False
structure Mz(K:W.Frag)(x qual:qa)(st:Stmt)(f:Addr)(fd:Nf):Prop where
 ex:∃ (oc:Value) (od:Option Addr) (kV doc pm:Value) (an:Option Addr) (cdv ct:Value) (osl:Array (Option Value)),
  fd=W.fnOf x qual (En st) (uj st) (Ec st) .none kV doc pm an cdv ct/\K.lookup f=some ⟨oc,od,.func fd,osl⟩/\W.codeIn K cdv qual=true
 kp:W.keepIn K (.ref f)=true
section
variable{P:za}{w:Ma}{K:W.Frag}{mg:qa->Option Value}{base:Heap}
theorem Mz.ok{x b:qa}{g:Stmt}{f:Addr}{o:Nf}{N m:List qa}{k:Nat}{n:Sp}(F:Mz K x b g f o)(S:ra N m (Ec g))(l:∀ e H Q E,n e H Q E->e.length=m.length)
  (d:∀ (c:Value) (A:Ha) (a:List Ih) (s:Shared) (H:Hp) (e:List V) (Q:VK) (E:XK),Ce k (A.deeper (Sg b (Ec g) s.heap.objs.size f c))->n e H Q E->
   ∃ t,Xu (Wq lR P w K mg base N b (Ec g) f c A a s H E).eq (uj g) t/\t { nx:=λ_ p=>Q .Mc p,rt:=Q } (Pw N e) H):Ei P w K mg base lR (k+1) f o m n:=by
 obtain⟨B,C,kV,r,D,z,c,ct,y,rfl,v,i⟩:=F.ex;refine aQ v i S l λA a s H e Q E u j=>?_;obtain⟨t,h,q⟩:=d c A a s H e Q E u j;exact⟨t,h.eq,q⟩
theorem Mz.binds{x a:qa}{d:Stmt}{f:Addr}{k:Nf}{i:List qa}(F:Mz K x a d f k)
  (h:∀ (kV c g:Value) (e:Option Addr) (b ct:Value) (j:List Value),j.length=i.length->bindArgs (W.fnOf x a (En d) (uj d) (Ec d) .none kV c g e b ct) ⟨j,[]⟩=pure (i.zip j)):uu K k i []:=by
 obtain⟨o,p,kV,c,g,e,b,ct,m,rfl,n,l⟩:=F.ex;exact .all (h kV c g e b ct)
theorem xP{x a:qa}{e:Stmt}{f:Addr}{j:Value}{m h:Option Addr}{g:Array (Option Value)}{kV d i b ct:Value}(l:K.lookup f=some ⟨j,m,.func (W.fnOf x a (En e) (uj e) (Ec e) .none kV d i h b ct),g⟩)
  (c:W.codeIn K b a=true) (k:W.keepIn K (.ref f)=true):Mz K x a e f (W.fnOf x a (En e) (uj e) (Ec e) .none kV d i h b ct):=⟨⟨j,m,kV,d,i,h,b,ct,g,rfl,l,c⟩,k⟩
end
theorem VS{n:Nat}(h:n<=1000):n<sizeLine:=sx h (by decide)
section
variable{X:Cx}
end
def Lx(H a:Hp):Prop:=∀ b o,H b=some o->a b=some o
theorem Lx.refl(H:Hp):Lx H H:=λ_ _ h=>h
theorem Lx.trans{H d e:Hp}(a:Lx H d)(b:Lx d e):Lx H e:=λc o h=>b c o (a c o h)
theorem Lx.free{H a:Hp}(e:Lx H a){l:Addr}(h:a l=Option.none):H l=Option.none:=by
 cases q:H l with
 |none=>rfl
 |some o=>
  rw[e l o q]at h;cases h
theorem Lx.seq{K:W.Frag}{H b:Hp}{a:Addr}{xs:List V}(e:Lx H b)(h:Cg K H a xs):Cg K b a xs:=by
 rcases h with(h|⟨o,h⟩)|h
 ·exact .inl (.inl (e _ _ h))
 ·exact .inl (.inr ⟨o,e _ _ h⟩)
 ·exact .inr h
end L2
namespace L4
open PySem PySem.Spec PyProof.Rows L2
theorem rT{c:Type}(a:c):∃ b,b=a:=⟨a,rfl⟩
def Wa{b:Type}(a:b):b:=Classical.choose (rT a)
@[simp] theorem zq{b:Type}(a:b):Wa a=a:=zaB (rT a)
inductive D where
 |Mc|bl (b:Bool)|int (i:Int)|str (x:qa)|ub (xs:List D)|Uh (ns:List Int)|ref (n:Nat)
 |Ca (xs:List D)|Ja (ks:List gc) (xs:List D)|obj (c:Nat) (ns:List qa) (xs:List D)|Vr (c:Nat)|gt (ss:List qa)
inductive Ob where
 |Ca (xs:List D)
 |Ja (kvs:List (gc × D))
 |jc (c:Nat) (fs:List (qa × D))
 |ag (kvs:List (gc × D))
 |yf (ks:List (List gc))
abbrev xb:=List Ob
abbrev St:=L2.St
abbrev Ev:=List (Option D)
structure Xn where
 cls:Nat
inductive Nm(α:Type) where
 |ok (a:α) (σ:xb)
 |ex (x:Xn) (σ:xb)
 |Sb
abbrev M(a:Type):=xb->Nm a
def ret{b:Type}(a:b):M b:=λc=>.ok a c
def Sb{a:Type}:M a:=λ_=>.Sb
def Nm.bind{c d:Type}(o:Nm c)(k:c->M d):Nm d:=match o with
 | .ok a b=>k a b
 | .ex x b=>.ex x b
 | .Sb=>.Sb
def Ld{a b:Type}(m:M a)(k:a->M b):M b:=λc=>(m c).bind k
inductive Fl where
 |nx (ρ:Ev)|rt (d:D)|bk (ρ:Ev)|ct (ρ:Ev)|xc (ρ:Ev) (x:Xn)
structure Tab where
 P:Addr
 line:Int
 col:Int
 qual:qa
structure Tx where
 Wt:List Tab
 bm:Addr
structure Tb where
 K:W.Frag
 ca:Nat->Addr
 tx:Tx
def nw(q:qa)(c:Addr):Heap->Prop:=λh=>∃ o a t,h.get? c=some o/\o.data=.fields a/\a[1]?=some (.str q t)
def sH(a:Addr):Heap->Prop:=λh=>∃ o,h.get? a=some o/\o.cls=.type "module"/\o.dict=some builtinsNs/\o.data=.plain
def Zu(T:Tb)(b:List Addr)(H:Hp):Prop:=∀ t∈T.tx.Wt,(T.tx.bm ∉ b/\∃ d,H T.tx.bm=some (.Vb d (.ext (sH T.tx.bm))))/\t.P ∉ b/\∃ a,H t.P=some (.eo a)/\(a=#[]\/∃ c,a=#[Nc t.line,Nc t.col,.ref c]/\c ∉ b/\H c=some (.ext (nw t.qual c)))
theorem Zu.grow{T:Tb}{d:List Addr}{H a:Hp}(h:Zu T d H)(k:∀ b u,H b=some u->a b=some u):Zu T d a:=λt m=>by
 obtain⟨⟨f,o,g⟩,i,p,j,l⟩:=h t m;exact⟨⟨f,o,k _ _ g⟩,i,p,k _ _ j,l.imp id λ⟨c,e,n,z⟩=>⟨c,e,n,k _ _ z⟩⟩
theorem Zu.sub{T:Tb}{d a:List Addr}{H:Hp}(h:Zu T a H)(k:∀ b∈d,b∈a):Zu T d H:=λt m=>by
 obtain⟨⟨f,g⟩,i,o,j,l⟩:=h t m;exact⟨⟨λz=>f (k _ z),g⟩,λz=>i (k _ z),o,j,l.imp id λ⟨c,e,n,z⟩=>⟨c,e,λy=>n (k _ y),z⟩⟩
theorem Zu.more{T:Tb}{a:List Addr}{H:Hp}{p:Addr}(h:Zu T a H)(l:H p=none):Zu T (a++[p]) H:=λt m=>by
 obtain⟨⟨i,o,f⟩,j,q,g,k⟩:=h t m;have d:∀ {b:Addr} {u:HO},H b=some u->b ∉ a->b ∉ a++[p]:=fun {b u} e n z=>(ak.mp z).elim n λy=>by
  have r:b=p:=by simpa using y
  subst r;rw[l]at e;cases e
 exact⟨⟨d f i,o,f⟩,d g j,q,g,k.imp id λ⟨c,e,n,z⟩=>⟨c,e,d z n,z⟩⟩
theorem Zu.out{T:Tb}{g:List Addr}{H i:Hp}{a:Addr}(h:Zu T g H)(r:∀ b,b≠a->i b=H b)(q:a∈g\/∃ f,H a=some (.dK f)):Zu T g i:=λt s=>by
 obtain⟨⟨k,v,m⟩,l,w,o,p⟩:=h t s;have j:∀ {b:Addr} {u:HO},H b=some u->b ∉ g->(∀ f,u≠.dK f)->i b=some u:=fun {b u} e n d=>by
  rw[r b (λz=>by
   subst z;rcases q with y|⟨f,y⟩
   ·exact n y
   ·rw[e]at y;cases y;exact d f rfl)]
  exact e
 exact⟨⟨k,v,j m k (λ_ z=>by cases z)⟩,l,w,j o l (λ_ z=>by cases z),p.imp id λ⟨c,e,n,z⟩=>⟨c,e,n,j z n (λ_ y=>by cases y)⟩⟩
noncomputable def Tb.cv(T:Tb)(x:Xn):Value:=.ref (T.ca x.cls)
noncomputable def dC(c:Nat):Option Nat:=if c<100 then none else some (c / 100 - 1)
def YH(C a:Addr):Heap->Prop:=λh=>∃ o,h.get? a=some o/\o.cls=.ref C
def ay(C:Addr)(c:Option Addr)(a:Addr):Heap->Prop:=λh=>∃ o,h.get? a=some o/\o.cls=.ref C/\∀ b,c=some b->o.dict=some b/\∃ d,o.data=.fields d
def GG(b:Addr)(n:Nat):Heap->Prop:=λh=>∃ o,h.get? b=some o/\∃ a c t,o.data=.dict a c/\StrKeys a/\nsFind a "pot" = some (.int n t)
def jH(K:W.Frag)(H:Hp)(a:Addr)(c:List Int):Prop:=
 (∃ o,H a=some (.Vb o (.Ca (c.map V.int))))\/
  ∃ (o:Obj) (b:Array Value) (n:Nat),K.lookup a=some o/\o.cls=.type "list"/\o.dict=none/\o.data=.seq b n/\b.size<=sizeLine/\jf (c.map V.int) b.toList
theorem jH.seq{K:W.Frag}{H:Hp}{a:Addr}{b:List Int}(h:jH K H a b):Cg K H a (b.map V.int):=by
 rcases h with⟨o,h⟩|h
 ·exact .inl (.inr ⟨o,h⟩)
 ·exact .inr h
def YE(K:W.Frag)(a:Addr)(c:List qa):Prop:=∃ (o:Obj) (b:Array Value) (n:Nat),K.lookup a=some o/\o.cls=.type "tuple"/\o.data=.seq b n/\b.size<=sizeLine/\jf (c.map V.str) b.toList
mutual
def Ia(T:Tb)(d:List Addr)(H:Hp):D->V->Prop
 | .Mc,v=>v=.Mc
 | .bl b,v=>v=.bl b
 | .int i,v=>v=.int i
 | .str x,v=>v=.str x
 | .ub ds,v=>∃ p f,v=.ref p/\H p=some (.ub f)/\gb T d H ds f
 | .Uh ns,v=>∃ a,v=.ref a/\jH T.K H a ns
 | .ref n,v=>∃ a,v=.ref a/\d[n]?=some a
 | .Ca ds,v=>∃ a f,v=.ref a/\a ∉ d/\H a=some (.Ca f)/\gb T d H ds f
 | .Ja l ds,v=>∃ a e,v=.ref a/\a ∉ d/\Rd H a (.dK e)/\e.map (·.1)=l/\gb T d H ds (e.map (·.2))
 | .obj c ns ds,v=>∃ a k h,v=.ref a/\a ∉ d/\H a=some (.jc (T.ca c) k h)/\h.map (·.1)=ns/\gb T d H ds (h.map (·.2))
 | .Vr c,v=>∃ a j,v=.ref a/\a ∉ d/\H a=some (.ext (ay (T.ca c) j a))/\∀ n,dC c=some n->∃ g,j=some g/\g ∉ d/\H g=some (.ext (GG g n))
 | .gt ss,v=>∃ a,v=.ref a/\YE T.K a ss
def gb(T:Tb)(b:List Addr)(H:Hp):List D->List V->Prop
 |[],a=>a=[]
 |d::ds,a=>∃ v r,a=v::r/\Ia T b H d v/\gb T b H ds r
end
def Kp(o b:HO):Prop:=b=o\/(∃ d a,o=.dK a/\b=.Vb d (.dK a))\/∃ e c,o=.eo e/\b=.eo c
theorem Kp.trans{a b c:HO}(x:Kp a b)(y:Kp b c):Kp a c:=by
 rcases x with rfl|⟨h,d,rfl,rfl⟩|⟨g,e,rfl,rfl⟩
 ·exact y
 ·rcases y with rfl|⟨_,_,z,_⟩|⟨_,_,z,_⟩
  ·exact .inr (.inl ⟨h,d,rfl,rfl⟩)
  ·cases z
  ·cases z
 ·rcases y with rfl|⟨_,_,z,_⟩|⟨_,f,_,rfl⟩
  ·exact .inr (.inr ⟨g,e,rfl,rfl⟩)
  ·cases z
  ·exact .inr (.inr ⟨g,f,rfl,rfl⟩)
structure Se(μ:List Addr)(H:Hp)(μ':List Addr)(H':Hp):Prop where
 pre:∃ r,μ'=μ++r
 ub:∀ p xs,H p=some (.ub xs)->H' p=some (.ub xs)
 Vb:∀ p o u,H p=some (.Vb o u)->H' p=some (.Vb o u)
 keep:∀ p o,H p=some o->p ∉ μ->(∃ o',H' p=some o'/\Kp o o')/\p ∉ μ'
theorem Se.refl(a:List Addr)(H:Hp):Se a H a H:=⟨⟨[],by simp⟩,λ_ _ h=>h,λ_ _ _ h=>h,λ_ _ h n=>⟨⟨_,h,.inl rfl⟩,n⟩⟩
theorem Se.trans{g c d:List Addr}{H e f:Hp}(a:Se g H c e)(b:Se c e d f):Se g H d f:=by
 obtain⟨⟨r,rfl⟩,A,k,s⟩:=a;obtain⟨⟨z,rfl⟩,B,l,t⟩:=b;exact⟨⟨r++z,by simp⟩,λp xs h=>B p xs (A p xs h),λp o u h=>l p o u (k p o u h),λp o h n=>let ⟨⟨x,m,i⟩,v⟩:=s p o h n;let ⟨⟨y,q,j⟩,w⟩:=t p x m v;⟨⟨y,q,i.trans j⟩,w⟩⟩
theorem Se.tj{i b:List Addr}{H f:Hp}(e:Se i H b f)(p:Addr)(o:HO)(h:H p=some o)(n:p ∉ i)(g:(∀ a,o≠.dK a)/\∀ d,o≠.eo d:=by exact⟨(λ_ z=>by cases z),(λ_ z=>by cases z)⟩):f p=some o/\p ∉ b:=by
 obtain⟨⟨l,j,c⟩,k⟩:=e.keep p o h n;rcases c with rfl|⟨_,a,z,_⟩|⟨d,_,z,_⟩
 ·exact⟨j,k⟩
 ·exact absurd z (g.1 a)
 ·exact absurd z (g.2 d)
theorem Se.rd{k b:List Addr}{H f:Hp}(e:Se k H b f)(p:Addr)(a:List (gc × V))(h:Rd H p (.dK a))(n:p ∉ k):Rd f p (.dK a)/\p ∉ b:=by
 rcases h with h|⟨d,h⟩
 ·obtain⟨⟨l,g,c⟩,j⟩:=e.keep p _ h n;rcases c with rfl|⟨d,i,z,rfl⟩|⟨_,_,z,_⟩
  ·exact⟨.inl g,j⟩
  ·cases z;exact⟨.inr ⟨d,g⟩,j⟩
  ·cases z
 ·exact⟨.inr ⟨d,e.Vb _ _ _ h⟩,(e.keep p _ h n).2⟩
theorem Se.get{c b:List Addr}{H d:Hp}(e:Se c H b d){n:Nat}{a:Addr}(h:c[n]?=some a):b[n]?=some a:=by
 obtain⟨⟨r,rfl⟩,_,_⟩:=e;rw[Za (na.mp h).1];exact h
mutual
theorem Ia.mono{T:Tb}{w m:List Addr}{H s:Hp}(e:Se w H m s):∀ (d:D) (v:V),Ia T w H d v->Ia T m s d v
 | .Mc,v,h=>by simpa [Ia]using h
 | .bl b,v,h=>by simpa [Ia]using h
 | .int i,v,h=>by simpa [Ia]using h
 | .str x,v,h=>by simpa [Ia]using h
 | .ub ds,v,h=>by
  rw[Ia]at h ⊢;obtain⟨p,k,g,f,j⟩:=h;exact⟨p,k,g,e.ub _ _ f,gb.mono e ds k j⟩
 | .Uh ns,v,h=>by
  rw[Ia]at h ⊢;obtain⟨a,g,f⟩:=h;refine⟨a,g,?_⟩;rcases f with⟨o,f⟩|f
  ·exact .inl ⟨o,e.Vb _ _ _ f⟩
  ·exact .inr f
 | .ref n,v,h=>by
  rw[Ia]at h ⊢;obtain⟨a,g,f⟩:=h;exact⟨a,g,e.get f⟩
 | .Ca ds,v,h=>by
  rw[Ia]at h ⊢;obtain⟨a,k,g,f,j,l⟩:=h;exact⟨a,k,g,(e.tj _ _ j f).2,(e.tj _ _ j f).1,gb.mono e ds k l⟩
 | .Ja B ds,v,h=>by
  rw[Ia]at h ⊢;obtain⟨a,k,g,f,j,r,l⟩:=h;exact⟨a,k,g,(e.rd _ _ j f).2,(e.rd _ _ j f).1,r,gb.mono e ds _ l⟩
 | .obj c ns ds,v,h=>by
  rw[Ia]at h ⊢;obtain⟨a,A,k,g,f,j,r,l⟩:=h;exact⟨a,A,k,g,(e.tj _ _ j f).2,(e.tj _ _ j f).1,r,gb.mono e ds _ l⟩
 | .Vr c,v,h=>by
  rw[Ia]at h ⊢;obtain⟨a,z,g,f,j,l⟩:=h;exact⟨a,z,g,(e.tj _ _ j f).2,(e.tj _ _ j f).1,λn q=>let ⟨y,q1,t,u⟩:=l n q;⟨y,q1,(e.tj _ _ u t).2,(e.tj _ _ u t).1⟩⟩
 | .gt ss,v,h=>by rw[Ia]at h ⊢;exact h
theorem gb.mono{T:Tb}{g a:List Addr}{H f:Hp}(e:Se g H a f):∀ (b:List D) (c:List V),gb T g H b c->gb T a f b c
 |[],c,h=>by simpa [gb]using h
 |d::b,c,h=>by
  rw[gb]at h ⊢;obtain⟨v,r,i,j,k⟩:=h;exact⟨v,r,i,Ia.mono e d v j,gb.mono e b r k⟩
end
theorem gb.nil{T:Tb}{a:List Addr}{H:Hp}:gb T a H [] []:=by rw[gb]
theorem gb.cons{T:Tb}{b:List Addr}{H:Hp}{d:D}{v:V}{c:List D}{a:List V}(e:Ia T b H d v)(f:gb T b H c a):gb T b H (d::c) (v::a):=by
 rw[gb];exact⟨v,a,rfl,e,f⟩
theorem gb.length{T:Tb}{e:List Addr}{H:Hp}:∀ {b:List D} {a:List V},gb T e H b a->b.length=a.length
 |[],a,h=>by rw[gb]at h;subst h;rfl
 |d::b,a,h=>by
  obtain⟨v,r,rfl,_,c⟩:=h;simp[gb.length c]
theorem gb.get{T:Tb}{g:List Addr}{H:Hp}:∀ {b:List D} {a:List V} {i:Nat} {d:D},gb T g H b a->b[i]?=some d->∃ v,a[i]?=some v/\Ia T g H d v
 |[],a,i,d,h,e=>by simp at e
 |d::b,a,0,x,h,e=>by
  obtain⟨v,r,rfl,c,f⟩:=h;simp at e;subst e;exact⟨v,rfl,c⟩
 |d::b,a,i+1,x,h,e=>by
  obtain⟨v,r,rfl,c,f⟩:=h;simpa using gb.get f (by simpa using e)
theorem gb.append{T:Tb}{g:List Addr}{H:Hp}:∀ {e a:List D} {c b:List V},gb T g H e c->gb T g H a b->gb T g H (e++a) (c++b)
 |[],a,c,b,h,f=>by rw[gb]at h;subst h;simpa using f
 |d::e,a,c,b,h,f=>by
  obtain⟨v,r,rfl,i,j⟩:=h;exact gb.cons i (gb.append j f)
theorem gb.set{T:Tb}{e:List Addr}{H:Hp}{d:D}{v:V}(g:Ia T e H d v):∀ {b:List D} {a:List V} (i:Nat),gb T e H b a->gb T e H (b.set i d) (a.set i v)
 |[],a,i,h=>by rw[gb]at h;subst h;simpa using gb.nil
 |x::b,a,0,h=>by
  obtain⟨w,r,rfl,f,c⟩:=h;exact gb.cons g c
 |x::b,a,i+1,h=>by
  obtain⟨w,r,rfl,f,c⟩:=h;exact gb.cons f (gb.set g i c)
theorem gb.drop{T:Tb}{c:List Addr}{H:Hp}:∀ {b:List D} {a:List V} (n:Nat),gb T c H b a->gb T c H (b.drop n) (a.drop n)
 |b,a,0,h=>by simpa using h
 |[],a,n+1,h=>by rw[gb]at h;subst h;simpa using gb.nil
 |x::b,a,n+1,h=>by
  obtain⟨w,r,rfl,e,d⟩:=h;simpa using gb.drop n d
theorem gb.take{T:Tb}{c:List Addr}{H:Hp}:∀ {b:List D} {a:List V} (n:Nat),gb T c H b a->gb T c H (b.take n) (a.take n)
 |b,a,0,h=>by simpa using gb.nil
 |[],a,n+1,h=>by rw[gb]at h;subst h;simpa using gb.nil
 |x::b,a,n+1,h=>by
  obtain⟨w,r,rfl,d,e⟩:=h;exact gb.cons d (gb.take n e)
def Yv(T:Tb)(a:List Addr)(H:Hp):List (qa × D)->List (qa × V)->Prop:=Paired λp q=>p.1=q.1/\Ia T a H p.2 q.2
def vj(T:Tb)(a:List Addr)(H:Hp):List (gc × D)->List (gc × V)->Prop:=Paired λp q=>p.1=q.1/\Ia T a H p.2 q.2
def Tr(T:Tb)(e:List Addr)(H:Hp)(a:Addr):Ob->Prop
 | .Ca ds=>∃ b,H a=some (.Ca b)/\gb T e H ds b
 | .Ja d=>∃ b,H a=some (.dK b)/\vj T e H d b
 | .jc c g=>∃ f b,H a=some (.jc (T.ca c) f b)/\Yv T e H g b
 | .ag d=>∃ i b,H a=some (.Vb i (.dK b))/\vj T e H d b
 | .yf h=>∃ b,H a=some (.dT b)/\b.map (·.1)=h
structure ee(T:Tb)(μ:List Addr)(H:Hp)(σ:xb):Prop where
 len:μ.length=σ.length
 nd:μ.Nodup
 obs:∀ (n:Nat) (o:Ob),σ[n]?=some o->∃ a,μ[n]?=some a/\Tr T μ H a o
 tb:Zu T μ H
def ni(T:Tb)(c:List Addr)(H:Hp)(b:Ev)(a:St):Prop:=b.length=a.length/\∀ (i:Nat) (d:D),b[i]?=some (some d)->∃ v,a[i]?=some (some v)/\Ia T c H d v
theorem ni.mono{T:Tb}{f a:List Addr}{H b:Hp}{g:Ev}{c:St}(e:Se f H a b)(h:ni T f H g c):ni T a b g c:=
 ⟨h.1,λi d q=>let ⟨v,j,k⟩:=h.2 i d q;⟨v,j,Ia.mono e d v k⟩⟩
theorem ni.set{T:Tb}{b:List Addr}{H:Hp}{e:Ev}{c:St}{d:D}{v:V}(h:ni T b H e c)(i:Nat)(r:Ia T b H d v):ni T b H (e.set i (some d)) (c.set i (some v)):=by
 refine⟨by simpa using h.1,λj x q=>?_⟩;rw[Pc]at q;by_cases a:i=j
 ·subst a;rw[ja rfl]at q;split at q
  ·rename_i k
   cases q;exact⟨v,by rw[Pc,ja rfl,ja (by rw[<-h.1];exact k)],r⟩
  ·cases q
 ·rw[ua a]at q;obtain⟨w,f,g⟩:=h.2 j x q;exact⟨w,by rw[Pc,ua a];exact f,g⟩
def CY(e:Addr)(b d:Value)(h:Heap):Prop:=∃ c a,h.get? e=some c/\c.cls=b/\c.data=.fields a/\1<a.size/\a[0]?=some d/\a[1]?=some .none
def Sq(B:Heap)(l:List Ih)(e:Addr)(a b:Value)(h:Heap):Prop:=B.StaysIn h/\B.get? e=none/\h.FunFrames B l/\((∃ c,h.TracedAtW B e a b c)\/CY e a b h)
def sY(o:Obj)(n:Nat):Prop:=∃ a b t,o.data=.dict a b/\StrKeys a/\nsFind a "pot" = some (.int n t)
def PD(f:Option Nat)(e:Addr)(B h g:Heap)(d:Hp):Prop:=∀ n,f=some n->∃ a b c,h.get? e=some c/\c.dict=some a/\B.get? a=some b/\sY b n/\d a=none/\g.get? a=none
structure EA(P:za)(w:Ma)(outer:List Ih)(H:Hp)(s:Shared)(cls:Value)(fd:Option Nat)(H':Hp)(e:Value)(s':Shared):Prop where
 ex:∃ (ea:Addr) (a0:Value) (B:Heap),e=.ref ea/\Sq B outer ea cls a0 s'.heap/\H' ea=none/\s.heap.get? ea=none/\
  (∀ b o,H' b=some o->∃ ob,B.get? b=some ob)/\(∀ b o,s.heap.get? b=some o->H b=none->b ∉ Wk outer->B.get? b=some o)/\(∀ b o,s.heap.get? b=some o->b ∉ Wk outer->∃ o',B.get? b=some o')/\PD fd ea B s'.heap s.heap H'
 os:s'.os=s.os
 bare:ej s'.gens
 un:Un (Wk outer) [] H H' s.heap s'.heap
 md:xj P w H' s'.heap
noncomputable def sm(P:za)(w:Ma):bx:=λa H s E e f=>∃ b d c,EA P w a H s b d c e f/\E b d c
structure kC(X:Cx)(st:St)(cls:Value)(fd:Option Nat)(H':Hp):Prop where
 fG:∀ (pins:List (Addr × Obj)) (H:Hp) (s:Shared) (e:Value) (s':Shared),Qa X pins st H s->EA X.prog X.w X.stack H s cls fd H' e s'->X.xe e s'
noncomputable abbrev XE(X:Cx)(d:St):XK:=λa c b=>kC X d a c b
def Zb{d e:Type}(T:Tb)(E:XK)(R:List Addr->Hp->d->e->Prop)(f:List Addr)(H:Hp)(o:Nm d)(Q:e->Hp->Prop):Prop:=match o with
 | .ok a σ=>∀ b g c,Se f H b c->ee T b c σ->R b c a g->Q g c
 | .ex x σ=>∀ b c,Se f H b c->ee T b c σ->E (T.cv x) (dC x.cls) c
 | .Sb=>False
theorem Zb.mono{j k:Type}{T:Tb}{E:XK}{R:List Addr->Hp->j->k->Prop}{l c:List Addr}{H i:Hp}{o:Nm j}{Q:k->Hp->Prop}(e:Se l H c i)(h:Zb T E R l H o Q):Zb T E R c i o Q:=by
 cases o with
 |ok a σ=>exact λb g d f r q=>h b g d (e.trans f) r q
 |ex x σ=>exact λb d f r=>h b d (e.trans f) r
 |Sb=>exact h
theorem Zb.imp{e f:Type}{T:Tb}{E:XK}{R:List Addr->Hp->e->f->Prop}{i:List Addr}{H:Hp}{o:Nm e}{Q d:f->Hp->Prop}(h:Zb T E R i H o Q)(k:∀ g b,Q g b->d g b):Zb T E R i H o d:=by
 cases o with
 |ok a σ=>exact λc g b j r q=>k _ _ (h c g b j r q)
 |ex x σ=>exact h
 |Sb=>exact h
theorem Zb.bind{j t u v:Type}{T:Tb}{E:XK}{R:List Addr->Hp->j->u->Prop}{p:List Addr->Hp->t->v->Prop}{l:List Addr}{H:Hp}{m:M j}{k:j->M t}{i:xb}{Q:v->Hp->Prop}{o:u->Hp->Prop}
  (h:Zb T E p l H (Ld m k i) Q) (f:∀ a b c g d,m i=.ok a b->Se l H c d->ee T c d b->R c d a g->Zb T E p c d (k a b) Q->o g d):Zb T E R l H (m i) o:=by
 unfold Ld at h;cases e:m i with
 |ok a b=>
  rw[e]at h;exact λn g w s r q=>f a b n g w e s r q (h.mono s)
 |ex x b=>rw[e]at h;exact h
 |Sb=>rw[e]at h;exact h
theorem Zb.here{T:Tb}{E:XK}{c b:Type}{R:List Addr->Hp->c->b->Prop}{a:List Addr}{H:Hp}{d:c}{e:xb}{g:b}{Q:b->Hp->Prop}(h:Zb T E R a H (.ok d e) Q)(r:ee T a H e)(p:R a H d g):Q g H:=h a g H (Se.refl _ _) r p
section
variable(T:Tb)(X:Cx)
def tF(f:Ev->M D):TE:=λb H Q=>∃ a c d,ni T a H c b/\ee T a H d/\Zb T (XE X b) (Ia T) a H (f c d) Q
def CN:List Addr->Hp->Bool->Bool->Prop:=λ_ _ a b=>b=a
def tT(f:Ev->M Bool):TT:=λb H Q=>∃ a c d,ni T a H c b/\ee T a H d/\Zb T (XE X b) CN a H (f c d) Q
def tL(f:Ev->M (List D)):TA:=λb H Q=>∃ a c d,ni T a H c b/\ee T a H d/\Zb T (XE X b) (gb T) a H (f c d) Q
inductive nu where
 |nx (st:St)|rt (v:V)|bk (st:St)|ct (st:St)|xc (st:St) (cls:Value) (fd:Option Nat)
def Eo(T:Tb)(b:List Addr)(H:Hp):Fl->nu->Prop
 | .nx a,.nx st=>ni T b H a st
 | .rt d,.rt v=>Ia T b H d v
 | .bk a,.bk st=>ni T b H a st
 | .ct a,.ct st=>ni T b H a st
 | .xc a x,.xc st cls fd=>ni T b H a st/\cls=T.cv x/\fd=dC x.cls
 |_,_=>False
def mo(X:Cx)(D:El):nu->Hp->Prop
 | .nx st,H=>D.nx st H
 | .rt v,H=>D.rt v H
 | .bk st,H=>D.bk st H
 | .ct st,H=>D.ct st H
 | .xc st cls fd,H=>kC X st cls fd H
noncomputable abbrev EN:XK:=λ_ _ _=>False
def tS(g:Ev->M Fl):TS:=λD d H=>∃ a b c,ni T a H b d/\ee T a H c/\Zb T EN (Eo T) a H (g b c) (mo X D)
end
def xs{c:Type}(d:Ev)(m:M c)(k:c->M Fl):M Fl:=λe=>match m e with
 | .ok a b=>k a b
 | .ex x b=>.ok (.xc d x) b
 | .Sb=>.Sb
theorem Zb.xs{s u:Type}{T:Tb}{X:Cx}{D:El}{R:List Addr->Hp->s->u->Prop}{l:List Addr}{H:Hp}{v:Ev}{p:St}{m:M s}{k:s->M Fl}{n:xb}{t:u->Hp->Prop}(w:ni T l H v p)
  (h:Zb T EN (Eo T) l H (L4.xs v m k n) (mo X D)) (f:∀ a b c g i,m n=.ok a b->Se l H c i->ee T c i b->R c i a g->Zb T EN (Eo T) c i (k a b) (mo X D)->t g i):Zb T (XE X p) R l H (m n) t:=by
 unfold L4.xs at h;cases e:m n with
 |ok a b=>
  rw[e]at h;exact λd g o j r q=>f a b d g o e j r q (h.mono j)
 |ex x b=>
  rw[e]at h;intro d o j r;exact h d (.xc p (T.cv x) (dC x.cls)) o j r ⟨w.mono j,rfl,rfl⟩
 |Sb=>rw[e]at h;exact h
abbrev FE(T:Tb)(X:Cx)(e:Fa)(f:Ev->M D):Prop:=PE X e (tF T X f)
abbrev FT(T:Tb)(X:Cx)(e:Fa)(f:Ev->M Bool):Prop:=PT X e (tT T X f)
abbrev FW(T:Tb)(X:Cx)(e:Fa)(f:Ev->M Bool):Prop:=PW X e (tT T X f)
abbrev FA(T:Tb)(X:Cx)(a:List Fa)(f:Ev->M (List D)):Prop:=PA X a (tL T X f)
abbrev FS(T:Tb)(X:Cx)(a:Stmt)(g:Ev->M Fl):Prop:=PS X a (tS T X g)
abbrev Ao(T:Tb)(X:Cx)(a:List Stmt)(g:Ev->M Fl):Prop:=Xu X a (tS T X g)
end L4
namespace L4
open PySem PySem.Spec PyProof.Rows L2
noncomputable def zi:Nat:=1000
theorem UA{n:Nat}(h:n<=zi):n<=sizeLine:=ff (VS h)
theorem B4{n:Nat}(h:n<zi):n<sizeLine:=VS (ff h)
theorem kI{f:Type}{l:List f}(h:l.Nodup){i j:Nat}{a:f}(g:l[i]?=some a)(k:l[j]?=some a):i=j:=by
 obtain⟨q1,c⟩:=na.mp g;obtain⟨d,e⟩:=na.mp k;have b:=Js.mp h;rcases iy i j with z|z|z
 ·exact absurd (c.trans e.symm) (b i j q1 d z)
 ·exact z
 ·exact absurd (e.trans c.symm) (b j i d q1 z)
section
variable{T:Tb}{μ μ':List Addr}{H H':Hp}{σ:xb}
theorem wL{a:Type}(e:Se μ H μ' H'){xs:List (a × D)}{b:List (a × V)}(h:Paired (λ(p:a × D) (q:a × V)=>p.1=q.1/\Ia T μ H p.2 q.2) xs b) :
  Paired (λ(p:a × D) (q:a × V)=>p.1=q.1/\Ia T μ' H' p.2 q.2) xs b:=L2.Paired.yu h λp q z=>⟨z.1,Ia.mono e _ _ z.2⟩
theorem Tr.mono(e:Se μ H μ' H'){a:Addr}(d:H' a=H a):∀ {o:Ob},Tr T μ H a o->Tr T μ' H' a o
 | .Ca ds,⟨b,h,r⟩=>⟨b,d.trans h,gb.mono e _ _ r⟩
 | .Ja f,⟨b,h,r⟩=>⟨b,d.trans h,wL e r⟩
 | .jc c j,⟨g,b,h,r⟩=>⟨g,b,d.trans h,wL e r⟩
 | .ag f,⟨i,b,h,r⟩=>⟨i,b,d.trans h,wL e r⟩
 | .yf k,⟨b,h,r⟩=>⟨b,d.trans h,r⟩
theorem Tr.some{a:Addr}:∀ {o:Ob},Tr T μ H a o->∃ u,H a=Option.some u/\(∀ xs,u≠.ub xs)
 | .Ca ds,⟨b,h,r⟩=>⟨_,h,(λ_ z=>by cases z)⟩
 | .Ja d,⟨b,h,r⟩=>⟨_,h,(λ_ z=>by cases z)⟩
 | .jc c f,⟨e,b,h,r⟩=>⟨_,h,(λ_ z=>by cases z)⟩
 | .ag d,⟨i,b,h,r⟩=>⟨_,h,(λ_ z=>by cases z)⟩
 | .yf g,⟨b,h,r⟩=>⟨_,h,(λ_ z=>by cases z)⟩
theorem Tr.dF{a:Addr}:∀ {o:Ob},(∀ b,o≠.ag b)->Tr T μ H a o->∃ u,H a=Option.some u/\(∀ xs,u≠.ub xs)/\(∀ e w,u≠.Vb e w)
 | .Ca ds,_,⟨d,h,r⟩=>⟨_,h,(λ_ z=>by cases z),(λ_ _ z=>by cases z)⟩
 | .Ja b,_,⟨d,h,r⟩=>⟨_,h,(λ_ z=>by cases z),(λ_ _ z=>by cases z)⟩
 | .jc c g,_,⟨f,d,h,r⟩=>⟨_,h,(λ_ z=>by cases z),(λ_ _ z=>by cases z)⟩
 | .ag b,n,_=>absurd rfl (n b)
 | .yf i,_,⟨d,h,r⟩=>⟨_,h,(λ_ z=>by cases z),(λ_ _ z=>by cases z)⟩
theorem ee.keep(r:ee T μ H σ)(e:Se μ H μ H')(k:∀ a∈μ,H' a=H a)(t:Zu T μ H'):ee T μ H' σ:=
 ⟨r.len,r.nd,λn o h=>let ⟨a,b,c⟩:=r.obs n o h;⟨a,b,c.mono e (k a (La b))⟩,t⟩
theorem ee.mem(r:ee T μ H σ){a:Addr}(h:a∈μ):∃ u,H a=some u/\(∀ xs,u≠.ub xs):=by
 obtain⟨n,c⟩:=av h;have f:n<σ.length:=by rw[<-r.len];exact(na.mp c).1
 obtain⟨e,b,d⟩:=r.obs n σ[n] (by simp);rw[c]at b;cases b;exact d.some
theorem Fm{p:Addr}{o:HO}(a:H p=none):Se μ H μ (ic H p o):=
 ⟨⟨[],by simp⟩,λq xs h=>by rw[Le (rs h a)];exact h,λq b u h=>by rw[Le (rs h a)];exact h,λq b h n=>⟨⟨b,by rw[Le (rs h a)];exact h,.inl rfl⟩,n⟩⟩
theorem ee.fresh(r:ee T μ H σ){p:Addr}{o:HO}(c:H p=none):ee T μ (ic H p o) σ:=
 r.keep (Fm c) (λa d=>by obtain⟨u,h,_⟩:=r.mem d;rw[Le (rs h c)]) (r.tb.grow λb u h=>by rw[Le (rs h c)];exact h)
theorem Sy{p:Addr}{o:HO}(a:H p=none):Se μ H (μ++[p]) (ic H p o):=
 ⟨⟨[p],rfl⟩,(Fm (μ:=μ) a).ub,(Fm (μ:=μ) a).Vb,λq b h n=>⟨((Fm a).keep q b h n).1,λz=>(ak.mp z).elim n λz=>rs h a (by simpa using z)⟩⟩
theorem ee.push(r:ee T μ H σ){p:Addr}{o:HO}{ob:Ob}(c:H p=none)(q:Tr T (μ++[p]) (ic H p o) p ob):ee T (μ++[p]) (ic H p o) (σ++[ob]):=by
 refine⟨by simp[r.len],?_,λn x h=>?_,(r.tb.more c).grow λb u h=>by rw[Le (rs h c)];exact h⟩
 ·rw[ux];refine⟨r.nd,by simp,λa l b m e=>?_⟩;have i:b=p:=by simpa using m
  subst i;subst e;obtain⟨u,h,_⟩:=r.mem l;rw[c]at h;cases h
 ·by_cases f:n<σ.length
  ·rw[Za f]at h;obtain⟨a,k,d⟩:=r.obs n x h;obtain⟨u,s,_⟩:=d.some;exact⟨a,by rw[Za (by rw[r.len];exact f)];exact k,d.mono (Sy c) (Le (rs s c))⟩
  ·rw[mf (by omega)]at h;have g:n - σ.length=0:=by
    have:=(na.mp h).1;simp at this;omega
   rw[g]at h;simp at h;subst h;have j:n=μ.length:=by rw[r.len];omega
   subst j;exact⟨p,by simp,q⟩
theorem kF{p:Addr}{o:HO}(r:ee T μ H σ):Ia T (μ++[p]) (ic H p o) (.ref σ.length) (.ref p):=by
 rw[Ia];exact⟨p,rfl,by rw[<-r.len];simp⟩
theorem Zx{a:Addr}{u o:HO}(f:a∈μ)(c:H a=some u)(d:∀ xs,u≠.ub xs)(e:∀ b w,u≠.Vb b w):Se μ H μ (ic H a o):=
 ⟨⟨[],by simp⟩,λq xs h=>by rw[Le (nN h c (λz=>d xs z.symm))];exact h,λq b w h=>by rw[Le (nN h c (λz=>e b w z.symm))];exact h,λq b h n=>⟨⟨b,by rw[Le (λz=>n (by rw[z];exact f))];exact h,.inl rfl⟩,n⟩⟩
theorem ee.write(r:ee T μ H σ){n:Nat}{a:Addr}{o:HO}{ob:Ob}(d:μ[n]?=some a)(q:Tr T μ (ic H a o) a ob)(t:∀ c,σ[n]?≠some (.ag c):=by intro c z;simp_all [ti]):Se μ H μ (ic H a o)/\ee T μ (ic H a o) (σ.set n ob):=by
 obtain⟨u,s,f,g⟩:∃ u,H a=some u/\(∀ xs,u≠.ub xs)/\(∀ ob w,u≠.Vb ob w):=by
  have p:n<σ.length:=by rw[<-r.len];exact(na.mp d).1
  obtain⟨v,f,g⟩:=r.obs n σ[n] (by simp);rw[d]at f;cases f;exact g.dF λc z=>t c (by rw[Fb p,z])
 have e:Se μ H μ (ic H a o):=Zx (La d) s f g;refine⟨e,by simp[r.len],r.nd,λm x h=>?_,r.tb.out (λb l=>Le l) (.inl (La d))⟩;rw[Pc]at h;by_cases i:n=m
 ·subst i;rw[ja rfl]at h;split at h
  ·cases h;exact⟨a,d,q⟩
  ·cases h
 ·rw[ua i]at h;obtain⟨b,j,k⟩:=r.obs m x h;refine⟨b,j,k.mono e (Le λz=>i ?_)⟩;subst z;exact kI r.nd d j
theorem ee.at(r:ee T μ H σ){n:Nat}{v:V}{o:Ob}(h:Ia T μ H (.ref n) v)(e:σ[n]?=some o):∃ a,v=.ref a/\μ[n]?=some a/\Tr T μ H a o:=by
 obtain⟨a,rfl,c⟩:=h;obtain⟨f,b,d⟩:=r.obs n o e;rw[c]at b;cases b;exact⟨a,rfl,c,d⟩
end
noncomputable def ia(i:Nat):Ev->M D:=λa b=>match a[i]? with
 |some (some d)=>.ok d b
 |_=>.Sb
noncomputable def eC(d:D):Ev->M D:=λ_=>ret d
noncomputable def nL(o:D->D->M D)(m:M D)(x:D):M D:=Ld m (o x)
def nb(o:D->D->M D)(a b:Ev->M D):Ev->M D:=λc=>Ld (a c) (nL o (b c))
noncomputable def Qd(o:D->M D)(a:Ev->M D):Ev->M D:=λb=>Ld (a b) o
noncomputable def oC(d:D):M Bool:=match d with
 | .bl b=>ret b
 |_=>Sb
def fm{a:Type}(p q:M a)(c:Bool):M a:=if c=true then p else q
noncomputable def TM(c:Bool):M Bool:=ret (!c)
def Xz{a:Type}(k:Bool->M a)(d:D):M a:=Ld (oC d) k
def eT(f:Ev->M D):Ev->M Bool:=λa=>Ld (f a) oC
noncomputable def MD(a b:Ev->M Bool):Ev->M Bool:=λc=>Ld (a c) (fm (b c) (ret false))
noncomputable def dw(a b:Ev->M Bool):Ev->M Bool:=λc=>Ld (a c) (fm (ret true) (b c))
def Nl(a:Ev->M Bool):Ev->M Bool:=λb=>Ld (a b) TM
noncomputable def Si(a b:Ev->M D):Ev->M D:=λc=>Ld (a c) (Xz (fm (b c) (ret (.bl false))))
noncomputable def yL(a b:Ev->M D):Ev->M D:=λc=>Ld (a c) (Xz (fm (ret (.bl true)) (b c)))
noncomputable def eM(c:Bool):M D:=ret (.bl (!c))
def QH(a:Ev->M D):Ev->M D:=λb=>Ld (a b) (Xz eM)
noncomputable def Nz(t:Ev->M Bool)(a b:Ev->M D):Ev->M D:=λc=>Ld (t c) (fm (a c) (b c))
noncomputable def Na:Ev->M (List D):=λ_=>ret []
noncomputable def iM(x:D)(xs:List D):M (List D):=ret (x::xs)
def UJ(m:M (List D))(x:D):M (List D):=Ld m (iM x)
def xa(e:Ev->M D)(r:Ev->M (List D)):Ev->M (List D):=λa=>Ld (e a) (UJ (r a))
def Iy(a:List D):M D:=if a.length<=zi then ret (.ub a)else Sb
def Hj(a:Ev->M (List D)):Ev->M D:=λb=>Ld (a b) Iy
noncomputable def yC(b:List D):M D:=λa=>.ok (.ref a.length) (a++[.Ca b])
def ZG(a:List D):M D:=if a.length<=zi then yC a else Sb
def vv(a:Ev->M (List D)):Ev->M D:=λb=>Ld (a b) ZG
def Gz(a:List D):M D:=if a.length<=zi then ret (.Ca a)else Sb
def Sl(a:Ev->M (List D)):Ev->M D:=λb=>Ld (a b) Gz
def rn(T:Tb)(r:R2)(o:D->D->M D):Prop:=∀ (E:XK) a H b x y v u Q,ee T a H b->Ia T a H x v->Ia T a H y u->Zb T E (Ia T) a H (o x y b) Q->r v u H Q
def tU(T:Tb)(r:V->Hp->VK->Prop)(o:D->M D):Prop:=∀ (E:XK) a H b x v Q,ee T a H b->Ia T a H x v->Zb T E (Ia T) a H (o x b) Q->r v H Q
def Ww(T:Tb)(r:List V->Hp->VK->Prop)(o:List D->M D):Prop:=∀ (E:XK) a H c xs b Q,ee T a H c->gb T a H xs b->Zb T E (Ia T) a H (o xs c) Q->r b H Q
section
variable{T:Tb}{X:Cx}{a b c:Fa}{fa fb:Ev->M D}{ta tb:Ev->M Bool}{pos:Me}
theorem pa(i:Nat){x:qa}(j:X.N[i]?=some x:=by rfl)(n:VG X.env.scope x:=by first|exact Or.inl rfl|exact Or.inr (Or.inl rfl)|exact Or.inr (Or.inr rfl))(k:(x == ("__debug__" : qa))=false:=by decide)
  (c:(x == ("__classdict__" : qa))=false:=by decide):FE T X (.Name x pos) (ia i):=by
 intro b s p H Q I h;obtain⟨r,q,t,l,m,a⟩:=h;refine V0 j n k c b s p H Q I ?_;unfold ia at a;cases e:q[i]? with
 |none=>rw[e]at a;exact a.elim
 |some o=>
  cases o with
  |none=>rw[e]at a;exact a.elim
  |some d=>
   rw[e]at a;obtain⟨v,f,g⟩:=l.2 i d e;exact⟨v,f,a.here m g⟩
theorem sC{e:Fa}{v:V}{d:D}(h:PE X e (tC v))(r:∀ b H,Ia T b H d v):FE T X e (eC d):=by
 intro a s i H Q I f;obtain⟨b,k,l,j,g,c⟩:=f;exact h a s i H Q I (Zb.here c g (r _ _))
theorem Cb{i:Int}{j}:FE T X (.Constant (.int i) j pos) (eC (.int i)):=sC P2 λ_ _=>by rw[Ia]
theorem qw{i:Bool}{j}:FE T X (.Constant (.bool i) j pos) (eC (.bl i)):=sC Ķ λ_ _=>by rw[Ia]
theorem CA{j}:FE T X (.Constant .none j pos) (eC .Mc):=sC AY λ_ _=>by rw[Ia]
theorem Ej{i:qa}{j}:FE T X (.Constant (.str i) j pos) (eC (.str i)):=sC K3 λ_ _=>by rw[Ia]
theorem mw{x:qa}{u:Value}{i:Int}(b:Gl X x)(c:X.mg x=some u)(r:ie (.int i) u)(a:(x == ("__debug__" : qa))=false:=by decide):FE T X (.Name x pos) (eC (.int i)):=sC (AI b c r a) λ_ _=>by rw[Ia]
theorem two{r:R2}{o:D->D->M D}(n:rn T r o){f:St}{H:Hp}{Q:VK}(h:tF T X (nb o fa fb) f H Q):JF r (tF T X fa) (tF T X fb) f H Q:=by
 obtain⟨t,g,w,e,m,l⟩:=h;exact⟨t,g,w,e,m,l.bind λx c a v z _ j q p1 q1=>⟨a,g,c,e.mono j,q,q1.bind λy d b u i _ k s p2 p=>n _ b i d x y v u Q s (Ia.mono k _ _ p1) p2 p⟩⟩
theorem Du{d:Nu}{r:R2}{o:D->D->M D}(g:yj X (Dg d) r)(i:rn T r o)(e:FE T X a fa)(f:FE T X b fb):FE T X (.BinOp a d b pos) (nb o fa fb):=
 λc s j H Q I h=>ŗ g e f c s j H Q I (two i h)
theorem Ez{d:jt}{r:R2}{o:D->D->M D}(i:yj X (Gc d) r)(j:rn T r o)(e:FE T X a fa)(f:FE T X b fb)(g:Yf d b=false):FE T X (.Compare a [d] [b] pos) (nb o fa fb):=
 λc s k H Q I h=>B5 i e f g c s k H Q I (two j h)
theorem k6{r:R2}{o:D->D->M D}(f:cz X r)(i:rn T r o)(d:FE T X a fa)(e:FE T X b fb)(g:DJ b):FE T X (.Subscript a b pos) (nb o fa fb):=
 λc s j H Q I h=>N3 f d e g c s j H Q I (two i h)
theorem cL{e:UnaryOp}{r:V->Hp->VK->Prop}{o:D->M D}(j:yG X (unaryOp e) r)(m:tU T r o)(g:FE T X a fa):FE T X (.UnaryOp e a pos) (Qd o fa):=by
 intro b s p H Q I h;refine y6 j g b s p H Q I ?_;obtain⟨q,t,u,i,l,k⟩:=h;exact⟨q,t,u,i,l,k.bind λx d c v f _ w n p1 q1=>m _ c f d x v Q n p1 q1⟩
theorem LG{E:XK}{d:D}{g:xb}{a:List Addr}{H:Hp}{v:V}{e f:Type}{b:List Addr->Hp->e->f->Prop}{k:Bool->M e}{Q:f->Hp->Prop}(r:Ia T a H d v)(h:Zb T E b a H (Ld (oC d) k g) Q):∃ c,d=.bl c/\v=.bl c/\Zb T E b a H (k c g) Q:=by
 cases d with
 |bl c=>rw[Ia]at r;exact⟨c,rfl,r,h⟩
 |_=>exact h.elim
theorem TQ{E:XK}{d:D}{b:xb}{a:List Addr}{H:Hp}{v:V}{Q:Bool->Hp->Prop}(r:Ia T a H d v)(h:Zb T E CN a H (oC d b) Q):∃ c,v=.bl c/\Zb T E CN a H (.ok c b) Q:=by
 cases d with
 |bl c=>rw[Ia]at r;exact⟨c,r,h⟩
 |_=>exact h.elim
theorem Ai{e:jt}{r:R2}{o:D->D->M D}(m:yj X (Gc e) r)(t:rn T r o)(g:FE T X a fa)(i:FE T X b fb)(l:Yf e b=false):FT T X (.Compare a [e] [b] pos) (eT (nb o fa fb)):=by
 intro c s w H Q I h;refine γ m g i l c s w H Q I ?_;refine two t ?_;obtain⟨x,z,A,j,p,n⟩:=h;refine⟨x,z,A,j,p,n.bind λd B y v C _ E u p1 q1=>?_⟩;obtain⟨k,f,q⟩:=TQ p1 q1;exact⟨k,f,q.here u rfl⟩
theorem Yk{e:Fa}{f:Ev->M D}(h:FE T X e f)(i:∀ a,PB e X.env a=(do let v <-a;pi e.pos;qf [v] (truthy v)):=by intro _;rfl):FT T X e (eT f):=by
 intro b s o H Q I m;refine B3 h i b s o H Q I ?_;obtain⟨p,t,u,g,l,j⟩:=m;refine⟨p,t,u,g,l,j.bind λd w r v x _ y n p1 q1=>?_⟩;obtain⟨k,c,q⟩:=TQ p1 q1;exact⟨k,c,q.here n rfl⟩
theorem jn(h:FT T X a ta):FT T X (.UnaryOp .Not a pos) (Nl ta):=by
 intro b s j H Q I g;refine ā h b s j H Q I ?_;obtain⟨k,m,n,d,f,e⟩:=g;exact⟨k,m,n,d,f,e.bind λc o l v p _ q i p1 q1=>by cases p1;exact q1.here i rfl⟩
variable{nh:List Fa}
theorem PM(h:FT T X a ta):FW T X (.BoolOp .And [a] pos) ta:=J5 h
theorem HC(h:FT T X a ta):FW T X (.BoolOp .Or [a] pos) ta:=yoe h
theorem wN(h:FT T X a ta)(l:FW T X (.BoolOp .And (b::nh) pos) tb):FW T X (.BoolOp .And (a::b::nh) pos) (MD ta tb):=by
 intro q d s p H Q I o;refine Ū h l q d s p H Q I ?_;obtain⟨r,j,t,g,n,m⟩:=o;refine⟨r,j,t,g,n,m.bind λc f e v u _ k i p1 q1=>?_⟩;cases p1;cases c with
 |true=>unfold fm at q1;rw[ja rfl]at q1 ⊢;exact⟨e,j,f,g.mono k,i,q1⟩
 |false=>unfold fm at q1;rw[ua jb]at q1 ⊢;exact q1.here i rfl
theorem Ix(h:FT T X a ta)(l:FW T X (.BoolOp .Or (b::nh) pos) tb):FW T X (.BoolOp .Or (a::b::nh) pos) (dw ta tb):=by
 intro q d s p H Q I o;refine BZ h l q d s p H Q I ?_;obtain⟨r,j,t,g,n,m⟩:=o;refine⟨r,j,t,g,n,m.bind λc f e v u _ k i p1 q1=>?_⟩;cases p1;cases c with
 |true=>unfold fm at q1;rw[ja rfl]at q1 ⊢;exact q1.here i rfl
 |false=>unfold fm at q1;rw[ua jb]at q1 ⊢;exact⟨e,j,f,g.mono k,i,q1⟩
theorem Fn{op}(h:FE T X a fa):FE T X (.BoolOp op [a] pos) fa:=Ż h
theorem oj(h:FE T X a fa)(n:FE T X (.BoolOp .And (b::nh) pos) fb):FE T X (.BoolOp .And (a::b::nh) pos) (Si fa fb):=by
 intro e s t H Q I r;refine W1 h n e s t H Q I ?_;obtain⟨u,k,w,i,p,o⟩:=r;refine⟨u,k,w,i,p,o.bind λd g f v x _ l j p1 q1=>?_⟩;obtain⟨c,rfl,m,q⟩:=LG p1 q1;refine⟨c,m,?_⟩;cases c with
 |true=>unfold fm at q;rw[ja rfl]at q ⊢;exact⟨f,k,g,i.mono l,j,q⟩
 |false=>unfold fm at q;rw[ua jb]at q ⊢;exact Zb.here q j (by rw[Ia])
theorem N1(h:FE T X a fa)(n:FE T X (.BoolOp .Or (b::nh) pos) fb):FE T X (.BoolOp .Or (a::b::nh) pos) (yL fa fb):=by
 intro e s t H Q I r;refine Ŋ h n e s t H Q I ?_;obtain⟨u,k,w,i,p,o⟩:=r;refine⟨u,k,w,i,p,o.bind λd g f v x _ l j p1 q1=>?_⟩;obtain⟨c,rfl,m,q⟩:=LG p1 q1;refine⟨c,m,?_⟩;cases c with
 |true=>unfold fm at q;rw[ja rfl]at q ⊢;exact Zb.here q j (by rw[Ia])
 |false=>unfold fm at q;rw[ua jb]at q ⊢;exact⟨f,k,g,i.mono l,j,q⟩
theorem VP(h:FE T X a fa):FE T X (.UnaryOp .Not a pos) (QH fa):=by
 intro b s l H Q I j;refine G1 h b s l H Q I ?_;obtain⟨m,o,p,f,i,g⟩:=j;refine⟨m,o,p,f,i,g.bind λd r n v t _ u k p1 q1=>?_⟩;obtain⟨c,rfl,e,q⟩:=LG p1 q1;exact⟨c,e,Zb.here q k (by rw[Ia])⟩
theorem yH(n:FT T X c ta)(l:FE T X a fa)(m:FE T X b fb):FE T X (.IfExp c a b pos) (Nz ta fa fb):=by
 intro e s r H Q I q;refine Q9 n l m e s r H Q I ?_;obtain⟨t,i,u,h,p,o⟩:=q;refine⟨t,i,u,h,p,o.bind λd g f v w _ j k p1 q1=>?_⟩;cases p1;cases d with
 |true=>unfold fm at q1;rw[ja rfl]at q1 ⊢;exact⟨f,i,g,h.mono j,k,q1⟩
 |false=>unfold fm at q1;rw[ua jb]at q1 ⊢;exact⟨f,i,g,h.mono j,k,q1⟩
variable{e:Fa}{es:List Fa}{fe:Ev->M D}{fs:Ev->M (List D)}
theorem Zt:FA T X [] Na:=by
 intro pos a s e H Q I d;refine aw pos a s e H Q I ?_;obtain⟨g,h,i,f,c,b⟩:=d;exact Zb.here b c gb.nil
theorem Db(k:FE T X e fe)(b:FA T X es fs)(m:la (e::es) X.env=(false,Ib e X.env)::la es X.env:=by rfl):FA T X (e::es) (xa fe fs):=by
 intro pos a s r H Q I n;refine Dt k b m pos a s r H Q I ?_;obtain⟨t,h,w,g,b,l⟩:=n;exact⟨t,h,w,g,b,l.bind λd f c v y _ i p p1 q1=>⟨c,h,f,g.mono i,p,q1.bind λA x u B z _ j q p2 o=>Zb.here o q (gb.cons (Ia.mono j _ _ p1) p2)⟩⟩
theorem eN{E:XK}{a:List Addr}{H:Hp}{e:xb}{d:List D}{c:List V}{Q:VK}{p:Addr}(h:Zb T E (Ia T) a H (.ok (.ub d) e) Q)(r:ee T a H e)(q:gb T a H d c)(b:H p=none):Q (.ref p) (ic H p (.ub c)):=
 h a (.ref p) _ (Fm b) (r.fresh b) (by rw[Ia];exact⟨p,c,rfl,Hh,gb.mono (Fm b) _ _ q⟩)
theorem CD{E:XK}{a:List Addr}{H:Hp}{e:xb}{d:List D}{c:List V}{Q:VK}{p:Addr}(h:Zb T E (Ia T) a H (yC d e) Q)(r:ee T a H e)(q:gb T a H d c)(b:H p=none):Q (.ref p) (ic H p (.Ca c)):=
 h (a++[p]) (.ref p) _ (Sy b) (r.push b ⟨c,Hh,gb.mono (Sy b) _ _ q⟩) (kF r)
theorem gk{x1}(h:FA T X es fs):FE T X (.Tuple es x1 pos) (Hj fs):=by
 intro a s j H Q I g;refine ģ h a s j H Q I ?_;obtain⟨k,m,n,e,f,c⟩:=g;refine⟨k,m,n,e,f,c.bind λd o l t q _ r i p1 q1=>?_⟩;unfold Iy at q1;by_cases b:d.length<=zi
 ·rw[ja b]at q1;exact⟨by rw[<-p1.length];exact UA b,λp c=>eN q1 i p1 c⟩
 ·rw[ua b]at q1;exact q1.elim
theorem AB(h:FA T X es fs):FE T X (.List es pos) (vv fs):=by
 intro a s j H Q I g;refine jT h a s j H Q I ?_;obtain⟨k,m,n,e,f,c⟩:=g;refine⟨k,m,n,e,f,c.bind λd o l t q _ r i p1 q1=>?_⟩;unfold ZG at q1;by_cases b:d.length<=zi
 ·rw[ja b]at q1;exact⟨by rw[<-p1.length];exact UA b,λp c=>CD q1 i p1 c⟩
 ·rw[ua b]at q1;exact q1.elim
theorem xH{E:XK}{b:List Addr}{H:Hp}{f:xb}{d:List D}{c:List V}{Q:VK}{p:Addr}(h:Zb T E (Ia T) b H (.ok (.Ca d) f) Q)(r:ee T b H f)(q:gb T b H d c)(a:H p=none):Q (.ref p) (ic H p (.Ca c)):=
 h b (.ref p) _ (Fm a) (r.fresh a) (by rw[Ia];exact⟨p,c,rfl,λg=>(by obtain⟨u,e,_⟩:=r.mem g;rw[a]at e;cases e),Hh,gb.mono (Fm a) _ _ q⟩)
theorem xq(h:FA T X es fs):FE T X (.List es pos) (Sl fs):=by
 intro a s j H Q I g;refine jT h a s j H Q I ?_;obtain⟨k,m,n,e,f,c⟩:=g;refine⟨k,m,n,e,f,c.bind λd o l t q _ r i p1 q1=>?_⟩;unfold Gz at q1;by_cases b:d.length<=zi
 ·rw[ja b]at q1;exact⟨by rw[<-p1.length];exact UA b,λp c=>xH q1 i p1 c⟩
 ·rw[ua b]at q1;exact q1.elim
end
noncomputable def oI(g:Int->Int->Int):D->D->M D
 | .int i,.int j=>ret (.int (g i j))
 |_,_=>Sb
noncomputable def oB(g:Int->Int->Bool):D->D->M D
 | .int i,.int j=>ret (.bl (g i j))
 |_,_=>Sb
noncomputable def LA(C:Int->Int->Bool)(g:Int->Int->Int):D->D->M D
 | .int i,.int j=>if C i j=true then ret (.int (g i j))else Sb
 |_,_=>Sb
def aL(_ j:Int):Bool:=Wa (decide (0<j) && decide (j<1073741824))
def yK(_ j:Int):Bool:=Wa (decide (0<j))
def Bz(i j:Int):Bool:=Wa (decide (0<=j) && decide (j<=1000000) && decide (i.natAbs<2 ^ 64))
abbrev vC:=oI (λi j=>i - j)
abbrev EK:=LA aL (λi j=>i / j)
abbrev qB:=LA yK (λi j=>i % j)
abbrev Ox:=LA Bz (λi j=>i ^ j.toNat)
abbrev oLt:=oB (λi j=>decide (i<j))
abbrev oLe:=oB (λi j=>decide (i<=j))
abbrev mJ:=oB (λi j=>decide (j<i))
noncomputable def Uz:D->M D
 | .int i=>ret (.int (-i))
 |_=>Sb
noncomputable def rD(T:Tb)(o:D->D->M D):R2:=λv u H Q=>∃ (E:XK) (a:List Addr) (σ:xb) (x y:D),ee T a H σ/\Ia T a H x v/\Ia T a H y u/\Zb T E (Ia T) a H (o x y σ) Q
theorem Jk{T:Tb}{o:D->D->M D}:rn T (rD T o) o:=λE a H b x y v u Q r p q h=>⟨E,a,b,x,y,r,p,q,h⟩
section
variable{T:Tb}{X:Cx}
theorem Fv{a:List Addr}{H:Hp}{i:Int}{v:V}(h:Ia T a H (.int i) v):v=.int i:=by simpa [Ia]using h
theorem yvv{g:Int->Int->Int}:rn T (wv λi j=>.int (g i j)) (oI g):=by
 intro E a H b x y v u Q r p q h;cases x with
 |int i=>
  cases y with
  |int j=>exact⟨i,j,Fv p,Fv q,Zb.here h r (by rw[Ia])⟩
  |_=>exact h.elim
 |_=>exact h.elim
theorem sN{g:Int->Int->Bool}:rn T (wv λi j=>.bl (g i j)) (oB g):=by
 intro E a H b x y v u Q r p q h;cases x with
 |int i=>
  cases y with
  |int j=>exact⟨i,j,Fv p,Fv q,Zb.here h r (by rw[Ia])⟩
  |_=>exact h.elim
 |_=>exact h.elim
theorem gN{C:Int->Int->Bool}{b:Int->Int->Prop}{g:Int->Int->Int}(d:∀ i j,C i j=true->b i j):rn T (rI b λi j=>.int (g i j)) (LA C g):=by
 intro E f H k x y v u Q r p q h;cases x with
 |int i=>
  cases y with
  |int j=>
   by_cases a:C i j=true
   ·have c:Zb T E (Ia T) f H (ret (.int (g i j)) k) Q:=by
     have e:LA C g (.int i) (.int j)=ret (.int (g i j)):=by show (if C i j=true then _ else _)=_;rw[ja a]
     rw[e]at h;exact h
    exact⟨i,j,Fv p,Fv q,d i j a,Zb.here c r (by rw[Ia])⟩
   ·have e:LA C g (.int i) (.int j)=Sb:=by show (if C i j=true then _ else _)=_;rw[ua a]
    rw[e]at h;exact h.elim
  |_=>exact h.elim
 |_=>exact h.elim
theorem ME:rn T (wv λi j=>.int (i - j)) vC:=yvv
theorem L1:rn T (rI vP λi j=>.int (i / j)) EK:=gN λi j h=>by
 simp only[aL,zq,Ea,Kc]at h;exact h
theorem ZD:rn T (rI (λ_ j=>0<j) λi j=>.int (i % j)) qB:=gN λi j h=>by
 simp only[yK,zq,Kc]at h;exact h
theorem tN:rn T (rI ZO λi j=>.int (i ^ j.toNat)) Ox:=gN λi j h=>by
 simp only[Bz,zq,Ea,Kc]at h;exact⟨h.1.1,h.1.2,h.2⟩
theorem cG:rn T (wv λi j=>.bl (decide (i<j))) oLt:=sN
theorem zR:rn T (wv λi j=>.bl (decide (i<=j))) oLe:=sN
theorem JQ:rn T (wv λi j=>.bl (decide (j<i))) mJ:=sN
theorem iL:tU T (rU λi=>.int (-i)) Uz:=by
 intro E a H b x v Q r p h;cases x with
 |int i=>exact⟨i,Fv p,Zb.here h r (by rw[Ia])⟩
 |_=>exact h.elim
end
noncomputable def sc:D->Option V
 | .Mc=>some .Mc
 | .bl b=>some (.bl b)
 | .int i=>some (.int i)
 | .str x=>some (.str x)
 |_=>none
noncomputable def ti(a:xb)(n:Nat):Option (List D):=match a[n]? with
 |some (.Ca xs)=>some xs
 |_=>none
theorem ET{a:xb}{n:Nat}{xs:List D}(h:ti a n=some xs):a[n]?=some (.Ca xs):=by
 unfold ti at h;cases e:a[n]? with
 |none=>rw[e]at h;cases h
 |some o=>rw[e]at h;cases o<;>simp at h;subst h;rfl
inductive Kd where
 |s (v:V)|t (xs:List D)|l (xs:List D)|o
def kd(a:xb):D->Kd
 | .Mc=>.s .Mc
 | .bl b=>.s (.bl b)
 | .int i=>.s (.int i)
 | .str x=>.s (.str x)
 | .ub xs=>.t xs
 | .Ca xs=>.l xs
 | .ref n=>match ti a n with
  |some xs=>.l xs
  |none=>.o
 |_=>.o
noncomputable def du(f:D->D->Option Bool):List D->List D->Option Bool
 |[],[]=>some true
 |[],_::_=>some false
 |_::_,[]=>some false
 |x::xs,y::a=>match f x y,du f xs a with
  |some b,some c=>some (b && c)
  |_,_=>none
def uv(f:D->D->Option Bool):Kd->Kd->Option Bool
 | .s a,.s b=>some (Jn a b)
 | .t xs,.t c=>du f xs c
 | .l xs,.l c=>du f xs c
 | .s _,.t _=>some false
 | .t _,.s _=>some false
 | .s _,.l _=>some false
 | .l _,.s _=>some false
 | .t _,.l _=>some false
 | .l _,.t _=>some false
 |_,_=>none
def Up(a:xb):Nat->D->D->Option Bool
 |0,x,y=>uv (λ_ _=>none) (kd a x) (kd a y)
 |n+1,x,y=>uv (Up a n) (kd a x) (kd a y)
noncomputable def Iv(f:D->D->Option Bool)(xs c:List D)(j:Nat):Bool:=match xs[j]?,c[j]? with
 |some a,some b=>(f a b).getD false
 |_,_=>false
theorem YO(f:D->D->Option Bool):∀ (xs d:List D) (b:Bool),du f xs d=some b->
  (∀ (j:Nat) (a c:D),xs[j]?=some a->d[j]?=some c->∃ k,f a c=some k)/\b=((List.range (min xs.length d.length)).all (Iv f xs d) && xs.length == d.length)
 |[],[],b,h=>by simp[du]at h;subst h;simp
 |[],y::d,b,h=>by simp[du]at h;subst h;simp
 |x::xs,[],b,h=>by simp[du]at h;subst h;simp
 |x::xs,y::d,b,h=>by
  unfold du at h;cases e:f x y with
  |none=>rw[e]at h;cases h
  |some m=>
   cases g:du f xs d with
   |none=>rw[e,g]at h;cases h
   |some n=>
    rw[e,g]at h;cases h;obtain⟨t,u⟩:=YO f xs d n g;refine⟨λj a c i l=>?_,?_⟩
    ·cases j with
     |zero=>simp at i l;subst i;subst l;exact⟨m,e⟩
     |succ j=>exact t j a c (by simpa using i) (by simpa using l)
    ·have o:min (x::xs).length (y::d).length=min xs.length d.length+1:=by simp
     have p:∀ j,Iv f (x::xs) (y::d) (j+1)=Iv f xs d j:=λj=>by simp[Iv]
     have q:Iv f (x::xs) (y::d) 0=m:=by simp[Iv,e]
     rw[o,gu,Yg,TC,q,u];have r:(Iv f (x::xs) (y::d) ∘ Nat.succ)=Iv f xs d:=funext λj=>p j;have s:((x::xs).length == (y::d).length)=(xs.length == d.length):=by simp
     rw[r,s,Bool.and_assoc]
section
variable{T:Tb}{μ:List Addr}{H:Hp}{σ:xb}
theorem ee.Ca(r:ee T μ H σ){n:Nat}{v:V}{xs:List D}(h:Ia T μ H (.ref n) v)(e:ti σ n=some xs):∃ a b,v=.ref a/\μ[n]?=some a/\H a=some (.Ca b)/\gb T μ H xs b:=by
 obtain⟨a,rfl,c,b,d,f⟩:=r.at h (ET e);exact⟨a,b,rfl,c,d,f⟩
theorem tH{d:D}{v a:V}(h:Ia T μ H d v)(e:sc d=some a):v=a:=by
 cases d<;>simp[sc]at e<;>subst e<;>simpa [Ia]using h
theorem sS{d:D}{a:V}(e:sc d=some a):dk a=true:=by
 cases d<;>simp[sc]at e<;>subst e<;>rfl
theorem Τ{a:V}(h:dk a=true):Jn a a=true:=by cases a<;>simp[dk,Jn]at h ⊢
theorem Rz(r:ee T μ H σ){d:D}{v:V}(h:Ia T μ H d v):match kd σ d with
  | .s a=>v=a/\dk a=true
  | .t xs=>∃ p c,v=.ref p/\H p=some (.ub c)/\gb T μ H xs c
  | .l xs=>∃ p c,v=.ref p/\H p=some (.Ca c)/\gb T μ H xs c
  | .o=>True:=by
 cases d with
 |Mc=>exact⟨by simpa [Ia]using h,rfl⟩
 |bl b=>exact⟨by simpa [Ia]using h,rfl⟩
 |int b=>exact⟨by simpa [Ia]using h,rfl⟩
 |str b=>exact⟨by simpa [Ia]using h,rfl⟩
 |ub xs=>rw[Ia]at h;exact h
 |Ca xs=>rw[Ia]at h;obtain⟨a,c,f,_,g,i⟩:=h;exact⟨a,c,f,g,i⟩
 |ref n=>
  unfold kd;dsimp only;cases e:ti σ n with
  |none=>trivial
  |some xs=>obtain⟨a,c,f,_,g,i⟩:=r.Ca h e;exact⟨a,c,f,g,i⟩
 |_=>trivial
theorem jM{f:D->D->Option Bool}(j:∀ (x y:D) (v:V) (b:Bool),Ia T μ H x v->Ia T μ H y v->f x y=some b->b=true):∀ (xs a:List D) (g:List V) (b:Bool),gb T μ H xs g->gb T μ H a g->du f xs a=some b->b=true
 |[],a,g,b,d,c,h=>by
  rw[gb]at d;subst d;cases a with
  |nil=>simp[du]at h;exact h
  |cons y a=>rw[gb]at c;obtain⟨_,_,z,_⟩:=c;cases z
 |x::xs,a,g,b,d,c,h=>by
  rw[gb]at d;obtain⟨v,r,rfl,p1,q1⟩:=d;cases a with
  |nil=>rw[gb]at c;cases c
  |cons y a=>
   rw[gb]at c;obtain⟨o,n,z,p2,m⟩:=c;cases z;unfold du at h;cases e:f x y with
   |none=>rw[e]at h;cases h
   |some k=>
    cases i:du f xs a with
    |none=>rw[e,i]at h;cases h
    |some l=>
     rw[e,i]at h;cases h;rw[j x y v k p1 p2 e,jM j xs a r l q1 m i];rfl
theorem sM(r:ee T μ H σ){f:D->D->Option Bool}(B:∀ (x y:D) (v:V) (b:Bool),Ia T μ H x v->Ia T μ H y v->f x y=some b->b=true){x y:D}{v:V}{b:Bool}(C:Ia T μ H x v)(E:Ia T μ H y v)(h:uv f (kd σ x) (kd σ y)=some b):b=true:=by
 have u:=Rz r C;have g:=Rz r E;generalize kd σ x=F at h u;generalize kd σ y=w at h g;cases F with
 |s a=>
  obtain⟨rfl,i⟩:=u;cases w with
  |s c=>obtain⟨rfl,_⟩:=g;cases h;exact Τ i
  |t xs=>obtain⟨p,m,rfl,_⟩:=g;simp[dk]at i
  |l xs=>obtain⟨p,m,rfl,_⟩:=g;simp[dk]at i
  |o=>cases h
 |t xs=>
  obtain⟨p,m,rfl,j,z⟩:=u;cases w with
  |s c=>obtain⟨e,i⟩:=g;rw[<-e]at i;simp[dk]at i
  |t n=>
   obtain⟨q,A,e,d,k⟩:=g;cases e;rw[j]at d;cases d;exact jM B xs n m b z k h
  |l n=>obtain⟨q,A,e,d,k⟩:=g;cases e;rw[j]at d;cases d
  |o=>cases h
 |l xs=>
  obtain⟨p,m,rfl,j,z⟩:=u;cases w with
  |s c=>obtain⟨e,i⟩:=g;rw[<-e]at i;simp[dk]at i
  |t n=>obtain⟨q,A,e,d,k⟩:=g;cases e;rw[j]at d;cases d
  |l n=>
   obtain⟨q,A,e,d,k⟩:=g;cases e;rw[j]at d;cases d;exact jM B xs n m b z k h
  |o=>cases h
 |o=>cases h
theorem ZV(r:ee T μ H σ):∀ (n:Nat) (x y:D) (v:V) (b:Bool),Ia T μ H x v->Ia T μ H y v->Up σ n x y=some b->b=true
 |0,x,y,v,b,a,c,h=>sM r (λ_ _ _ _ _ _ z=>by cases z) a c h
 |n+1,x,y,v,b,a,c,h=>sM r (λx y v b d e f=>ZV r n x y v b d e f) a c h
end
section
variable{T:Tb}{X:Cx}{pins:List (Addr × Obj)}{st:St}{μ:List Addr}{H:Hp}{s:Shared}{σ:xb}
theorem jI{A:Ha}{a:V}{u:Value}{p:Addr}{e:Array Value}(f:dk a=true)(r:ie a u)(c:s.heap.IsTuple p e)(d:A.units<cLine):ve A s u (.ref p) false/\ve A s (.ref p) u false/\Mj A s u (.ref p) false/\Mj A s (.ref p) u false/\mi A s u (.ref p) true/\mi A s (.ref p) u true:=by
 cases a with
 |Mc=>cases r;exact⟨.none_tuple c d,.tuple_none c d,.none_tuple c d,.tuple_none c d,.none_tuple c d,.tuple_none c d⟩
 |bl b=>cases r;exact⟨.bool_tuple b c d,.tuple_bool b c d,.bool_tuple b c d,.tuple_bool b c d,.bool_tuple b c d,.tuple_bool b c d⟩
 |int b=>obtain⟨t,rfl⟩:=r;exact⟨.int_tuple b t c d,.tuple_int b t c d,.int_tuple b t c d,.tuple_int b t c d,.int_tuple b t c d,.tuple_int b t c d⟩
 |str b=>obtain⟨t,rfl⟩:=r;exact⟨.str_tuple b t c d,.tuple_str b t c d,.str_tuple b t c d,.tuple_str b t c d,.str_tuple b t c d,.tuple_str b t c d⟩
 |_=>simp[dk]at f
theorem QS{A:Ha}{a:V}{u:Value}{p:Addr}{e:Array Value}(f:dk a=true)(r:ie a u)(c:s.heap.IsList p e)(d:A.units<cLine):Mj A s u (.ref p) false/\Mj A s (.ref p) u false/\mi A s u (.ref p) true/\mi A s (.ref p) u true:=by
 cases a with
 |Mc=>cases r;exact⟨.none_list c d,.list_none c d,.none_list c d,.list_none c d⟩
 |bl b=>cases r;exact⟨.bool_list b c d,.list_bool b c d,.bool_list b c d,.list_bool b c d⟩
 |int b=>obtain⟨t,rfl⟩:=r;exact⟨.int_list b t c d,.list_int b t c d,.int_list b t c d,.list_int b t c d⟩
 |str b=>obtain⟨t,rfl⟩:=r;exact⟨.str_list b t c d,.list_str b t c d,.str_list b t c d,.list_str b t c d⟩
 |_=>simp[dk]at f
theorem zi5{A:Ha}{a:V}{u:Value}{p:Addr}{e:Array Value}(f:dk a=true)(r:ie a u)(c:s.heap.IsList p e)(d:A.units<cLine):ve A s u (.ref p) false:=by
 cases a with
 |Mc=>cases r;exact .none_list c d
 |bl b=>cases r;exact .bool_list b c d
 |int b=>obtain⟨t,rfl⟩:=r;exact .int_list b t c d
 |str b=>obtain⟨t,rfl⟩:=r;exact .str_list b t c d
 |_=>simp[dk]at f
theorem t3{A:Ha}{a:V}{u:Value}{p:Addr}{e:Array Value}(f:dk a=true)(r:ie a u)(c:s.heap.IsList p e)(d:A.units<cLine):ve A s (.ref p) u false:=by
 cases a with
 |Mc=>cases r;exact .list_none c d
 |bl b=>cases r;exact .list_bool b c d
 |int b=>obtain⟨t,rfl⟩:=r;exact .list_int b t c d
 |str b=>obtain⟨t,rfl⟩:=r;exact .list_str b t c d
 |_=>simp[dk]at f
theorem iX{A:Ha}{a b:V}{u w:Value}(f:ie a u)(d:ie b w)(g:dk a=true)(e:dk b=true):Mj A s u w (Jn a b)/\mi A s u w (!Jn a b):=by
 cases a with
 |Mc=>
  cases f;cases b with
  |Mc=>cases d;exact⟨.none_none,.none_none⟩
  |bl y=>cases d;exact⟨.none_bool y,.none_bool y⟩
  |int y=>obtain⟨t,rfl⟩:=d;exact⟨.none_int y t,.none_int y t⟩
  |str y=>obtain⟨t,rfl⟩:=d;exact⟨.none_str y t,.none_str y t⟩
  |_=>simp[dk]at e
 |bl x=>
  cases f;cases b with
  |Mc=>cases d;exact⟨.bool_none x,.bool_none x⟩
  |bl y=>cases d;exact⟨.bool_bool x y,.bool_bool x y⟩
  |int y=>obtain⟨t,rfl⟩:=d;exact⟨.bool_int x y t,.bool_int x y t⟩
  |str y=>obtain⟨t,rfl⟩:=d;exact⟨.bool_str x y t,.bool_str x y t⟩
  |_=>simp[dk]at e
 |int x=>
  obtain⟨c,rfl⟩:=f;cases b with
  |Mc=>cases d;exact⟨.int_none x c,.int_none x c⟩
  |bl y=>cases d;exact⟨.int_bool x c y,.int_bool x c y⟩
  |int y=>obtain⟨t,rfl⟩:=d;exact⟨.int_int x c y t,.int_int x c y t⟩
  |str y=>obtain⟨t,rfl⟩:=d;exact⟨.int_str x c y t,.int_str x c y t⟩
  |_=>simp[dk]at e
 |str x=>
  obtain⟨c,rfl⟩:=f;cases b with
  |Mc=>cases d;exact⟨.str_none x c,.str_none x c⟩
  |bl y=>cases d;exact⟨.str_bool x c y,.str_bool x c y⟩
  |int y=>obtain⟨t,rfl⟩:=d;exact⟨.str_int x c y t,.str_int x c y t⟩
  |str y=>obtain⟨t,rfl⟩:=d;exact⟨.str_str x c y t,.str_str x c y t⟩
  |_=>simp[dk]at e
 |_=>simp[dk]at g
theorem qI{xs:List V}{b:List Value}{i:Nat}{u:Value}(r:jf xs b)(h:b[i]?=some u):∃ x,xs[i]?=some x/\ie x u:=by
 have e:=r.length;have d:=(na.mp h).1;obtain⟨f,a,c⟩:=r.get (i:=i) (x:=xs[i]'(by omega)) (by simp);rw[h]at a;cases a;exact⟨_,by simp,c⟩
theorem xK{a:List D}{c:List V}{i:Nat}{v:V}(r:gb T μ H a c)(h:c[i]?=some v):∃ d,a[i]?=some d/\Ia T μ H d v:=by
 have g:=r.length;have f:=(na.mp h).1;obtain⟨j,b,e⟩:=r.get (i:=i) (d:=a[i]'(by omega)) (by simp);rw[h]at b;cases b;exact⟨_,by simp,e⟩
theorem LO{A:Ha}{f:D->D->Option Bool}(I:∀ (x y:D) (v w:V) (t B:Value) (b:Bool),Ia T μ H x v->Ia T μ H y w->ie v t->ie w B->f x y=some b->ve A s t B b)
  {xs c:List D} {z C:List V} {a d:List Value} {b:Bool} (q:gb T μ H xs z) (r:gb T μ H c C) (q1:jf z a) (p:jf C d) (h:du f xs c=some b) :
  (∀ j (n:j<a.toArray.size) (o:j<d.toArray.size),ve A s a.toArray[j] d.toArray[j] (Iv f xs c j))/\b=((List.range (min a.toArray.size d.toArray.size)).all (Iv f xs c) && a.toArray.size == d.toArray.size):=by
 obtain⟨n,o⟩:=YO f xs c b h;have J:=q.length;have K:=r.length;have L:=q1.length;have M:=p.length;refine⟨λj O P=>?_,?_⟩
 ·obtain⟨v,E,N⟩:=qI (i:=j) (u:=a.toArray[j]) q1 (by simp);obtain⟨w,F,e⟩:=qI (i:=j) (u:=d.toArray[j]) p (by simp);obtain⟨x,g,p3⟩:=xK q E;obtain⟨y,l,p4⟩:=xK r F;obtain⟨k,m⟩:=n j x y g l;have G:Iv f xs c j=k:=by simp[Iv,g,l,m]
  rw[G];exact I x y v w _ _ k p3 p4 N e m
 ·simp only[Aa];rw[o,J,K,L,M]
abbrev GO(A:Ha)(s:Shared)(v w:Value)(b:Bool):Prop:=Mj A s v w b/\mi A s v w (!b)
theorem HM{A:Ha}(I:Qa X pins st H s)(r:ee T μ H σ)(hu:A.units+1<cLine){f:D->D->Option Bool}
  (hf:∀ (x y:D) (v w:V) (N O:Value) (b:Bool),Ia T μ H x v->Ia T μ H y w->ie v N->ie w O->f x y=some b->ve A.in1 s N O b)
  {x y:D} {v w:V} {N O:Value} {b:Bool} (hx:Ia T μ H x v) (hy:Ia T μ H y w) (M:ie v N) (d:ie w O) (h:uv f (kd σ x) (kd σ y)=some b):GO A s N O b:=by
 have g:A.units<cLine:=by omega
 have R:=Rz r hx;have k:=Rz r hy;generalize kd σ x=k1 at h R;generalize kd σ y=W at h k;cases k1 with
 |o=>cases h
 |s a=>
  obtain⟨rfl,S⟩:=R;cases W with
  |o=>cases h
  |s c=>obtain⟨rfl,J⟩:=k;cases h;exact iX M d S J
  |t B=>
   obtain⟨q,P,rfl,j,u⟩:=k;cases h;cases d;obtain⟨its,_,n,_⟩:=L2.Qa.tuple I (Wi.of j);obtain⟨_,_,C,E,F,G⟩:=jI S M n g;exact⟨C,F⟩
  |l B=>
   obtain⟨q,P,rfl,j,u⟩:=k;cases h;cases d;obtain⟨its,_,pl,_⟩:=L2.Qa.list I (Cg.of j);obtain⟨C,E,F,G⟩:=QS S M pl.isList g;exact⟨C,F⟩
 |t xs=>
  obtain⟨p,vs,rfl,U,Z⟩:=R;cases M;obtain⟨its,q1,L,_⟩:=L2.Qa.tuple I (Wi.of U);cases W with
  |o=>cases h
  |s c=>
   obtain⟨rfl,J⟩:=k;cases h;obtain⟨_,_,C,E,F,G⟩:=jI J d L g;exact⟨E,G⟩
  |t B=>
   obtain⟨q,P,rfl,j,u⟩:=k;cases d;obtain⟨i,Y,n,_⟩:=L2.Qa.tuple I (Wi.of j);obtain⟨K,Q⟩:=LO hf Z u q1 Y h;rw[Q];exact⟨.tuples L n (by omega) K,.tuples L n (by omega) K⟩
  |l B=>
   obtain⟨q,P,rfl,j,u⟩:=k;cases h;cases d;obtain⟨i,_,pl,_⟩:=L2.Qa.list I (Cg.of j);exact⟨.tuple_list L pl.isList g,.tuple_list L pl.isList g⟩
 |l xs=>
  obtain⟨p,vs,rfl,U,Z⟩:=R;cases M;obtain⟨its,q1,pl,_⟩:=L2.Qa.list I (Cg.of U);cases W with
  |o=>cases h
  |s c=>
   obtain⟨rfl,J⟩:=k;cases h;obtain⟨C,E,F,G⟩:=QS J d pl.isList g;exact⟨E,G⟩
  |t B=>
   obtain⟨q,P,rfl,j,u⟩:=k;cases h;cases d;obtain⟨i,_,n,_⟩:=L2.Qa.tuple I (Wi.of j);exact⟨.list_tuple pl.isList n g,.list_tuple pl.isList n g⟩
  |l B=>
   obtain⟨q,P,rfl,j,u⟩:=k;cases d;obtain⟨i,Y,m,_⟩:=L2.Qa.list I (Cg.of j);obtain⟨K,Q⟩:=LO hf Z u q1 Y h;by_cases z:its.toArray.size=i.toArray.size
   ·have e:b=(List.range its.toArray.size).all (Iv f xs B):=by rw[Q,<-z];simp
    rw[e];exact⟨.lists pl.isList m.isList z (by omega) K,.lists pl.isList m.isList z (by omega) K⟩
   ·have e:b=false:=by rw[Q,Yc.mpr z,vA]
    rw[e];exact⟨.lists_lengths pl.isList m.isList (by simpa using z) (by omega),.lists_lengths pl.isList m.isList (by simpa using z) (by omega)⟩
theorem cT{A:Ha}(I:Qa X pins st H s)(r:ee T μ H σ)(W:A.units+1<cLine){f:D->D->Option Bool}
  (Q:∀ (x y:D) (v w:V) (E F:Value) (b:Bool),Ia T μ H x v->Ia T μ H y w->ie v E->ie w F->f x y=some b->ve A.in1 s E F b)
  (U:∀ (x y:D) (v:V) (b:Bool),Ia T μ H x v->Ia T μ H y v->f x y=some b->b=true)
  {x y:D} {v w:V} {E F:Value} {b:Bool} (G:Ia T μ H x v) (J:Ia T μ H y w) (n:ie v E) (d:ie w F) (h:uv f (kd σ x) (kd σ y)=some b):ve A s E F b:=by
 have k:A.units<cLine:=by omega
 have K:=(HM I r W Q G J n d h).1;by_cases i:v=w
 ·subst i;have P:=sM r U G J h;have m:=Rz r G;have g:=Rz r J;generalize kd σ x=N at h m;generalize kd σ y=C at h g;cases N with
  |o=>cases h
  |s a=>
   obtain⟨rfl,j⟩:=m;cases C with
   |o=>cases h
   |s c=>obtain⟨rfl,u⟩:=g;cases h;exact MK n d j u
   |t B=>obtain⟨q,z,e,_⟩:=g;rw[e]at j;simp[dk]at j
   |l B=>obtain⟨q,z,e,_⟩:=g;rw[e]at j;simp[dk]at j
  |t xs=>
   obtain⟨p,O,rfl,_⟩:=m;cases n;cases d;rw[P];exact wm _
  |l xs=>
   obtain⟨p,O,rfl,_⟩:=m;cases n;cases d;rw[P];exact wm _
 ·have m:=Rz r G;have g:=Rz r J;generalize kd σ x=N at h m;generalize kd σ y=C at h g;cases N with
  |o=>cases h
  |s a=>
   obtain⟨rfl,j⟩:=m;cases C with
   |o=>cases h
   |s c=>obtain⟨rfl,u⟩:=g;cases h;exact MK n d j u
   |t B=>
    obtain⟨q,z,rfl,M,Z⟩:=g;cases h;cases d;obtain⟨its,_,S,_⟩:=L2.Qa.tuple I (Wi.of M);exact(jI j n S k).1
   |l B=>
    obtain⟨q,z,rfl,M,Z⟩:=g;cases h;cases d;obtain⟨its,_,pl,_⟩:=L2.Qa.list I (Cg.of M);exact zi5 j n pl.isList k
  |t xs=>
   obtain⟨p,O,rfl,L,Y⟩:=m;cases n;cases C with
   |o=>cases h
   |s c=>
    obtain⟨rfl,u⟩:=g;cases h;obtain⟨its,_,R,_⟩:=L2.Qa.tuple I (Wi.of L);exact(jI u d R k).2.1
   |t B=>obtain⟨q,z,rfl,_⟩:=g;cases d;exact .of_refs (λe=>i (by rw[e])) K
   |l B=>obtain⟨q,z,rfl,_⟩:=g;cases d;exact .of_refs (λe=>i (by rw[e])) K
  |l xs=>
   obtain⟨p,O,rfl,L,Y⟩:=m;cases n;cases C with
   |o=>cases h
   |s c=>
    obtain⟨rfl,u⟩:=g;cases h;obtain⟨its,_,pl,_⟩:=L2.Qa.list I (Cg.of L);exact t3 u d pl.isList k
   |t B=>obtain⟨q,z,rfl,_⟩:=g;cases d;exact .of_refs (λe=>i (by rw[e])) K
   |l B=>obtain⟨q,z,rfl,_⟩:=g;cases d;exact .of_refs (λe=>i (by rw[e])) K
theorem sK(I:Qa X pins st H s)(r:ee T μ H σ):∀ (n:Nat) (A:Ha) (x y:D) (v w:V) (c d:Value) (b:Bool),A.units+n+1<cLine->Ia T μ H x v->Ia T μ H y w->ie v c->ie w d->Up σ n x y=some b->ve A s c d b
 |0,A,x,y,v,w,c,d,b,o,i,j,k,a,h=>cT I r (by omega) (λ_ _ _ _ _ _ _ _ _ _ _ z=>by cases z) (λ_ _ _ _ _ _ z=>by cases z) i j k a h
 |n+1,A,x,y,v,w,c,d,b,o,i,j,k,a,h=>cT I r (by omega) (λx y v w c d b e f g l m=>sK I r n A.in1 x y v w c d b (by show A.units+1+n+1<cLine;omega) e f g l m) (λx y v b e f g=>ZV r n x y v b e f g) i j k a h
theorem BR{A:Ha}(I:Qa X pins st H s)(r:ee T μ H σ)(n:Nat)(o:A.units+n+1<cLine){x y:D}{v w:V}{c d:Value}{b:Bool}(e:Ia T μ H x v)(f:Ia T μ H y w)(g:ie v c)(a:ie w d)(h:Up σ n x y=some b):GO A s c d b:=by
 cases n with
 |zero=>exact HM I r (by omega) (λ_ _ _ _ _ _ _ _ _ _ _ z=>by cases z) e f g a h
 |succ n=>exact HM I r (by omega) (λx y v w c d b i j k l m=>sK I r n A.in1 x y v w c d b (by show A.units+1+n+1<cLine;omega) i j k l m) e f g a h
end
section
variable{T:Tb}{X:Cx}{pins:List (Addr × Obj)}{st:St}{μ:List Addr}{H:Hp}{s:Shared}{σ:xb}
def sh(x y:D):M D:=λσ=>match Up σ 8 x y with
 |some b=>.ok (.bl b) σ
 |none=>.Sb
def xr(x y:D):M D:=λσ=>match Up σ 8 x y with
 |some b=>.ok (.bl (!b)) σ
 |none=>.Sb
theorem gp(i:X.A.units+9<cLine):yj X (Gc .Eq) (rD T sh):=by
 intro pins s st H v u k j Q I g f h;obtain⟨E,μ,σ,x,y,r,c,d,a⟩:=h;unfold sh at a;cases e:Up σ 8 x y with
 |none=>rw[e]at a;exact a.elim
 |some b=>
  rw[e]at a;have:=(BR I r 8 (by omega) c d g f e).1 X.prog X.w X.xe (EP X pins st Q) ⟨.bl b,H,I,rfl,Zb.here a r (by rw[Ia])⟩;exact this
theorem NA(i:X.A.units+9<cLine):yj X (Gc .NotEq) (rD T xr):=by
 intro pins s st H v u k j Q I g f h;obtain⟨E,μ,σ,x,y,r,c,d,a⟩:=h;unfold xr at a;cases e:Up σ 8 x y with
 |none=>rw[e]at a;exact a.elim
 |some b=>
  rw[e]at a;have:=(BR I r 8 (by omega) c d g f e).2 X.prog X.w X.xe (EP X pins st Q) ⟨.bl (!b),H,I,rfl,Zb.here a r (by rw[Ia])⟩;exact this
noncomputable def Kx(x y:D):M D:=λσ=>match y with
 | .Mc=>(match x with
  | .Mc=>.ok (.bl true) σ
  |_=>.ok (.bl false) σ)
 |_=>.Sb
noncomputable def AK(x y:D):M D:=λσ=>match y with
 | .Mc=>(match x with
  | .Mc=>.ok (.bl false) σ
  |_=>.ok (.bl true) σ)
 |_=>.Sb
theorem RP{x:D}{v:V}(h:Ia T μ H x v):decide (v=.Mc)=(match x with | .Mc=>true|_=>false):=by
 cases x with
 |Mc=>rw[Ia]at h;subst h;rfl
 |ub ds=>rw[Ia]at h;obtain⟨p,_,rfl,_⟩:=h;simp
 |Uh ds=>rw[Ia]at h;obtain⟨p,rfl,_⟩:=h;simp
 |ref ds=>rw[Ia]at h;obtain⟨p,rfl,_⟩:=h;simp
 |Ca ds=>rw[Ia]at h;obtain⟨p,_,rfl,_⟩:=h;simp
 |Ja a ds=>rw[Ia]at h;obtain⟨p,_,rfl,_⟩:=h;simp
 |obj c a ds=>rw[Ia]at h;obtain⟨p,_,_,rfl,_⟩:=h;simp
 |Vr c=>rw[Ia]at h;obtain⟨p,_,rfl,_⟩:=h;simp
 |gt ds=>rw[Ia]at h;obtain⟨p,rfl,_⟩:=h;simp
 |_=>rw[Ia]at h;subst h;simp
theorem DG:rn T (λx y H Q=>y=.Mc/\Q (.bl (decide (x=.Mc))) H) Kx:=by
 intro E μ H σ x y v u Q r p q h;cases y with
 |Mc=>
  refine⟨by rw[Ia]at q;exact q,?_⟩;rw[RP p];cases x<;>exact Zb.here h r (by rw[Ia])
 |_=>exact h.elim
theorem ë:rn T (λx y H Q=>y=.Mc/\Q (.bl (!decide (x=.Mc))) H) AK:=by
 intro E μ H σ x y v u Q r p q h;cases y with
 |Mc=>
  refine⟨by rw[Ia]at q;exact q,?_⟩;rw[RP p];cases x<;>exact Zb.here h r (by rw[Ia]<;>rfl)
 |_=>exact h.elim
theorem V3{a:List D}{b:List V}{k:Int}{d:D}(r:gb T μ H a b)(h:tq a k=some d):∃ v,tq b k=some v/\Ia T μ H d v:=by
 unfold tq at h ⊢;rw[<-r.length];cases e:Xv a.length k with
 |none=>rw[e]at h;cases h
 |some j=>rw[e]at h;exact r.get h
theorem DH:∀ (a:List Int),gb T μ H (a.map D.int) (a.map V.int)
 |[]=>gb.nil
 |n::a=>gb.cons (by rw[Ia]) (DH a)
def Im(σ:xb):D->Option (List D)
 | .ub xs=>some xs
 | .Uh ns=>some (ns.map D.int)
 | .ref n=>ti σ n
 | .Ca xs=>some xs
 | .gt ss=>some (ss.map D.str)
 |_=>none
def nc(x i:D):M D:=λσ=>match i with
 | .int k=>(match Im σ x with
  |some xs=>(match tq xs k with
   |some d=>.ok d σ
   |none=>.Sb)
  |none=>.Sb)
 |_=>.Sb
theorem WP:∀ (a:List qa),gb T μ H (a.map D.str) (a.map V.str)
 |[]=>gb.nil
 |n::ns=>gb.cons (by rw[Ia]) (WP ns)
theorem WA(r:ee T μ H σ){x:D}{v:V}{xs:List D}(h:Ia T μ H x v)(e:Im σ x=some xs):∃ p c,v=.ref p/\gb T μ H xs c/\(Cg T.K H p c\/Wi T.K H p c):=by
 cases x with
 |ub ds=>cases e;rw[Ia]at h;obtain⟨p,c,rfl,b,d⟩:=h;exact⟨p,c,rfl,d,.inr (Wi.of b)⟩
 |Uh ns=>cases e;rw[Ia]at h;obtain⟨p,rfl,b⟩:=h;exact⟨p,_,rfl,DH ns,.inl b.seq⟩
 |ref n=>obtain⟨a,c,rfl,_,b,d⟩:=r.Ca h e;exact⟨a,c,rfl,d,.inl (Cg.of b)⟩
 |Ca ds=>cases e;rw[Ia]at h;obtain⟨p,c,rfl,_,b,d⟩:=h;exact⟨p,c,rfl,d,.inl (Cg.of b)⟩
 |gt ss=>cases e;rw[Ia]at h;obtain⟨p,rfl,b⟩:=h;exact⟨p,_,rfl,WP ss,.inr (.inr b)⟩
 |_=>cases e
theorem S9(l:T.K=X.K):rn T (λx y H Q=>pN X.K x y H Q\/HL X.K x y H Q) nc:=by
 intro E μ H σ x y v u Q r p q h;cases y with
 |int k=>
  unfold nc at h;cases e:Im σ x with
  |none=>simp only[e]at h;exact h.elim
  |some xs=>
   simp only[e]at h;cases c:tq xs k with
   |none=>rw[c]at h;exact h.elim
   |some d=>
    rw[c]at h;obtain⟨a,i,rfl,j,b⟩:=WA r p e;obtain⟨w,f,g⟩:=V3 j c;rw[l]at b;rcases b with b|b
    ·exact .inl ⟨a,i,k,w,rfl,Fv q,b,f,Zb.here h r g⟩
    ·exact .inr ⟨a,i,k,w,rfl,Fv q,b,f,Zb.here h r g⟩
 |_=>exact h.elim
theorem eX:cz X (λx y H Q=>pN X.K x y H Q\/HL X.K x y H Q):=aY.or π
def vy(d:D):Bool:=(sc d).isSome
def Jz(x y:D):Bool:=match sc x,sc y with
 |some a,some b=>Jn a b
 |_,_=>false
def kA(a:Bool)(x y:D):M D:=λσ=>match Im σ y with
 |some xs=>if (vy x && xs.all vy)=true then .ok (.bl (if a then !(xs.any λz=>Jz z x)else xs.any λz=>Jz z x)) σ else .Sb
 |none=>.Sb
theorem iQ:∀ {c:List D} {b:List V},gb T μ H c b->c.all vy=true->b.all dk=true
 |[],b,h,_=>by rw[gb]at h;subst h;rfl
 |d::c,b,h,e=>by
  obtain⟨v,r,rfl,g,i⟩:=h;rw[Yg,Ea]at e ⊢;obtain⟨a,f⟩:=zd.mp e.1;exact⟨by rw[tH g f];exact sS f,iQ i e.2⟩
theorem lT{x:D}{a:V}(ex:sc x=some a):∀ {b:List D} {f:List V},gb T μ H b f->b.all vy=true->(b.any λz=>Jz z x)=f.any λy=>Jn y a
 |[],f,h,_=>by rw[gb]at h;subst h;rfl
 |d::b,f,h,e=>by
  obtain⟨v,r,rfl,i,j⟩:=h;rw[Yg,Ea]at e;obtain⟨c,g⟩:=zd.mp e.1;rw[Ff,Ff,lT ex j e.2];have:Jz d x=Jn v a:=by unfold Jz;rw[g,ex,tH i g]
  rw[this]
theorem XP(l:T.K=X.K)(d:Bool):rn T (TR X.K d) (kA d):=by
 intro E μ H σ x y v u Q r p q h;unfold kA at h;cases e:Im σ y with
 |none=>rw[e]at h;exact h.elim
 |some xs=>
  rw[e]at h;by_cases c:(vy x && xs.all vy)=true
  ·simp only[c]at h;rw[Ea]at c;obtain⟨a,f⟩:=zd.mp c.1;obtain⟨b,j,rfl,g,i⟩:=WA r q e;rw[l]at i;refine⟨b,j,rfl,i,by rw[tH p f];exact sS f,iQ g c.2,?_⟩;have k:LI v j=xs.any λz=>Jz z x:=by unfold LI;rw[lT f g c.2,tH p f]
   rw[k];exact Zb.here h r (by rw[Ia])
  ·simp only[c]at h;exact h.elim
def Ll(xs:List D):M D:=λσ=>match xs with
 |[x]=>(match Im σ x with
  |some a=>.ok (.int a.length) σ
  |none=>.Sb)
 |_=>.Sb
theorem Sr(g:T.K=X.K):Ww T (λxs H Q=>∃ p a,xs=[.ref p]/\(Cg X.K H p a\/Wi X.K H p a)/\Q (.int a.length) H) Ll:=by
 intro E μ H σ xs d Q r p h
 match xs with
 |[]=>exact h.elim
 |[x]=>
  obtain⟨v,w,rfl,p1,p2⟩:=p;rw[gb]at p2;subst p2;unfold Ll at h;cases e:Im σ x with
  |none=>simp only[e]at h;exact h.elim
  |some a=>
   simp only[e]at h;obtain⟨b,d,rfl,f,c⟩:=WA r p1 e;rw[g]at c;exact⟨b,d,rfl,c,by rw[<-f.length];exact Zb.here h r (by rw[Ia])⟩
 |_::_::_=>exact h.elim
def Yq(xs:List D):M D:=λσ=>match xs with
 |[x]=>(match Im σ x with
  |some a=>yC a σ
  |none=>.Sb)
 |_=>.Sb
theorem bB(g:T.K=X.K):Ww T (λxs H Q=>∃ p a,xs=[.ref p]/\(Cg X.K H p a\/Wi X.K H p a)/\∀ l,H l=none->Q (.ref l) (ic H l (.Ca a))) Yq:=by
 intro E μ H σ xs d Q r p h
 match xs with
 |[]=>exact h.elim
 |[x]=>
  obtain⟨v,w,rfl,p1,p2⟩:=p;rw[gb]at p2;subst p2;unfold Yq at h;cases e:Im σ x with
  |none=>simp only[e]at h;exact h.elim
  |some a=>
   simp only[e]at h;obtain⟨b,d,rfl,f,c⟩:=WA r p1 e;rw[g]at c;exact⟨b,d,rfl,c,λl i=>CD h r f i⟩
 |_::_::_=>exact h.elim
end
def Gi(o:List D->M D)(a:Ev->M (List D)):Ev->M D:=λb=>Ld (a b) o
section
variable{T:Tb}{X:Cx}{x:qa}{p pos:Me}{e:Fa}{es:List Fa}{fs:Ev->M (List D)}{id ty:String}{r:List V->Hp->VK->Prop}{o:List D->M D}
theorem KO(j:Ww T r o){c:St}{H:Hp}{Q:VK}(h:tF T X (Gi o fs) c H Q):uN r (tL T X fs) c H Q:=by
 obtain⟨m,n,p,f,i,g⟩:=h;exact⟨m,n,p,f,i,g.bind λe b a l d _ q k p1 q1=>j _ a d b e l Q k p1 q1⟩
theorem Qn(f:Oo X (.builtin id) r)(l:Ww T r o)(i:Gl X x)(j:X.mg x=none)(m:bootBuiltins x=some (.builtin id))(d:FA T X (e::es) fs)(k:x ≠ "__name__":=by decide)(b:(x == ("__debug__" : qa))=false:=by decide)
  (g:la (e::es) X.env=(false,Ib e X.env)::la es X.env:=by rfl) (c:(Bc pos (la es X.env)).any (·.1)=false:=by rfl):FE T X (.Call (.Name x p) (e::es) [] pos) (Gi o fs):=
 λa s n H Q I h=>lC f i j m d k b g c a s n H Q I (KO l h)
theorem Qy(f:Oo X (.type ty) r)(l:Ww T r o)(i:Gl X x)(j:X.mg x=none)(m:bootBuiltins x=some (.type ty))(d:FA T X (e::es) fs)(k:x ≠ "__name__":=by decide)(b:(x == ("__debug__" : qa))=false:=by decide)
  (g:la (e::es) X.env=(false,Ib e X.env)::la es X.env:=by rfl) (c:(Bc pos (la es X.env)).any (·.1)=false:=by rfl):FE T X (.Call (.Name x p) (e::es) [] pos) (Gi o fs):=
 λa s n H Q I h=>sL f i j m d k b g c a s n H Q I (KO l h)
end
def Mh(a:xb):D->Option (List D)
 | .ref n=>ti a n
 | .Ca xs=>some xs
 |_=>none
theorem ee.ls{T:Tb}{g:List Addr}{H:Hp}{i:xb}(r:ee T g H i){x:D}{v:V}{xs:List D}(h:Ia T g H x v)(e:Mh i x=some xs):∃ a b,v=.ref a/\H a=some (.Ca b)/\gb T g H xs b:=by
 cases x with
 |ref n=>obtain⟨a,b,c,_,d,f⟩:=r.Ca h e;exact⟨a,b,c,d,f⟩
 |Ca j=>cases e;rw[Ia]at h;obtain⟨a,b,c,_,d,f⟩:=h;exact⟨a,b,c,d,f⟩
 |_=>cases e
def Yy(o:D->List D->M D)(m:M (List D))(x:D):M D:=λa=>match Mh a x with
 |some _=>Ld m (o x) a
 |none=>.Sb
def uC(o:D->List D->M D)(f:Ev->M D)(b:Ev->M (List D)):Ev->M D:=λa=>Ld (f a) (Yy o (b a))
def FD(T:Tb)(r:V->List V->Hp->VK->Prop)(o:D->List D->M D):Prop:=∀ (E:XK) a H c x xs v b Q,ee T a H c->Ia T a H x v->gb T a H xs b->Zb T E (Ia T) a H (o x xs c) Q->r v b H Q
def zt(x:D)(xs:List D):M D:=λb=>match x,xs with
 | .ref n,[y]=>(match ti b n with
  |some a=>if a.length<zi then .ok .Mc (b.set n (.Ca (a++[y])))else .Sb
  |none=>.Sb)
 |_,_=>.Sb
section
variable{T:Tb}{X:Cx}{o e:Fa}{es:List Fa}{f:Ev->M D}{fs:Ev->M (List D)}{name:qa}{apos cpos:Me}{id:String}{r:V->List V->Hp->VK->Prop}{g:D->List D->M D}
theorem JG(N:Np "list")(k:cO "list" name id)(p:Op (.builtin id)=pure (.type "method_descriptor"))(G:Zw X id r)(M:FD T r g)(J:FE T X o f)(F:FA T X (e::es) fs)
  (c:Oe o name X.env (Ib o X.env)=Ib o X.env:=by rfl)
  (i:((Bc cpos (la (e::es) X.env)).all (λx=>!x.1) && (si cpos (ng [] X.env)).all (λx=>x.1.isSome)
   && decide ((e::es).length+([]:List ul).length+(if ([]:List ul).isEmpty then 0 else 1)<30))=true:=by rfl)
  (d:(apos.endLine == cpos.line)=true:=by rfl) (n:la (e::es) X.env=(false,Ib e X.env)::la es X.env:=by rfl) (b:(Bc cpos (la es X.env)).any (·.1)=false:=by rfl) :
  FE T X (.Call (.Attribute o name apos) (e::es) [] cpos) (uC g f fs):=by
 intro j s R H Q I h;refine vY N k p G J F c i d n b j s R H Q I ?_;obtain⟨V,z,W,w,L,K⟩:=h;refine⟨V,z,W,w,L,K.bind λx l q v Y _ C y p1 q1=>?_⟩;unfold Yy at q1;cases m:Mh l x with
 |none=>rw[m]at q1;exact q1.elim
 |some xs=>
  rw[m]at q1;obtain⟨a,S,rfl,E,Z⟩:=y.ls p1 m;refine⟨.inl ⟨rfl,S,Cg.of E⟩,q,z,l,w.mono C,y,q1.bind λB u t U A _ D P p2 O=>?_⟩;exact M _ t A u x B (.ref a) U Q P (Ia.mono D _ _ p1) p2 O
theorem DN:FD T CL zt:=by
 intro E l H m x xs v d Q r p q h;cases x with
 |ref n=>
  match xs with
  |[]=>exact h.elim
  |[y]=>
   obtain⟨w,z,rfl,q1,i⟩:=q;rw[gb]at i;subst i;unfold zt at h;cases b:ti m n with
   |none=>simp only[b]at h;exact h.elim
   |some k=>
    simp only[b]at h;by_cases c:k.length<zi
    ·rw[ja c]at h;obtain⟨a,d,rfl,g,e,f⟩:=r.Ca p b;have j:=r.write (ob:=.Ca (k++[y])) g ⟨_,Hh,by
      have ex:Se l H l (ic H a (.Ca (d++[w]))):=Zx (La g) e (λ_ z=>by cases z) (λ_ _ z=>by cases z);exact gb.append (gb.mono ex _ _ f) (gb.cons (Ia.mono ex _ _ q1) gb.nil)⟩
     exact⟨a,d,w,rfl,rfl,e,by rw[<-f.length];exact B4 c,h _ _ _ j.1 j.2 (by rw[Ia])⟩
    ·rw[ua c]at h;exact h.elim
  |_::_::_=>exact h.elim
 |_=>exact h.elim
end
inductive BT where
 |int|bool|str|tuple|list|dict
noncomputable def BT.nm:BT->String
 | .int=>"int" | .bool=>"bool" | .str=>"str" | .tuple=>"tuple" | .list=>"list" | .dict=>"dict"
noncomputable def uG(a:xb)(c:BT):D->Option Bool
 | .Mc=>some false
 | .bl _=>some (match c with | .int=>true | .bool=>true|_=>false)
 | .int _=>some (match c with | .int=>true|_=>false)
 | .str _=>some (match c with | .str=>true|_=>false)
 | .ub _=>some (match c with | .tuple=>true|_=>false)
 | .Uh _=>none
 | .Ca _=>some (match c with | .list=>true|_=>false)
 | .Ja _ _=>some (match c with | .dict=>true|_=>false)
 | .obj _ _ _=>none
 | .Vr _=>none
 | .gt _=>none
 | .ref n=>match a[n]? with
  |some (.Ca _)=>some (match c with | .list=>true|_=>false)
  |some (.Ja _)=>some (match c with | .dict=>true|_=>false)
  |_=>none
def Vs(c:BT)(x:D):M D:=λa=>match uG a c x with
 |some b=>.ok (.bl b) a
 |none=>.Sb
section
variable{T:Tb}{X:Cx}
def pT(K:W.Frag)(H:Hp)(x:V)(t:Value):Prop:=Hm K H x t\/∃ a b,x=.ref a/\Rd H a (.dK b)/\t=.type "dict"
def MZ(K:W.Frag)(c:String):List V->Hp->VK->Prop:=λxs H Q=>∃ x t b,xs=[x,.ty c]/\pT K H x t/\W.kitOne K t (.type c)=some b/\Q (.bl b) H
theorem Ā(c:String):Oo X (.builtin "isinstance") (MZ X.K c):=by
 intro f s w H xs y Q I r h;obtain⟨x,t,b,rfl,ty,e,q⟩:=h;obtain⟨u,u2,rfl,g,d⟩:=YJ r;cases d;rcases ty with ty|⟨a,k,rfl,l,rfl⟩
 ·exact QV I g ty e λm=>⟨.bl b,H,I.tok _,rfl,q⟩
 ·cases (g);obtain⟨_,_,A,_,p⟩:=(l.ok I.md)
  obtain⟨o,v,n,i,j,_⟩:=p;exact bg jx I.Yj ⟨o,i,j.1⟩ e (λz=>nomatch z) λm=>⟨.bl b,H,I.tok _,rfl,q⟩
theorem oY{m:List Addr}{H:Hp}{j:xb}{x:D}{v:V}{c:BT}{b:Bool}(r:ee T m H j)(p:Ia T m H x v)(h:uG j c x=some b):∃ t,pT X.K H v t/\W.kitOne X.K t (.type c.nm)=some b:=by
 cases x with
 |Mc=>rw[Ia]at p;subst p;refine⟨_,.inl (.Mc),?_⟩;cases c<;>cases h<;>rfl
 |bl i=>rw[Ia]at p;subst p;refine⟨_,.inl (.bl i),?_⟩;cases c<;>cases h<;>rfl
 |int i=>rw[Ia]at p;subst p;refine⟨_,.inl (.int i),?_⟩;cases c<;>cases h<;>rfl
 |str i=>rw[Ia]at p;subst p;refine⟨_,.inl (.str i),?_⟩;cases c<;>cases h<;>rfl
 |ub ds=>rw[Ia]at p;obtain⟨q,f,rfl,d,_⟩:=p;refine⟨_,.inl (.ub d),?_⟩;cases c<;>cases h<;>rfl
 |Uh ns=>cases h
 |Ca ds=>rw[Ia]at p;obtain⟨q,f,rfl,_,d,_⟩:=p;refine⟨_,.inl (.Ca d),?_⟩;cases c<;>cases h<;>rfl
 |Ja s ds=>rw[Ia]at p;obtain⟨q,f,rfl,_,d,_⟩:=p;refine⟨_,.inr ⟨q,_,rfl,d,rfl⟩,?_⟩;cases c<;>cases h<;>rfl
 |obj k s ds=>cases h
 |Vr k=>cases h
 |gt ss=>cases h
 |ref n=>
  unfold uG at h;dsimp only at h;cases e:j[n]? with
  |none=>rw[e]at h;cases h
  |some o=>
   rw[e]at h;obtain⟨a,rfl,_,l⟩:=r.at p e;cases o with
   |Ca xs=>obtain⟨f,g,_⟩:=l;refine⟨_,.inl (.Ca g),?_⟩;cases c<;>cases h<;>rfl
   |Ja xs=>obtain⟨f,g,_⟩:=l;refine⟨_,.inl (.dK g),?_⟩;cases c<;>cases h<;>rfl
   |jc k u=>cases h
   |ag xs=>cases h
   |yf _=>cases h
theorem Jx(c:BT){a:qa}{e:Fa}{f:Ev->M D}{p p2 g:Me}(A:FE T X e f)(B:Gl X "isinstance")(C:X.mg "isinstance" = none)(k:Gl X a)(l:X.mg a=none)(o:bootBuiltins a=some (.type c.nm))(m:a ≠ "__name__":=by decide)(j:(a == ("__debug__" : qa))=false:=by decide)
  (r:la [e,.Name a p2] X.env=(false,Ib e X.env)::la [.Name a p2] X.env:=by rfl) (n:(Bc g (la [.Name a p2] X.env)).any (·.1)=false:=by rfl) :
  FE T X (.Call (.Name "isinstance" p) [e,.Name a p2] [] g) (Qd (Vs c) f):=by
 intro d s G H Q I h;refine lC (Ā c.nm) B C Tt (Dt A (Dt (IQ k l o (v:=.ty c.nm) rfl m j) aw) r) (by decide) (by decide) r n d s G H Q I ?_;obtain⟨J,L,N,z,F,E⟩:=h;refine⟨J,L,N,z,F,E.bind λx q K v O _ P u p1 q1=>?_⟩;unfold Vs at q1;cases i:uG q c x with
 |none=>rw[i]at q1;exact q1.elim
 |some b=>
  rw[i]at q1;obtain⟨t,w,y⟩:=oY u p1 i;exact⟨v,t,b,rfl,w,y,Zb.here q1 u (by rw[Ia])⟩
end
noncomputable def fh:Ev->M Fl:=λa=>ret (.nx a)
noncomputable def DF(h:Ev->M Fl):Fl->M Fl
 | .nx a=>h a
 | .rt d=>ret (.rt d)
 | .bk a=>ret (.bk a)
 | .ct a=>ret (.ct a)
 | .xc a x=>ret (.xc a x)
def Mb(g h:Ev->M Fl):Ev->M Fl:=λa=>Ld (g a) (DF h)
noncomputable def tJ:D->M Fl:=λd=>ret (.rt d)
def oe(f:Ev->M D):Ev->M Fl:=λa=>xs a (f a) tJ
noncomputable def NK(a:Ev):D->M Fl:=λ_=>ret (.nx a)
def Co(f:Ev->M D):Ev->M Fl:=λa=>xs a (f a) (NK a)
noncomputable def yD(i:Nat)(a:Ev):D->M Fl:=λd=>ret (.nx (a.set i (some d)))
def wh(i:Nat)(f:Ev->M D):Ev->M Fl:=λa=>xs a (f a) (yD i a)
noncomputable def gh(t:Ev->M Bool)(a b:Ev->M Fl):Ev->M Fl:=λc=>xs c (t c) (fm (a c) (b c))
section
variable{T:Tb}{X:Cx}{st':Stmt}{nh:List Stmt}{g h:Ev->M Fl}{e:Fa}{f:Ev->M D}{pos:Me}
theorem ph:Ao T X [] fh:=by
 intro a s b H D I f;obtain⟨h,i,j,c,e,d⟩:=f;exact YY a s b H D I (Zb.here (g:=nu.nx b) d e c)
theorem E1{h:List Addr}{H:Hp}{i:xb}{e:Fl}{b:nu}{D:El}{N:St->Hp->Prop}(r:ee T h H i)(q:Eo T h H e b)(k:Fl->M Fl)
  (j:∀ a,e=.nx a->∀ f,b=.nx f->ni T h H a f->N f H) (g:(∀ a,e≠.nx a)->Zb T EN (Eo T) h H (.ok e i) (mo X D)):mo X { D with nx:=N } b H:=by
 cases e with
 |nx a=>cases b with
  |nx f=>exact j a rfl f rfl q
  |_=>exact q.elim
 |rt d=>cases b with
  |rt v=>have z:=Zb.here (g λ_ z=>by cases z) r q;exact z
  |_=>exact q.elim
 |bk a=>cases b with
  |bk v=>have z:=Zb.here (g λ_ z=>by cases z) r q;exact z
  |_=>exact q.elim
 |ct a=>cases b with
  |ct v=>have z:=Zb.here (g λ_ z=>by cases z) r q;exact z
  |_=>exact q.elim
 |xc a x=>cases b with
  |xc v c fd=>have z:=Zb.here (g λ_ z=>by cases z) r q;exact z
  |_=>exact q.elim
theorem Jc(j:FS T X st' g)(k:Ao T X nh h):Ao T X (st'::nh) (Mb g h):=by
 intro b s r H D I q;refine J1 j k b s r H D I ?_;obtain⟨u,v,w,l,p,o⟩:=q;refine⟨u,v,w,l,p,o.bind λi d c A x _ y e q1 p1=>?_⟩;refine E1 e q1 (λ_=>Sb) (λa f t z m=>?_) (λn=>?_)
 ·subst f;exact⟨c,a,d,m,e,p1⟩
 ·cases i with
  |nx a=>exact(n a rfl).elim
  |_=>exact p1
theorem eh(a:FS T X st' g):Ao T X [st'] g:=yfq a
theorem yk5(c:FE T X e f):FS T X (.Return (some e) pos) (oe f):=by
 intro a s l H D I j;refine yn7 c a s l H D I ?_;obtain⟨m,o,p,b,i,h⟩:=j;exact⟨m,o,p,b,i,h.xs b λd q n v r _ t k q1 p1=>Zb.here (g:=nu.rt v) p1 k q1⟩
theorem Rp(i:FE T X e f)(l:lj e none pos.line X.env=pure false:=by rfl):FS T X (.Expr e pos) (Co f):=by
 intro a s c H D I m;refine hX i l a s c H D I ?_;obtain⟨o,q,r,b,k,j⟩:=m;exact⟨o,q,r,b,k,j.xs b λd t p v u _ h n q1 p1=>Zb.here (g:=nu.nx c) p1 n (b.mono h)⟩
theorem DO{i:Nat}{x:qa}{a:Me}(k:X.N.Nodup)(n:X.N[i]?=some x)(t:Loc X.env.scope x)(l:FE T X e f)(q:lj e (some (.Name x a)) pos.line X.env=pure false:=by rfl)(m:X.fn x=true\/X.env.scope.names.lookup x=some .local:=by first|exact .inl rfl|exact .inr rfl|assumption) :
  FS T X (.Assign [.Name x a] e pos) (wh i f):=by
 intro b s h H D I r;refine LX k n t l q m b s h H D I ?_;obtain⟨w,z,A,c,p,o⟩:=r;exact⟨w,z,A,c,p,o.xs c λd B y v C _ j u q1 p1=>Zb.here (g:=nu.nx (h.set i (some v))) p1 u ((c.mono j).set i q1)⟩
theorem rh{c:Fa}{a b:List Stmt}{m:Ev->M Bool}{j k:Ev->M Fl}(p:FT T X c m)(n:Ao T X a j)(o:Ao T X b k):FS T X (.If c a b pos) (gh m j k):=by
 intro d s u H D I t;refine yuj p n o d s u H D I ?_;obtain⟨w,h,x,g,r,q⟩:=t;refine⟨w,h,x,g,r,q.xs g λc f e v y _ i l q1 p1=>?_⟩;cases q1;cases c with
 |true=>unfold fm at p1;rw[ja rfl]at p1 ⊢;exact⟨e,h,f,g.mono i,l,p1⟩
 |false=>unfold fm at p1;rw[ua jb]at p1 ⊢;exact⟨e,h,f,g.mono i,l,p1⟩
noncomputable def gD(T:Tb)(tg:D->Ev->Option Ev):TG:=λv e H Q=>∃ b f c d a,ni T b H c e/\ee T b H f/\Ia T b H d v/\tg d c=some a/\∀ st',ni T b H a st'->Q st' H
noncomputable def T3(T:Tb)(tg:List D->Ev->Option Ev):jA:=λf e H Q=>∃ b g d c a,ni T b H d e/\ee T b H g/\gb T b H c f/\tg c d=some a/\∀ st',ni T b H a st'->Q st' H
abbrev FG(T:Tb)(X:Cx)(t:Fa)(tg:D->Ev->Option Ev):Prop:=PG X t (gD T tg)
abbrev JI(T:Tb)(X:Cx)(a:List Fa)(tg:List D->Ev->Option Ev):Prop:=qF X a (T3 T tg)
noncomputable def de(i:Nat):D->Ev->Option Ev:=λd a=>some (a.set i (some d))
noncomputable def Fo:List D->Ev->Option Ev
 |[],a=>some a
 |_::_,_=>none
noncomputable def gi(t:D->Ev->Option Ev)(u:List D->Ev->Option Ev):List D->Ev->Option Ev
 |[],_=>none
 |d::ds,b=>(t d b).bind λa=>u ds a
noncomputable def Hn(n:Nat)(t:List D->Ev->Option Ev):D->Ev->Option Ev
 | .ub ds,a=>if ds.length=n then t ds a else none
 |_,_=>none
theorem jL{i:Nat}{x:qa}(c:X.N.Nodup)(g:X.N[i]?=some x)(l:Loc X.env.scope x)(f:X.fn x=true\/X.env.scope.names.lookup x=some .local:=by first|exact .inl rfl|exact .inr rfl|assumption):FG T X (.Name x pos) (de i):=by
 intro a s m H v u Q I r h;obtain⟨p,t,q,d,n,b,o,e,k,j⟩:=h;cases k;exact M9 c g l f a s m H v u Q I r (j _ (b.set i e))
theorem sv:JI T X [] Fo:=by
 intro a s i H m j Q I r h;obtain⟨n,p,o,b,k,f,l,c,e,g⟩:=h;cases b with
 |nil=>cases e;rw[gb]at c;subst c;exact yfh a s i H [] j Q I r ⟨rfl,g _ f⟩
 |cons d b=>cases e
theorem ln{b:List Fa}{t:D->Ev->Option Ev}{u:List D->Ev->Option Ev}(q:FG T X e t)(x:JI T X b u)
  (B:(Cf (e::b) X.env).map (·.2)=rl e X.env::(Cf b X.env).map (·.2):=by rfl):JI T X (e::b) (gi t u):=by
 intro a s C H J F Q I r h;obtain⟨m,n,G,c,j,y,k,z,l,A⟩:=h;cases c with
 |nil=>cases l
 |cons d c=>
  obtain⟨v,w,rfl,g,i⟩:=z;obtain⟨ρ1,o,p⟩:=bh.mp l;refine Y4 q x B a s C H (v::w) F Q I r ⟨v,w,rfl,m,n,G,d,ρ1,y,k,g,o,λE f=>?_⟩;exact⟨m,n,ρ1,c,j,f,k,i,p,A⟩
theorem Av{c:List Fa}{k:Nat}{t:List D->Ev->Option Ev}{n:Nat}(m:X.Vh=true)(h:JI T X c t)
  (q:(Cf c X.env).length=n:=by rfl) (f:(Cf c X.env).findIdx? (·.1)=none:=by rfl):FG T X (.Tuple c k pos) (Hn n t):=by
 intro b s z H v u Q I r y;obtain⟨B,E,C,d,g,l,x,o,a,w⟩:=y;cases d with
 |ub ds=>
  obtain⟨p,A,rfl,j,i⟩:=o;unfold Hn at a;dsimp only at a;by_cases e:ds.length=n
  ·rw[ja e]at a;exact QW m h q f b s z H (.ref p) u Q I r ⟨p,A,rfl,Wi.of j,by rw[<-i.length];exact e,B,E,C,ds,g,l,x,i,a,w⟩
  ·rw[ua e]at a;cases a
 |_=>cases a
def LN(x i d:D):M Unit:=λa=>match x,i with
 | .ref n,.int k=>(match ti a n with
  |some xs=>(match Xv xs.length k with
   |some j=>.ok () (a.set n (.Ca (xs.set j d)))
   |none=>.Sb)
  |none=>.Sb)
 |_,_=>.Sb
def xC(b:Ev)(d x i:D):M Fl:=λc=>match LN x i d c with
 | .ok _ a=>.ok (.nx b) a
 |_=>.Sb
def yJ(a:Ev)(b:Ev->M D)(d x:D):M Fl:=xs a (b a) (xC a d x)
def uM(a:Ev)(c b:Ev->M D)(d:D):M Fl:=xs a (c a) (yJ a b d)
def IK(f c b:Ev->M D):Ev->M Fl:=λa=>xs a (f a) (uM a c b)
theorem Z3{o i:Fa}{L K:Ev->M D}{b:Me}(V:FE T X e f)(Y:FE T X o L)(W:FE T X i K)
  (S:∀ v,rl (.Subscript o i b) X.env v=(do
   let q <-qf [v] (Ib o X.env);let w <-qf [v,q] (Ib i X.env)
   pi b
   qf [v,q,w] (ju q w v)
   fD [v,q,w] []):=by intro _;rfl)
  (hs:Jo [.Subscript o i b] e pos.line X.env=pure false:=by rfl) (hw:Ko [.Subscript o i b] e X.env=pure none:=by rfl)
  (p:(Cf [.Subscript o i b] X.env).map (·.2)=[rl (.Subscript o i b) X.env]:=by rfl):FS T X (.Assign [.Subscript o i b] e pos) (IK f L K):=by
 intro h s Q H D I hq;refine MN V (RM Y W e8 S) hs hw p h s Q H D I ?_;obtain⟨μ,C,σ,c,hr,Z⟩:=hq;refine⟨μ,C,σ,c,hr,Z.xs c λd E A v H1 _ g r1 q1 p1=>?_⟩;refine⟨A,C,E,c.mono g,r1,p1.xs (c.mono g) λx F B vo H2 _ m r2 q2 p2=>?_⟩;refine⟨B,C,F,(c.mono g).mono m,r2,p2.xs ((c.mono g).mono m) λk G l vi J _ r P q3 p3=>?_⟩;have U:=Ia.mono r _ _ (Ia.mono m _ _ q1);have hx:=Ia.mono r _ _ q2;unfold xC LN at p3;cases x with
 |ref n=>
  cases k with
  |int k=>
   dsimp only at p3;cases u:ti G n with
   |none=>rw[u]at p3;exact p3.elim
   |some xs=>
    rw[u]at p3;dsimp only at p3;cases t:Xv xs.length k with
    |none=>rw[t]at p3;exact p3.elim
    |some j=>
     rw[t]at p3;obtain⟨a,R,rfl,O,p,N⟩:=P.Ca hx u;have y:=P.write (ob:=.Ca (xs.set j d)) O ⟨_,Hh,by
      have ex:Se l J l (ic J a (.Ca (R.set j v))):=Zx (La O) p (λ_ z=>by cases z) (λ_ _ z=>by cases z);exact gb.set (Ia.mono ex _ _ U) j (gb.mono ex _ _ N)⟩
     exact⟨a,R,k,j,rfl,Fv q3,p,by rw[<-N.length];exact t,p3 _ (.nx Q) _ y.1 y.2 (((c.mono g).mono m).mono r |>.mono y.1)⟩
  |_=>exact p3.elim
 |_=>exact p3.elim
end
inductive Lk where
 |seq (ds:List D)
 |Bt (n:Nat)
def Lk.nx:Lk->Nat->xb->Option (Option D)
 | .seq ds,i,_=>some ds[i]?
 | .Bt n,i,σ=>(ti σ n).map λxs=>xs[i]?
def lI(T:Tb)(c:List Addr)(g:Hp)(a:Lk)(J:It):Prop:=∀ b H f i,Se c g b H->ee T b H f->match a.nx i f with
 |none=>True
 |some none=>J.stop i H
 |some (some d)=>J.go i H/\∀ x e,J.fC i H x e->e=H/\Ia T b H d x
def tI(T:Tb)(X:Cx)(f:Ev->M Lk):TI:=λb H R=>∃ a c d,ni T a H c b/\ee T a H d/\Zb T (XE X b) (lI T) a H (f c d) R
abbrev FI(T:Tb)(X:Cx)(tg a:Fa)(f:Ev->M Lk):Prop:=PI X tg a (tI T X f)
noncomputable def IA(n:Nat):List D:=(List.range n).map λ(i:Nat)=>D.int (i:Int)
noncomputable def CC(a:Int)(n:Nat):List D:=(List.range n).map λ(i:Nat)=>D.int (a+(i:Int))
def sw(d:D):M Lk:=λa=>match d with
 | .ub ds=>.ok (.seq ds) a
 | .Ca ds=>.ok (.seq ds) a
 | .Uh ns=>.ok (.seq (ns.map D.int)) a
 | .ref n=>(match ti a n with
  |some _=>.ok (.Bt n) a
  |none=>.Sb)
 |_=>.Sb
def qi(f:Ev->M D):Ev->M Lk:=λa=>Ld (f a) sw
def Mx(j:Int):Bool:=Wa (decide (-(2 ^ 62)<=j) && decide (j<2 ^ 62))
def cA(d:D):M Lk:=λa=>match d with
 | .int j=>if Mx j=true then .ok (.seq (IA j.toNat)) a else .Sb
 |_=>.Sb
def Tz(f:Ev->M D):Ev->M Lk:=λa=>Ld (f a) cA
def fF(a b:D):M Lk:=λc=>match a,b with
 | .int i,.int j=>if (Mx i && Mx j)=true then .ok (.seq (CC i (j - i).toNat)) c else .Sb
 |_,_=>.Sb
def gT(m:M D)(a:D):M Lk:=Ld m (fF a)
def AE(f g:Ev->M D):Ev->M Lk:=λa=>Ld (f a) (gT (g a))
section
variable{T:Tb}{X:Cx}{tg iter:Fa}{f:Ev->M D}
def yy2(K:W.Frag)(c:TE):TI:=λd H R=>c d H λx b=>∃ a,x=.ref a/\(((∃ xs,Cg K b a xs)/\R (lL K a) b)\/((∃ xs,Wi K b a xs)/\R (JL K a) b))
theorem h9{l:Fa}{i:TE}(j:PE X l i):PI X tg l (yy2 X.K i):=by
 intro d s r H R I h;refine Re (j d s r H _ I h) λv s1 ⟨x,H1,c,m,q1⟩=>?_;obtain⟨a,e,q1⟩:=q1;subst e;cases m;rcases q1 with⟨⟨xs,g⟩,q⟩|⟨⟨xs,g⟩,q⟩
 ·obtain⟨its,n,p,k⟩:=c.list g;refine Rj p.isList ?_;refine⟨s1.heap.objs.size,[s1.heap.objs.size],_,_,H1,rfl,c.kept λb o e=>ba _ e,TX a _,⟨_,Ba _ rfl,rfl,rfl⟩,λb f=>?_,q⟩;have e:b=s1.heap.objs.size:=by simpa using f
  subst e;exact c.sr (wa _) (c.md.fresh (wa _))
 ·obtain⟨its,n,p,k⟩:=c.tuple g;refine KB (p) ?_;refine⟨s1.heap.objs.size,[s1.heap.objs.size],_,_,H1,rfl,c.kept λb o e=>ba _ e,ą a _,⟨_,Ba _ rfl,rfl,rfl⟩,λb f=>?_,q⟩;have e:b=s1.heap.objs.size:=by simpa using f
  subst e;exact c.sr (wa _) (c.md.fresh (wa _))
theorem bU{j:List Addr}{n:Hp}{a:Addr}{k:List D}{K:W.Frag}(h:∀ b f,Se j n b f->∃ c,Cg K f a c/\gb T b f k c):lI T j n (.seq k) (lL K a):=by
 intro b f p i ex r;obtain⟨c,l,o⟩:=h b f ex;show match some k[i]? with|none=>True|some none=>_|some (some d)=>_
 cases e:k[i]? with
 |none=>exact⟨c,l,by rw[<-o.length];exact bc.mp e⟩
 |some d=>
  obtain⟨v,g,m⟩:=o.get e;refine⟨⟨c,v,l,g⟩,λx q y=>?_⟩;obtain⟨rfl,y⟩:=y;have:=y c l;rw[g]at this;cases this;exact⟨rfl,m⟩
theorem yhr{j:List Addr}{n:Hp}{a:Addr}{k:List D}{K:W.Frag}(h:∀ b f,Se j n b f->∃ c,Wi K f a c/\gb T b f k c):lI T j n (.seq k) (JL K a):=by
 intro b f p i ex r;obtain⟨c,l,o⟩:=h b f ex;show match some k[i]? with|none=>True|some none=>_|some (some d)=>_
 cases e:k[i]? with
 |none=>exact⟨c,l,by rw[<-o.length];exact bc.mp e⟩
 |some d=>
  obtain⟨v,g,m⟩:=o.get e;refine⟨⟨c,v,l,g⟩,λx q y=>?_⟩;obtain⟨rfl,y⟩:=y;have:=y c l;rw[g]at this;cases this;exact⟨rfl,m⟩
theorem Ql(M:T.K=X.K)(h:FE T X iter f):FI T X tg iter (qi f):=by
 intro r s U H R I Q;refine h9 h r s U H R I ?_;obtain⟨W,Y,Z,L,P,O⟩:=Q;refine⟨W,Y,Z,L,P,O.bind λd B A v E _ e1 t q1 p1=>?_⟩;cases d with
 |ub ds=>
  obtain⟨p,k,rfl,g,l⟩:=q1;exact⟨p,rfl,.inr ⟨⟨k,Wi.of g⟩,Zb.here p1 t (yhr λb c ex=>⟨k,Wi.of (ex.ub _ _ g),gb.mono ex _ _ l⟩)⟩⟩
 |Ca ds=>
  obtain⟨p,k,rfl,N,g,l⟩:=q1;exact⟨p,rfl,.inl ⟨⟨k,Cg.of g⟩,Zb.here p1 t (bU λb c ex=>⟨k,Cg.of (ex.tj _ _ g N).1,gb.mono ex _ _ l⟩)⟩⟩
 |Uh ns=>
  obtain⟨p,rfl,g⟩:=q1;have o:∀ b c,Se A E b c->Cg X.K c p (ns.map V.int):=λb c ex=>by
   have l:Ia T b c (.Uh ns) (.ref p):=Ia.mono ex _ _ (by rw[Ia];exact⟨p,rfl,g⟩);obtain⟨p',F,m⟩:=l;cases F;rw[<-M];exact m.seq
  exact⟨p,rfl,.inl ⟨⟨_,o _ _ (Se.refl _ _)⟩,Zb.here p1 t (bU λb c ex=>⟨_,o b c ex,DH ns⟩)⟩⟩
 |ref n=>
  unfold sw at p1;dsimp only at p1;cases j:ti B n with
  |none=>rw[j]at p1;exact p1.elim
  |some xs=>
   rw[j]at p1;obtain⟨a,k,rfl,_,g,l⟩:=t.Ca q1 j;refine⟨a,rfl,.inl ⟨⟨k,Cg.of g⟩,Zb.here p1 t λb c u i ex S=>?_⟩⟩;show match (ti u n).map (λxs=>xs[i]?)with|none=>True|some none=>_|some (some d)=>_
   cases J:ti u n with
   |none=>trivial
   |some D=>
    obtain⟨a',z,G,_,m,C⟩:=S.Ca (Ia.mono ex _ _ q1) J;cases G;show match some (D[i]?)with|none=>True|some none=>_|some (some d)=>_
    cases e:D[i]? with
    |none=>exact⟨z,Cg.of m,by rw[<-C.length];exact bc.mp e⟩
    |some d=>
     obtain⟨v,q,w⟩:=C.get e;refine⟨⟨z,v,Cg.of m,q⟩,λx H' y=>?_⟩;obtain⟨rfl,y⟩:=y;have:=y z (Cg.of m);rw[q]at this;cases this;exact⟨rfl,w⟩
 |_=>exact p1.elim
theorem ZY{n i:Nat}(h:i<n):(IA n)[i]?=some (.int i):=by simp[IA,h]
theorem t7(n:Nat):(IA n).length=n:=by simp[IA]
theorem L7{a:Int}{n i:Nat}(h:i<n):(CC a n)[i]?=some (.int (a+i)):=by simp[CC,h]
theorem zX(a:Int)(n:Nat):(CC a n).length=n:=by simp[CC]
theorem vM{a:Fa}{p k:Me}(g:Gl X "range")(n:X.mg "range" = none)(m:FE T X a f)(c:la [a] X.env=[(false,Ib a X.env)]:=by rfl):FI T X tg (.Call (.Name "range" p) [a] [] k) (Tz f):=by
 intro e s u H R I r;refine zq8 g n (Dt m aw c) c e s u H R I ?_;obtain⟨w,B,C,l,q,o⟩:=r;refine⟨w,B,C,l,q,o.bind λd D z v G _ K t q1 p1=>?_⟩;cases d with
 |int j=>
  subst q1;unfold cA at p1;dsimp only at p1;by_cases b:Mx j=true
  ·rw[ja b]at p1;simp only[Mx,zq,Ea,Kc]at b;refine⟨j,rfl,b.1,b.2,Zb.here p1 t λA J E i ex L=>?_⟩;show match some (IA j.toNat)[i]? with|none=>True|some none=>_|some (some d)=>_
   by_cases h:i<j.toNat
   ·rw[ZY h];refine⟨h,λx F y=>?_⟩;obtain⟨rfl,rfl⟩:=y;exact⟨rfl,by rw[Ia,Int.zero_add]⟩
   ·rw[bc.mpr (by rw[t7];omega)];exact vx.mp h
  ·rw[ua b]at p1;exact p1.elim
 |_=>exact p1.elim
theorem GJ{a b:Fa}{p o:Me}{g:Ev->M D}(m:Gl X "range")(C:X.mg "range" = none)(A:FE T X a f)(B:FE T X b g)(h:la [a,b] X.env=[(false,Ib a X.env),(false,Ib b X.env)]:=by rfl)(c:la [b] X.env=[(false,Ib b X.env)]:=by rfl) :
  FI T X tg (.Call (.Name "range" p) [a,b] [] o) (AE f g):=by
 intro l s N H R I G;refine G0 m C (Dt A (Dt B aw c) (by rw[h,c])) h c l s N H R I ?_;obtain⟨O,u,S,t,F,E⟩:=G;refine⟨O,u,S,t,F,E.bind λd r q v Y _ z K q1 p1=>⟨q,u,r,t.mono z,K,p1.bind λw U P v2 Z _ e2 L J p2=>?_⟩⟩;cases d with
 |int i=>
  cases w with
  |int j=>
   subst q1;subst J;unfold fF at p2;dsimp only at p2;by_cases e:(Mx i && Mx j)=true
   ·rw[ja e]at p2;simp only[Mx,zq,Ea,Kc]at e;refine⟨i,j,rfl,⟨e.1.1,e.1.2,e.2.1,e.2.2⟩,Zb.here p2 L λQ H3 V k ex r3=>?_⟩;show match some (CC i (j - i).toNat)[k]? with|none=>True|some none=>_|some (some d)=>_
    by_cases n:k<(j - i).toNat
    ·rw[L7 n];refine⟨n,λx W y=>?_⟩;obtain⟨rfl,rfl⟩:=y;exact⟨rfl,by rw[Ia]⟩
    ·rw[bc.mpr (by rw[zX];omega)];exact vx.mp n
   ·rw[ua e]at p2;exact p2.elim
  |_=>exact p2.elim
 |_=>exact p2.elim
end
noncomputable def Rx(k:Ev->M Fl):Fl->M Fl
 | .nx a=>k a
 | .ct a=>k a
 | .bk a=>ret (.nx a)
 | .rt d=>ret (.rt d)
 | .xc b x=>ret (.xc b x)
def br(tg:D->Ev->Option Ev)(a:Ev->M Fl):List D->Ev->M Fl
 |[],b=>ret (.nx b)
 |d::ds,b=>match tg d b with
  |none=>Sb
  |some c=>Ld (a c) (Rx (br tg a ds))
def Bv(tg:D->Ev->Option Ev)(a:Ev->M Fl)(n:Nat):Nat->Nat->Ev->M Fl
 |0,_,_=>Sb
 |k+1,i,e=>λc=>match ti c n with
  |none=>.Sb
  |some xs=>match xs[i]? with
   |none=>.ok (.nx e) c
   |some d=>match tg d e with
    |none=>.Sb
    |some b=>Ld (a b) (Rx (Bv tg a n k (i+1))) c
def BG(tg:D->Ev->Option Ev)(a:Ev->M Fl)(b:Ev):Lk->M Fl
 | .seq ds=>br tg a ds b
 | .Bt n=>Bv tg a n 1001 0 b
def Tn(b:Ev->M Lk)(tg:D->Ev->Option Ev)(a:Ev->M Fl):Ev->M Fl:=λc=>xs c (b c) (BG tg a c)
section
variable{T:Tb}{X:Cx}
theorem BM{d:List Addr}{e:Hp}{g:xb}{h:Fl}{f:nu}{D:El}{k:Ev->M Fl}{N:St->Hp->Prop}(i:ee T d e g)(q1:Eo T d e h f)(p1:Zb T EN (Eo T) d e (Rx k h g) (mo X D))
  (j:∀ b a,ni T d e b a->Zb T EN (Eo T) d e (k b g) (mo X D)->N a e):mo X { D with nx:=N,ct:=N,bk:=D.nx } f e:=by
 cases h with
 |nx b=>cases f with
  |nx a=>exact j b a q1 p1
  |_=>exact q1.elim
 |ct b=>cases f with
  |ct a=>exact j b a q1 p1
  |_=>exact q1.elim
 |bk b=>cases f with
  |bk a=>have z:mo X D (nu.nx a) e:=Zb.here p1 i q1;exact z
  |_=>exact q1.elim
 |rt m=>cases f with
  |rt v2=>have z:=Zb.here p1 i q1;exact z
  |_=>exact q1.elim
 |xc b x=>cases f with
  |xc a c l=>have z:=Zb.here p1 i q1;exact z
  |_=>exact q1.elim
variable{tgt iter:Fa}{body:List Stmt}{src:Ev->M Lk}{t:D->Ev->Option Ev}{g:Ev->M Fl}{pos:Me}
theorem Tq(U:Ps (model X.prog X.w) X.A X.env X.xe)(hc:X.Vh=true)(hi:FI T X tgt iter src)(hg:FG T X tgt t)(hb:Ao T X body g)
  (hs:∀ x,Sh iter X.env x=pure x:=by intro _;rfl):FS T X (.For tgt iter body [] pos) (Tn src t g):=by
 intro P s st H D I hq;refine RT U hc hi hg hb hs P s st H D I ?_;obtain⟨c,k,q,R,hr,U⟩:=hq;refine⟨c,k,q,R,hr,U.xs R λsrc z j J N _ e1 r1 q1 p1=>?_⟩;cases src with
 |seq ds=>
  have G:Zb T EN (Eo T) j N (br t g ds k z) (mo X D):=p1;refine⟨λi m o b=>m=ds.length - i/\∃ c k q,Se j N c b/\ni T c b k o/\ee T c b q/\Zb T EN (Eo T) c b (br t g (ds.drop i) k q) (mo X D),⟨ds.length,by simp,j,k,z,Se.refl _ _,R.mono e1,r1,by simpa using G⟩,?_⟩;rintro i m o b ⟨rfl,e,ρ2,f,ex,r,v,p2⟩;have Z:=q1 e b f i ex v;have a:match (some ds[i]?)with|none=>True|some none=>J.stop i b|some (some d)=>J.go i b/\∀ x O,J.fC i b x O->O=b/\Ia T e b d x:=Z
  cases B:ds[i]? with
  |none=>
   rw[B]at a;rw[iu (bc.mp B)]at p2;exact .inl ⟨a,Zb.here (g:=nu.nx o) p2 v r⟩
  |some d=>
   rw[B]at a;obtain⟨hl,ed⟩:=na.mp B;have hd:ds.drop i=d::ds.drop (i+1):=by rw[<-ed];exact(Oi hl)
   rw[hd]at p2;unfold br at p2;refine .inr ⟨a.1,λp l=>∃ c k q,Se j N c l/\ni T c l k p/\ee T c l q/\Zb T EN (Eo T) c l (br t g (ds.drop (i+1)) k q) (mo X D),λp l h=>⟨ds.length - (i+1),by omega,rfl,h⟩,λx l y=>?_⟩;obtain⟨rfl,V⟩:=a.2 x l y;cases F:t d ρ2 with
   |none=>rw[F]at p2;exact p2.elim
   |some u=>
    rw[F]at p2;exact⟨e,f,ρ2,d,u,r,v,V,F,λp C=>⟨e,u,f,C,v,p2.bind λfl M K gl H4 _ S Q Y p4=>BM Q Y p4 λL a0 E W=>⟨K,L,M,ex.trans S,E,Q,W⟩⟩⟩
 |Bt n=>
  have G:Zb T EN (Eo T) j N (Bv t g n 1001 0 k z) (mo X D):=p1;refine⟨λi m o b=>∃ c k q,Se j N c b/\ni T c b k o/\ee T c b q/\Zb T EN (Eo T) c b (Bv t g n m i k q) (mo X D),⟨1001,j,k,z,Se.refl _ _,R.mono e1,r1,G⟩,?_⟩;rintro i m o b ⟨e,ρ2,f,ex,r,v,p2⟩;cases m with
  |zero=>exact p2.elim
  |succ m=>
   unfold Bv at p2;have Z:=q1 e b f i ex v;have a:match ((ti f n).map λxs=>xs[i]?)with|none=>True|some none=>J.stop i b|some (some d)=>J.go i b/\∀ x O,J.fC i b x O->O=b/\Ia T e b d x:=Z
   cases el:ti f n with
   |none=>simp only[el]at p2;exact p2.elim
   |some xs=>
    simp only[el]at p2 a;cases B:xs[i]? with
    |none=>
     simp only[B,Kj]at p2 a;exact .inl ⟨a,Zb.here (g:=nu.nx o) p2 v r⟩
    |some d=>
     simp only[B,Kj]at p2 a;refine .inr ⟨a.1,λp l=>∃ c k q,Se j N c l/\ni T c l k p/\ee T c l q/\Zb T EN (Eo T) c l (Bv t g n m (i+1) k q) (mo X D),λp l h=>⟨m,Qb _,h⟩,λx l y=>?_⟩;obtain⟨rfl,V⟩:=a.2 x l y;cases F:t d ρ2 with
     |none=>simp only[F]at p2;exact p2.elim
     |some u=>
      simp only[F]at p2;exact⟨e,f,ρ2,d,u,r,v,V,F,λp C=>⟨e,u,f,C,v,p2.bind λfl M K gl H4 _ S Q Y p4=>BM Q Y p4 λL a0 E W=>⟨K,L,M,ex.trans S,E,Q,W⟩⟩⟩
end
mutual
def cl:D->Bool
 | .ub xs=>Ik xs
 | .Ca xs=>Ik xs
 | .Ja _ xs=>Ik xs
 | .obj _ _ xs=>Ik xs
 | .ref _=>false
 | .Mc=>true
 | .bl _=>true
 | .int _=>true
 | .str _=>true
 | .Uh _=>true
 | .Vr _=>true
 | .gt _=>true
def Ik:List D->Bool
 |[]=>true
 |d::ds=>cl d && Ik ds
end
noncomputable def bp(f:D->Option D):List D->Option (List D)
 |[]=>some []
 |d::ds=>match f d,bp f ds with
  |some x,some xs=>some (x::xs)
  |_,_=>none
def fz(k:Nat)(a:xb):Nat->D->Option D
 |0,d=>if cl d=true then some d else match d with
  | .ref n=>if n<k then some (.ref n)else none
  |_=>none
 |m+1,d=>if cl d=true then some d else match d with
  | .ref n=>if n<k then some (.ref n)else match a[n]? with
   |some (.Ca xs)=>(bp (fz k a m) xs).map .Ca
   |some (.Ja b)=>(bp (fz k a m) (b.map (·.2))).map (.Ja (b.map (·.1)))
   |some (.jc c e)=>(bp (fz k a m) (e.map (·.2))).map (.obj c (e.map (·.1)))
   |some (.ag _)=>none
   |some (.yf _)=>none
   |none=>none
  | .ub xs=>(bp (fz k a m) xs).map .ub
  | .Ca xs=>(bp (fz k a m) xs).map .Ca
  | .Ja f xs=>(bp (fz k a m) xs).map (.Ja f)
  | .obj c ns xs=>(bp (fz k a m) xs).map (.obj c ns)
  |_=>none
open Classical in
def uh(b:xb):Nm D->Nm D
 | .ok d a=>if a.take b.length=b then (match fz b.length a 6 d with
  |some c=>.ok c b
  |none=>.Sb)else .Sb
 | .ex x a=>if a.take b.length=b then .ex x b else .Sb
 | .Sb=>.Sb
def Vb(f:M D):M D:=λa=>uh a (f a)
section
variable{T:Tb}{μ μ':List Addr}{H H':Hp}{σ σ':xb}
mutual
theorem vJ(e:∃ r,μ'=μ++r):∀ (d:D) (v:V),cl d=true->Ia T μ' H d v->Ia T μ H d v
 | .Mc,v,_,h=>by simpa [Ia]using h
 | .bl b,v,_,h=>by simpa [Ia]using h
 | .int i,v,_,h=>by simpa [Ia]using h
 | .str x,v,_,h=>by simpa [Ia]using h
 | .ub ds,v,c,h=>by
  rw[Ia]at h ⊢;obtain⟨p,l,f,g,j⟩:=h;exact⟨p,l,f,g,uE e ds l (by simpa [cl]using c) j⟩
 | .Uh ns,v,_,h=>by rw[Ia]at h ⊢;exact h
 | .ref n,v,c,h=>by simp[cl]at c
 | .Ca ds,v,c,h=>by
  rw[Ia]at h ⊢;obtain⟨a,l,f,g,j,m⟩:=h;exact⟨a,l,f,λz=>g (by obtain⟨r,rfl⟩:=e;exact Ra _ z),j,uE e ds l (by simpa [cl]using c) m⟩
 | .Ja A ds,v,c,h=>by
  rw[Ia]at h ⊢;obtain⟨a,l,f,g,j,o,m⟩:=h;exact⟨a,l,f,λz=>g (by obtain⟨r,rfl⟩:=e;exact Ra _ z),j,o,uE e ds _ (by simpa [cl]using c) m⟩
 | .obj k ns ds,v,c,h=>by
  rw[Ia]at h ⊢;obtain⟨a,u,l,f,g,j,o,m⟩:=h;exact⟨a,u,l,f,λz=>g (by obtain⟨r,rfl⟩:=e;exact Ra _ z),j,o,uE e ds _ (by simpa [cl]using c) m⟩
 | .Vr k,v,_,h=>by
  rw[Ia]at h ⊢;obtain⟨a,t,f,g,j,m⟩:=h;exact⟨a,t,f,λz=>g (by obtain⟨r,rfl⟩:=e;exact Ra _ z),j,λn q=>let ⟨s,q1,w,y⟩:=m n q;⟨s,q1,λz=>w (by obtain⟨r,rfl⟩:=e;exact Ra _ z),y⟩⟩
 | .gt ss,v,_,h=>by rw[Ia]at h ⊢;exact h
theorem uE(e:∃ r,μ'=μ++r):∀ (a:List D) (b:List V),Ik a=true->gb T μ' H a b->gb T μ H a b
 |[],b,_,h=>by simpa [gb]using h
 |d::a,b,c,h=>by
  rw[gb]at h ⊢;obtain⟨v,r,g,i,j⟩:=h;have f:cl d=true/\Ik a=true:=by simpa [Ik,Ea]using c
  exact⟨v,r,g,vJ e d v f.1 i,uE e a r f.2 j⟩
end
mutual
theorem Ia.down(e:∃ r,μ'=μ++r):∀ (d:D) (v0 v:V),Ia T μ H d v0->Ia T μ' H' d v->Ia T μ H' d v
 | .Mc,v0,v,_,h=>by simpa [Ia]using h
 | .bl b,v0,v,_,h=>by simpa [Ia]using h
 | .int i,v0,v,_,h=>by simpa [Ia]using h
 | .str x,v0,v,_,h=>by simpa [Ia]using h
 | .ub ds,v0,v,c,h=>by
  rw[Ia]at h c ⊢;obtain⟨p,m,g,f,l⟩:=h;obtain⟨p0,j,_,_,w⟩:=c;exact⟨p,m,g,f,gb.down e ds j m w l⟩
 | .Uh ns,v0,v,_,h=>by rw[Ia]at h ⊢;exact h
 | .ref n,v0,v,c,h=>by
  rw[Ia]at h c ⊢;obtain⟨a,g,f⟩:=h;obtain⟨b,_,u⟩:=c;refine⟨a,g,?_⟩;obtain⟨r,rfl⟩:=e;rw[Za (na.mp u).1]at f;exact f
 | .Ca ds,v0,v,c,h=>by
  rw[Ia]at h c ⊢;obtain⟨a,m,g,f,l,o⟩:=h;obtain⟨_,j,_,_,_,s⟩:=c;exact⟨a,m,g,λz=>f (by obtain⟨r,rfl⟩:=e;exact Ra _ z),l,gb.down e ds j m s o⟩
 | .Ja F ds,v0,v,c,h=>by
  rw[Ia]at h c ⊢;obtain⟨a,m,g,f,l,t,o⟩:=h;obtain⟨_,j,_,_,_,_,s⟩:=c;exact⟨a,m,g,λz=>f (by obtain⟨r,rfl⟩:=e;exact Ra _ z),l,t,gb.down e ds _ _ s o⟩
 | .obj k ns ds,v0,v,c,h=>by
  rw[Ia]at h c ⊢;obtain⟨a,B,m,g,f,l,t,o⟩:=h;obtain⟨_,_,j,_,_,_,_,s⟩:=c;exact⟨a,B,m,g,λz=>f (by obtain⟨r,rfl⟩:=e;exact Ra _ z),l,t,gb.down e ds _ _ s o⟩
 | .Vr k,v0,v,_,h=>by
  rw[Ia]at h ⊢;obtain⟨a,A,g,f,l,o⟩:=h;exact⟨a,A,g,λz=>f (by obtain⟨r,rfl⟩:=e;exact Ra _ z),l,λn q=>let ⟨y,q1,C,E⟩:=o n q;⟨y,q1,λz=>C (by obtain⟨r,rfl⟩:=e;exact Ra _ z),E⟩⟩
 | .gt ss,v0,v,_,h=>by rw[Ia]at h ⊢;exact h
theorem gb.down(e:∃ r,μ'=μ++r):∀ (b:List D) (a f:List V),gb T μ H b a->gb T μ' H' b f->gb T μ H' b f
 |[],a,f,_,h=>by simpa [gb]using h
 |d::b,a,f,c,h=>by
  rw[gb]at h c ⊢;obtain⟨v,r,j,k,l⟩:=h;obtain⟨n,m,_,g,i⟩:=c;exact⟨v,r,j,Ia.down e d n v g k,gb.down e b m r i l⟩
end
theorem nG{f:Type}(e:∃ r,μ'=μ++r):∀ {xs:List (f × D)} {g h:List (f × V)},Paired (λ(p:f × D) (q:f × V)=>p.1=q.1/\Ia T μ H p.2 q.2) xs h->Paired (λ(p:f × D) (q:f × V)=>p.1=q.1/\Ia T μ' H' p.2 q.2) xs g->Paired (λ(p:f × D) (q:f × V)=>p.1=q.1/\Ia T μ H' p.2 q.2) xs g
 |_,_,_,.nil,.nil=>.nil
 |_,_,_,.cons a b,.cons c d=>.cons ⟨c.1,Ia.down e _ _ _ a.2 c.2⟩ (nG e b d)
theorem Tr.down(e:∃ r,μ'=μ++r){a:Addr}:∀ {o:Ob},Tr T μ H a o->Tr T μ' H' a o->Tr T μ H' a o
 | .Ca ds,⟨_,_,c⟩,⟨b,h,r⟩=>⟨b,h,gb.down e _ _ _ c r⟩
 | .Ja f,⟨_,_,c⟩,⟨b,h,r⟩=>⟨b,h,nG e c r⟩
 | .jc c i,⟨_,_,_,d⟩,⟨g,b,h,r⟩=>⟨g,b,h,nG e d r⟩
 | .ag f,⟨_,_,_,d⟩,⟨ob,b,h,r⟩=>⟨ob,b,h,nG e d r⟩
 | .yf j,_,⟨b,h,r⟩=>⟨b,h,r⟩
theorem ee.down(c:ee T μ H σ)(r:ee T μ' H' σ')(e:Se μ H μ' H')(q:σ'.take σ.length=σ):ee T μ H' σ/\Se μ H μ H':=by
 refine⟨⟨c.len,c.nd,λn o h=>?_,r.tb.sub λb l=>by obtain⟨z,rfl⟩:=e.pre;exact Ra _ l⟩,⟨⟨[],by simp⟩,e.ub,e.Vb,λp o h n=>⟨(e.keep p o h n).1,n⟩⟩⟩;obtain⟨a,f,i⟩:=c.obs n o h;have g:σ'[n]?=some o:=by
  have m:=(na.mp h).1;rw[<-q,Ys m]at h;exact h
 obtain⟨b,j,k⟩:=r.obs n o g;have d:=e.get f;rw[j]at d;cases d;exact⟨a,f,i.down e.pre k⟩
theorem PN{c:Type}:∀ {xs:List (c × D)} {d:List (c × V)},Paired (λ(p:c × D) (q:c × V)=>p.1=q.1/\Ia T μ H p.2 q.2) xs d->d.map (·.1)=xs.map (·.1)/\gb T μ H (xs.map (·.2)) (d.map (·.2))
 |_,_,.nil=>⟨rfl,gb.nil⟩
 |_,_,.cons a b=>by
  obtain⟨e,f⟩:=PN b;exact⟨by simp[e,a.1],gb.cons a.2 f⟩
theorem bQ{f:D->Option D}(j:∀ d i v,f d=some i->Ia T μ' H d v->Ia T μ H i v):∀ (b a:List D) (e:List V),bp f b=some a->gb T μ' H b e->gb T μ H a e
 |[],a,e,h,r=>by cases h;simpa [gb]using r
 |d::b,a,e,h,r=>by
  unfold bp at h;cases c:f d with
  |none=>rw[c]at h;cases h
  |some x=>
   cases g:bp f b with
   |none=>rw[c,g]at h;cases h
   |some xs=>
    rw[c,g]at h;cases h;obtain⟨v,w,rfl,k,l⟩:=r;exact gb.cons (j d x v c k) (bQ j b xs w g l)
theorem zQ(e:∃ r,μ'=μ++r)(r:ee T μ' H σ'):∀ (m:Nat) (d C:D) (v:V),fz μ.length σ' m d=some C->Ia T μ' H d v->Ia T μ H C v:=by
 have I:∀ n v,n<μ.length->Ia T μ' H (.ref n) v->Ia T μ H (.ref n) v:=λn v s h=>by
  obtain⟨a,j,f⟩:=h;obtain⟨q,rfl⟩:=e;rw[Za s]at f;exact⟨a,j,f⟩
 intro m;induction m with
 |zero=>
  intro d C v h l;unfold fz at h;by_cases y:cl d=true
  ·rw[ja y]at h;cases h;exact vJ e _ _ y l
  ·rw[ua y]at h;cases d with
   |ref n=>
    dsimp only at h;by_cases s:n<μ.length
    ·rw[ja s]at h;cases h;exact I n v s l
    ·rw[ua s]at h;cases h
   |_=>cases h
 |succ m S=>
  intro d C v h l;unfold fz at h;by_cases y:cl d=true
  ·rw[ja y]at h;cases h;exact vJ e _ _ y l
  ·rw[ua y]at h;have x:=bQ (λd C v a b=>S d C v a b);cases d with
   |ref n=>
    dsimp only at h;by_cases s:n<μ.length
    ·rw[ja s]at h;cases h;exact I n v s l
    ·rw[ua s]at h;cases L:σ'[n]? with
     |none=>rw[L]at h;cases h
     |some o=>
      rw[L]at h;obtain⟨a,rfl,Q,A⟩:=r.at l L;have B:a ∉ μ:=λz=>by
       obtain⟨i,P⟩:=av z;obtain⟨q,rfl⟩:=e;have R:=(na.mp P).1;have:=kI r.nd (by rw[Za R];exact P) Q;omega
      cases o with
      |Ca xs=>
       obtain⟨k,j,f⟩:=dc.mp h;subst f;obtain⟨g,F,G⟩:=A;exact⟨a,g,rfl,B,F,x xs k g j G⟩
      |Ja O=>
       obtain⟨k,j,f⟩:=dc.mp h;subst f;obtain⟨g,F,G⟩:=A;obtain⟨M,N⟩:=PN G;exact⟨a,g,rfl,B,(.inl F),M,x _ k _ j N⟩
      |jc c W=>
       obtain⟨k,j,f⟩:=dc.mp h;subst f;obtain⟨J,g,F,G⟩:=A;obtain⟨M,N⟩:=PN G;exact⟨a,J,g,rfl,B,F,M,x _ k _ j N⟩
      |ag O=>cases h
      |yf _=>cases h
   |ub xs=>
    obtain⟨k,j,f⟩:=dc.mp h;subst f;obtain⟨p,g,t,u,w⟩:=l;exact⟨p,g,t,u,x xs k g j w⟩
   |Ca xs=>
    obtain⟨k,j,f⟩:=dc.mp h;subst f;obtain⟨p,g,t,E,u,w⟩:=l;exact⟨p,g,t,λz=>E (by obtain⟨r,rfl⟩:=e;exact Ra _ z),u,x xs k g j w⟩
   |Ja U xs=>
    obtain⟨k,j,f⟩:=dc.mp h;subst f;obtain⟨p,g,t,E,u,K,w⟩:=l;exact⟨p,g,t,λz=>E (by obtain⟨r,rfl⟩:=e;exact Ra _ z),u,K,x xs k _ j w⟩
   |obj c U xs=>
    obtain⟨k,j,f⟩:=dc.mp h;subst f;obtain⟨p,J,g,t,E,u,K,w⟩:=l;exact⟨p,J,g,t,λz=>E (by obtain⟨r,rfl⟩:=e;exact Ra _ z),u,K,x xs k _ j w⟩
   |_=>cases h
theorem Zb.Vb{E:XK}{f:M D}{Q:V->Hp->Prop}(r:ee T μ H σ)(h:Zb T E (Ia T) μ H (Vb f σ) Q):Zb T E (Ia T) μ H (f σ) Q:=by
 unfold L4.Vb at h;cases e:f σ with
 |Sb=>rw[e]at h;exact h
 |ex x a=>
  rw[e]at h;unfold uh at h;dsimp only at h;by_cases b:a.take σ.length=σ
  ·rw[ja b]at h;intro m i c g;obtain⟨l,j⟩:=ee.down r g c b;exact h μ i j l
  ·rw[ua b]at h;exact h.elim
 |ok d a=>
  rw[e]at h;unfold uh at h;dsimp only at h;by_cases b:a.take σ.length=σ
  ·rw[ja b]at h;cases k:fz σ.length a 6 d with
   |none=>rw[k]at h;exact h.elim
   |some n=>
    rw[k]at h;intro m v i c g p1;obtain⟨l,j⟩:=ee.down r g c b;exact h μ v i j l (zQ c.pre g 6 d n v (by rw[r.len];exact k) p1)
  ·rw[ua b]at h;exact h.elim
end
def Gh(f:Ev->M D):Ev->M D:=λa=>Vb (f a)
theorem rm{T:Tb}{X:Cx}{e:Fa}{f:Ev->M D}(h:FE T X e f):FE T X e (Gh f):=by
 intro a s i H Q I g;obtain⟨j,k,l,c,b,d⟩:=g;exact h a s i H Q I ⟨j,k,l,c,b,Zb.Vb b d⟩
end L4
namespace L4
open PySem PySem.Spec PyProof.Rows L2
def DK(h c:Heap):Prop:=∀ (a:Nat) o,h.objs[a]?=some o->∃ b:Obj,c.objs[a]?=some b/\b.dict=o.dict
theorem DK.refl(h:Heap):DK h h:=λ_ o e=>⟨o,e,rfl⟩
theorem DK.trans{d f g:Heap}(x:DK d f)(y:DK f g):DK d g:=λa o e=>by
 obtain⟨i,h,q⟩:=x a o e;obtain⟨c,b,j⟩:=y a i h;exact⟨c,b,j.trans q⟩
theorem DK.push(h:Heap)(o:Obj):DK h (h.push o):=λa u e=>by
 obtain⟨b,l⟩:=h;have e:=e;have c:=(Zd.mp e).1;refine⟨u,?_,rfl⟩;show (b.push o)[a]?=some u;rw[Array.getElem?_push_lt c];exact(Kb c).symm.trans e
theorem DK.update(h:Heap)(b:Addr){f:Obj->Obj}(g:∀ o,(f o).dict=o.dict):DK h (h.update b f):=λa u e=>by
 obtain⟨c,l⟩:=h;have e:=e;show ∃ i:Obj,(c.modify b f)[a]?=some i/\_;rw[Array.getElem?_modify];by_cases d:b=a
 ·rw[ja d,e];exact⟨f u,rfl,g u⟩
 ·rw[ua d];exact⟨u,e,rfl⟩
theorem DK.get{h b:Heap}(x:DK h b){a:Addr}{o c:Obj}(e:h.get? a=some o)(d:b.get? a=some c):c.dict=o.dict:=by
 obtain⟨u,q1,f⟩:=x a o ((wx _ _ _).1 e).1;have:=((wx _ _ _).1 d).1;have z:=q1.symm.trans this;cases z;exact f
structure KD{α:Type}(t:Io α):Prop where
 out:∀ (M:zl) (Γ:PySem.Ctx) (Q:α->Me->Shared->Prop) (E:Value->Me->Shared->Prop) (p:Me) (s:Shared),Sem.wp M Γ t Q E p s->Sem.wp M Γ t (λa p' s'=>Q a p' s'/\DK s.heap s'.heap) (λe p' s'=>E e p' s'/\DK s.heap s'.heap) p s
namespace KD
variable{α β:Type}
theorem Cv(a:α):KD (Pure.pure a:Io α):=⟨λ_ _ _ _ _ s h=>⟨h,.refl _⟩⟩
theorem Uw(w:String):KD (PySem.unsupported w:Io α):=⟨λ_ _ _ _ _ _ h=>h⟩
theorem Ld{m:Io α}{f:α->Io β}(g:KD m)(e:∀ a,KD (f a)):KD (m >>= f):=⟨λM b Q E p s h=>by
 rw[ro]at h ⊢;refine Pv M b m (λa c d z=>?_) (λ_ _ _ z=>z) p s (g.out M b _ _ p s h);exact Pv M b (f a) (λ_ _ _ q=>⟨q.1,z.2.trans q.2⟩) (λ_ _ _ q=>⟨q.1,z.2.trans q.2⟩) c d ((e a).out M b _ _ c d z.1)⟩
theorem pp{c:Prop}[Decidable c]{t u:Io α}(a:KD t)(b:KD u):KD (if c then t else u):=by split<;>assumption
theorem ld(a:Addr):KD (PySem.load a):=⟨λ_ _ _ _ _ _ h=>by obtain⟨o,b,h⟩:=h;exact⟨o,b,h,.refl _⟩⟩
theorem ic(a:Addr){f:Obj->Obj}(b:∀ o,(f o).dict=o.dict):KD (PySem.update a f):=⟨λ_ _ _ _ _ _ h=>⟨h.1,h.2,.update _ _ b⟩⟩
theorem Zr:KD PySem.stack:=⟨λM a Q E p s h=>by
 exact⟨h,.refl _⟩⟩
theorem Yw(o:Obj):KD (PySem.alloc o):=⟨λ_ _ _ _ _ _ h=>⟨h,.push _ _⟩⟩
theorem fld(v:Value)(i:Nat):KD (PySem.field v i):=⟨λ_ g Q E p s h=>by
 rw[xx]at h ⊢;obtain⟨a,o,f,x,b,c,d,e,h⟩:=h;exact⟨a,o,f,x,b,c,d,e,h,.refl _⟩⟩
theorem set(v:Value)(i:Nat)(x:Value):KD (PySem.setField v i x):=⟨λ_ m Q E p s h=>by
 rw[WI]at h ⊢;obtain⟨a,o,k,e,f,g,j,h⟩:=h;exact⟨a,o,k,e,f,g,j,h,.update _ _ λo=>by obtain⟨c,d,b,l⟩:=o;cases b<;>rfl⟩⟩
end KD
theorem Œ(a:Ih)(l:List Ih):KD (dO a l):=by unfold dO;(repeat' with_reducible first|assumption|exact KD.Cv _|exact KD.Uw _|exact KD.fld _ _|exact KD.set _ _ _|exact KD.ld _|exact KD.ic _ (λ_=>rfl)|exact KD.Zr|exact KD.Yw _|apply KD.pp|apply KD.Ld|intro _|split)
theorem Ν:KD underTheClaimsCaller:=by unfold underTheClaimsCaller;(repeat' with_reducible first|assumption|exact KD.Cv _|exact KD.Uw _|exact KD.fld _ _|exact KD.set _ _ _|exact KD.ld _|exact KD.ic _ (λ_=>rfl)|exact KD.Zr|exact KD.Yw _|apply KD.pp|apply KD.Ld|intro _|split)
theorem yc0(a:Ih)(i:Bool)(l:List Ih):KD (keptBack a i l):=by
 have:=Ν;cases l<;>unfold keptBack<;>(repeat' with_reducible first|assumption|exact KD.Cv _|exact KD.Uw _|exact KD.fld _ _|exact KD.set _ _ _|exact KD.ld _|exact KD.ic _ (λ_=>rfl)|exact KD.Zr|exact KD.Yw _|apply KD.pp|apply KD.Ld|intro _|split)
theorem NO:∀ l:List Ih,KD (readyFrames l)
 |[]=>KD.Cv _
 |env::l=>by
  have c:=NO l;have b:=Œ env l;have a:=λi=>yc0 env i l;unfold readyFrames
  (repeat' with_reducible first|assumption|exact KD.Cv _|exact KD.Uw _|exact KD.fld _ _|exact KD.set _ _ _|exact KD.ld _|exact KD.ic _ (λ_=>rfl)|exact KD.Zr|exact KD.Yw _|apply KD.pp|apply KD.Ld|intro _|split)
  all_goals first|exact a _|skip
theorem Ź(l:List Ih):KD (frameObject l):=by
 cases l with
 |nil=>exact KD.Cv _
 |cons env l=>
  have:=NO (env::l);unfold frameObject
  (repeat' with_reducible first|assumption|exact KD.Cv _|exact KD.Uw _|exact KD.fld _ _|exact KD.set _ _ _|exact KD.ld _|exact KD.ic _ (λ_=>rfl)|exact KD.Zr|exact KD.Yw _|apply KD.pp|apply KD.Ld|intro _|split)
theorem dZ:KD frameEnvs:=by unfold frameEnvs;(repeat' with_reducible first|assumption|exact KD.Cv _|exact KD.Uw _|exact KD.fld _ _|exact KD.set _ _ _|exact KD.ld _|exact KD.ic _ (λ_=>rfl)|exact KD.Zr|exact KD.Yw _|apply KD.pp|apply KD.Ld|intro _|split)
theorem é(a:Ih):KD (PySem.frameOf a):=by
 have c:=dZ;have b:=Ź;unfold PySem.frameOf
 (repeat' with_reducible first|assumption|exact KD.Cv _|exact KD.Uw _|exact KD.fld _ _|exact KD.set _ _ _|exact KD.ld _|exact KD.ic _ (λ_=>rfl)|exact KD.Zr|exact KD.Yw _|apply KD.pp|apply KD.Ld|intro _|split)
 all_goals first|exact b _|skip
theorem ő(f:Addr)(b:Bool):KD (entryPlaceOf f b):=by unfold entryPlaceOf;(repeat' with_reducible first|assumption|exact KD.Cv _|exact KD.Uw _|exact KD.fld _ _|exact KD.set _ _ _|exact KD.ld _|exact KD.ic _ (λ_=>rfl)|exact KD.Zr|exact KD.Yw _|apply KD.pp|apply KD.Ld|intro _|split)
theorem oX(a b c d e:Value)(l:List Value):KD (Qs a b c d e l):=by
 unfold Qs newFields newObj newObjAsIs
 (repeat' with_reducible first|assumption|exact KD.Cv _|exact KD.Uw _|exact KD.fld _ _|exact KD.set _ _ _|exact KD.ld _|exact KD.ic _ (λ_=>rfl)|exact KD.Zr|exact KD.Yw _|apply KD.pp|apply KD.Ld|intro _|split)
theorem i8(e:Value)(a:Ih):KD (Jh e a):=by
 have d:=é a;have b:=ő;have c:=oX;unfold Jh
 (repeat' with_reducible first|assumption|exact KD.Cv _|exact KD.Uw _|exact KD.fld _ _|exact KD.set _ _ _|exact KD.ld _|exact KD.ic _ (λ_=>rfl)|exact KD.Zr|exact KD.Yw _|apply KD.pp|apply KD.Ld|intro _|split)
 all_goals first|exact b _ _|exact c _ _ _ _ _ _|skip
theorem CZ(e:Value)(f:Option Addr):KD (Fk e f):=by unfold Fk;(repeat' with_reducible first|assumption|exact KD.Cv _|exact KD.Uw _|exact KD.fld _ _|exact KD.set _ _ _|exact KD.ld _|exact KD.ic _ (λ_=>rfl)|exact KD.Zr|exact KD.Yw _|apply KD.pp|apply KD.Ld|intro _|split)
theorem wQ{e:Type}{M:zl}{A:Ha}{t:Io e}{Q:e->Shared->Prop}{E:Value->Shared->Prop}{s:Shared}(k:KD t)(h:wpAny M A t Q E s):wpAny M A t (λa d=>Q a d/\DK s.heap d.heap) E s:=
 λc p b=>Pv M c t (λ_ _ _ z=>z) (λ_ _ _ z=>z.1) p s (k.out M c _ _ p s (h c p b))
section
variable{P:za}{w:Ma}{H H':Hp}{h h':Heap}{a:Addr}{o:HO}
theorem tO(x:mn P w H h a o):∃ u,h.get? a=some u:=by
 cases o with
 |Ca xs=>obtain⟨_,_,_,_,e⟩:=x;exact⟨_,e⟩
 |ub xs=>obtain⟨_,_,_,d,e,_⟩:=x;exact⟨_,e⟩
 |dK b=>obtain⟨_,_,_,_,o,_,_,e,_⟩:=x;exact⟨_,e⟩
 |dT b=>obtain⟨_,_,_,_,o,_,_,e,_⟩:=x;exact⟨_,e⟩
 |set S n=>obtain⟨o,_,_,_,e,_⟩:=x;exact⟨_,e⟩
 |jc C g c=>obtain⟨_,_,_,e,_⟩:=x;exact⟨_,e⟩
 |own y=>obtain⟨_,e⟩:=x;exact⟨_,e⟩
 |xd c=>obtain⟨_,⟨_,_,_,e,_⟩,_⟩:=x;exact⟨_,e⟩
 |xG lo i=>obtain⟨_,_,_,e⟩:=x;exact⟨_,e⟩
 |Vb d u=>obtain⟨e,_⟩:=x;exact⟨_,e⟩
 |eo j=>exact⟨_,x⟩
 |met f y=>exact⟨_,x⟩
 |ext k=>obtain⟨_,⟨_,e⟩,_⟩:=x;exact⟨_,e⟩
theorem WM(x:xj P w H h)(k:∀ b o u,H b=some o->h.get? b=some u->h'.get? b=some u):xj P w H h':=λb o e=>
 (x b o e).cm (λc v a q=>by
  rcases a with rfl|a
  ·exact k _ _ _ e q
  ·exact k _ _ _ a q) (λ_ q=>q) λ_ _ q=>q
end
section
variable{X:Cx}{pins:List (Addr × Obj)}{st:St}{H H':Hp}{s s':Shared}{cls:Value}{h':Heap}{ea:Addr}{args:List Value}{M:zl}{E:Value->Shared->Prop}{Q:Unit->Shared->Prop}
theorem Ŧ{B:Heap}{l:List Ih}{a:Value}{h:Heap}(x:hD B l ea cls a h):Sq B l ea cls a h:=⟨x.1,x.2.1,x.2.2.1,.inl ⟨.none,x.2.2.2.at⟩⟩
theorem Sq.there{B:Heap}{l:List Ih}{b:Value}{h:Heap}(x:Sq B l ea cls b h):∃ a,h.get? ea=some a/\a.cls=cls:=by
 obtain⟨_,_,_,⟨e,q⟩|⟨c,f,q1,d,_⟩⟩:=x
 ·exact q.there
 ·exact⟨c,q1,d⟩
theorem Sq.TK{B:Heap}{l:List Ih}{d:Value}{h:Heap}{o:Obj}(x:Sq B l ea cls d h)(c:h.get? ea=some o):∃ a,o.data=.fields a:=by
 obtain⟨_,_,_,⟨j,g,a,T,k,n,f,b,e,_⟩|⟨g,a,q1,m,i,_⟩⟩:=x
 ·cases f.symm.trans c;exact⟨a,e⟩
 ·cases q1.symm.trans c;exact⟨a,i⟩
theorem PD.next{a:Option Nat}{B h h' b:Heap}{H':Hp}(x:PD a ea B h b H')(k:DK h h')(e:∃ o,h'.get? ea=some o):PD a ea B h' b H':=λn q=>by
 obtain⟨c,d,i,q1,f,g⟩:=x n q;obtain⟨o,e⟩:=e;exact⟨c,d,o,e,(k.get q1 e).trans f,g⟩
theorem GL{A:Ha}{B:Heap}{l:List Ih}{d:Value}(x:Sq B l ea cls d s.heap)(i:∀ a,Sq B l ea cls d a->s.heap.UpToSlots a->DK s.heap a->Q () { s with heap:=a }):wpAny M A (Fk (.ref ea) none) Q E s:=by
 obtain⟨f,g,h,⟨w,c⟩|c⟩:=x
 ·have k:wpAny M A (Fk (.ref ea) none) (λ_ s'=>∃ a,s'={ s with heap:=a }/\Sq B l ea cls d a/\s.heap.UpToSlots a) E s:=
   wpAny_setFlight_noneW f h c λa p q r t=>⟨a,rfl,Ŧ ⟨p,g,q,r⟩,λb o e n=>⟨o.slots,t b o e n⟩⟩
  exact Xb (wQ (CZ _ _) k) (λ_ _ ⟨⟨a,e,q1,u⟩,v⟩=>by subst e;exact i a q1 u v) λ_ _ z=>z
 ·obtain⟨F,G,m,C,j,D,y,a⟩:=id c;refine aa (Pm m j a ?_);exact da (i s.heap ⟨f,g,h,.inr c⟩ (.refl _) (.refl _))
theorem VX{A:Ha}{B:Heap}{c:Ih}{a:List Ih}{L:Addr}{m:Value}(w:A.frames=some (c::a))(u:c.frame=some L)(x:Sq B (c::a) ea cls m s.heap)
  (N:∀ h,pr B (c::a) ea cls m L h->s.heap.UpToSlots h->Q () { s with heap:=h }):wpAny M A (Jh (.ref ea) c) Q E s:=by
 obtain⟨I,C,J,⟨D,r⟩|r⟩:=x
 ·by_cases hm:D=Nc L
  ·subst hm;exact wpAny_noteFrame_againW u r (N s.heap ⟨I,C,J,r⟩ (.refl _))
  ·obtain⟨V,X,T,oT,z,l,O,j,h,y,i,F,d,h3⟩:=r;have W:3<z.size:=(Zd.mp h3).1;have f:∀ b,b≠T->(s.heap.update T (Kf (·.setIfInBounds 3 ib))).get? b=s.heap.get? b:=λb G=>fg _ _ (Te G);have nr:∀ b o,s.heap.get? b=some o->(∀ v,o.data≠.fields v)->b≠T:=λb o G hn q=>by
    rw[q,F]at G;cases G;exact hn z d
   have g:=Bd (Kf (·.setIfInBounds 3 ib)) F (wg (Ic d _));have up:s.heap.UpToSlots (s.heap.update T (Kf (·.setIfInBounds 3 ib))):=λb o e n=>⟨o.slots,(f b (nr b o e n)).trans e⟩
   have F0:hD B (c::a) ea cls m (s.heap.update T (Kf (·.setIfInBounds 3 ib))):=
    ⟨λb o e=>(f b λq=>by rw[q,y]at e;cases e).trans (I b o e),C,J.of_keeps λb o e n=>⟨o,(f b (nr b o e n)).trans e,rfl⟩,
     V,X,T,_,_,(f ea (Te i)).trans l,O,j,h,y,i,g,Ic d _,by simp[W]⟩
   have R:=wpAny_looks_onW (M:=M) (E:=E) (s:={ s with heap:=s.heap.update T (Kf (·.setIfInBounds 3 ib)) }) w u F0 λh2 q1 q2=>N h2 q1 (up.trans q2);intro Γ p P;have k:=R Γ p P;unfold Jh at k ⊢;simp only[u]at k ⊢;rw[ro,xx]at k ⊢;obtain⟨a1,S,v1,x1,e1,g1,Z,i1,k⟩:=k;cases e1;have t:s.heap.get? ea=some S:=(f ea (Te i)).symm.trans g1;have U:S=V:=by rw[l]at t;cases t;rfl
   subst U;rw[j]at Z;cases Z;rw[h]at i1;cases i1;refine⟨ea,S,X,.ref T,rfl,l,j,h,?_⟩;have nn:(cc T != ib)=true:=by simp
   simp only[nn,vm]at k ⊢;rw[ro,xx]at k ⊢;obtain⟨a2,o2,v2,x2,e2,g2,d2,i2,k⟩:=k;cases e2;have K:=g.symm.trans g2;cases K;have H:=(Ic d (·.setIfInBounds 3 ib)).symm.trans d2;cases H;have Y:x2=ib:=by
    have:(z.setIfInBounds 3 ib)[3]?=some ib:=by simp[W]
    rw[this]at i2;cases i2;rfl
   subst Y;refine⟨T,oT,z,D,rfl,F,d,h3,?_⟩;have n1:(ib == Nc L)=false:=by simp[Nc]
   have n2:(D == Nc L)=false:=by
    cases q:D == Nc L with
    |false=>rfl
    |true=>exact absurd (kh.mp q) hm
   simp only[n1,n2,xm,Zs]at k ⊢;rw[ro,WI]at k ⊢;obtain⟨a3,o3,v3,e3,g3,d3,i3,k⟩:=k;cases e3;refine⟨T,oT,z,rfl,F,d,W,?_⟩;simp only[Heap.update_setField_twice]at k;exact k
 ·obtain⟨V,X,l,O,j,hz,h0,h⟩:=r;unfold Jh;simp only[u];refine aa (Pm l j h ?_);refine wpAny_entryW (base:=B) (outer:=a) (a0:=m) w J u l I C j hz h0 λh4 hN=>?_;obtain⟨k1,k2,k3,k4⟩:=hN;rw[O]at k3;exact N h4 ⟨k1,C,k2,k3⟩ k4
theorem vU{A:Ha}{B:Heap}{b:Ih}{a:List Ih}{L:Addr}{d:Value}(f:A.frames=some (b::a))(i:b.frame=some L)(x:Sq B (b::a) ea cls d s.heap)
  (h:∀ c,pr B (b::a) ea cls d L c->s.heap.UpToSlots c->DK s.heap c->Q () { s with heap:=c }):wpAny M A (Jh (.ref ea) b) Q E s:=by
 have k:wpAny M A (Jh (.ref ea) b) (λ_ s'=>∃ c,s'={ s with heap:=c }/\pr B (b::a) ea cls d L c/\s.heap.UpToSlots c) E s:=VX f i x λc q1 g=>⟨c,rfl,q1,g⟩
 exact Xb (wQ (i8 _ _) k) (λ_ _ ⟨⟨c,e,q1,g⟩,j⟩=>by subst e;exact h c q1 g j) λ_ _ z=>z
theorem kT{B:Heap}{l:List Ih}{a:Value}{L:Addr}{h:Heap}(x:pr B l ea cls a L h):Sq B l ea cls a h:=⟨x.1,x.2.1,x.2.2.1,.inl ⟨_,x.2.2.2⟩⟩
theorem Ł{A:Ha}{B:Heap}{b:Ih}{a:List Ih}{L:Addr}{e:Value}(d:A.frames=some (b::a))(h:b.frame=some L)(x:Sq B (b::a) ea cls e s.heap)
  (g:∀ c,Sq B a ea cls e c->s.heap.UpToSlots c->DK s.heap c->Q () { s with heap:=c }):wpAny M A (leaving b (.ref ea)) Q E s:=by
 refine aa (vU d h x λc q1 m n=>?_);refine GL (kT q1) λf o p q=>?_;obtain⟨i,j,⟨_,_,k⟩,l⟩:=o;exact g f ⟨i,j,k,l⟩ (m.trans p) (n.trans q)
theorem mG(c:X.stack=X.env::X.outer)(a:X.env.frame=some X.env.locals){b:Addr}:b∈Wk X.stack ↔ b=X.env.locals\/b∈Wk X.outer:=by
 rw[c];unfold Wk;rw[Og,a];exact Da
theorem cY(I:Qa X pins st H s)(m:X.stack=X.env::X.outer)(l:X.env.frame=some X.env.locals)(p:X.ex=[]){f:Heap}(d:Un (Wk X.stack) [] H H' s.heap f):Un (Wk X.outer) [] X.H₀ H' X.s₀.heap f:=by
 have a:∀ b,b ∉ X.ex:=λb z=>by rw[p]at z;cases z
 have i:∀ b o,X.s₀.heap.get? b=some o->b≠X.env.locals:=λb o e=>ya (Ga (va e) I.ok.above);refine⟨λb o e n g _=>?_,λb o e n g _=>?_,λb o e n _=>?_,λb o e _=>?_,λb xs e=>d.Vj b xs (I.base.Vj b xs e),λb o u e=>d.Ti b o u (I.base.Ti b o u e),λb t e=>?_⟩
 ·exact d.keep b o (I.base.keep b o e n g (a b)) (I.base.free b o e n (a b)) (λz=>((mG m l).mp z).elim (i b o e) g) (by simp)
 ·obtain⟨v,c⟩:=I.base.slot b o e n g (a b);obtain⟨k,h⟩:=d.slot b _ c (I.base.free b o e n (a b)) ((mG m l).mpr (.inr g)) (by simp);exact⟨k,h⟩
 ·obtain⟨j,c⟩:=I.base.there b o e (a b);exact d.free b j c (I.base.free b o e n (a b)) (by simp)
 ·obtain⟨j,c⟩:=I.base.there b o e (a b);exact d.there b j c (by simp)
 ·obtain⟨q,c⟩:=I.base.Gj b t e;obtain⟨r,h⟩:=d.Gj b _ c;exact⟨q++r,by rw[h,im]⟩
theorem YG{P:za}{w:Ma}{a:List Ih}{e:Value}{x:Option Nat}(F:EA P w a H s cls x H' e s'){l:Heap}{B:Heap}(z:∀ b o,s.heap.get? b=some o->H b=none->b ∉ Wk a->B.get? b=some o)(A:∀ b o,H' b=some o->∃ v,B.get? b=some v)
  (y:∀ b o,s.heap.get? b=some o->b ∉ Wk a->∃ g,B.get? b=some g) (p:∀ b o,B.get? b=some o->s'.heap.get? b=some o) (f:∀ b o,B.get? b=some o->l.get? b=some o) (j:s'.heap.UpToSlots l) (i:∀ b∈Wk a,∃ o,s.heap.get? b=some o/\(∀ E,o.data≠.fields E)/\H b=none) :
  Un (Wk a) [] H H' s.heap l/\xj P w H' l:=by
 refine⟨⟨λb o e n d _=>f b o (z b o e n d),λb o e n d t=>?_,F.un.free,λb o e t=>?_,F.un.Vj,F.un.Ti,F.un.Gj⟩,WM F.md λb o u e q=>?_⟩
 ·obtain⟨D,c⟩:=F.un.slot b o e n d t;obtain⟨g,h,r,_⟩:=i b d;rw[e]at h;cases h;obtain⟨k,m⟩:=j b _ c r;exact⟨k,m⟩
 ·by_cases d:b∈Wk a
  ·obtain⟨g,h,r,C⟩:=i b d;rw[e]at h;cases h;obtain⟨D,c⟩:=F.un.slot b o e C d t;obtain⟨k,m⟩:=j b _ c r;exact⟨_,m⟩
  ·obtain⟨g,c⟩:=y b o e d;exact⟨g,f b g c⟩
 ·obtain⟨v,c⟩:=A b o e;have:=p b v c;rw[q]at this;cases this;exact f b _ c
theorem qH(I:Qa X pins st H s):∀ b∈Wk X.stack,∃ o,s.heap.get? b=some o/\(∀ d,o.data≠.fields d)/\H b=none:=λb a=>by
 obtain⟨_,o,e,c⟩:=I.stack.mem a;exact⟨o,e,c,I.Vl b a⟩
theorem Θ(I:Qa X pins st H s)(f:X.stack=X.env::X.outer)(k:X.env.frame=some X.env.locals)(c:X.ex=[]){e:Value}{l:Option Nat}(F:EA X.prog X.w X.stack H s cls l H' e s')
  (O:∀ i,EA X.prog X.w X.outer X.H₀ X.s₀ cls l H' e i->Q () i):wpAny M X.A (leaving X.env e) Q E s':=by
 obtain⟨ea,y,B,rfl,D,P,d,K,J,G,N⟩:=F.ex;have m:Sq B (X.env::X.outer) ea cls y s'.heap:=by rw[<-f];exact D
 refine Ł (by rw[<-f];exact I.ok.frames) k m λp x V W=>O _ ?_;obtain⟨U,t⟩:=YG F J K G D.1 x.1 V (qH I);have a:∀ b,b ∉ X.ex:=λb z=>by rw[c]at z;cases z
 have g:∀ b o,X.s₀.heap.get? b=some o->b≠X.env.locals:=λb o e=>ya (Ga (va e) I.ok.above);have h:∀ b,s.heap.get? b=none->X.s₀.heap.get? b=none:=λb e=>by
  cases q:X.s₀.heap.get? b with
  |none=>rfl
  |some u=>obtain⟨v,C⟩:=I.base.there _ _ q (a _);rw[e]at C;cases C
 have r:PD l ea B p X.s₀.heap H':=λn q=>by
  obtain⟨L,S,T,Y,Z,z3,z4,z5,z6⟩:=N.next W (let ⟨o,e,_⟩:=x.there;⟨o,e⟩) n q;exact⟨L,S,T,Y,Z,z3,z4,z5,h _ z6⟩
 refine⟨⟨ea,y,B,rfl,x,P,?_,K,λb o e n j=>?_,λb o e j=>?_,r⟩,F.os.trans I.os,F.bare,cY I f k c U,t⟩
 ·cases q:X.s₀.heap.get? ea with
  |none=>rfl
  |some u=>obtain⟨v,e⟩:=I.base.there _ _ q (a _);rw[d]at e;cases e
 ·exact J b o (I.base.keep b o e n j (a b)) (I.base.free b o e n (a b)) λz=>((mG f k).mp z).elim (g b o e) j
 ·obtain⟨R,q⟩:=I.base.there b o e (a b);exact G b R q λz=>((mG f k).mp z).elim (g b o e) j
end
theorem Ô{P:za}{w:Ma}{K:W.Frag}{m:qa->Option Value}{d:Heap}{N:List qa}{g:qa}{c:Scope}{f:Addr}{l:Value}{A:Ha}{b:List Ih}{s:Shared}{H:Hp}{E:XK}{o:St}{a:Value}{j:Option Nat}{i:Hp}
  (h:E a j i):kC (Wq (sm P w) P w K m d N g c f l A b s H E) o a j i where
 fG:=λk p r e q I F=>Θ I rfl rfl rfl F λn G=>⟨a,j,i,G,h⟩
theorem kC.made{X:Cx}{d:List (Addr × Obj)}{r:St}{h:Hp}{s:Shared}{j:Value}{f:Addr}{h':Heap}{i:List Value}(t:kC X r j none h)(I:Qa X d r h s)(c:Heap.MadeExcOf s.heap h' f j i):X.xe (.ref f) { s with heap:=h' }:=by
 have w:=W.funFrames_hide I.stack (λl m a x=>um.mpr ⟨l,m,x⟩);have g:∀ b o,s.heap.get? b=some o->b ∉ Wk X.stack->(W.hideAll s.heap (Wk X.stack)).get? b=some o:=λb o e n=>RI _ e n;obtain⟨B,m,A,C⟩:=c.there;have p:∀ b o,h b=some o->b ∉ Wk X.stack:=λb o e z=>by rw[I.Vl b z]at e;cases e
 have y:h f=none:=by
  cases q:h f with
  |none=>rfl
  |some u=>obtain⟨v,e⟩:=tO (I.md _ _ q);rw[c.new]at e;cases e
 refine t.fG d h s (.ref f) _ I ⟨⟨f,.ref B,W.hideAll s.heap (Wk X.stack),rfl,⟨λb o q=>c.keeps b o (Mv _ q),?_,w.of_keeps λb o e _=>⟨o,c.keeps b o e,rfl⟩,.inr ⟨_,_,m,rfl,rfl,by simp,rfl,rfl⟩⟩,y,c.new,λb o e=>?_,λb o e n k=>g b o e k,λb o e k=>⟨o,g b o e k⟩,λn q=>by cases q⟩,rfl,I.bare,⟨λb o e n k _=>c.keeps b o e,λb o e n k _=>⟨o.slots,c.keeps b o e⟩,λb o e n _=>n,λb o e _=>⟨o,c.keeps b o e⟩,λ_ _ e=>e,λ_ _ _ e=>e,λb D e=>⟨#[],by rw[e];simp⟩⟩,WM I.md λb o u e q=>c.keeps b u q⟩
 ·cases q:(W.hideAll s.heap (Wk X.stack)).get? f with
  |none=>rfl
  |some u=>have:=Mv _ q;rw[c.new]at this;cases this
 ·obtain⟨u,q⟩:=tO (I.md _ _ e);exact⟨u,g b u q (p b o e)⟩
theorem Gk{P:za}{w:Ma}{K:W.Frag}{g:qa->Option Value}{c:Heap}{N:List qa}{d:qa}{b:Scope}{f:Addr}{e:Value}{A:Ha}{a:List Ih}{s:Shared}{H:Hp}{E:XK} :
  Ps (model P w) (Wq (sm P w) P w K g c N d b f e A a s H E).A (Wq (sm P w) P w K g c N d b f e A a s H E).env (Wq (sm P w) P w K g c N d b f e A a s H E).xe:=zaC
noncomputable def XY:Fl->M D
 | .nx _=>ret .Mc
 | .rt d=>ret d
 | .xc _ x=>λa=>.ex x a
 |_=>Sb
def bq:Nm Fl->Nm D
 | .ok a σ=>XY a σ
 |_=>.Sb
def Gd(n:Nat)(g:Ev->M Fl)(a:List D):M D:=λb=>bq (g (a.map some++List.replicate (n - a.length) none) b)
noncomputable def uq(T:Tb)(n:Nat)(f:List D->M D):Sp:=λd H Q E=>∃ b c a,gb T b H a d/\a.length=n/\ee T b H c/\Zb T E (Ia T) b H (f a c) Q
noncomputable def cu(n:Nat)(f:List D->M D)(a:List D)(b:List D):M D:=if (b++a).length=n then f (b++a)else Sb
def Je(n:Nat)(f:List D->M D)(a:List D)(b:Ev->M (List D)):Ev->M D:=λc=>Ld (b c) (cu n f a)
section
variable{T:Tb}{X:Cx}
theorem È{j:List Addr}{H:Hp}{a:List D}{g:List V}{N:List qa}(h:gb T j H a g):ni T j H (a.map some++List.replicate (N.length - a.length) none) (L2.Pw N g):=by
 have f:=h.length;refine⟨by simp[L2.Pw,f],λi d e=>?_⟩;by_cases c:i<a.length
 ·rw[Za (by simpa using c),Xa]at e;cases b:a[i]? with
  |none=>rw[b]at e;cases e
  |some x=>
   rw[b]at e;cases e;obtain⟨v,k,l⟩:=h.get b;refine⟨v,?_,l⟩;unfold L2.Pw;rw[Za (by simpa [<-f]using c),Xa,k];rfl
 ·rw[mf (by simpa using c),Rt]at e;split at e<;>cases e
variable{k:Nat}{f C:Addr}{fd:Nf}{ps:List qa}{dvs:List V}{dval:List Value}{dds:List D}{x:qa}{p pos:Me}{e:Fa}{es:List Fa}{fn:List D->M D}{fs:Ev->M (List D)}{sp:Sp}{t:TA}
theorem QD{a:List (Addr × Obj)}{g:St}{H:Hp}{s:Shared}{Q:VK}{b:List Value}{vs:List V}(F:Ei X.prog X.w X.K X.mg X.base (sm X.prog X.w) k f fd ps sp)(p:Ce k X.A)(m:uu X.K fd ps dval)(n:jf dvs dval)
  (I:Qa X a g H s) (r:jf vs b) (h:sp (vs++dvs) H Q (XE X g)):wpAny (model X.prog X.w) X.A (call (.ref f) b) (EP X a g Q) X.xe s:=by
 have i:=r.append n;have o:(b++dval).length=ps.length:=by rw[<-i.length];exact F.len _ _ _ _ h
 refine Ju (ah (F.Gd X.A X.stack s H ⟨b,[]⟩ (b++dval) (vs++dvs) Q (XE X g) p I.AD (m s b I.Yj o) i h) λr t d=>?_);cases r with
 |error e=>obtain⟨j,fd,v,c,q⟩:=d;exact q.fG a H s e t I c
 |ok l=>
  cases l with
  |ret u=>exact I.after d
  |next=>exact False.elim d
  |brk=>exact False.elim d
  |cont=>exact False.elim d
theorem qV(F:Ei X.prog X.w X.K X.mg X.base (sm X.prog X.w) k f fd ps (uq T ps.length fn))(M:Ce k X.A)(E:Gl X x)(J:X.mg x=some (.ref f))(G:W.keepIn X.K (.ref f)=true)(B:uu X.K fd ps dval)(C:jf dvs dval)(d:∀ m H,gb T m H dds dvs)
  (z:FA T X (e::es) fs) (c:(x == ("__debug__" : qa))=false:=by decide) (D:la (e::es) X.env=(false,Ib e X.env)::la es X.env:=by rfl) (i:(Bc pos (la es X.env)).any (·.1)=false:=by rfl) :
  FE T X (.Call (.Name x p) (e::es) [] pos) (Je ps.length fn dds fs):=by
 intro a s v H Q I h;refine vg (MA I E J ?_ c);obtain⟨m,O,P,y,j,L⟩:=h;refine Ji I.ok.mod.Ex G (Re (z pos a s v H (λl b=>uq T ps.length fn (l++dvs) b Q (XE X v)) I ⟨m,O,P,y,j,L.bind λu o n l b _ R N p1 q1=>?_⟩) λus s1 ⟨l,b,t,r,q⟩=>⟨t.Yj,?_⟩) D i
 ·unfold cu at q1;by_cases g:(u++dds).length=ps.length
  ·rw[ja g]at q1;exact⟨n,o,u++dds,p1.append (d _ _),g,N,q1⟩
  ·rw[ua g]at q1;exact q1.elim
 ·exact QD F M B C t r q
variable{P:za}{w:Ma}{K:W.Frag}{mg:qa->Option Value}{base:Heap}
theorem qC{x a:qa}{e:Stmt}{N:List qa}{g:Ev->M Fl}{c:Arguments}{C kV j F d ct Y:Value}{B Z:Option Addr}{q:Array (Option Value)}
  (X:K.lookup f=some ⟨Y,Z,.func (W.fnOf x a c (uj e) (Ec e) C kV j F B d ct),q⟩) (p:W.codeIn K d a=true) (S:ra N ps (Ec e))
  (U:∀ (A:Ha) (b:List Ih) (s:Shared) (H:Hp) (E:XK),Ce k (A.deeper (Sg a (Ec e) s.heap.objs.size f d))->Ao T (Wq (sm P w) P w K mg base N a (Ec e) f d A b s H E) (uj e) g) :
  Ei P w K mg base (sm P w) (k+1) f (W.fnOf x a c (uj e) (Ec e) C kV j F B d ct) ps (uq T ps.length (Gd N.length g)):=by
 refine aQ X p S (λvs H Q E h=>?_) (λA b s H vs Q E V h=>?_)
 ·obtain⟨G,v,l,o,D,_⟩:=h;rw[<-o.length];exact D
 ·obtain⟨G,v,l,o,D,R,i⟩:=h;refine⟨_,U A b s H E V,G,_,v,È o,R,?_⟩;unfold Gd at i;cases m:g (l.map some++List.replicate (N.length - l.length) none) v with
  |Sb=>rw[m]at i;exact i
  |ex x y=>rw[m]at i;exact i.elim
  |ok O y=>
   rw[m]at i;intro u n I J r q1;have p1:=i.mono J;cases O with
   |nx ρ2=>cases n with
    |nx t=>have z:=Zb.here p1 r (by rw[Ia]);exact z
    |_=>exact q1.elim
   |rt d2=>cases n with
    |rt v2=>have z:=Zb.here p1 r q1;exact z
    |_=>exact q1.elim
   |xc ρ2 x2=>cases n with
    |xc t c2 L=>
     obtain⟨_,rfl,rfl⟩:=q1;exact Ô (p1 u I (Se.refl _ _) r)
    |_=>exact q1.elim
   |_=>exact p1.elim
theorem OG(F:Ei P w K mg base (sm P w) k f fd ps (uq T ps.length fn)):Ei P w K mg base (sm P w) k f fd ps (uq T ps.length (λa=>Vb (fn a))):=
 F.imp λj H Q E h=>by
  obtain⟨g,i,a,c,d,b,e⟩:=h;exact⟨g,i,a,c,d,b,Zb.Vb b e⟩
end
noncomputable def Kk(d:Ih)(a:List (qa × ig))(acc:List (qa × Addr)):List (qa × Addr):=
 a.foldl (λb y=>if (y.2 == .free)=true then (match d.cells.lookup y.1 with|some c=>(y.1,c)::b|none=>b)else b) acc
theorem cM(b:Ih):∀ (d:List (qa × ig)) (acc:List (qa × Addr)),(∀ y∈d,y.2=.free->∃ c,b.cells.lookup y.1=some c)->
  (forIn d acc (λx (cs:List (qa × Addr))=>match x with|(name,kind)=>if (kind == .free)=true then (do let a <-cellOf b name;pure (ForInStep.yield ((name,a)::cs)))else pure (ForInStep.yield cs)):Io (List (qa × Addr)))=pure (Kk b d acc)
 |[],acc,_=>rfl
 |(n,k)::r,acc,h=>by
  rw[List.forIn_cons];by_cases e:(k == qb)=true
  ·obtain⟨c,i⟩:=h (n,k) Ua (by simpa using e);have j:cellOf b n=pure c:=by unfold cellOf;rw[i]
   simp only[e,j];show (forIn r ((n,c)::acc) _:Io (List (qa × Addr)))=_;rw[cM b r ((n,c)::acc) λy g=>h y (Ka _ g)];have f:Kk b ((n,k)::r) acc=Kk b r ((n,c)::acc):=by
    unfold Kk;rw[qz];simp only[e,vm,i]
   rw[f]
  ·simp only[e];show (forIn r acc _:Io (List (qa × Addr)))=_;rw[cM b r acc λy g=>h y (Ka _ g)];have f:Kk b ((n,k)::r) acc=Kk b r acc:=by
    unfold Kk;rw[qz];simp only[e];rfl
   rw[f]
theorem aK(b:Ih)(a:Scope)(h:∀ y∈a.names,y.2=.free->∃ c,b.cells.lookup y.1=some c):closureFor a b=pure (Kk b a.names []):=by
 have e:=cM b a.names [] h;unfold closureFor;simp only[bind_pure];exact e
theorem vK(a:Ih):∀ (b:List (qa × ig)) (acc:List (qa × Addr)) (n:qa) (c:Addr),(∀ n c,acc.lookup n=some c->a.cells.lookup n=some c)->(Kk a b acc).lookup n=some c->a.cells.lookup n=some c
 |[],acc,n,c,h,e=>h n c e
 |(y,k)::r,acc,n,c,h,e=>by
  refine vK a r _ n c (λn c q=>?_) e;by_cases g:(k == qb)=true
  ·simp only[g,vm]at q;cases d:a.cells.lookup y with
   |none=>rw[d]at q;exact h n c q
   |some i=>
    rw[d]at q;rw[Va]at q;cases f:(n == y)with
    |true=>rw[f]at q;cases q;rw[eq_of_beq f];exact d
    |false=>rw[f]at q;exact h n c q
  ·simp only[g]at q;exact h n c q
theorem KQ(a:Ih):∀ (b:List (qa × ig)) (acc:List (qa × Addr)) (n:qa),(∃ c,acc.lookup n=some c)->∃ c,(Kk a b acc).lookup n=some c
 |[],acc,n,h=>h
 |(y,k)::r,acc,n,h=>by
  refine KQ a r _ n ?_;by_cases d:(k == qb)=true
  ·simp only[d,vm];cases f:a.cells.lookup y with
   |none=>exact h
   |some e=>
    rw[Va];cases g:(n == y)with
    |true=>exact⟨e,rfl⟩
    |false=>exact h
  ·simp only[d];exact h
theorem JD(b:Ih):∀ (a:List (qa × ig)) (acc:List (qa × Addr)) (n:qa),(n,qb)∈a->(∃ c,b.cells.lookup n=some c)->∃ c,(Kk b a acc).lookup n=some c
 |[],acc,n,h,_=>nomatch h
 |(y,k)::r,acc,n,h,d=>by
  rcases Da.mp h with e|e
  ·cases e;refine KQ b r _ _ ?_;obtain⟨c,d⟩:=d;refine⟨c,?_⟩;simp[d]
  ·exact JD b r _ n e d
theorem iN{a:Ih}:∀ {c:List (qa × ig)} {x:qa} {k:ig},
  (c.map λ(n,k)=>if (k == qb && a.scope.kind == .function && a.kindOf n == some .cell)then (n,sd)else (n,k)).lookup x=some k->∃ d,c.lookup x=some d/\(k=d\/(d=.free/\k=.cell))
 |[],_,_,h=>by simp at h
 |(n,d)::r,x,k,h=>by
  have g:=@iN a r x k;have b:List.lookup x ((if (d == qb && a.scope.kind == .function && a.kindOf n == some .cell)=true then (n,sd)else (n,d))::(r.map λ(n,k)=>if (k == qb && a.scope.kind == .function && a.kindOf n == some .cell)then (n,sd)else (n,k)))=some k:=h;cases f:x == n with
  |true=>
   by_cases e:(d == qb && a.scope.kind == .function && a.kindOf n == some .cell)=true
   ·rw[ja e]at b;simp only[Va,f]at b ⊢;cases b;simp only[Ea]at e;exact⟨d,rfl,.inr ⟨by simpa using e.1.1,rfl⟩⟩
   ·rw[ua e]at b;simp only[Va,f]at b ⊢;cases b;exact⟨d,rfl,.inl rfl⟩
  |false=>
   by_cases e:(d == qb && a.scope.kind == .function && a.kindOf n == some .cell)=true
   ·rw[ja e]at b;simp only[Va,f]at b ⊢;exact g b
   ·rw[ua e]at b;simp only[Va,f]at b ⊢;exact g b
theorem ZT{env:Ih}:∀ {a:List (qa × ig)} {x:qa},a.lookup x=some .free->
  (a.map λ(n,k)=>if (k == qb && env.scope.kind == .function && env.kindOf n == some .cell)then (n,sd)else (n,k)).lookup x=some .cell\/
  (a.map λ(n,k)=>if (k == qb && env.scope.kind == .function && env.kindOf n == some .cell)then (n,sd)else (n,k)).lookup x=some .free
 |[],_,h=>by simp at h
 |(n,k)::r,x,h=>by
  have f:=@ZT env r x;have b:∀ z,List.lookup x ((if (k == qb && env.scope.kind == .function && env.kindOf n == some .cell)=true then (n,sd)else (n,k))::(r.map λ(n,k)=>if (k == qb && env.scope.kind == .function && env.kindOf n == some .cell)then (n,sd)else (n,k)))=z->
   (List.map (λ(n,k)=>if (k == qb && env.scope.kind == .function && env.kindOf n == some .cell)then (n,sd)else (n,k)) ((n,k)::r)).lookup x=z:=λz e=>e
  cases c:x == n with
  |true=>
   simp only[Va,c]at h;cases h;by_cases d:(qb == qb && env.scope.kind == .function && env.kindOf n == some .cell)=true
   ·exact .inl (b _ (by rw[ja d];simp only[Va,c]))
   ·exact .inr (b _ (by rw[ua d];simp only[Va,c]))
  |false=>
   simp only[Va,c]at h;have e:List.lookup x ((if (k == qb && env.scope.kind == .function && env.kindOf n == some .cell)=true then (n,sd)else (n,k))::(r.map λ(n,k)=>if (k == qb && env.scope.kind == .function && env.kindOf n == some .cell)then (n,sd)else (n,k))) =
     (r.map λ(n,k)=>if (k == qb && env.scope.kind == .function && env.kindOf n == some .cell)then (n,sd)else (n,k)).lookup x:=by
    by_cases d:(k == qb && env.scope.kind == .function && env.kindOf n == some .cell)=true
    ·rw[ja d];simp only[Va,c]
    ·rw[ua d];simp only[Va,c]
   rcases f h with q|q
   ·exact .inl (b _ (e.trans q))
   ·exact .inr (b _ (e.trans q))
theorem Fx{a:List (qa × ig)}{x:qa}{k:ig}(h:a.lookup x=some k):(x,k)∈a:=Lf h
noncomputable def Vv(X:Cx)(b:List qa)(a:Scope)(cl:List (qa × Addr))(C:Addr)(s₀:Shared)(H₀:Hp)(ex:List Addr):Cx:=
 { X with N:=b,s₀:=s₀,H₀:=H₀,env:=compEnvC a cl C X.env,outer:=X.stack,stack:=X.stack,ex:=ex,fn:=λ_=>false,pn:=[],xe:=λ_ _=>False }
structure Dp(X:Cx)(x:qa)(M':List qa)(ix:List Nat)(scope:Scope):Prop where
 kind:scope.kind=.function
 cell:(scope.names.all λy=>!(y.2 == .cell))=true
 names:(scope.names.all λy=>!(y.2 == .local) || scope.names.lookup y.1 == some .local)=true
 free:(scope.names.all λy=>!(y.2 == .free) || (X.env.scope.names.lookup y.1 == some .cell || X.env.scope.names.lookup y.1 == some .free))=true
 at_:ix.map (λi=>X.N[i]?)=M'.map some
 yR:(M'.all λy=>(X.env.scope.names.lookup y == some .cell || X.env.scope.names.lookup y == some .free) && scope.names.lookup y == some .free)=true
noncomputable def tK(a:List Nat)(b:Ev):Ev:=none::a.map λi=>(b[i]?).getD none
noncomputable def MP(a:List Nat)(b:St):St:=none::a.map λi=>(b[i]?).getD none
theorem qO{T:Tb}{m:List Addr}{H:Hp}{a:Ev}{k:St}(f:List Nat)(h:ni T m H a k):ni T m H (tK f a) (MP f k):=by
 refine⟨by simp[tK,MP],λi d e=>?_⟩;cases i with
 |zero=>simp[tK]at e
 |succ j=>
  have b:(f.map λi=>(a[i]?).getD none)[j]?=some (some d):=e;rw[Xa]at b;cases l:f[j]? with
  |none=>rw[l]at b;cases b
  |some c=>
   rw[l]at b;have g:(a[c]?).getD none=some d:=Ya b;have n:a[c]?=some (some d):=by
    cases q:a[c]? with
    |none=>rw[q]at g;cases g
    |some o=>rw[q]at g;exact Ef some g
   obtain⟨v,p,r⟩:=h.2 c d n;refine⟨v,?_,r⟩;show (f.map λi=>(k[i]?).getD none)[j]?=_;rw[Xa,l];show some ((k[c]?).getD none)=_;rw[p];rfl
section
variable{X:Cx}{pins:List (Addr × Obj)}{st:St}{H:Hp}{s:Shared}{x:qa}{M':List qa}{ix:List Nat}{scope:Scope}{fp:List Addr}
theorem K7(L:Dp X x M' ix scope)(y:qa × ig)(a:y∈scope.names)(e:y.2=.free):X.env.kindOf y.1=some .cell\/X.env.kindOf y.1=some .free:=by
 have q:=Dc.mp L.free y a;rw[e]at q;simp only[IW,Bool.not_true,LB,di]at q;rcases q with q|q
 ·exact .inl (eq_of_beq q)
 ·exact .inr (eq_of_beq q)
theorem dB(I:Qa X pins st H s)(L:Dp X x M' ix scope):∀ y∈scope.names,y.2=.free->∃ c,X.env.cells.lookup y.1=some c:=λy a e=>I.ok.has y.1 (K7 L y a e)
theorem uD(L:Dp X x M' ix scope):∀ y∈scope.names,y.2≠.cell:=λy a e=>by
 have q:=Dc.mp L.cell y a;rw[e]at q;simp at q
end
def eq{a:Type}(m:M a):M a:=λb=>match m b with
 | .ex _ _=>.Sb
 |o=>o
theorem Zb.Iw{j t u v:Type}{T:Tb}{E E0:XK}{R:List Addr->Hp->j->u->Prop}{p:List Addr->Hp->t->v->Prop}{l:List Addr}{H:Hp}{m:M j}{k:j->M t}{i:xb}{Q:v->Hp->Prop}{o:u->Hp->Prop}
  (h:Zb T E p l H (Ld (eq m) k i) Q) (f:∀ a b c g d,m i=.ok a b->Se l H c d->ee T c d b->R c d a g->Zb T E p c d (k a b) Q->o g d):Zb T E0 R l H (m i) o:=by
 unfold Ld eq at h;cases e:m i with
 |ok a b=>
  simp only[e]at h;exact λn g w s r q=>f a b n g w e s r q (h.mono s)
 |ex x b=>simp only[e]at h;exact h.elim
 |Sb=>simp only[e]at h;exact h
def uF(T:Tb)(X:Cx)(b:List Fa)(f:Ev->M Bool):Prop:=
 ∀ (a:List (Addr × Obj)) (s:Shared) (st:St) (H:Hp) (Q:Bool->Hp->Prop),Qa X a st H s->tT T X f st H Q->
  wpAny (model X.prog X.w) X.A (forIn b true λc r=>if r=true then do let ok <-PB c X.env (Ib c X.env);pure (ForInStep.yield ok)else pure (ForInStep.yield r)) (TP X a st Q) X.xe s
noncomputable def Oj:Ev->M Bool:=λ_=>ret true
section
variable{T:Tb}{X:Cx}
theorem Tu:uF T X [] Oj:=by
 intro a s e H Q I h;obtain⟨f,g,i,d,c,b⟩:=h;exact wpAny_tests_nil ⟨H,I,Zb.here b c rfl⟩
theorem qK{c:Fa}{f:Ev->M Bool}(h:FT T X c f):uF T X [c] f:=λa s d H Q I b=>wpAny_tests_one (h a s d H Q I b)
theorem l6{i ex:List Addr}{H g:Hp}{h j k:Heap}{C:Addr}(u:Un i ex H g h j)(d:Fd C j k)(l:h.objs.size<=C):Un i ex H g h k:=by
 have f:∀ b o,h.get? b=some o->b≠C:=λb o e=>ya (Ga (va e) l);refine⟨λb o e n c a=>(d.2 b (f b o e)).trans (u.keep b o e n c a),λb o e n c a=>?_,u.free,λb o e a=>?_,u.Vj,u.Ti,u.Gj⟩
 ·obtain⟨p,q⟩:=u.slot b o e n c a;exact⟨p,(d.2 b (f b o e)).trans q⟩
 ·obtain⟨m,q⟩:=u.there b o e a;exact⟨m,(d.2 b (f b o e)).trans q⟩
theorem ο{P:za}{w:Ma}{H:Hp}{d f:Heap}{C:Addr}(ok:xj P w H d)(h:Fd C d f)(g:H C=none):xj P w H f:=λb i e=>by
 refine(ok b i e).cm (λc j a q=>(h.2 c ?_).trans q) (λ_ q=>q) λ_ _ q=>q;rintro rfl;rcases a with rfl|a
 ·rw[g]at e;cases e
 ·rw[g]at a;cases a
theorem O5{E:XK}{b:List Addr}{H:Hp}{c:xb}{n:Nat}{a:Addr}{y:D}{v:V}{Q:VK}(r:ee T b H c)(d:b[n]?=some a)(e:Ia T b H y v)(h:Zb T E (Ia T) b H (zt (.ref n) [y] c) Q):CL (.ref a) [v] H Q:=
 DN E b H c (.ref n) [y] (.ref a) [v] Q r (by rw[Ia];exact⟨a,rfl,d⟩) (gb.cons e gb.nil) h
theorem NI{b c:Type}{m m':M b}{k:b->M c}{a:xb}(h:m a=m' a):Ld m k a=Ld m' k a:=by unfold Ld;rw[h]
theorem SL{b c d:Type}{m:M b}{k:b->M c}{l:c->M d}:Ld (Ld m k) l=Ld m λa=>Ld (k a) l:=by
 funext e;unfold Ld;cases m e<;>rfl
end
def rF(x y:D):M D:=λa=>match Mh a x,Mh a y with
 |some xs,some b=>if xs.length+b.length<=zi then .ok (.Ca (xs++b)) a else .Sb
 |_,_=>.Sb
def vl(x y:D):M D:=match x,y with
 | .int i,.int j=>ret (.int (i+j))
 | .ub xs,.ub c=>if xs.length+c.length<=zi then ret (.ub (xs++c))else Sb
 | .str a,.str b=>if a.length+b.length<=100000 then ret (.str (a++b))else Sb
 |x,y=>rF x y
theorem õ{n:Nat}(h:n<=100000):n<=sizeLine:=Wb h (by decide)
section
variable{T:Tb}{X:Cx}{a b c:Fa}{fa fb fc:Ev->M D}{pos:Me}
theorem Ē{c:za}{w:Ma}{A:Ha}{F:Value->Shared->Prop}{s:Shared}{t b:Addr}{l:List Value}{Q:Value->Shared->Prop}(v:yw s.heap t (#[]:Array Value))(q:yw s.heap b l.toArray)(p:Q (.ref b) s):wpAny (model c w) A (Dg .Add (.ref t) (.ref b)) Q F s:=by
 obtain⟨⟨m,o,j,y⟩,k,r,n,u⟩:=id v;obtain⟨⟨i,e,d,h⟩,a,f,x,g⟩:=id q;subst r u f g;exact kx ⟨_,k,rfl⟩ ⟨_,a,rfl⟩ Hs Ov qj Zi (Ii _ _)
  (tuple_addW0 t b #[] l.toArray n x o e y h rfl) ⟨k,a,p⟩
theorem KH{E:XK}{d:List Addr}{H:Hp}{e:xb}{x y:D}{v u:V}{j i:Value}{Q:VK}{b:List (Addr × Obj)}{s:Shared}{h:St}(I:Qa X b h H s)(F:ie v j)(C:ie u i)(r:ee T d H e)(z:Ia T d H x v)(B:Ia T d H y u)(a:Zb T E (Ia T) d H (rF x y e) Q) :
  wpAny (model X.prog X.w) X.A (Dg .Add j i) (EP X b h Q) X.xe s:=by
 unfold rF at a;cases c:Mh e x with
 |none=>rw[c]at a;exact a.elim
 |some xs=>
  cases f:Mh e y with
  |none=>rw[c,f]at a;exact a.elim
  |some K=>
   rw[c,f]at a;dsimp only at a;by_cases g:xs.length+K.length<=zi
   ·rw[ja g]at a;obtain⟨p,G,rfl,n,k⟩:=r.ls z c;obtain⟨q,J,rfl,o,m⟩:=r.ls B f;exact o7 b s h H _ _ j i Q I F C ⟨p,q,G,J,rfl,rfl,n,o,by rw[<-k.length,<-m.length];exact UA g,λl t=>xH a r (gb.append k m) t⟩
   ·rw[ua g]at a;exact a.elim
theorem Α(S:T.K=X.K):yj X (Dg .Add) (rD T vl):=by
 intro d s B H v u D C Q I m k h;obtain⟨E,W,Y,x,y,r,f,g,c⟩:=h;cases x with
 |int i=>
  cases y with
  |int j=>exact yna d s B H v u D C Q I m k ⟨i,j,Fv f,Fv g,Zb.here c r (by rw[Ia])⟩
  |_=>exact KH I m k r f g c
 |str a=>
  cases y with
  |str b=>
   unfold vl at c;dsimp only at c;by_cases n:a.length+b.length<=100000
   ·rw[ja n]at c;exact U4 d s B H v u D C Q I m k ⟨a,b,by simpa [Ia]using f,by simpa [Ia]using g,õ n,Zb.here c r (by rw[Ia])⟩
   ·rw[ua n]at c;exact c.elim
  |_=>exact KH I m k r f g c
 |ub xs=>
  cases y with
  |ub L=>
   unfold vl at c;dsimp only at c;by_cases n:xs.length+L.length<=zi
   ·rw[ja n]at c;have z:=f;have A:=g;obtain⟨p,P,rfl,F,t⟩:=f;obtain⟨q,R,rfl,G,w⟩:=g;cases P with
    |nil=>
     have o:xs=[]:=by have:=t.length;simpa using this
     subst o;cases m;cases k;obtain⟨its,q1,N,_⟩:=L2.Qa.tuple I (Wi.of F);obtain⟨J,U,O,_⟩:=L2.Qa.tuple I (Wi.of G);cases q1;exact Ē N O ⟨.ref q,H,I,rfl,Zb.here c r (by simpa using A)⟩
    |cons v0 V=>
     refine J8 d s B H _ _ D C Q I m k ⟨p,q,_,R,rfl,rfl,Wi.of F,Wi.of G,by simp,?_,λe=>?_,λe l M=>?_⟩
     ·rw[<-t.length,<-w.length];exact UA n
     ·subst e;have o:L=[]:=by have:=w.length;simpa using this
      subst o;exact Zb.here c r (by simpa using z)
     ·exact eN c r (gb.append t w) M
   ·rw[ua n]at c;exact c.elim
  |_=>exact KH I m k r f g c
 |_=>exact KH I m k r f g c
noncomputable def ML(a:D->D->M D)(c:M D)(y:D):D->M D:=Xz (fm (Ld c (a y)) (ret (.bl false)))
def oM(o a:D->D->M D)(c:M D)(x y:D):M D:=Ld (o x y) (ML a c y)
def ON(o a:D->D->M D)(b c:M D)(x:D):M D:=Ld b (oM o a c x)
def pM(o e:D->D->M D)(a b c:Ev->M D):Ev->M D:=λd=>Ld (a d) (ON o e (b d) (c d))
theorem ztr{j d:jt}{r L:R2}{o J:D->D->M D}(Z:yj X (Gc j) r)(hs:rn T r o)(g:yj X (Gc d) L)(i:rn T L J)(U:FE T X a fa)(V:FE T X b fb)(W:FE T X c fc)
  (Y:lastMarks [j,d] [b,c]=false:=by with_unfolding_all rfl):FE T X (.Compare a [j,d] [b,c] pos) (pM o J fa fb fc):=by
 intro e s st H Q I h;refine Ů Z g U V W Y e s st H Q I ?_;obtain⟨μ,q,σ,f,hr,hp⟩:=h;refine⟨μ,q,σ,f,hr,hp.bind λx t l v H1 _ E r1 q1 p1=>⟨l,q,t,f.mono E,r1,p1.bind λy A m w O _ F r2 K p2=>?_⟩⟩;refine hs _ m O A x y v w _ r2 (Ia.mono F _ _ q1) K (p2.bind λz B n u H3 _ G N q3 p3=>?_);obtain⟨k,rfl,S,p4⟩:=LG q3 p3;refine⟨k,S,?_⟩;cases k with
 |true=>
  exact⟨n,q,B,((f.mono E).mono F).mono G,N,p4.bind λz C p u5 P _ R r5 q5 p5=>i _ p P C y z w u5 Q r5 (Ia.mono R _ _ (Ia.mono G _ _ K)) q5 p5⟩
 |false=>unfold fm at p4;rw[ua jb]at p4 ⊢;exact Zb.here p4 N (by rw[Ia])
theorem Fh{k:Nat}{A:Ha}(a:Ce k A):A.units+9<cLine:=by have:=a.un;omega
end
def Nh(K:W.Frag)(d:qa->Option Value)(x:qa)(e:Stmt)(c:List qa):Prop:=
 ∃ f b,d x=some (.ref f)/\Mz K x x e f b/\∀ a:List Value,a.length=c.length->bindArgs b ⟨a,[]⟩=pure (c.zip a)
def Ig(T:Tb)(P:za)(w:Ma)(e:qa->Option Value)(a:Heap)(k:Nat)(x:qa)(b:List qa)(g:List D->M D):Prop:=
 ∃ f d,e x=some (.ref f)/\W.keepIn T.K (.ref f)=true/\(∀ c:List Value,c.length=b.length->bindArgs d ⟨c,[]⟩=pure (b.zip c))/\Ei P w T.K e a (sm P w) k f d b (uq T b.length g)
section
variable{T:Tb}{X:Cx}
theorem ztq{k:Nat}{m:List qa}{g:List D->M D}{x:qa}{p b:Me}{e:Fa}{a:List Fa}{i:Ev->M (List D)}(h:Ig T X.prog X.w X.mg X.base k x m g)(n:T.K=X.K)(u:Ce k X.A)(s:Gl X x)
  (o:FA T X (e::a) i) (c:(x == ("__debug__" : qa))=false:=by decide) (r:la (e::a) X.env=(false,Ib e X.env)::la a X.env:=by rfl) (d:(Bc b (la a X.env)).any (·.1)=false:=by rfl) :
  FE T X (.Call (.Name x p) (e::a) [] b) (Je m.length g [] i):=by
 obtain⟨f,v,t,l,q,j⟩:=h;rw[n]at l j;exact qV j u s t l (.all q) .nil (λ_ _=>gb.nil) o c r d
variable{P:za}{w:Ma}{K:W.Frag}{mg:qa->Option Value}{base:Heap}{ca:Nat->Addr}{tx:Tx}
theorem XT{k:Nat}{x:qa}{c:Stmt}{i N:List qa}{g:Ev->M Fl}(h:Nh K mg x c i)(S:ra N i (Ec c))
  (l:∀ (f:Addr) (a:Value) (A:Ha) (b:List Ih) (s:Shared) (H:Hp) (E:XK),Ce k (A.deeper (Sg x (Ec c) s.heap.objs.size f a))->Ao ⟨K,ca,tx⟩ (Wq (sm P w) P w K mg base N x (Ec c) f a A b s H E) (uj c) g) :
  Ig ⟨K,ca,tx⟩ P w mg base (k+1) x i (Gd N.length g):=by
 obtain⟨f,q,m,F,d⟩:=h;obtain⟨r,t,kV,j,u,p,a,ct,o,rfl,n,e⟩:=F.ex;exact⟨f,_,m,F.kp,d,qC n e S (l f a)⟩
theorem Ig.Vb{k:Nat}{x:qa}{b:List qa}{a:List D->M D}(h:Ig T P w mg base k x b a):Ig T P w mg base k x b (λc=>L4.Vb (a c)):=by
 obtain⟨f,d,e,g,i,j⟩:=h;exact⟨f,d,e,g,i,OG j⟩
theorem pR{h:Heap}{x:qa}{e:Stmt}{m:List qa}{f:Addr}{p:Value}{q g:Option Addr}{j:Array (Option Value)}{kV d i b ct:Value}(X:K.In h)(G:h.Ns mainGlobals mg)
  (o:∀ (kV d i:Value) (g:Option Addr) (b ct:Value) (n:List Value),n.length=m.length->bindArgs (W.fnOf x x (En e) (uj e) (Ec e) .none kV d i g b ct) ⟨n,[]⟩=pure (m.zip n))
  (a:W.nsIn K mainGlobals x=some (some (.ref f))) (l:K.lookup f=some ⟨p,q,.func (W.fnOf x x (En e) (uj e) (Ec e) .none kV d i g b ct),j⟩)
  (c:W.codeIn K b x=true) (k:W.keepIn K (.ref f)=true):Nh K mg x e m:=
 ⟨f,_,Qv X G a,xP l c k,o kV d i g b ct⟩
theorem l7{h:Heap}{x:qa}{i:Int}{t:Tok}(X:K.In h)(G:h.Ns mainGlobals mg)(a:W.nsIn K mainGlobals x=some (some (.int i t))):∃ t,mg x=some (.int i t):=⟨t,Qv X G a⟩
end
def NM(T:Tb)(P:za)(w:Ma)(e:qa->Option Value)(k:Nat)(x:qa)(b:List qa)(g:List D->M D):Prop:=
 ∃ f d,e x=some (.ref f)/\(∀ c:List Value,c.length=b.length->bindArgs d ⟨c,[]⟩=pure (b.zip c))/\∀ a:Heap,Ei P w T.K e a (sm P w) k f d b (uq T b.length g)
theorem XW{P:za}{w:Ma}{K:W.Frag}{j:qa->Option Value}{m:Nat->Addr}{tx:Tx}{k:Nat}{x:qa}{d:Stmt}{l N:List qa}{g:Ev->M Fl}(h:Nh K j x d l)(S:ra N l (Ec d))
  (o:∀ (a:Heap) (f:Addr) (b:Value) (A:Ha) (c:List Ih) (s:Shared) (H:Hp) (E:XK),Ce k (A.deeper (Sg x (Ec d) s.heap.objs.size f b))->Ao ⟨K,m,tx⟩ (Wq (sm P w) P w K j a N x (Ec d) f b A c s H E) (uj d) g) :
  NM ⟨K,m,tx⟩ P w j (k+1) x l (Gd N.length g):=by
 obtain⟨f,u,p,F,e⟩:=h;obtain⟨v,y,kV,n,z,t,b,ct,r,rfl,q,i⟩:=F.ex;exact⟨f,_,p,e,λa=>qC q i S (o a f b)⟩
theorem S3{K:W.Frag}{h:Heap}{C:Addr}{c:List Value}{a:String}(k:K.In h)(f:W.excIn K C c a=true) :
  ∃ g N x y n j z e m d o r s t u v B,h.get? C=some (excClassObj x y C N n g j z e m d o r s t u v a)/\h.Ns N B/\B "__init__" = none/\OwnTail h c g:=by
 unfold W.excIn at f;split at f
 ·rename_i o b Q M
  split at f
  ·rename_i D g r s t u w v i p
   have q:((((D=C/\w=a)/\b.hasDel=false)/\W.tailIn K c g=true)/\W.nsOkIn K b.ns=true)/\W.nsIn K b.ns "__init__" = some none:=by
    simpa using f
   obtain⟨⟨⟨⟨⟨E,F⟩,G⟩,H⟩,A⟩,I⟩:=q;subst E;subst F;obtain⟨x,n,O,P,y,L,z,e,m,d,J⟩:=b;cases i;cases G;obtain⟨l⟩:=Q;cases p;exact⟨g,P,x,y,n,L,z,e,m,d,o,r,s,t,u,v,_,k _ _ M,.of_isNs (W.isNs_of_in k A),W.nsMap_none_of_in k A I,W.tail_of_in k H⟩
  ·cases f
 ·cases f
def rG(c:Nat)(b:Ev)(a:List D):M Fl:=if a.length<=zi then ret (.xc b ⟨c⟩)else Sb
def Jy(c:Nat)(b:Ev->M (List D)):Ev->M Fl:=λa=>xs a (b a) (rG c a)
section
variable{T:Tb}{X:Cx}
theorem zB(c:Nat){x:qa}{B b d:String}{j:List Value}{np a A:Me}{e:Fa}{i:List Fa}{Q:Ev->M (List D)}(G:ExcBaseFacts B b d j)(hK:T.K=X.K)(S:W.excIn T.K (T.ca c) j b=true)(hm:X.mg x=some (.ref (T.ca c)))
  (hg:Gl X x) (hc:X.Vh=true) (ha:FA T X (e::i) Q) (v:(x == ("__debug__" : qa))=false:=by decide) (R:la (e::i) X.env=(false,Ib e X.env)::la i X.env:=by rfl)
  (z:(Bc a (la i X.env)).any (·.1)=false:=by rfl) (w:dC c=none:=by rfl):FS T X (.Raise (some (.Call (.Name x np) (e::i) [] a)) none A) (Jy c Q):=by
 intro n s C H D I hw;obtain⟨μ,ρ,σ,u,hr,hp⟩:=hw;rw[hK]at S;obtain⟨L,N,nm,qn,O,f,sn,o,J,k,P,U,V,Y,Z,k5,mN,hC,hN,y,tl⟩:=S3 I.ok.mod.Ex S;have m:(Bc a (la (e::i) X.env)).any (·.1)=false:=by
  rw[R];show (false || (Bc a (la i X.env)).any (·.1))=false;rw[z];rfl
 refine wpAny_Raise_call_subT (nm:=nm) (q:=qn) (N:=N) (bs:=O) (bm:=L) (hdct:=f) (sn:=sn) (sub:=o) (ab:=J) (col:=k) (dd:=P) (k0:=U) (k1:=V) (k2:=Y) (k3:=Z) (k5:=k5) G (tl.hasType G.hasBase) (I.ok.hd hc) m y (MA I hg hm ⟨rfl,?_⟩ v);have h:=ha a n s C H (λF t=>F.length<=zi/\kC X C (T.cv ⟨c⟩) none t) I ⟨μ,ρ,σ,u,hr,hp.xs u λds a1 a0 F t _ e1 r1 q1 p1=>by
  unfold rG at p1;by_cases l:ds.length<=zi
  ·rw[ja l]at p1;exact⟨by rw[<-q1.length];exact l,Zb.here (g:=nu.xc C (T.cv ⟨c⟩) none) p1 r1 ⟨u.mono e1,rfl,w.symm⟩⟩
  ·rw[ua l]at p1;exact p1.elim⟩
 rw[R]at h ⊢;refine Ak (Re h λus s1 ⟨F,t,p,r,l,E⟩=>?_);exact⟨rfl,by rw[<-r.length];exact UA l,p.bk _ _ hC,hN.keeps p.bk,tl.keeps p.bk,λh' ea hx=>E.made p hx⟩
end
structure Hd where
 t:Nat->Option Bool
 nm:Option Nat
 g:Ev->M Fl
noncomputable def kH(i:Nat):Fl->M Fl
 | .nx a=>ret (.nx (a.set i none))
 | .rt d=>ret (.rt d)
 | .bk a=>ret (.bk (a.set i none))
 | .ct a=>ret (.ct (a.set i none))
 | .xc _ _=>Sb
noncomputable def HR:Fl->M Fl
 | .nx a=>ret (.nx a)
 | .rt d=>ret (.rt d)
 | .bk a=>ret (.bk a)
 | .ct a=>ret (.ct a)
 | .xc _ _=>Sb
def hit(h:Hd)(a:Ev)(x:Xn):M Fl:=match h.nm with
 |none=>Ld (h.g a) HR
 |some i=>Ld (h.g (a.set i (some (.Vr x.cls)))) (kH i)
def Wx(a:Ev)(x:Xn):List Hd->M Fl
 |[]=>Sb
 |h::r=>match h.t x.cls with
  |some true=>hit h a x
  |some false=>Wx a x r
  |none=>Sb
def GH(b:List Hd):Fl->M Fl
 | .xc a x=>Wx a x b
 | .nx a=>ret (.nx a)
 | .rt d=>ret (.rt d)
 | .bk a=>ret (.bk a)
 | .ct a=>ret (.ct a)
def NN(g:Ev->M Fl)(a:List Hd):Ev->M Fl:=λb=>Ld (g b) (GH a)
noncomputable abbrev Cx.Px(X:Cx)(e:Value):Cx:={ X with A:=X.A.mark (some e),Vh:=false,xe:=λ_ _=>False }
abbrev Cx.UG(X:Cx)(a:List (Addr × Obj))(xe:Value->Shared->Prop):Cx:={ X with xe:=xe,pn:=X.pn++a }
section
variable{T:Tb}{X:Cx}{pins:List (Addr × Obj)}{st:St}{H:Hp}{s:Shared}{e:Value}{xe:Value->Shared->Prop}
theorem j9(I:Qa X pins st H s):Qa (Cx.UG X pins xe) [] st H s:=
 ⟨⟨I.ok.mod,I.ok.kind,I.ok.glob,I.ok.blt,I.ok.above,I.ok.inj,I.ok.has,I.ok.aA,I.ok.hd,I.ok.frames,I.ok.Zr,I.ok.GA,I.ok.bs,I.ok.su,I.ok.Ht,I.ok.Pt,I.ok.xk,I.ok.Kw⟩,I.os,I.bare,I.base,I.loc,I.cell,I.free,I.lh,λp a=>I.pin p (by simpa using a),I.md,I.len⟩
theorem iE{p1:List (Addr × Obj)}(I:Qa (Cx.UG X pins xe) p1 st H s):Qa X pins st H s:=
 ⟨⟨I.ok.mod,I.ok.kind,I.ok.glob,I.ok.blt,I.ok.above,I.ok.inj,I.ok.has,I.ok.aA,I.ok.hd,I.ok.frames,I.ok.Zr,I.ok.GA,I.ok.bs,I.ok.su,I.ok.Ht,I.ok.Pt,I.ok.xk,I.ok.Kw⟩,I.os,I.bare,I.base,I.loc,I.cell,I.free,I.lh,λp a=>I.pin p (Ra _ a),I.md,I.len⟩
theorem YA(I:Qa X pins st H s):Qa (Cx.Px X e) pins st H s:=
 ⟨⟨I.ok.mod,I.ok.kind,I.ok.glob,I.ok.blt,I.ok.above,I.ok.inj,I.ok.has,I.ok.aA,λz=>(by cases z),I.ok.frames,I.ok.Zr,I.ok.GA,I.ok.bs,I.ok.su,I.ok.Ht,I.ok.Pt,I.ok.xk,I.ok.Kw⟩,I.os,I.bare,I.base,I.loc,I.cell,I.free,I.lh,I.pin,I.md,I.len⟩
theorem GF(ok:X.Ok)(I:Qa (Cx.Px X e) pins st H s):Qa X pins st H s:=
 ⟨ok,I.os,I.bare,I.base,I.loc,I.cell,I.free,I.lh,I.pin,I.md,I.len⟩
theorem IZ{D:El}{f:Flow}{c:Shared}(h:SP (Cx.UG X pins xe) [] D f c):SP X pins D f c:=by
 cases f with
 |next=>obtain⟨a,b,I,q⟩:=h;exact⟨a,b,iE I,q⟩
 |brk=>obtain⟨a,b,I,q⟩:=h;exact⟨a,b,iE I,q⟩
 |cont=>obtain⟨a,b,I,q⟩:=h;exact⟨a,b,iE I,q⟩
 |ret u=>obtain⟨v,a,b,I,r,q⟩:=h;exact⟨v,a,b,iE I,r,q⟩
theorem nO(ok:X.Ok){D:El}{f:Flow}{c:Shared}(h:SP (Cx.Px X e) pins D f c):SP X pins D f c:=by
 cases f with
 |next=>obtain⟨a,b,I,q⟩:=h;exact⟨a,b,GF ok I,q⟩
 |brk=>obtain⟨a,b,I,q⟩:=h;exact⟨a,b,GF ok I,q⟩
 |cont=>obtain⟨a,b,I,q⟩:=h;exact⟨a,b,GF ok I,q⟩
 |ret u=>obtain⟨v,a,b,I,r,q⟩:=h;exact⟨v,a,b,GF ok I,r,q⟩
end
def tu(X:Cx)(a:List (Addr × Obj))(g:St)(H:Hp)(s:Shared)(e:Addr)(b:Value)(f:Option Nat):Prop:=∃ c d,Qa X a g c d/\EA X.prog X.w X.stack c d b f H (.ref e) s
section
variable{T:Tb}{X:Cx}{pins:List (Addr × Obj)}{st:St}{H:Hp}{s:Shared}{ea:Addr}{cls:Value}{fd:Option Nat}
theorem tu.inv(L:tu X pins st H s ea cls fd):Qa X pins st H s:=by
 obtain⟨a,c,I,F⟩:=L;exact L2.Qa.Gw I F.os F.un F.md F.bare λb z=>absurd z (by simp)
theorem tu.next(L:tu X pins st H s ea cls fd){M:zl}{A:Ha}{E:Value->Shared->Prop}{Q:Unit->Shared->Prop}(h:∀ l,tu X pins st H l ea cls fd->Q () l):wpAny M A (Fk (.ref ea) none) Q E s:=by
 obtain⟨m,t,I,F⟩:=L;obtain⟨p,n,B,e,g,r,b,k,j,i,q⟩:=F.ex;cases e;refine GL g λv a f c=>h _ ?_;obtain⟨u,d⟩:=YG F j k i g.1 a.1 f (qH I);exact⟨m,t,I,⟨ea,n,B,rfl,a,r,b,k,j,i,q.next c (let ⟨o,e,_⟩:=a.there;⟨o,e⟩)⟩,F.os,F.bare,u,d⟩
theorem tu.obj(L:tu X pins st H s ea cls fd):H ea=none/\(∃ o,s.heap.get? ea=some o/\o.cls=cls)/\∃ b:Shared,b.heap.get? ea=none/\∃ c,Qa X pins st c b:=by
 obtain⟨c,b,I,F⟩:=L;obtain⟨d,h,B,e,f,g,a,l,j,i,k⟩:=F.ex;cases e;exact⟨g,f.there,b,a,c,I⟩
theorem AL{B:Hp}{r:Shared}{a:Addr}{o:Obj}{φ:Heap->Prop}(I:Qa X pins st H s)(h:Qa X pins st B r)(d:r.heap.get? a=none)(D:H a=none)(E:s.heap.get? a=some o)(l:φ s.heap)
  (F:∀ t w:Heap,φ t->(∀ u,t.get? a=some u->w.get? a=some u)->φ w):Qa X pins st (ic H a (.ext φ)) s:=by
 have j:∀ b u,r.heap.get? b=some u->b≠a:=λb u e z=>by rw[z,d]at e;cases e
 have g:∀ b u,H b=some u->b≠a:=λb u e z=>by rw[z,D]at e;cases e
 have G:∀ b u,X.s₀.heap.get? b=some u->b ∉ X.ex->b≠a:=λb u e i=>by obtain⟨L,C⟩:=h.base.there b u e i;exact j b L C
 refine⟨I.ok,I.os,I.bare,⟨I.base.keep,I.base.slot,λb u e n i=>?_,I.base.there,λb xs e=>?_,λb J u e=>?_,λb K e=>?_⟩,I.loc,I.cell,?_,λx c e=>?_,λp A=>?_,λb u e=>?_,I.len⟩
 ·rw[Le (G b u e i)];exact I.base.free b u e n i
 ·have q:=I.base.Vj b xs e;rw[Le (g b _ q)];exact q
 ·have q:=I.base.Ti b J u e;rw[Le (g b _ q)];exact q
 ·obtain⟨f,q⟩:=I.base.Gj b K e;exact⟨f,by rw[Le (g b _ q)];exact q⟩
 ·obtain⟨m,⟨u,_,_,k,_⟩,_⟩:=h.loc;rw[Le (j _ u k)];exact I.free
 ·obtain⟨v,u,k,_⟩:=h.cell x c e;rw[Le (j _ u k)];exact I.lh x c e
 ·obtain⟨p1,p2,p3⟩:=I.pin p A;refine⟨p1,?_,p3⟩;rw[Le (j _ _ (h.pin p A).1)];exact p2
 ·by_cases y:b=a
  ·subst y;rw[Hh]at e;cases e;exact⟨l,⟨o,E⟩,F⟩
  ·rw[Le y]at e;exact(I.md b u e).cm (λc v _ q=>q) (λc q=>by rw[Le (g c _ q)];exact q) λc xs q=>by rw[Le (g c _ q)];exact q
theorem OR{C a:Addr}{d:Option Addr}:∀ b c:Heap,ay C d a b->(∀ u,b.get? a=some u->c.get? a=some u)->ay C d a c:=λb c ⟨u,e,q⟩ k=>⟨u,k u e,q⟩
theorem ω{a:Addr}{n:Nat}:∀ b c:Heap,GG a n b->(∀ u,b.get? a=some u->c.get? a=some u)->GG a n c:=λb c ⟨u,d,q⟩ k=>⟨u,k u d,q⟩
theorem tu.VD(L:tu X pins st H s ea (.ref C) fd):∃ w g,Qa X pins st g s/\g ea=some (.ext (ay C w ea))/\(∀ n,fd=some n->∃ a,w=some a/\H a=none/\g a=some (.ext (GG a n)))/\(∀ b u,H b=some u->g b=some u)/\∀ b u,g b=some u->H b=some u\/H b=none:=by
 have I:=L.inv;obtain⟨P,U,p,F⟩:=L;obtain⟨J,Q,B,e,k,d,c,T,S,R,K⟩:=F.ex;cases e;obtain⟨o,f,x⟩:=k.there;cases t:fd with
 |none=>
  have r:=AL (φ:=ay C none ea) I p c d f ⟨o,f,x,λ_ z=>by cases z⟩ OR;refine⟨none,_,r,Hh,(λn q=>by cases q),λb u e=>?_,λb u e=>?_⟩
  ·rw[Le (λz=>by rw[z,d]at e;cases e)];exact e
  ·by_cases h:b=ea
   ·rw[h];exact .inr d
   ·rw[Le h]at e;exact .inl e
 |some n=>
  obtain⟨a,A,D,q1,M,E,N,l,O⟩:=K n t;have v:D=o:=by rw[f]at q1;cases q1;rfl
  subst v;have i:=k.1 a A E;have j:a≠ea:=λz=>by
   have:=k.2.1;rw[<-z,E]at this;cases this
  have r:=AL (φ:=ay C (some a) ea) I p c d f ⟨D,f,x,λ_ z=>by cases z;exact⟨M,k.TK f⟩⟩ OR;have G:=AL r p O (by rw[Le j];exact l) i ⟨A,i,N⟩ ω;refine⟨some a,_,G,by rw[Le (Te j)];exact Hh,λm q=>?_,λb u e=>?_,λb u e=>?_⟩
  ·cases q;exact⟨a,rfl,l,Hh⟩
  ·rw[Le (λz=>by rw[z,l]at e;cases e),Le (λz=>by rw[z,d]at e;cases e)];exact e
  ·by_cases y:b=a
   ·rw[y];exact .inr l
   ·rw[Le y]at e;by_cases h:b=ea
    ·rw[h];exact .inr d
    ·rw[Le h]at e;exact .inl e
theorem m9(I:Qa X pins st H s)(m:X.stack=X.env::X.outer)(C:X.env.frame=some X.env.locals){n:Shared}{r:Hp}{e:Value}(F:EA X.prog X.w X.stack H s cls fd r e n){M:zl}{E:Value->Shared->Prop}{Q:Value->Shared->Prop}
  (h:∀ ea d,e=.ref ea->tu X pins st r d ea cls fd->Q e d):wpAny M X.A (Jh e X.env) (λ_ G=>wpAny M X.A (Fk e none) (λ_ J=>Q e J) E G) E n:=by
 obtain⟨ea,f,B,rfl,t,D,c,x,v,u,z⟩:=F.ex;have j:Sq B (X.env::X.outer) ea cls f n.heap:=by rw[<-m];exact t
 refine vU (by rw[<-m];exact I.ok.frames) C j λL b p g=>?_;refine GL (kT b) λy k q i=>h ea _ rfl ?_;have a:Sq B X.stack ea cls f y:=by rw[m];exact k
 obtain⟨K,l⟩:=YG F v x u t.1 a.1 (p.trans q) (qH I);exact⟨H,s,I,⟨ea,f,B,rfl,a,D,c,x,v,u,z.next (g.trans i) (let ⟨o,e,_⟩:=a.there;⟨o,e⟩)⟩,F.os,F.bare,K,l⟩
end
theorem Sq.keep{B h j:Heap}{l:List Ih}{e:Addr}{a i:Value}(x:Sq B l e a i h)(k:∀ b o,h.get? b=some o->j.get? b=some o):Sq B l e a i j:=by
 obtain⟨m,n,p,r⟩:=x;refine⟨λb o q=>k b o (m b o q),n,p.of_keeps λb o q _=>⟨o,k b o q,rfl⟩,?_⟩;rcases r with⟨s,g,E,T,A,C,d,w,y,t,z,f,v,c,u⟩|⟨g,D,d,q⟩
 ·exact .inl ⟨s,g,E,T,A,C,k _ _ d,w,y,t,z,f,k _ _ v,c,u⟩
 ·exact .inr ⟨g,D,k _ _ d,q⟩
theorem tu.keep{X:Cx}{a:List (Addr × Obj)}{r:St}{H:Hp}{s:Shared}{g:Addr}{c:Value}{i:Option Nat}(L:tu X a r H s g c i){h':Heap}(k:∀ b o,s.heap.get? b=some o->h'.get? b=some o):tu X a r H { s with heap:=h' } g c i:=by
 obtain⟨t,D,I,F⟩:=L;obtain⟨w,u,B,e,j,y,f,p,m,l,x⟩:=F.ex;cases e;have d:=j.keep k;obtain⟨E,h⟩:=YG F m p l j.1 d.1 (UC k) (qH I);exact⟨t,D,I,⟨g,u,B,rfl,d,y,f,p,m,l,λn q=>let ⟨v,z,A,q1,C⟩:=x n q;⟨v,z,A,k _ _ q1,C⟩⟩,F.os,F.bare,E,h⟩
def wF(X:Cx)(x:qa)(a:Value):Prop:=X.mg x=some a\/(X.mg x=none/\bootBuiltins x=some a/\x ≠ "__name__")
inductive My(T:Tb)(X:Cx):List Fg->List Hd->Prop where
 |nil {r:List Fg}:My T X r []
 |cons {x:qa} {np pos:Me} {cv:Value} {b₀:Stmt} {suite:List Stmt} {t:Nat->Option Bool} {g:Ev->M Fl} {r:List Fg} {hs:List Hd} (hg:Gl X x) (hd:(x == ("__debug__" : qa))=false) (hm:wF X x cv) (ht:∀ c b,t c=some b->W.exmOne X.K (.ref (T.ca c)) cv=some b)
   (hb:∀ e,Ao T (Cx.Px X e) (b₀::suite) g) (hr:My T X r hs):My T X (.ExceptHandler (some (.Name x np)) none (b₀::suite) pos::r) (⟨t,none,g⟩::hs)
 |vE {x y:qa} {np nq tp pos:Me} {k:Nat} {cv cw:Value} {b₀:Stmt} {suite:List Stmt} {t:Nat->Option Bool} {g:Ev->M Fl} {r:List Fg} {hs:List Hd} (hg:Gl X x) (hd:(x == ("__debug__" : qa))=false) (hm:wF X x cv) (hg':Gl X y) (hd':(y == ("__debug__" : qa))=false) (hm':wF X y cw) (ht:∀ c b,t c=some b->W.exmAny X.K (.ref (T.ca c)) [cv,cw]=some b)
   (hb:∀ e,Ao T (Cx.Px X e) (b₀::suite) g) (hr:My T X r hs):My T X (.ExceptHandler (some (.Tuple [.Name x np,.Name y nq] k tp)) none (b₀::suite) pos::r) (⟨t,none,g⟩::hs)
 |ax {x n:qa} {i:Nat} {np pos:Me} {cv:Value} {b₀:Stmt} {suite:List Stmt} {t:Nat->Option Bool} {g:Ev->M Fl} {r:List Fg} {hs:List Hd} (hg:Gl X x) (hd:(x == ("__debug__" : qa))=false) (hm:wF X x cv) (ht:∀ c b,t c=some b->W.exmOne X.K (.ref (T.ca c)) cv=some b)
   (hN:X.N.Nodup) (hi:X.N[i]?=some n) (hl:X.env.scope.names.lookup n=some .local)
   (hb:∀ e,Ao T (Cx.Px X e) (b₀::suite) g) (hr:My T X r hs):My T X (.ExceptHandler (some (.Name x np)) (some n) (b₀::suite) pos::r) (⟨t,some i,g⟩::hs)
section
variable{T:Tb}{X:Cx}
theorem bG{b:List (Addr × Obj)}{j:St}{H:Hp}{s:Shared}{x:qa}{d:Value}{c:Me}{E:Value->Shared->Prop}{Q:Value->Shared->Prop}(I:Qa X b j H s)(f:Gl X x)(e:(x == ("__debug__" : qa))=false)(a:wF X x d)(h:Q d s):wpAny (model X.prog X.w) X.A (Ib (.Name x c) X.env) Q E s:=by
 rcases a with a|⟨a,i,g⟩
 ·exact MA I f a h e
 ·exact Gy I f a i h g e
theorem NU{e:Value}{i:List Addr}{H:Hp}{o:Nm Fl}{D:El}(b:Zb T EN (Eo T) i H (o.bind HR) (mo X D)):Zb T EN (Eo T) i H o (mo (Cx.Px X e) D):=by
 cases o with
 |Sb=>exact b
 |ex x σ=>exact b
 |ok j σ=>
  intro a f c d g q1;cases j with
  |nx h=>cases f with
   |nx st=>exact b a (.nx st) c d g q1
   |_=>exact q1.elim
  |rt h=>cases f with
   |rt st=>exact b a (.rt st) c d g q1
   |_=>exact q1.elim
  |bk h=>cases f with
   |bk st=>exact b a (.bk st) c d g q1
   |_=>exact q1.elim
  |ct h=>cases f with
   |ct st=>exact b a (.ct st) c d g q1
   |_=>exact q1.elim
  |xc h x=>exact b.elim
theorem zJ{c:List Addr}{H:Hp}{e:Ev}{b:St}(h:ni T c H e b)(i:Nat):ni T c H (e.set i none) (b.set i none):=by
 refine⟨by simpa using h.1,λj d q=>?_⟩;rw[Pc]at q;by_cases a:i=j
 ·subst a;rw[ja rfl]at q;split at q<;>cases q
 ·rw[ua a]at q;obtain⟨v,f,g⟩:=h.2 j d q;exact⟨v,by rw[Pc,ua a];exact f,g⟩
theorem q7{e:Value}{k:List Addr}{H:Hp}{o:Nm Fl}{D:El}{i:Nat}(c:Zb T EN (Eo T) k H (o.bind (kH i)) (mo X D)):Zb T EN (Eo T) k H o (mo (Cx.Px X e) ⟨λa H=>D.nx (a.set i none) H,D.rt,λa H=>D.bk (a.set i none) H,λa H=>D.ct (a.set i none) H⟩):=by
 cases o with
 |Sb=>exact c
 |ex x σ=>exact c
 |ok l σ=>
  intro b g d f h q1;cases l with
  |nx j=>cases g with
   |nx a=>exact c b (.nx (a.set i none)) d f h (zJ q1 i)
   |_=>exact q1.elim
  |rt j=>cases g with
   |rt a=>exact c b (.rt a) d f h q1
   |_=>exact q1.elim
  |bk j=>cases g with
   |bk a=>exact c b (.bk (a.set i none)) d f h (zJ q1 i)
   |_=>exact q1.elim
  |ct j=>cases g with
   |ct a=>exact c b (.ct (a.set i none)) d f h (zJ q1 i)
   |_=>exact q1.elim
  |xc j x=>exact c.elim
theorem ZW{a:List (Addr × Obj)}{M:St}{H:Hp}{s:Shared}{n:qa}{i t:Nat}{h':Heap}{m:qa->Option Value}(I:Qa X a M H s)(S:X.N.Nodup)(V:X.N[i]?=some n)(hl:X.env.scope.names.lookup n=some .local)(Y:s.heap.Ns X.env.locals m){w:Option Value}(F:h'.Ns X.env.locals λy=>if y=n then w else m y)(d:Fd X.env.locals s.heap h'):Qa X a (M.set i none) H { s with heap:=h',toks:=t }:=by
 have f:∀ b o,X.s₀.heap.get? b=some o->b≠X.env.locals:=λb o e=>ya (Ga (va e) I.ok.above);obtain⟨J,E,l⟩:=I.loc;have P:J=m:=by
  obtain⟨o,es,ep,Z,T,hk,U⟩:=E;obtain⟨K,R,Q,x,h,W,C⟩:=Y;rw[Z]at x;cases x;rw[T]at h;cases h;funext y;rw[<-U y,<-C y]
 subst P;refine⟨I.ok,I.os,I.bare,⟨λb o e n B A=>(d.2 b (f b o e)).trans (I.base.keep b o e n B A),λb o e n B A=>?_,I.base.free,λb o e A=>?_,I.base.Vj,I.base.Ti,I.base.Gj⟩,⟨_,F,λj y v G g O=>?_⟩,λy c e=>?_,I.free,I.lh,λp hp=>?_,WM I.md λb o u e q=>?_,by simpa using I.len⟩
 ·obtain⟨sl,q⟩:=I.base.slot b o e n B A;exact⟨sl,(d.2 b (f b o e)).trans q⟩
 ·obtain⟨K,q⟩:=I.base.there b o e A;exact⟨K,(d.2 b (f b o e)).trans q⟩
 ·rw[Pc]at g;by_cases D:i=j
  ·subst D;rw[ja rfl]at g;split at g<;>cases g
  ·rw[ua D]at g;obtain⟨u,r,lk⟩:=l j y v G g O;refine⟨u,r,?_⟩;have hy:y≠n:=λz=>D (FL S V (z ▸ G));rcases lk with⟨k,q⟩|⟨k,c,q,z⟩
   ·exact .inl ⟨k,by show (if y=n then w else J y)=some u;rw[ua hy];exact q⟩
   ·exact .inr ⟨k,c,q,z.sameBut d (I.mE y c q)⟩
 ·obtain⟨v,z⟩:=I.cell y c e;exact⟨v,z.sameBut d (I.mE y c e)⟩
 ·obtain⟨q1,q2,L,q4⟩:=I.pin p hp;exact⟨(d.2 p.1 L).trans q1,q2,L,q4⟩
 ·exact(d.2 b λz=>by rw[z,I.free]at e;cases e).trans q
theorem zja{D:El}{c:List (Addr × Obj)}{N:St}{H:Hp}{l:Addr}{x:Xn}{K:List Addr}{ρ:Ev}{σ:xb}{a0:List Fg}{hs:List Hd}(h:My T X a0 hs)(hE:ni T K H ρ N)(hr:ee T K H σ)(d:Zb T EN (Eo T) K H (Wx ρ x hs σ) (mo X D)) :
  ∀ s,tu X c N H s l (T.cv x) (dC x.cls)->wpAny (model X.prog X.w) X.A (eO (.ref l) X.env a0) (SP X c D) X.xe s:=by
 induction h with
 |nil=>exact d.elim
 |@cons y np pos cv P F t g r hs hg hd hm ht hb C ih=>
  intro s L;have I:=L.inv;obtain⟨_,⟨o,ho,hc⟩,_⟩:=L.obj;refine uo (km (bG (YA I) hg hd hm ?_)) (by intro q;cases q);unfold Wx at d;dsimp only at d;cases B:t x.cls with
  |none=>rw[B]at d;exact d.elim
  |some b=>
   rw[B]at d;have LT:W.Looks (model X.prog X.w) s.heap (Op (.ref l)) (T.cv x):=by rw[<-hc];exact(Ip ho).andThen .now
   refine(W.exm_one I.Yj LT (ht x.cls b B)).here ?_;cases b with
   |false=>exact ih d s L
   |true=>
    refine yx (L.next λs' V=>?_);exact Xb (hb (.ref l) c s' N H D (YA V.inv) ⟨K,ρ,σ,hE,hr,NU d⟩) (λf s2 q=>nO I.ok q) λ_ _ z=>z.elim
 |@vE y z np nq tp pos k cv cw P F t g r hs hg hd hm a6 a3 a7 ht hb C ih=>
  intro s L;have I:=L.inv;obtain⟨_,⟨o,ho,hc⟩,_⟩:=L.obj;refine uo (km (wpAny_Tuple (NF (bG (YA I) hg hd hm (NF (bG (YA I) a6 a3 a7 (wpAny_items_nil ⟨by size_fits,?_⟩))))))) (by intro q;cases q);unfold Wx at d;dsimp only at d;have kp:∀ q o,s.heap.get? q=some o->(s.heap.push { cls:=.type "tuple",data:=.seq [cv,cw].toArray }).get? q=some o:=λ_ _ z=>ba _ z;cases B:t x.cls with
  |none=>rw[B]at d;exact d.elim
  |some b=>
   rw[B]at d;have LT:W.Looks (model X.prog X.w) s.heap (Op (.ref l)) (T.cv x):=by rw[<-hc];exact(Ip ho).andThen .now
   refine(W.exm_tup2 (I.Yj.keeps kp) (LT.keeps kp) (Ba s.heap rfl) (ht x.cls b B)).here ?_;cases b with
   |false=>exact ih d _ (L.keep kp)
   |true=>
    refine yx ((L.keep kp).next λs' V=>?_);exact Xb (hb (.ref l) c s' N H D (YA V.inv) ⟨K,ρ,σ,hE,hr,NU d⟩) (λf s2 q=>nO I.ok q) λ_ _ z=>z.elim
 |@ax y n i np pos cv P F t g r hs hg hd hm ht hN hi hl hb C ih=>
  intro s L;have I:=L.inv;obtain⟨_,⟨o,ho,hc⟩,_⟩:=L.obj;refine uo (km (bG (YA I) hg hd hm ?_)) (by intro q;cases q);unfold Wx at d;dsimp only at d;cases B:t x.cls with
  |none=>rw[B]at d;exact d.elim
  |some b=>
   rw[B]at d;have LT:W.Looks (model X.prog X.w) s.heap (Op (.ref l)) (T.cv x):=by rw[<-hc];exact(Ip ho).andThen .now
   refine(W.exm_one I.Yj LT (ht x.cls b B)).here ?_;cases b with
   |false=>exact ih d s L
   |true=>
    refine codeAny_handlers_suite_as (L.next λs' V=>?_);have hn:=V.obj.1;obtain⟨dd,H1,I1,a5,a4,G,b1⟩:=tu.VD V;have E:∀ b,b∈K->∃ u,H b=some u:=λb z=>by obtain⟨u,M,_⟩:=hr.mem z;exact⟨u,M⟩
    have S:Se K H K H1:=⟨⟨[],by simp⟩,λp xs e=>G _ _ e,λp o u e=>G _ _ e,λp o e n=>⟨⟨o,G _ _ e,.inl rfl⟩,n⟩⟩
    have a9:l ∉ K:=λz=>by obtain⟨u,M⟩:=E _ z;rw[hn]at M;cases M
    have rp:Ia T K H1 (.Vr x.cls) (.ref l):=by
     refine⟨l,dd,rfl,a9,a5,λn q=>?_⟩;obtain⟨dN,z1,z2,z3⟩:=a4 n q;exact⟨dN,z1,λz=>(by obtain⟨u,M⟩:=E _ z;rw[z2]at M;cases M),z3⟩
    refine aG (X:=Cx.Px X (.ref l)) (v:=.ref l) (YA I1) hN hi (.inl hl) rfl (λs2 I2=>?_) (.inr hl);refine Xb (hb (.ref l) c s2 _ _ ⟨λN H=>D.nx (N.set i none) H,D.rt,λN H=>D.bk (N.set i none) H,λN H=>D.ct (N.set i none) H⟩ I2 ⟨K,ρ.set i (some (.Vr x.cls)),σ,(hE.mono S).set i rp,hr.keep S (λa ha=>by obtain⟨u,M⟩:=E a ha;rw[G _ _ M,M]) (hr.tb.grow G),q7 (Zb.mono S d)⟩) (λf s3 q=>?_) λ_ _ z=>z.elim;have Z:(X.env.scope.kind == .class || (X.env.scope.kind == .module && X.env.locals != X.env.globals))=false:=by rw[I.ok.kind];rfl
    have go:∀ {j:St} {Q:Hp},Qa (Cx.Px X (.ref l)) c j Q s3->(∀ Y,Qa X c (j.set i none) Q Y->SP X c D f Y)->wpAny (model X.prog X.w) X.A (do bindName X.env n .none;unbindBehindTheSuite X.env n pos) (λ_ a2=>SP X c D f a2) X.xe s3:=fun {j Q} O k=>by
     have J:=GF I.ok O;obtain⟨m,a1,_⟩:=id J.loc;exact wpAny_nameGoes_keeps hl a1 Z λh4 v4 a8 b0=>k _ (ZW J hN hi hl a1 a8 b0)
    cases f with
    |next=>obtain⟨j,Q,O,U⟩:=q;exact go O λY R=>⟨_,_,R,U⟩
    |brk=>obtain⟨j,Q,O,U⟩:=q;exact go O λY R=>⟨_,_,R,U⟩
    |cont=>obtain⟨j,Q,O,U⟩:=q;exact go O λY R=>⟨_,_,R,U⟩
    |ret u=>obtain⟨v,j,Q,O,r3,U⟩:=q;exact go O λY R=>⟨v,_,_,R,r3,U⟩
theorem rX{k:List Stmt}{b:Fg}{h:List Fg}{B:List Hd}{g:Ev->M Fl}{E:Me}(C:X.stack=X.env::X.outer)(Y:X.env.frame=some X.env.locals)
  (W:∀ a N,Ps (model X.prog X.w) X.A X.env N->Ao T (Cx.UG X a N) k g) (Z:My T X (b::h) B):FS T X (.Try k (b::h) [] [] E) (NN g B):=by
 intro a s i H D I hw;obtain⟨O,l,J,V,hr,hp⟩:=hw;refine wpAny_Try_except ?_;refine Xb (W a (λe o=>wpAny (model X.prog X.w) X.A (Jh e X.env) (λ_ p=>wpAny (model X.prog X.w) X.A (Fk e none) (λ_ d=>wpAny (model X.prog X.w) X.A (eO e X.env (b::h)) (SP X a D) X.xe d) X.xe p) X.xe o) zaD [] s i H D (j9 I)
  ⟨O,l,J,V,hr,?_⟩) (λf s1 q=>?_) λ_ _ z=>z
 ·have c:Zb T EN (Eo T) O H ((g l J).bind (GH B)) (mo X D):=hp;cases v:g l J with
  |Sb=>rw[v]at c;exact c
  |ex x K=>rw[v]at c;exact c
  |ok U K=>
   rw[v]at c;intro j m r R n q1;have p1:=c.mono R;cases U with
   |nx l=>cases m with
    |nx i=>exact p1 j (.nx i) r (Se.refl _ _) n q1
    |_=>exact q1.elim
   |rt l=>cases m with
    |rt i=>exact p1 j (.rt i) r (Se.refl _ _) n q1
    |_=>exact q1.elim
   |bk l=>cases m with
    |bk i=>exact p1 j (.bk i) r (Se.refl _ _) n q1
    |_=>exact q1.elim
   |ct l=>cases m with
    |ct i=>exact p1 j (.ct i) r (Se.refl _ _) n q1
    |_=>exact q1.elim
   |xc a1 x=>cases m with
    |xc a0 cls fd=>
     obtain⟨y,rfl,rfl⟩:=q1;refine⟨λp0 H0 s0 e s' P F=>?_⟩;exact m9 (iE P) C Y F (Q:=λe d=>wpAny (model X.prog X.w) X.A (eO e X.env (b::h)) (SP X a D) X.xe d) λea G S L=>by subst S;exact zja Z y n p1 G L
    |_=>exact q1.elim
 ·have t:=IZ q;cases f with
  |next=>exact yl t
  |brk=>exact t
  |cont=>exact t
  |ret u=>exact t
end
theorem IT{T:Tb}{X:Cx}{t:Stmt}{i:Nat}{f:Ev->M D}(h:FS T X t (wh i f)):FS T X t (wh i (Gh f)):=by
 intro r s W H D I U;obtain⟨u,k,c,G,w,S⟩:=U;refine h r s W H D I ⟨u,k,c,G,w,?_⟩;have a:Zb T EN (Eo T) u H (xs k (Vb (f k)) (yD i k) c) (mo X D):=S;show Zb T EN (Eo T) u H (xs k (f k) (yD i k) c) (mo X D);unfold xs Vb at a;unfold xs;cases e:f k c with
 |Sb=>rw[e]at a;exact a
 |ex x g=>
  rw[e]at a;unfold uh at a;dsimp only at a ⊢;by_cases l:g.take c.length=c
  ·rw[ja l]at a;intro N E z o y q1;cases E with
   |xc n P C=>
    obtain⟨K,A⟩:=ee.down w y o l;obtain⟨O,V⟩:=q1;refine a u (.xc n P C) z A K ⟨⟨O.1,λj d b=>?_⟩,V⟩;obtain⟨v,p,q⟩:=O.2 j d b;obtain⟨L,_,F⟩:=G.2 j d b;exact⟨v,p,Ia.down o.pre d L v F q⟩
   |_=>exact q1.elim
  ·rw[ua l]at a;exact a.elim
 |ok d g=>
  rw[e]at a;unfold uh at a;dsimp only at a ⊢;by_cases l:g.take c.length=c
  ·rw[ja l]at a;cases B:fz c.length g 6 d with
   |none=>rw[B]at a;exact a.elim
   |some Q=>
    rw[B]at a;intro N E z o y q1;cases E with
    |nx n=>
     obtain⟨K,A⟩:=ee.down w y o l;have m:=q1;refine a u (.nx n) z A K ⟨by simpa using m.1,λj x b=>?_⟩;rw[Pc]at b;by_cases J:i=j
     ·subst J;rw[ja rfl]at b;split at b
      ·rename_i R
       cases b;obtain⟨v,p,q⟩:=m.2 i d (by rw[Pc,ja rfl,ja R]);exact⟨v,p,zQ o.pre y 6 d Q v (by rw[w.len];exact B) q⟩
      ·cases b
     ·rw[ua J]at b;obtain⟨v,p,q⟩:=m.2 j x (by rw[Pc,ua J];exact b);obtain⟨L,_,F⟩:=G.2 j x b;exact⟨v,p,Ia.down o.pre x L v F q⟩
    |_=>exact q1.elim
  ·rw[ua l]at a;exact a.elim
noncomputable def FC:List D->Option (List Bool)
 |[]=>some []
 | .bl b::r=>(FC r).map (b::·)
 |_::_=>none
noncomputable def Vu:List D->Option (List Int)
 |[]=>some []
 | .int b::r=>(Vu r).map (b::·)
 |_::_=>none
theorem jV{T:Tb}{j:List Addr}{H:Hp}:∀ {c:List D} {a:List V} {bs:List Bool},gb T j H c a->FC c=some bs->a=bs.map V.bl
 |[],a,bs,r,h=>by cases h;rw[gb]at r;exact r
 |d::c,a,bs,r,h=>by
  obtain⟨v,w,rfl,e,i⟩:=r;cases d with
  |bl b=>
   obtain⟨k,f,g⟩:=dc.mp h;subst g;rw[Ia]at e;subst e;rw[jV i f];rfl
  |_=>cases h
theorem IF{T:Tb}{j:List Addr}{H:Hp}:∀ {c:List D} {a:List V} {bs:List Int},gb T j H c a->Vu c=some bs->a=bs.map V.int
 |[],a,bs,r,h=>by cases h;rw[gb]at r;exact r
 |d::c,a,bs,r,h=>by
  obtain⟨v,w,rfl,e,i⟩:=r;cases d with
  |int b=>
   obtain⟨k,f,g⟩:=dc.mp h;subst g;rw[Ia]at e;subst e;rw[IF i f];rfl
  |_=>cases h
def RB(xs:List D):M D:=λa=>match xs with
 |[x]=>(match (Im a x).bind FC with
  |some bs=>.ok (.bl (bs.all id)) a
  |none=>.Sb)
 |_=>.Sb
def Ux(xs:List D):M D:=λa=>match xs with
 |[x]=>(match (Im a x).bind Vu with
  |some bs=>.ok (.int bs.sum) a
  |none=>.Sb)
 |_=>.Sb
section
variable{T:Tb}{X:Cx}
def ZS(K:W.Frag)(g:List Bool->Bool):List V->Hp->VK->Prop:=λxs H Q=>∃ p a,xs=[.ref p]/\(Cg K H p (a.map V.bl)\/Wi K H p (a.map V.bl))/\Q (.bl (g a)) H
def JV(K:W.Frag):List V->Hp->VK->Prop:=λxs H Q=>∃ (p:Addr) (bs:List Int),xs=[.ref p]/\(Cg K H p (bs.map V.int)\/Wi K H p (bs.map V.int))/\Q (.int bs.sum) H
theorem eW:∀ {a:List Bool} {us:List Value},jf (a.map V.bl) us->us=a.map mm
 |[],us,h=>by cases h;rfl
 |b::a,us,h=>by
  cases h with
  |cons r t=>cases r;rw[eW t];rfl
theorem LV{c:Type}(g:c->Bool)(d:c):∀ (a:List c),(List.range a.length).all (λi=>g (a.getD i d))=a.all g
 |[]=>rfl
 |b::a=>by
  rw[Cc,gu,Yg,TC,Yg];rw[<-LV g d a];congr 1
theorem N7{d:za}{w:Ma}{A:Ha}(f:List Bool):TruthOf d w A (λi v=>(f.map mm).toArray[i]?=some v) (λi=>f.getD i false):=by
 intro i v s Q E a g;simp only[kg,Xa]at a;cases e:f[i]? with
 |none=>rw[e]at a;cases a
 |some b=>
  rw[e]at a;cases a;have c:Q (f.getD i false) s:=g;rw[Di,e]at c;exact Zc c
theorem sU{s:Shared}{o:Obj}{a:Heap}(k:∀ b u,b ∉ [s.heap.objs.size]->(s.heap.push o).get? b=some u->a.get? b=some u):∀ b u,s.heap.get? b=some u->a.get? b=some u:=λb u e=>
 k b u (λz=>absurd (va e) (by rw[qc.mp z];exact Jf _)) (ba _ e)
theorem lQ{c:List (Addr × Obj)}{s:Shared}{r:St}{H:Hp}{p:Addr}{m:List V}{E:Value->Shared->Prop}{Q:Value->Shared->Prop}(q:X.A.handled=none)(I:Qa X c r H s)(f:Cg X.K H p m\/Wi X.K H p m)
  (h:∀ (its:List Value) (It:Addr) (n:List Addr) (St:Nat->Heap->Prop) (g:Shared),jf m its->Walks X.prog X.w X.A.in1 It n [It] its.toArray.size (λi v=>its.toArray[i]?=some v) St->St 0 g.heap->(∀ b∈n,b<g.heap.objs.size)->
   (∀ h' l,(∀ b o,b ∉ [It]->g.heap.get? b=some o->h'.get? b=some o)->Qa X c r H { g with heap:=h',toks:=l })->Q (.ref It) g):wpAny (model X.prog X.w) X.A.in1 (pyIter (.ref p)) Q E s:=by
 rcases f with f|f
 ·obtain⟨its,k,pl,t⟩:=I.list f;have a:p<s.heap.objs.size:=by obtain⟨_,e,_⟩:=pl.isList;exact va e
  refine Rj pl.isList (h its s.heap.objs.size [s.heap.objs.size,p] _ _ k (lm (A:=X.A.in1) q _ p (ya a) its.toArray) ⟨⟨_,Ba _ rfl,rfl,rfl⟩,pl.isList.push _⟩ (λb d=>?_) (λh' l j=>I.kept (sU j)));rw[Cd];simp only[Da,Nb,lg]at d;rcases d with rfl|rfl
  ·exact Qb _
  ·exact Rb a
 ·obtain⟨its,k,pl,t⟩:=I.tuple f;have a:=pl.lt;refine KB (pl) (h its s.heap.objs.size [s.heap.objs.size,p] _ _ k (Walks.tuple (A:=X.A.in1) q _ p (ya a) its.toArray) ⟨⟨_,Ba _ rfl,rfl,rfl⟩,XI (show s.heap.IsTuple p _ from pl) _⟩ (λb d=>?_) (λh' l j=>I.kept (sU j)));rw[Cd];simp only[Da,Nb,lg]at d;rcases d with rfl|rfl
  ·exact Qb _
  ·exact Rb a
theorem Y9(f:X.Vh=true):Oo X (.builtin "all") (ZS X.K λa=>a.all id):=by
 intro b s v H xs w Q I r h;obtain⟨p,a,rfl,j,q⟩:=h;obtain⟨u,rfl,k⟩:=jw r;cases k;refine call_all_walk (lQ (I.ok.hd f) I j λits It n St t l W d o e=>?_);have c:=eW l;subst c;refine⟨_,_,_,_,_,_,λi=>a.getD i false,rfl,W,d,N7 a,λh' m g=>⟨.bl (a.all id),H,e h' m g,?_,q⟩⟩;rw[Aa,Pb];exact Ef mm (LV id false a)
theorem QT:∀ (a:List Int) (n:Nat),n<=a.length->preSum (λi=>a.getD i 0) n=(a.take n).sum
 |a,0,_=>by simp[preSum]
 |a,n+1,h=>by
  rw[preSum,QT a n (by omega),List.take_succ_eq_append_getElem (by omega),List.sum_append];simp[show n<a.length by omega]
theorem sJ(n:X.Vh=true):Oo X (.builtin "sum") (JV X.K):=by
 intro f s D H xs E Q I r h;obtain⟨p,a,rfl,y,q⟩:=h;obtain⟨u,rfl,z⟩:=jw r;cases z;refine call_sum_walkG (lQ (I.ok.hd n) I y λits It B St C g W k o m=>?_);refine⟨_,_,_,_,_,_,λi=>a.getD i 0,rfl,W,k,o,λi v d=>?_,λh' A t' w=>⟨.int a.sum,H,m h' A w,⟨t',?_⟩,q⟩⟩
 ·simp only[kg]at d;obtain⟨x,c,l⟩:=qI g d;rw[Xa]at c;cases e:a[i]? with
  |none=>rw[e]at c;cases c
  |some b=>
   rw[e]at c;cases c;obtain⟨t,rfl⟩:=l;exact⟨t,by show Gg b t=Gg (a.getD i 0) t;rw[Di,e];rfl⟩
 ·have j:its.toArray.size=a.length:=by rw[Aa,<-g.length,Pb]
  rw[j,QT a _ (wa _),zj]
theorem wV{c:Type}{d:xb}{x:D}{g:List D->Option c}{a:c}(h:(Im d x).bind g=some a):∃ b,Im d x=some b/\g b=some a:=bh.mp h
theorem ξ(i:T.K=X.K):Ww T (ZS X.K λa=>a.all id) RB:=by
 intro E m H k xs j Q r p h
 match xs with
 |[]=>exact h.elim
 |[x]=>
  obtain⟨v,w,rfl,p1,p2⟩:=p;rw[gb]at p2;subst p2;unfold RB at h;cases e:(Im k x).bind FC with
  |none=>simp only[e]at h;exact h.elim
  |some a=>
   simp only[e]at h;obtain⟨l,d,f⟩:=wV e;obtain⟨b,j,rfl,g,c⟩:=WA r p1 d;rw[i,jV g f]at c;exact⟨b,a,rfl,c,Zb.here h r (by rw[Ia])⟩
 |_::_::_=>exact h.elim
theorem UL(g:T.K=X.K):Ww T (JV X.K) Ux:=by
 intro E l H j xs i Q r p h
 match xs with
 |[]=>exact h.elim
 |[x]=>
  obtain⟨v,w,rfl,p1,p2⟩:=p;rw[gb]at p2;subst p2;unfold Ux at h;cases e:(Im j x).bind Vu with
  |none=>simp only[e]at h;exact h.elim
  |some bs=>
   simp only[e]at h;obtain⟨k,c,d⟩:=wV e;obtain⟨b,i,rfl,f,a⟩:=WA r p1 c;rw[g,IF f d]at a;exact⟨b,bs,rfl,a,Zb.here h r (by rw[Ia])⟩
 |_::_::_=>exact h.elim
noncomputable def Zq(a:List Int):List Int:=a.foldl QB []
theorem fK(a:List Int):vh (λi=>a.getD i 0) a.length=Zq a:=by
 unfold vh Zq;congr 1;apply aj;intro i;by_cases h:i<a.length
 ·simp[h]
 ·simp[h]
def aC(x:D):M D:=λa=>match (Mh a x).bind Vu with
 |some ns=>if ns.length<=zi then .ok (.int (Zq ns).length) a else .Sb
 |none=>.Sb
def R9(K:W.Frag):List V->Hp->VK->Prop:=λxs H Q=>∃ (p:Addr) (ns:List Int),xs=[.ref p]/\Cg K H p (ns.map V.int)/\ns.length<=zi/\∀ l,H l=none->Q (.ref l) (ic H l (.set (λk=>(Zq ns).any (·== k)) (Zq ns).length))
theorem tV{n:Nat}(h:n<=zi):n+1<scanBound:=sx (Nat.succ_le_succ h) (by decide)
theorem n5(i:X.Vh=true):Oo X (.type "set") (R9 X.K):=by
 intro f s t H xs w Q I r h;obtain⟨p,d,rfl,l,k,q⟩:=h;obtain⟨u,rfl,m⟩:=jw r;cases m;obtain⟨its,g,pl,n⟩:=I.list l;have a:its.length=d.length:=by rw[<-g.length,Pb]
 refine call_set_list (I.ok.hd i) pl.isList (dL g) (by rw[Aa,a];exact tV k) λh' v c j=>?_;rw[show its.toArray.size=d.length by rw[Aa,a],fK]at c;refine⟨.ref s.heap.objs.size,_,I.laid (λb o e=>j b o (va e) e) (wa _) ?_,rfl,q _ (I.md.fresh (wa _))⟩;exact c
theorem VY : Oo X (.builtin "len") (λxs H Q => ∃ (p : Addr) (S : Int -> Bool) (n : Nat), xs = [.ref p] /\ H p = some (.set S n) /\ Q (.int n) H) := by
  intro a s w H xs x Q I r h;obtain ⟨p, S, n, rfl, g, q⟩ := h;obtain ⟨u, rfl, i⟩ := jw r;cases i;obtain ⟨o, k, j, t, b, c, d, l, m, v, e, f⟩ := (I.md p _ g)
  refine call_len_set b c d e (by have : scanBound <= 2 ^ 62 := (by decide);omega) ⟨.int n, H, I.tok _, ⟨_, by rw [f]⟩, q⟩
theorem zo2{e:Fa}{f:Ev->M D}{p p2 j b:Me}(Y:T.K=X.K)(F:X.Vh=true)(J:Gl X "len")(L:X.mg "len" = none)(m:Gl X "set")(o:X.mg "set" = none)(G:FE T X e f)
  (w:la [e] X.env=(false,Ib e X.env)::la [] X.env:=by rfl) (q:(Bc b (la [] X.env)).any (·.1)=false:=by rfl)
  (g:la [.Call (.Name "set" p2) [e] [] b] X.env=(false,Ib (.Call (.Name "set" p2) [e] [] b) X.env)::la [] X.env:=by rfl) (c:(Bc j (la [] X.env)).any (·.1)=false:=by rfl) :
  FE T X (.Call (.Name "len" p) [.Call (.Name "set" p2) [e] [] b] [] j) (Qd aC f):=by
 intro i s P H Q I h;refine lC VY J L zb (Dt (sL (n5 F) m o rfl (Dt G aw w) (by decide) (by decide) w q) aw g) (by decide) (by decide) g c i s P H Q I ?_;obtain⟨R,S,U,E,O,N⟩:=h;refine⟨R,S,U,E,O,N.bind λd t r v V _ W x q1 p1=>?_⟩;unfold aC at p1;cases k:(Mh t d).bind Vu with
 |none=>rw[k]at p1;exact p1.elim
 |some ns=>
  rw[k]at p1;dsimp only at p1;by_cases n:ns.length<=zi
  ·rw[ja n]at p1;obtain⟨ys,y,z⟩:=bh.mp k;obtain⟨a,Z,rfl,B,C⟩:=x.ls q1 y;have A:=IF C z;subst A;refine⟨a,ns,rfl,Cg.of B,n,λl u=>?_⟩;exact⟨l,_,_,rfl,Hh,p1 r (.int (Zq ns).length) _ (Fm u) (x.fresh u) (by rw[Ia])⟩
  ·rw[ua n]at p1;exact p1.elim
def Cy(xs:List D)(a b:Option Int):List D:=(xs.drop (HT.Hg xs.length 0 a)).take (HT.Hg xs.length xs.length b - HT.Hg xs.length 0 a)
theorem zlv{xs:List D}{b a:Option Int}(h:HT.Hg xs.length 0 b=0/\HT.Hg xs.length xs.length a=xs.length):Cy xs b a=xs:=by
 unfold Cy;rw[h.1,h.2];simp
theorem JJ{d:List Addr}{H:Hp}{xs:List D}{c:List V}(r:gb T d H xs c)(b a:Option Int):gb T d H (Cy xs b a) (nC c b a):=by
 unfold Cy nC;rw[r.length];exact gb.take _ (gb.drop _ r)
end
end L4
namespace HT
open PySem PySem.Spec PyProof.Rows
variable{prog:za}{w:Ma}{A:Ha}{E:Value->Shared->Prop}{s:Shared}
theorem Tl{t j:Addr}{a:Array Value}{m n:Value}{c e:Option Int}{Q:Value->Shared->Prop}(b:yw s.heap t a)(k:s.heap.IsSliceOf j m n .none)(pl:Vm m c)(r:Vm n e)
  (l:Hg a.size 0 c=0/\Hg a.size a.size e=a.size) (h:Q (.ref t) s):wpAny (model prog w) A (Sj (.ref t) (.ref j)) Q E s:=by
 obtain⟨q,i,g,p⟩:=id k;have f:s.TypeIs (.ref j) "slice":=⟨q,i,g⟩
 unfold Sj;try with_reducible refine Ac ?_
 refine aa (QC b.typeIs (by decide) ?_);refine aa (af b.typeIs Oc
  (Qc Oc b.typeIs uA ?_ (IB _ _)))
 show wpAny _ _ (Lh (.ref t) >>= _) _ _ s;refine aa (sW b ?_);refine aa (ll f ?_);refine aa (rS k pl r ?_);have d:(((Hg a.size 0 c):Int) == 0 && (1:Int) == 1 && (Hg a.size a.size e - Hg a.size 0 c) == a.size)=true:=by
  rw[l.1,l.2];simp
 show wpAny _ _ (if (((Hg a.size 0 c):Int) == 0 && 1 == 1 && (Hg a.size a.size e - Hg a.size 0 c) == a.size)=true then _ else _) _ _ s;rw[ja d];obtain⟨o,v,u,x⟩:=id b;refine aa (aa (ll b.typeIs ?_));refine da ?_;refine aa (nl ?_);first
  |exact da ⟨_,rfl,da h⟩
  |exact da (da ⟨_,rfl,da h⟩)
  |exact aa (da (da ⟨_,rfl,da h⟩))
end HT
namespace L4
open PySem PySem.Spec PyProof.Rows L2
section
variable{T:Tb}{X:Cx}
def iT(K:W.Frag):V->Option Int->Option Int->Hp->VK->Prop:=λx c b H Q=>∃ a xs,x=.ref a/\Wi K H a xs/\(HT.Hg xs.length 0 c=0/\HT.Hg xs.length xs.length b=xs.length)/\Q (.ref a) H
theorem ý:Gx X (iT X.K):=by
 intro d s o H x v p t m k n Q I j e pl i h;obtain⟨a,xs,rfl,g,f,q⟩:=h;cases j;obtain⟨its,r,c,l⟩:=I.tuple g;have b:its.toArray.size=xs.length:=by rw[Aa];exact r.length.symm
 exact⟨"tuple",_,Oc.lookup,c.typeIs,HT.Tl c e pl i (by rw[b];exact f) ⟨.ref a,H,I,rfl,q⟩⟩
abbrev PF:=Option (Ev->M D)
noncomputable def UH(d:D):M (Option Int):=match d with
 | .int i=>ret (some i)
 |_=>Sb
def JA(p:PF):Ev->M (Option Int):=match p with
 |none=>λ_=>ret none
 |some f=>λa=>Ld (f a) UH
def tP(T:Tb)(X:Cx)(f:Ev->M (Option Int)):TO:=λd H Q=>∃ c e g,ni T c H e d/\ee T c H g/\Zb T (XE X d) (λ_ _ a b=>b=a) c H (f e g) Q
abbrev FO(T:Tb)(X:Cx)(e:Option Fa)(p:PF):Prop:=PO X e (tP T X (JA p))
theorem PJ:FO T X none none:=by
 intro a s d H Q I h;obtain⟨f,g,i,e,c,b⟩:=h;exact y2 a s d H Q I (Zb.here b c rfl)
theorem yN{e:Fa}{f:Ev->M D}(c:FE T X e f):FO T X (some e) (some f):=by
 intro a s l H Q I h;refine ş c a s l H Q I ?_;obtain⟨m,o,p,b,j,g⟩:=h;refine⟨m,o,p,b,j,Zb.bind g λd q n v r _ t k q1 p1=>?_⟩;cases d with
 |int i=>exact⟨i,Fv q1,Zb.here p1 k rfl⟩
 |_=>exact p1.elim
def FU(x:D)(c b:Option Int):M D:=λa=>match x with
 | .ub xs=>.ok (.ub (Cy xs c b)) a
 | .Uh ns=>.ok (.Ca (Cy (ns.map D.int) c b)) a
 |x=>(match Mh a x with
  |some xs=>.ok (.Ca (Cy xs c b)) a
  |none=>.Sb)
def zA(x:D)(b:Option Int)(a:Option Int):M D:=FU x b a
def lK(x:D)(a:M (Option Int))(b:Option Int):M D:=Ld a (zA x b)
def XM(b a:M (Option Int))(x:D):M D:=Ld b (lK x a)
def eE(f:Ev->M D)(c b:PF):Ev->M D:=λa=>Ld (f a) (XM (JA c a) (JA b a))
theorem oJ{e:Fa}{W V:Option Fa}{f:Ev->M D}{pl Y:PF}{C p2:Me}(hK:T.K=X.K)(he:FE T X e f)(hl:FO T X W pl)(hh:FO T X V Y):FE T X (.Subscript e (.Slice W V none p2) C) (eE f pl Y):=by
 intro w s Z H Q I h;refine O6 (Gx.or Q0 (Gx.or ý Ì)) he hl hh w s Z H Q I ?_;obtain⟨μ,O,σ,A,hr,hp⟩:=h;refine⟨μ,O,σ,A,hr,hp.bind λd P J v H1 _ S r1 q1 p1=>⟨J,O,P,A.mono S,r1,p1.bind λl R L c H2 _ U r2 q2 p2=>⟨L,O,R,(A.mono S).mono U,r2,p2.bind λu m N g y _ e3 x q3 p3=>?_⟩⟩⟩;have E:=q2;have F:=q3;subst E;subst F;have z:=Ia.mono e3 _ _ (Ia.mono U _ _ q1);have b:∀ k,Mh m d=some k->Zb T (XE X Z) (Ia T) N y (.ok (.Ca (Cy k c g)) m) Q->KR X.K v c g y Q\/iT X.K v c g y Q\/kQ X.K v c g y Q:=λk r p4=>by
  obtain⟨a,i,rfl,o,j⟩:=x.ls z r;exact .inr (.inr ⟨a,i,rfl,Cg.of o,λp t=>xH p4 x (JJ j c g) t⟩)
 cases d with
 |ub xs=>
  have G:=z;obtain⟨p,i,rfl,o,j⟩:=z;by_cases B:HT.Hg i.length 0 c=0/\HT.Hg i.length i.length g=i.length
  ·refine .inr (.inl ⟨p,i,rfl,Wi.of o,B,Zb.here p3 x ?_⟩);rw[zlv (by rw[j.length];exact B)];exact G
  ·exact .inl ⟨p,i,rfl,Wi.of o,B,λq t=>eN p3 x (JJ j c g) t⟩
 |ref n=>
  unfold zA FU at p3;dsimp only at p3;cases r:Mh m (.ref n)with
  |none=>rw[r]at p3;exact p3.elim
  |some k=>rw[r]at p3;exact b k r p3
 |Ca k=>exact b k rfl p3
 |Uh ns=>
  obtain⟨p,rfl,o⟩:=z;have j:=o.seq;rw[hK]at j;exact .inr (.inr ⟨p,_,rfl,j,λp t=>xH p3 x (JJ (DH ns) c g) t⟩)
 |_=>exact p3.elim
end
def wM(K:W.Frag)(j:qa->Option Value)(x:qa)(e:Stmt)(g:List qa)(i:List Value):Prop:=
 ∃ f b,j x=some (.ref f)/\W.keepIn K (.ref f)=true/\(∃ (k:Value) (l:Option Addr) (h kV c m:Value) (an:Option Addr) (a ct:Value) (d:Array (Option Value)),
  b=W.fnOf x x (En e) (uj e) (Ec e) h kV c m an a ct/\K.lookup f=some ⟨k,l,.func b,d⟩/\W.codeIn K a x=true)/\uu K b g []/\uu K b g i
def Mw(T:Tb)(P:za)(w:Ma)(d:qa->Option Value)(a:Heap)(k:Nat)(x:qa)(b:List qa)(e:List Value)(g:List D->M D):Prop:=
 ∃ f c,d x=some (.ref f)/\W.keepIn T.K (.ref f)=true/\uu T.K c b []/\uu T.K c b e/\Ei P w T.K d a (sm P w) k f c b (uq T b.length g)
section
variable{T:Tb}{X:Cx}
theorem W8{k:Nat}{s:List qa}{l:List Value}{a:List D}{b:List V}{m:List D->M D}{x:qa}{p d:Me}{e:Fa}{c:List Fa}{n:Ev->M (List D)}(h:Mw T X.prog X.w X.mg X.base k x s l m)(t:T.K=X.K)(B:Ce k X.A)(y:Gl X x)(C:jf b l)(i:∀ E H,gb T E H a b)
  (u:FA T X (e::c) n) (g:(x == ("__debug__" : qa))=false:=by decide) (v:la (e::c) X.env=(false,Ib e X.env)::la c X.env:=by rfl) (j:(Bc d (la c X.env)).any (·.1)=false:=by rfl) :
  FE T X (.Call (.Name x p) (e::c) [] d) (Je s.length m a n):=by
 obtain⟨f,F,z,r,_,q,o⟩:=h;rw[t]at r o q;exact qV o B y z r q C i u g v j
theorem vX:jf [V.Mc] [ib]:=.cons rfl .nil
theorem cX{T:Tb}(a:List Addr)(H:Hp):gb T a H [D.Mc] [V.Mc]:=gb.cons (by rw[Ia]) gb.nil
variable{P:za}{w:Ma}{K:W.Frag}{mg:qa->Option Value}{base:Heap}{ca:Nat->Addr}{tx:Tx}
theorem ņ{k:Nat}{x:qa}{c:Stmt}{e N:List qa}{i:List Value}{g:Ev->M Fl}(h:wM K mg x c e i)(S:ra N e (Ec c))
  (n:∀ (f:Addr) (a:Value) (A:Ha) (b:List Ih) (s:Shared) (H:Hp) (E:XK),Ce k (A.deeper (Sg x (Ec c) s.heap.objs.size f a))->Ao ⟨K,ca,tx⟩ (Wq (sm P w) P w K mg base N x (Ec c) f a A b s H E) (uj c) g) :
  Mw ⟨K,ca,tx⟩ P w mg base (k+1) x e i (Gd N.length g):=by
 obtain⟨f,v,p,o,⟨y,z,u,kV,m,B,t,a,ct,r,rfl,q,d⟩,j,l⟩:=h;exact⟨f,_,p,o,j,l,qC q d S (n f a)⟩
theorem Mw.Vb{k:Nat}{x:qa}{c:List qa}{a:List Value}{b:List D->M D}(h:Mw T P w mg base k x c a b):Mw T P w mg base k x c a (λd=>L4.Vb (b d)):=by
 obtain⟨f,e,g,i,j,l,m⟩:=h;exact⟨f,e,g,i,j,l,OG m⟩
theorem QY{h:Heap}{x:qa}{g:Stmt}{r:List qa}{f t:Addr}{p:List Value}{C y:Value}{D j z:Option Addr}{q A:Array (Option Value)}{kV e m b ct:Value}{w:Nat}(X:K.In h)(G:h.Ns mainGlobals mg)
  (B:∀ (t:Addr) (kV e m:Value) (j:Option Addr) (b ct:Value) (s:Shared) (o:Obj) (n:Nat) (i:List Value),s.heap.get? t=some o->o.data=.seq p.toArray n->((i++[]).length=r.length->xg s (W.fnOf x x (En g) (uj g) (Ec g) (.ref t) kV e m j b ct) ⟨i,[]⟩ (r.zip (i++[])))/\
   ((i++p).length=r.length->xg s (W.fnOf x x (En g) (uj g) (Ec g) (.ref t) kV e m j b ct) ⟨i,[]⟩ (r.zip (i++p))))
  (a:W.nsIn K mainGlobals x=some (some (.ref f))) (l:K.lookup f=some ⟨C,D,.func (W.fnOf x x (En g) (uj g) (Ec g) (.ref t) kV e m j b ct),q⟩)
  (c:W.codeIn K b x=true) (k:W.keepIn K (.ref f)=true) (d:K.lookup t=some ⟨y,z,.seq p.toArray w,A⟩):wM K mg x g r p:=
 ⟨f,_,Qv X G a,k,⟨C,D,_,kV,e,m,j,b,ct,q,rfl,l,c⟩,λs i u v=>(B t kV e m j b ct s _ w i (u _ _ d) rfl).1 v,λs i u v=>(B t kV e m j b ct s _ w i (u _ _ d) rfl).2 v⟩
end
noncomputable def ut(l:List (Nat × Bool)):Nat->Option Bool:=λc=>l.lookup c
abbrev KM:List Value:=[.type "ValueError",.type "Exception",.type "BaseException",.type "object"]
def pH(K:W.Frag)(a:Nat->Addr)(b:Value)(l:List (Nat × Bool)):Prop:=∀ p∈l,W.exmOne K (.ref (a p.1)) b=some p.2
theorem yln{K:W.Frag}{a:Nat->Addr}{b:Value}:pH K a b []:=λ_ h=>nomatch h
theorem i9{K:W.Frag}{a:Nat->Addr}{d:Value}{c:Nat}{b:Bool}{l:List (Nat × Bool)}(h:W.exmOne K (.ref (a c)) d=some b)(r:pH K a d l):pH K a d ((c,b)::l):=λp e=>by
 rcases Da.mp e with rfl|e
 ·exact h
 ·exact r p e
theorem NG:∀ {l:List (Nat × Bool)} {c:Nat} {b:Bool},l.lookup c=some b->(c,b)∈l
 |[],_,_,h=>by simp at h
 |(n,d)::r,c,b,h=>by
  rw[Va]at h;cases e:c == n with
  |true=>rw[e]at h;cases h;rw[eq_of_beq e];exact Ua
  |false=>rw[e]at h;exact Ka _ (NG h)
theorem œ{K:W.Frag}{a:Nat->Addr}{d:Value}{l:List (Nat × Bool)}(h:pH K a d l):∀ c b,ut l c=some b->W.exmOne K (.ref (a c)) d=some b:=λc b e=>h (c,b) (NG e)
theorem Ig.Wa{T:Tb}{P:za}{w:Ma}{c:qa->Option Value}{a:Heap}{k:Nat}{x:qa}{d:List qa}{b:List D->M D}(h:Ig T P w c a k x d b):Ig T P w c a k x d (L4.Wa b):=by rw[zq];exact h
theorem Mw.Wa{T:Tb}{P:za}{w:Ma}{d:qa->Option Value}{a:Heap}{k:Nat}{x:qa}{e:List qa}{b:List Value}{c:List D->M D}(h:Mw T P w d a k x e b c):Mw T P w d a k x e b (L4.Wa c):=by rw[zq];exact h
section
variable{T:Tb}{X:Cx}{μ:List Addr}{H:Hp}{σ:xb}
def Qp(σ:xb):D->Option (Nat × List (qa × D))
 | .obj c ns ds=>if ns.length=ds.length then some (c,ns.zip ds)else none
 | .ref n=>match σ[n]? with
  |some (.jc c a)=>some (c,a)
  |_=>none
 |_=>none
theorem IV:∀ {b:List qa} {ds:List D} {a:List (qa × V)},a.map (·.1)=b->gb T μ H ds (a.map (·.2))->Yv T μ H (b.zip ds) a
 |[],ds,[],_,h=>by
  cases ds with
  |nil=>exact Paired.nil
  |cons d ds=>have:=h.length;simp at this
 |[],ds,f::a,e,_=>by simp at e
 |n::b,ds,[],e,_=>by simp at e
 |n::b,[],f::a,e,h=>by have:=h.length;simp at this
 |n::b,d::ds,f::a,e,h=>by
  simp only[yb,bv]at e;rw[yb,gb]at h;obtain⟨v,r,c,j,k⟩:=h;simp only[bv]at c;obtain⟨g,i⟩:=c;subst i;exact Paired.cons ⟨e.1.symm,by rw[g];exact j⟩ (IV e.2 k)
theorem UD(r:ee T μ H σ){d:D}{v:V}{c:Nat}{k:List (qa × D)}(h:Ia T μ H d v)(e:Qp σ d=some (c,k)):∃ a f b,v=.ref a/\H a=some (.jc (T.ca c) f b)/\Yv T μ H k b:=by
 cases d with
 |obj m ns ds=>
  unfold Qp at e;by_cases l:ns.length=ds.length
  ·simp only[l]at e;obtain⟨rfl,rfl⟩:=e;obtain⟨a,f,b,rfl,_,i,j,s⟩:=h;exact⟨a,f,b,rfl,i,IV j s⟩
  ·simp[l]at e
 |ref n=>
  unfold Qp at e;dsimp only at e;cases g:σ[n]? with
  |none=>rw[g]at e;cases e
  |some o=>
   rw[g]at e;obtain⟨a,rfl,_,q⟩:=r.at h g;cases o with
   |jc m p=>cases e;obtain⟨f,b,i,j⟩:=q;exact⟨a,f,b,rfl,i,j⟩
   |Ca _=>cases e
   |Ja _=>cases e
   |ag _=>cases e
   |yf _=>cases e
 |_=>cases e
theorem HE{f:qa}:∀ {b:List (qa × D)} {i:List (qa × V)},Yv T μ H b i->(∀ d,b.lookup f=some d->∃ v,i.lookup f=some v/\Ia T μ H d v)/\(b.lookup f=none->i.lookup f=none)
 |_,_,.nil=>⟨λd e=>by simp at e,λ_=>rfl⟩
 |(g,x)::b,(n,v)::i,.cons ⟨e,h⟩ t=>by
  have j:=e;subst j;obtain⟨k,l⟩:=HE t;by_cases c:(f == g)=true
  ·refine⟨λd q=>?_,λq=>?_⟩
   ·rw[Va,c]at q;cases q;exact⟨v,by rw[Va,c],h⟩
   ·rw[Va,c]at q;cases q
  ·have a:(f == g)=false:=by simpa using c
   refine⟨λd q=>?_,λq=>?_⟩
   ·rw[Va,a]at q;obtain⟨w,q1,m⟩:=k d q;exact⟨w,by rw[Va,a];exact q1,m⟩
   ·rw[Va,a]at q;rw[Va,a];exact l q
def Nk(T:Tb)(a:List Nat)(f:qa):Prop:=∀ c,a.contains c=true->Dm T.K (T.ca c)/\Ng T.K (T.ca c) f
theorem dn{f:qa}:Nk T [] f:=λc h=>by simp at h
theorem qh{f:qa}{c:Nat}{cs:List Nat}(b:Dm T.K (T.ca c))(e:Ng T.K (T.ca c) f)(h:Nk T cs f):Nk T (c::cs) f:=λd a=>by
 rw[List.contains_cons,di,kh]at a;rcases a with rfl|a
 ·exact⟨b,e⟩
 ·exact h d a
def gd(a:List Nat)(f:qa)(x:D):M D:=λσ=>match Qp σ x with
 |some (c,b)=>if a.contains c=true then (match b.lookup f with
  |some d=>.ok d σ
  |none=>.Sb)else .Sb
 |none=>.Sb
theorem V6{e:Fa}{f:qa}{g:Ev->M D}{l:Me}{cs:List Nat}(C:T.K=X.K)(F:Nk T cs f)(G:FE T X e g)
  (E:Oe e f X.env (Ib e X.env)=Ib e X.env:=by rfl):FE T X (.Attribute e f l) (Qd (gd cs f) g):=by
 intro i s N H Q I h;refine K8 G E i s N H Q I ?_;obtain⟨μ,R,σ,B,L,J⟩:=h;refine⟨μ,R,σ,B,L,Zb.bind J λd m P v S _ U q q1 p1=>?_⟩;unfold gd at p1;cases j:Qp m d with
 |none=>rw[j]at p1;exact p1.elim
 |some p=>
  obtain⟨c,t⟩:=p;rw[j]at p1;dsimp only at p1;by_cases b:cs.contains c=true
  ·rw[ja b]at p1;obtain⟨a,r,O,rfl,u,x⟩:=UD q q1 j;cases k:t.lookup f with
   |none=>rw[k]at p1;exact p1.elim
   |some y=>
    rw[k]at p1;obtain⟨w,z,A⟩:=(HE x).1 y k;obtain⟨n,o⟩:=F c b;rw[C]at n o;exact⟨a,_,r,O,w,rfl,u,n,o,z,Zb.here p1 q A⟩
  ·rw[ua b]at p1;exact p1.elim
noncomputable def Xk(f:qa)(v:D):List (qa × D)->List (qa × D)
 |[]=>[(f,v)]
 |(g,x)::r=>if g=f then (g,v)::r else (g,x)::Xk f v r
theorem qT{f:qa}{d:D}{v:V}(c:Ia T μ H d v):∀ {b:List (qa × D)} {i:List (qa × V)},Yv T μ H b i->Yv T μ H (Xk f d b) (Nr f v i)
 |_,_,.nil=>Paired.cons ⟨rfl,c⟩ Paired.nil
 |(g,x)::b,(k,w)::i,.cons ⟨e,h⟩ t=>by
  have j:=e;subst j;unfold Xk Nr;by_cases a:g=f
  ·rw[ja a,ja a];exact Paired.cons ⟨rfl,c⟩ t
  ·rw[ua a,ua a];exact Paired.cons ⟨rfl,h⟩ (qT c t)
theorem Yv.mono{a:List Addr}{b:Hp}(e:Se μ H a b){c:List (qa × D)}{d:List (qa × V)}(h:Yv T μ H c d):Yv T a b c d:=Paired.yu h λ_ _ q=>⟨q.1,Ia.mono e _ _ q.2⟩
theorem Yv.length{a:List (qa × D)}{b:List (qa × V)}(h:Yv T μ H a b):a.length=b.length:=Paired.length h
def iA(b:List Nat)(f:qa)(d x:D):M Unit:=λσ=>match x with
 | .ref n=>(match σ[n]? with
  |some (.jc c a)=>if (b.contains c && decide (a.length<1000))=true then .ok () (σ.set n (.jc c (Xk f d a)))else .Sb
  |_=>.Sb)
 |_=>.Sb
def Zv(c:Ev)(b:List Nat)(f:qa)(d x:D):M Fl:=λσ=>match iA b f d x σ with
 | .ok _ a=>.ok (.nx c) a
 |_=>.Sb
def cK(a:Ev)(b:List Nat)(f:qa)(c:Ev->M D)(d:D):M Fl:=xs a (c a) (Zv a b f d)
def Qi(b:List Nat)(f:qa)(d c:Ev->M D):Ev->M Fl:=λa=>xs a (d a) (cK a b f c)
theorem Nj{o b:Fa}{f:qa}{E B:Ev->M D}{j g:Me}{l:List Nat}(S:T.K=X.K)(U:Nk T l f)(W:FE T X o B)(hv:FE T X b E)
  (hs:lj b (some (.Attribute o f g)) j.line X.env=pure false:=by rfl):FS T X (.Assign [.Attribute o f g] b j) (Qi l f E B):=by
 intro i s P H D I Z;refine dX W hv hs i s P H D I ?_;obtain⟨μ,R,σ,h,hr,Y⟩:=Z;refine⟨μ,R,σ,h,hr,Y.xs h λd u t v H1 _ p r1 q1 p1=>?_⟩;refine⟨t,R,u,h.mono p,r1,p1.xs (h.mono p) λx w k vo y _ A O q2 p2=>?_⟩;have V:=Ia.mono A _ _ q1;unfold Zv iA at p2;cases x with
 |ref n=>
  dsimp only at p2;cases q:w[n]? with
  |none=>rw[q]at p2;exact p2.elim
  |some ob=>
   rw[q]at p2;cases ob with
   |Ca _=>exact p2.elim
   |Ja _=>exact p2.elim
   |ag _=>exact p2.elim
   |yf _=>exact p2.elim
   |jc c C=>
    dsimp only at p2;by_cases e:(l.contains c && decide (C.length<1000))=true
    ·rw[ja e]at p2;rw[Ea,Kc]at e;obtain⟨a,rfl,J,m,Q,F,G⟩:=O.at q2 q;have ex:Se k y k (ic y a (.jc (T.ca c) m (Nr f v Q))):=Zx (La J) F (λ_ z=>by cases z) (λ_ _ z=>by cases z);have r:=O.write (ob:=.jc c (Xk f d C)) J ⟨m,_,Hh,qT (Ia.mono ex _ _ V) (Yv.mono ex G)⟩;obtain⟨L,N⟩:=U c e.1;rw[S]at L N;exact⟨a,_,m,Q,rfl,F,L,N,by rw[<-G.length];exact e.2,p2 _ (.nx P) _ r.1 r.2 ((h.mono p).mono A |>.mono r.1)⟩
    ·rw[ua e]at p2;exact p2.elim
 |_=>exact p2.elim
noncomputable def Oy(n:Nat):Nm D->Nm D
 | .ok .Mc a=>.ok (.ref n) a
 | .ok _ _=>.Sb
 | .ex x a=>.ex x a
 | .Sb=>.Sb
def Uq(c n:Nat)(b:List D->M D)(a:List D):M D:=λσ=>if a.length+1=n then Oy σ.length (b (.ref σ.length::a) (σ++[.jc c []]))else .Sb
def au(c n:Nat)(a:List D->M D)(b:Ev->M (List D)):Ev->M D:=λd=>Ld (b d) (Uq c n a)
def Eg(T:Tb)(P:za)(w:Ma)(g:qa->Option Value)(a:Heap)(k:Nat)(f:Addr)(b:List qa)(e:List D->M D):Prop:=
 ∃ d,(∀ c:List Value,c.length=b.length->bindArgs d ⟨c,[]⟩=pure (b.zip c))/\Ei P w T.K g a (sm P w) k f d b (uq T b.length e)
def D5(T:Tb)(P:za)(w:Ma)(b:qa->Option Value)(a:Heap)(k:Nat)(x:qa)(c:Nat)(e:List qa)(d:List D->M D):Prop:=
 ∃ f,b x=some (.ref (T.ca c))/\Mk T.K (T.ca c) f/\Eg T P w b a k f e d
theorem iU{E:XK}{c:Nat}{s:List qa}{m:List D->M D}{h:List D}{z:List V}{Q:VK}(r:ee T μ H σ)(q:gb T μ H h z)(p:Zb T E (Ia T) μ H (Uq c s.length m h σ) Q) :
  ∀ x a,H x=none->H a=none->a≠x->uq T s.length m (.ref x::(z++[])) (ic (ic H a (.own x)) x (.jc (T.ca c) a [])) (λv A=>v=.Mc/\Q (.ref x) A) E:=by
 intro x a C i o;unfold Uq at p;by_cases n:h.length+1=s.length
 ·rw[ja n]at p;have b:Se μ H μ (ic H a (.own x)):=Fm i;have u:ee T μ (ic H a (.own x)) σ:=r.fresh i;have j:ic H a (.own x) x=none:=by unfold ic;rw[ua (Te o)];exact C
  have f:Se μ (ic H a (.own x)) (μ++[x]) (ic (ic H a (.own x)) x (.jc (T.ca c) a [])):=Sy j;have G:ee T (μ++[x]) (ic (ic H a (.own x)) x (.jc (T.ca c) a [])) (σ++[.jc c []]):=u.push j ⟨a,[],Hh,Paired.nil⟩;refine⟨μ++[x],σ++[.jc c []],.ref σ.length::h,gb.cons (kF u) (by rw[Pe];exact gb.mono (b.trans f) _ _ q),by rw[Cc];exact n,G,?_⟩;cases e:m (.ref σ.length::h) (σ++[.jc c []])with
  |Sb=>rw[e]at p;exact p.elim
  |ex y w=>rw[e]at p;exact λg l k t=>p g l ((b.trans f).trans k) t
  |ok d w=>
   rw[e]at p;intro g v l k t F;have B:d=.Mc:=by cases d<;>first|rfl|exact p.elim
   subst B;refine⟨F,p g (.ref x) l ((b.trans f).trans k) t ?_⟩;exact Ia.mono k _ _ (kF u)
 ·rw[ua n]at p;exact p.elim
theorem MO{k:Nat}{C f:Addr}{n:Nf}{o:List qa}{z:Sp}{d:List V}{g:List Value}{b:List (Addr × Obj)}{m:St}{H:Hp}{s:Shared}{Q:VK}{c:List Value}{p:List V}(M:Mk X.K C f)(F:Ei X.prog X.w X.K X.mg X.base (sm X.prog X.w) k f n o z)(P:Ce (k+1) X.A)(L:uu X.K n o g)(N:jf d g)
  (I:Qa X b m H s) (r:jf p c)
  (h:∀ x l,H x=none->H l=none->l≠x->z (.ref x::(p++d)) (ic (ic H l (.own x)) x (.jc C l [])) (λv B=>v=.Mc/\Q (.ref x) B) (XE X m)) :
  wpAny (model X.prog X.w) X.A (call (.ref C) c) (EP X b m Q) X.xe s:=by
 have t:=h (s.heap.objs.size+1) s.heap.objs.size (I.md.fresh (jj _)) (I.md.fresh (wa _)) (ya (Qb _));have j:=Qa.made (C:=C) I;have y:jf (V.ref (s.heap.objs.size+1)::(p++d)) (cc (s.heap.objs.size+1)::(c++g)):=.cons rfl (r.append N);have O:(cc (s.heap.objs.size+1)::c++g).length=o.length:=by
  have e:=y.length;rw[F.len _ _ _ _ t]at e;exact e.symm
 refine Ju (zvo I.Yj M.makes M.init (kh.mp M.fn) (ah (F.Gd _ X.stack _ _ ⟨cc (s.heap.objs.size+1)::c,[]⟩ (cc (s.heap.objs.size+1)::(c++g)) _ _ (XE X m) (P.make C c [])
  (j.AD.make C c []) (L _ (cc (s.heap.objs.size+1)::c) j.Yj O) y t) λr U a=>?_))
 cases r with
 |error e=>obtain⟨E,n,q,i,R⟩:=a;exact R.fG b _ _ e U j i
 |ok J=>
  cases J with
  |ret u=>
   obtain⟨v,q,D,T,G,S⟩:=j.after a;subst G;exact⟨T,⟨V.ref (s.heap.objs.size+1),q,D,rfl,S⟩⟩
  |next=>exact False.elim a
  |brk=>exact False.elim a
  |cont=>exact False.elim a
theorem sD{k c:Nat}{ps:List qa}{j:List D->M D}{x:qa}{p a:Me}{e:Fa}{d:List Fa}{y:Ev->M (List D)}(h:D5 T X.prog X.w X.mg X.base k x c ps j)(F:T.K=X.K)(S:Ce (k+1) X.A)(N:Gl X x)
  (G:FA T X (e::d) y) (m:(x == ("__debug__" : qa))=false:=by decide) (L:la (e::d) X.env=(false,Ib e X.env)::la d X.env:=by rfl) (n:(Bc a (la d X.env)).any (·.1)=false:=by rfl) :
  FE T X (.Call (.Name x p) (e::d) [] a) (au c ps.length j y):=by
 obtain⟨f,O,l,fd,J,z⟩:=h;rw[F]at l z;intro g s B H Q I R;obtain⟨μ,Y,σ,E,o,P⟩:=R;refine vg (MA I N O ?_ m);refine Ji I.ok.mod.Ex l.kp (Re (G a g s B H (λt b=>∀ x i,b x=none->b i=none->i≠x->uq T ps.length j (.ref x::(t++[])) (ic (ic b i (.own x)) x (.jc (T.ca c) i [])) (λv C=>v=.Mc/\Q (.ref x) C) (XE X B)) I ⟨μ,Y,σ,E,o,P.bind λds Z V t b _ e1 U p1 q1=>iU U p1 q1⟩) λus s1 ⟨t,b,u,r,q⟩=>⟨u.Yj,?_⟩) L n;exact MO l z S (.all J) .nil u r q
structure wK(T:Tb)(P:za)(w:Ma)(mg:qa->Option Value)(base:Heap)(k:Nat)(m:qa)(c:Nat)(ps:List qa)(fn:List D->M D):Prop where
 cl:Dm T.K (T.ca c)
 ex:∃ f,He T.K (T.ca c) m f/\Eg T P w mg base k f ps fn
abbrev Mt:=List (Nat × (List D->M D))
noncomputable def qv:Mt->Nat->Option (List D->M D)
 |[],_=>none
 |(c,fn)::r,d=>if c == d then some fn else qv r d
noncomputable def Do(n:Nat)(b:List D->M D)(x:D)(a:List D):M D:=if a.length+1=n then b (x::a)else Sb
def qm(d:Mt)(n:Nat)(m:qa)(a:M (List D))(x:D):M D:=λσ=>match Qp σ x with
 |some (c,b)=>(match qv d c,b.lookup m with
  |some fn,none=>Ld a (Do n fn x) σ
  |_,_=>.Sb)
 |none=>.Sb
def Df(c:Mt)(n:Nat)(m:qa)(f:Ev->M D)(b:Ev->M (List D)):Ev->M D:=λa=>Ld (f a) (qm c n m (b a))
theorem kJ:∀ {a:Mt} {c:Nat} {fn:List D->M D},qv a c=some fn->(c,fn)∈a
 |[],_,_,h=>by cases h
 |(d,g)::r,c,fn,h=>by
  unfold qv at h;by_cases e:(d == c)=true
  ·rw[ja e]at h;cases h;rw[kh.mp e];exact Ua
  ·rw[ua e]at h;exact Ka _ (kJ h)
theorem Η{pl:Io Bool}{k:Nat}{J:Mt}{F:List qa}{m:qa}{o e:Fa}{l:List Fa}{f:Ev->M D}{O:Ev->M (List D)}{b g:Me}(hK:T.K=X.K)(he:FE T X o f)(h:∀ q∈J,wK T X.prog X.w X.mg X.base k m q.1 F q.2)(hr:Ce k X.A)(ha:FA T X (e::l) O)
  (Y:la (e::l) X.env=(false,Ib e X.env)::la l X.env:=by rfl) (U:(Bc b (la l X.env)).any (·.1)=false:=by rfl)
  (ht:Ib (.Call (.Attribute o m g) (e::l) [] b) X.env=(do
   let ov <-Ib o X.env
   pi g.atName
   let (f,first) <-qf [ov] (mj ov m pl)
   Lq b f first (Bc b (la (e::l) X.env)) (si b (ng [] X.env))):=by rfl) :
  FE T X (.Call (.Attribute o m g) (e::l) [] b) (Df J F.length m f O):=by
 intro i s G H Q I hq;obtain⟨μ,ρ,σ,hE,V,hp⟩:=hq;have P:=hE;refine Qk (Re (he i s G H (λx p=>∃ a c E j B,x=.ref a/\p a=some (.jc (T.ca c) E j)/\qv J c=some B/\j.lookup m=none/\tL T X O G p λus L=>uq T F.length B (x::(us++[])) L Q (XE X G)) I ⟨μ,ρ,σ,hE,V,hp.bind λd C a0 v p _ e1 r1 q1 p1=>?_⟩) λu s1 ⟨x,p,I1,rx,a,c,E,j,B,ex,ea,n,t,q⟩=>?_) ht
 ·unfold qm at p1;cases N:Qp C d with
  |none=>rw[N]at p1;exact p1.elim
  |some z=>
   obtain⟨c,gs⟩:=z;rw[N]at p1;dsimp only at p1;cases n:qv J c with
   |none=>rw[n]at p1;exact p1.elim
   |some B=>
    cases t:gs.lookup m with
    |some y=>rw[n,t]at p1;exact p1.elim
    |none=>
     rw[n,t]at p1;dsimp only at p1;obtain⟨a,E,j,rfl,h1,h2⟩:=UD r1 q1 N;refine⟨a,c,E,j,B,rfl,h1,n,(HE h2).2 t,a0,ρ,C,P.mono e1,r1,p1.bind λds a2 a1 us L _ e2 r2 Z p2=>?_⟩;unfold Do at p2;by_cases S:ds.length+1=F.length
     ·rw[ja S]at p2;exact⟨a1,a2,d::ds,gb.cons (Ia.mono e2 _ _ q1) (by rw[Pe];exact Z),by rw[Cc];exact S,r2,p2⟩
     ·rw[ua S]at p2;exact p2.elim
 ·subst ex;obtain rfl:u=cc a:=rx;obtain⟨hC,f',R,fd,hb,hF⟩:=h _ (kJ n);rw[hK]at hC R hF;refine uK I1 ea hC R t ?_;refine Ji I.ok.mod.Ex R.kp (Re (ha b i s1 G p _ I1 q) λus s2 ⟨j,L,I2,r,Z⟩=>⟨I2.Yj,?_⟩) Y U;exact QD (vs:=.ref a::j) hF hr (.all hb) .nil I2 (.cons rfl r) Z
theorem V5{pl:Io Bool}{k:Nat}{E:Mt}{t:List qa}{m:qa}{o:Fa}{f:Ev->M D}{e b:Me}(hK:T.K=X.K)(he:FE T X o f)(h:∀ q∈E,wK T X.prog X.w X.mg X.base k m q.1 t q.2)(hr:Ce k X.A)
  (ht:Ib (.Call (.Attribute o m b) [] [] e) X.env=(do
   let S <-Ib o X.env
   pi b.atName
   let (f,first) <-qf [S] (mj S m pl)
   Lq e f first (Bc e (la [] X.env)) (si e (ng [] X.env))):=by rfl) :
  FE T X (.Call (.Attribute o m b) [] [] e) (Df E t.length m f Na):=by
 intro r s O H Q I hq;obtain⟨μ,ρ,σ,hE,N,hp⟩:=hq;refine Qk (Re (he r s O H (λx n=>∃ a c C l j,x=.ref a/\n a=some (.jc (T.ca c) C l)/\qv E c=some j/\l.lookup m=none/\uq T t.length j (x::([]++[])) n Q (XE X O)) I ⟨μ,ρ,σ,hE,N,hp.bind λd g B v n _ e1 U q1 p1=>?_⟩) λu s1 ⟨x,n,F,rx,a,c,C,l,j,ex,V,i,p,q⟩=>?_) ht
 ·unfold qm at p1;cases G:Qp g d with
  |none=>rw[G]at p1;exact p1.elim
  |some z=>
   obtain⟨c,Y⟩:=z;rw[G]at p1;dsimp only at p1;cases i:qv E c with
   |none=>rw[i]at p1;exact p1.elim
   |some j=>
    cases p:Y.lookup m with
    |some y=>rw[i,p]at p1;exact p1.elim
    |none=>
     rw[i,p]at p1;dsimp only at p1;obtain⟨a,C,l,rfl,Z,h2⟩:=UD U q1 G;have p2:Zb T (XE X O) (Ia T) B n (Do t.length j d [] g) Q:=p1;unfold Do at p2;by_cases L:([]:List D).length+1=t.length
     ·rw[ja L]at p2;exact⟨a,c,C,l,j,rfl,Z,i,(HE h2).2 p,B,g,[d],gb.cons q1 gb.nil,L,U,p2⟩
     ·rw[ua L]at p2;exact p2.elim
 ·subst ex;obtain rfl:u=cc a:=rx;obtain⟨P,f',J,fd,hb,R⟩:=h _ (kJ i);rw[hK]at P J R;refine uK F V P J p ?_;exact W.callWith_K0 F.Yj J.kp (QD (vs:=[.ref a]) R hr (.all hb) .nil F (.cons rfl .nil) q)
structure x3(T:Tb)(P:za)(w:Ma)(mg:qa->Option Value)(base:Heap)(k:Nat)(x m:qa)(c:Nat)(ps:List qa)(fn:List D->M D):Prop where
 gl:mg x=some (.ref (T.ca c))
 sp:W.specialIn T.K (.ref (T.ca c)) (zo "__getattribute__")=some (some (.builtin "type.__getattribute__"))
 ex:∃ f mc,W.readsIn T.K (T.ca c) mc=true/\W.findCls T.K (.ref (T.ca c)) mc m=some (.val (.ref f))/\W.keepIn T.K (.ref f)=true/\Eg T P w mg base k f ps fn
theorem ã{pl:Io Bool}{k c:Nat}{j:List qa}{l:List D->M D}{x m:qa}{p a b:Me}{e:Fa}{d:List Fa}{F:Ev->M (List D)}(h:x3 T X.prog X.w X.mg X.base k x m c j l)(U:T.K=X.K)(hr:Ce k X.A)(Z:Gl X x)(V:FA T X (e::d) F)
  (n:(x == ("__debug__" : qa))=false:=by decide) (u:la (e::d) X.env=(false,Ib e X.env)::la d X.env:=by rfl) (q:(Bc a (la d X.env)).any (·.1)=false:=by rfl)
  (ht:Ib (.Call (.Attribute (.Name x p) m b) (e::d) [] a) X.env=(do
   let O <-Ib (.Name x p) X.env
   pi b.atName
   let (f,first) <-qf [O] (mj O m pl)
   Lq a f first (Bc a (la (e::d) X.env)) (si a (ng [] X.env))):=by rfl) :
  FE T X (.Call (.Attribute (.Name x p) m b) (e::d) [] a) (Je j.length l [] F):=by
 intro i s P H Q I hq;obtain⟨μ,ρ,σ,S,t,hp⟩:=hq;obtain⟨hm,g,f,mc,G,J,L,fd,Y,N⟩:=h;rw[U]at g G J L N;refine Qk (MA I Z hm ?_ n) ht;refine W.method_cls I.Yj g (W.cls_value I.Yj G J rfl ?_);have R:=I.tok (s.toks+1);refine Ji I.ok.mod.Ex L (Re (V a i _ P H (λv B=>uq T j.length l (v++[]) B Q (XE X P)) R ⟨μ,ρ,σ,S,t,hp.bind λE z y v B _ e1 r1 p1 q1=>?_⟩) λus s2 ⟨v,H2,C,r,q2⟩=>⟨C.Yj,?_⟩) u q
 ·unfold cu at q1;by_cases o:(E++[]).length=j.length
  ·rw[ja o]at q1;exact⟨y,z,E++[],p1.append gb.nil,o,r1,q1⟩
  ·rw[ua o]at q1;exact q1.elim
 ·exact QD N hr (.all Y) .nil C r q2
end
structure je(K:W.Frag)(C:Addr)(x qual:qa)(st:Stmt)(ps:List qa)(f:Addr):Prop where
 ex:∃ fd,Mz K x qual st f fd/\∀ us:List Value,us.length=ps.length->bindArgs fd ⟨us,[]⟩=pure (ps.zip us)
section
variable{P:za}{w:Ma}{K:W.Frag}{mg:qa->Option Value}{base:Heap}{ca:Nat->Addr}{tx:Tx}
theorem yO{k:Nat}{C f:Addr}{x a:qa}{d:Stmt}{j N:List qa}{g:Ev->M Fl}(h:je K C x a d j f)(S:ra N j (Ec d))
  (m:∀ (b:Value) (A:Ha) (c:List Ih) (s:Shared) (H:Hp) (E:XK),Ce k (A.deeper (Sg a (Ec d) s.heap.objs.size f b))->Ao ⟨K,ca,tx⟩ (Wq (sm P w) P w K mg base N a (Ec d) f b A c s H E) (uj d) g) :
  Eg ⟨K,ca,tx⟩ P w mg base (k+1) f j (Gd N.length g):=by
 obtain⟨q,F,e⟩:=h.ex;obtain⟨r,t,kV,l,u,p,b,ct,o,rfl,n,i⟩:=F.ex;exact⟨_,e,qC n i S (m b)⟩
theorem Eg.Vb{T:Tb}{k:Nat}{f:Addr}{b:List qa}{a:List D->M D}(h:Eg T P w mg base k f b a):Eg T P w mg base k f b (λc=>L4.Vb (a c)):=by
 obtain⟨d,e,g⟩:=h;exact⟨d,e,OG g⟩
theorem Eg.Wa{T:Tb}{k:Nat}{f:Addr}{b:List qa}{a:List D->M D}(h:Eg T P w mg base k f b a):Eg T P w mg base k f b (L4.Wa a):=by rw[zq];exact h
end
noncomputable def we(s:Stmt)(j:Nat):Stmt:=match s with
 | .ClassDef _ _ _ b _ _ _ _ _ _ _=>b.getD j (.Pass ⟨0,0,0,0⟩)
 |s=>s
theorem q8{K:W.Frag}{C f:Addr}{x a:qa}{e:Stmt}{j:List qa}{o:Value}{p g:Option Addr}{i:Array (Option Value)}{kV d h b ct:Value}
  (n:∀ (kV d h:Value) (g:Option Addr) (b ct:Value) (m:List Value),m.length=j.length->bindArgs (W.fnOf x a (En e) (uj e) (Ec e) .none kV d h g b ct) ⟨m,[]⟩=pure (j.zip m))
  (l:K.lookup f=some ⟨o,p,.func (W.fnOf x a (En e) (uj e) (Ec e) .none kV d h g b ct),i⟩)
  (c:W.codeIn K b a=true) (k:W.keepIn K (.ref f)=true):je K C x a e j f:=⟨⟨_,xP l c k,n kV d h g b ct⟩⟩
section
variable{T:Tb}{P:za}{w:Ma}{mg:qa->Option Value}{base:Heap}
def Xh(T:Tb)(P:za)(w:Ma)(mg:qa->Option Value)(base:Heap)(k:Nat)(m:qa)(a:List qa)(b:Mt):Prop:=∀ q∈b,wK T P w mg base k m q.1 a q.2
theorem Mi{k:Nat}{m:qa}{a:List qa}:Xh T P w mg base k m a []:=λq h=>nomatch h
theorem Ũ{j k:Nat}{m:qa}{e:List qa}{i:Mt}{c:Nat}{f:Addr}{g:List D->M D}(n:Dm T.K (T.ca c))(o:He T.K (T.ca c) m f)(p:Eg T P w mg base j f e g)(r:j<=k)(h:Xh T P w mg base k m e i):Xh T P w mg base k m e ((c,g)::i):=λq d=>by
 rcases Da.mp d with rfl|d
 ·obtain⟨l,a,b⟩:=p;exact⟨n,f,o,l,a,b.mono r⟩
 ·exact h q d
end
section
variable{T:Tb}{X:Cx}
end
end L4
namespace L4
open PySem L2
theorem nr{c:Type}{a b:c}(h:a=b):a=b:=h
section
variable{α β:Type}{ρ:Ev}{σ:xb}
@[simp] theorem ge(a:α)(σ:xb)(k:α->M β):(Nm.ok a σ).bind k=k a σ:=rfl
@[simp] theorem zzs(x:Xn)(σ:xb)(k:α->M β):(Nm.ex x σ:Nm α).bind k=.ex x σ:=nr rfl
@[simp] theorem yok(a:α)(σ:xb):ret a σ=.ok a σ:=nr rfl
@[simp] theorem cn(m:M α)(k:α->M β)(σ:xb):Ld m k σ=(m σ).bind k:=nr rfl
@[simp] theorem yM(d:D):eC d ρ σ=.ok d σ:=rfl
@[simp] theorem ar(d:D)(r:Ev):ia 0 (some d::r) σ=.ok d σ:=rfl
@[simp] theorem fx(i:Nat)(o:Option D)(r:Ev):ia (i+1) (o::r) σ=ia i r σ:=rfl
@[simp] theorem E5(o:D->D->M D)(a b:Ev->M D):nb o a b ρ σ=(a ρ σ).bind (nL o (b ρ)):=rfl
@[simp] theorem ė(o:D->D->M D)(m:M D)(x:D):nL o m x σ=(m σ).bind (o x):=rfl
@[simp] theorem gG(o:D->M D)(a:Ev->M D):Qd o a ρ σ=(a ρ σ).bind o:=nr rfl
@[simp] theorem ypg(b:Bool):oC (.bl b) σ=.ok b σ:=nr rfl
@[simp] theorem ysh(p q:M α):fm p q true σ=p σ:=nr rfl
@[simp] theorem ysg(p q:M α):fm p q false σ=q σ:=nr rfl
@[simp] theorem yed(c:Bool):TM c σ=.ok (!c) σ:=nr rfl
@[simp] theorem zyq(k:Bool->M α)(b:Bool):Xz k (.bl b) σ=k b σ:=nr rfl
@[simp] theorem zvw(c:Bool):eM c σ=.ok (.bl (!c)) σ:=nr rfl
@[simp] theorem yrh(f:Ev->M D):eT f ρ σ=(f ρ σ).bind oC:=nr rfl
@[simp] theorem zzo(a b:Ev->M Bool):MD a b ρ σ=(a ρ σ).bind (fm (b ρ) (ret false)):=nr rfl
@[simp] theorem yis(a b:Ev->M Bool):dw a b ρ σ=(a ρ σ).bind (fm (ret true) (b ρ)):=nr rfl
@[simp] theorem zzp(a:Ev->M Bool):Nl a ρ σ=(a ρ σ).bind TM:=nr rfl
@[simp] theorem yah(a b:Ev->M D):Si a b ρ σ=(a ρ σ).bind (Xz (fm (b ρ) (ret (.bl false)))):=nr rfl
@[simp] theorem yjw(a b:Ev->M D):yL a b ρ σ=(a ρ σ).bind (Xz (fm (ret (.bl true)) (b ρ))):=nr rfl
@[simp] theorem yam(a:Ev->M D):QH a ρ σ=(a ρ σ).bind (Xz eM):=nr rfl
@[simp] theorem yjs(t:Ev->M Bool)(a b:Ev->M D):Nz t a b ρ σ=(t ρ σ).bind (fm (a ρ) (b ρ)):=nr rfl
@[simp] theorem Hx:Na ρ σ=.ok [] σ:=nr rfl
@[simp] theorem Iz(e:Ev->M D)(r:Ev->M (List D)):xa e r ρ σ=(e ρ σ).bind (UJ (r ρ)):=rfl
@[simp] theorem nA(m:M (List D))(x:D):UJ m x σ=(m σ).bind (iM x):=rfl
@[simp] theorem lA(x:D)(xs:List D):iM x xs σ=.ok (x::xs) σ:=rfl
@[simp] theorem JU(a:Ev->M (List D)):Hj a ρ σ=(a ρ σ).bind Iy:=nr rfl
@[simp] theorem ypi:Iy [] σ=.ok (.ub []) σ:=nr rfl
@[simp] theorem ypj(a:D):Iy [a] σ=.ok (.ub [a]) σ:=nr rfl
@[simp] theorem yT(a b:D):Iy [a,b] σ=.ok (.ub [a,b]) σ:=nr rfl
@[simp] theorem ypl(a b c:D):Iy [a,b,c] σ=.ok (.ub [a,b,c]) σ:=nr rfl
@[simp] theorem ypm(a b c d:D):Iy [a,b,c,d] σ=.ok (.ub [a,b,c,d]) σ:=nr rfl
@[simp] theorem ypn(a b c d e:D):Iy [a,b,c,d,e] σ=.ok (.ub [a,b,c,d,e]) σ:=nr rfl
@[simp] theorem yjt(a:Ev->M (List D)):Sl a ρ σ=(a ρ σ).bind Gz:=nr rfl
@[simp] theorem yak(a:Ev->M (List D)):vv a ρ σ=(a ρ σ).bind ZG:=nr rfl
@[simp] theorem yml:ZG [] σ=.ok (.ref σ.length) (σ++[.Ca []]):=nr rfl
@[simp] theorem yt2(g:Int->Int->Int)(i j:Int):oI g (.int i) (.int j) σ=.ok (.int (g i j)) σ:=nr rfl
@[simp] theorem yt0(g:Int->Int->Bool)(i j:Int):oB g (.int i) (.int j) σ=.ok (.bl (g i j)) σ:=nr rfl
theorem TL{C:Int->Int->Bool}{g:Int->Int->Int}{i j:Int}(h:C i j=true):LA C g (.int i) (.int j) σ=.ok (.int (g i j)) σ:=by
 show (if C i j=true then ret _ else Sb) σ=_;rw[ja h];rfl
@[simp] theorem yej(i j:Int)(h:0<j)(a:j<1073741824):EK (.int i) (.int j) σ=.ok (.int (i / j)) σ:=TL (by simp[aL,h,a])
@[simp] theorem yew(i j:Int)(h:0<j):qB (.int i) (.int j) σ=.ok (.int (i % j)) σ:=TL (by simp[yK,h])
theorem xD{i j:Int}(h:Bz i j=true):Ox (.int i) (.int j) σ=.ok (.int (i ^ j.toNat)) σ:=TL h
@[simp] theorem fP:Ox (.int 10) (.int 12) σ=.ok (.int 1000000000000) σ:=xD (by simp[Bz])
@[simp] theorem p6:Ox (.int 10) (.int 6) σ=.ok (.int 1000000) σ:=xD (by simp[Bz])
@[simp] theorem p4:Ox (.int 10) (.int 4) σ=.ok (.int 10000) σ:=xD (by simp[Bz])
@[simp] theorem AV:Ox (.int 10) (.int 40) σ=.ok (.int (10 ^ 40)) σ:=xD (by simp[Bz])
@[simp] theorem yey(i:Int):Uz (.int i) σ=.ok (.int (-i)) σ:=nr rfl
@[simp] theorem zv3(i j:Int):vl (.int i) (.int j) σ=.ok (.int (i+j)) σ:=nr rfl
theorem EU{xs a:List D}(h:xs.length+a.length<=zi):vl (.ub xs) (.ub a) σ=.ok (.ub (xs++a)) σ:=by show (if _ then _ else _:M D) σ=_;rw[ja h];rfl
theorem AF{xs a:List D}(h:xs.length+a.length<=zi):vl (.Ca xs) (.Ca a) σ=.ok (.Ca (xs++a)) σ:=by
 show rF (.Ca xs) (.Ca a) σ=_;unfold rF;simp only[Mh];rw[ja h]
@[simp] theorem zwe(σ:xb):Kx .Mc .Mc σ=.ok (.bl true) σ:=nr rfl
@[simp] theorem zwd(b:List D):Kx (.Ca b) .Mc σ=.ok (.bl false) σ:=nr rfl
@[simp] theorem zq0(σ:xb):AK .Mc .Mc σ=.ok (.bl false) σ:=nr rfl
theorem FJ{x y:D}{b:Bool}(h:Up σ 8 x y=some b):sh x y σ=.ok (.bl b) σ:=by unfold sh;rw[h]
theorem PR{x y:D}{b:Bool}(h:Up σ 8 x y=some b):xr x y σ=.ok (.bl (!b)) σ:=by unfold xr;rw[h]
@[simp] theorem yek(i j:Int):sh (.int i) (.int j) σ=.ok (.bl (i == j)) σ:=FJ (by simp[Up,kd,uv,Jn])
@[simp] theorem yex(i j:Int):xr (.int i) (.int j) σ=.ok (.bl (!(i == j))) σ:=PR (by simp[Up,kd,uv,Jn])
@[simp] theorem yel(i j:qa):sh (.str i) (.str j) σ=.ok (.bl (i == j)) σ:=FJ (by simp[Up,kd,uv,Jn])
theorem sE{xs:List D}{k:Int}{d:D}(h:tq xs k=some d):nc (.ub xs) (.int k) σ=.ok d σ:=by simp[nc,Im,h]
theorem yE{xs:List D}{k:Int}{d:D}(h:tq xs k=some d):nc (.Ca xs) (.int k) σ=.ok d σ:=by simp[nc,Im,h]
@[simp] theorem ysq(a:D)(r:List D):nc (.ub (a::r)) (.int 0) σ=.ok a σ:=sE (Wv rfl)
@[simp] theorem ysr(a b:D)(r:List D):nc (.ub (a::b::r)) (.int 1) σ=.ok b σ:=sE (Wv rfl)
@[simp] theorem yss(a b c:D)(r:List D):nc (.ub (a::b::c::r)) (.int 2) σ=.ok c σ:=sE (Wv rfl)
@[simp] theorem yst(a b c d:D)(r:List D):nc (.ub (a::b::c::d::r)) (.int 3) σ=.ok d σ:=sE (Wv rfl)
@[simp] theorem aZ(xs:List D):Ll [.ub xs] σ=.ok (.int xs.length) σ:=nr rfl
@[simp] theorem AO(xs:List D):Ll [.Ca xs] σ=.ok (.int xs.length) σ:=nr rfl
@[simp] theorem zwg(xs:List Int):Ll [.Uh xs] σ=.ok (.int xs.length) σ:=by simp[Ll,Im]
@[simp] theorem zs7(o:List D->M D)(a:Ev->M (List D)):Gi o a ρ σ=(a ρ σ).bind o:=nr rfl
@[simp] theorem nJ(n:Nat)(f:List D->M D)(a:List D)(b:Ev->M (List D)):Je n f a b ρ σ=(b ρ σ).bind (cu n f a):=nr rfl
@[simp] theorem Ő(f:List D->M D)(a:D):cu 1 f [] [a] σ=f [a] σ:=by unfold cu;rw[ja (by simp)];simp
@[simp] theorem mZ(f:List D->M D)(a b:D):cu 2 f [] [a,b] σ=f [a,b] σ:=by unfold cu;rw[ja (by simp)];simp
@[simp] theorem A8(f:List D->M D)(a b c:D):cu 3 f [] [a,b,c] σ=f [a,b,c] σ:=by unfold cu;rw[ja (by simp)];simp
@[simp] theorem ykv(f:List D->M D)(a b c:D):cu 3 f [c] [a,b] σ=f [a,b,c] σ:=by unfold cu;rw[ja (by simp)];simp
@[simp] theorem yrv(f:List D->M D)(a b c d:D):cu 4 f [] [a,b,c,d] σ=f [a,b,c,d] σ:=by unfold cu;rw[ja (by simp)];simp
@[simp] theorem yrw(f:List D->M D)(a b c d e g:D):cu 6 f [] [a,b,c,d,e,g] σ=f [a,b,c,d,e,g] σ:=by unfold cu;rw[ja (by simp)];simp
@[simp] theorem ygb:fh ρ σ=.ok (.nx ρ) σ:=nr rfl
@[simp] theorem ai(g h:Ev->M Fl):Mb g h ρ σ=(g ρ σ).bind (DF h):=rfl
@[simp] theorem Zh(h:Ev->M Fl)(ρ:Ev):DF h (.nx ρ) σ=h ρ σ:=rfl
@[simp] theorem ygo(h:Ev->M Fl)(d:D):DF h (.rt d) σ=.ok (.rt d) σ:=rfl
@[simp] theorem ygp(h:Ev->M Fl)(ρ:Ev)(x:Xn):DF h (.xc ρ x) σ=.ok (.xc ρ x) σ:=nr rfl
noncomputable def Xm(ρ:Ev)(k:α->M Fl):Nm α->Nm Fl
 | .ok a b=>k a b
 | .ex x b=>.ok (.xc ρ x) b
 | .Sb=>.Sb
@[simp] theorem yr(ρ:Ev)(m:M α)(k:α->M Fl):xs ρ m k σ=Xm ρ k (m σ):=by unfold xs Xm;cases m σ<;>rfl
@[simp] theorem nk(ρ:Ev)(k:α->M Fl)(a:α):Xm ρ k (.ok a σ)=k a σ:=rfl
@[simp] theorem ypu(ρ:Ev)(k:α->M Fl)(x:Xn):Xm ρ k (.ex x σ)=.ok (.xc ρ x) σ:=nr rfl
@[simp] theorem zY(f:Ev->M D):oe f ρ σ=Xm ρ tJ (f ρ σ):=yr ..
@[simp] theorem D4(d:D):tJ d σ=.ok (.rt d) σ:=nr rfl
@[simp] theorem oN(f:Ev->M D):Co f ρ σ=Xm ρ (NK ρ) (f ρ σ):=yr ..
@[simp] theorem qM(d:D):NK ρ d σ=.ok (.nx ρ) σ:=nr rfl
@[simp] theorem B6(i:Nat)(f:Ev->M D):wh i f ρ σ=Xm ρ (yD i ρ) (f ρ σ):=yr ..
@[simp] theorem Æ(i:Nat)(d:D):yD i ρ d σ=.ok (.nx (ρ.set i (some d))) σ:=rfl
@[simp] theorem B9(t:Ev->M Bool)(a b:Ev->M Fl):gh t a b ρ σ=Xm ρ (fm (a ρ) (b ρ)) (t ρ σ):=yr ..
@[simp] theorem zrj(c:Nat)(a:Ev->M (List D)):Jy c a ρ σ=Xm ρ (rG c ρ) (a ρ σ):=yr ..
@[simp] theorem zw7(c:Nat)(d:D):rG c ρ [d] σ=.ok (.xc ρ ⟨c⟩) σ:=nr rfl
@[simp] theorem ygg(g:Ev->M Fl)(a:List Hd):NN g a ρ σ=(g ρ σ).bind (GH a):=nr rfl
@[simp] theorem yh4(a:List Hd)(x:Xn):GH a (.xc ρ x) σ=Wx ρ x a σ:=nr rfl
theorem EY{h:Hd}{r:List Hd}{x:Xn}(e:h.t x.cls=some true):Wx ρ x (h::r) σ=hit h ρ x σ:=by unfold Wx;rw[e]
@[simp] theorem lz(n:Nat)(g:Ev->M Fl)(a:List D):Gd n g a σ=bq (g (a.map some++List.replicate (n - a.length) none) σ):=nr rfl
@[simp] theorem P5(d:D):bq (.ok (.rt d) σ)=.ok d σ:=nr rfl
@[simp] theorem LM:bq (.ok (.nx ρ) σ)=.ok .Mc σ:=nr rfl
@[simp] theorem yf6(x:Xn):bq (.ok (.xc ρ x) σ)=.ex x σ:=nr rfl
@[simp] theorem oD(f:M D):Vb f σ=uh σ (f σ):=nr rfl
@[simp] theorem Uu(f:Ev->M D):Gh f ρ σ=uh σ (f ρ σ):=nr rfl
theorem RL{k m:Nat}{σ:xb}{d:D}(h:cl d=true):fz k σ m d=some d:=by cases m<;>(unfold fz;rw[ja h])
theorem ybu{a:xb}{d:D}(h:cl d=true)(b:a.take σ.length=σ):uh σ (.ok d a)=.ok d σ:=by
 unfold uh;dsimp only;rw[ja b,RL h]
@[simp] theorem ybv:uh σ (.ex x σ)=.ex x σ:=by unfold uh;dsimp only;rw[ja zj]
@[simp] theorem O9{d:D}(h:cl d=true):uh σ (.ok d σ)=.ok d σ:=ybu h zj
theorem wS{j j':xb}{xs:List D}(h:Ik xs=true):uh σ (.ok (.ref σ.length) (σ++[.Ca xs]++j))=.ok (.Ca xs) σ:=by
 unfold uh;dsimp only;rw[ja (by simp)];have e:fz σ.length (σ++[.Ca xs]++j) 6 (.ref σ.length)=some (.Ca xs):=by
  unfold fz;dsimp only;rw[ua (Jf _)];have:(σ++[Ob.Ca xs]++j)[σ.length]?=some (.Ca xs):=by simp
  rw[this];dsimp only;have d:∀ a m,Ik a=true->bp (fz σ.length (σ++[.Ca xs]++j) m) a=some a:=by
   intro a m;induction a with
   |nil=>intro _;rfl
   |cons y a f=>
    intro c;have b:cl y=true/\Ik a=true:=by simpa [Ik]using c
    unfold bp;rw[RL b.1,f b.2]
  rw[d xs 5 h];rfl
 rw[e]
@[simp] theorem yi8(i:Int):cl (.int i)=true:=by simp[cl]
@[simp] theorem yqy(i:Bool):cl (.bl i)=true:=by simp[cl]
@[simp] theorem yjd(i:qa):cl (.str i)=true:=by simp[cl]
@[simp] theorem yja:cl .Mc=true:=by simp[cl]
@[simp] theorem yjf(xs:List D):cl (.ub xs)=Ik xs:=by simp[cl]
@[simp] theorem yi9(xs:List D):cl (.Ca xs)=Ik xs:=by simp[cl]
@[simp] theorem yjc(n:Nat):cl (.ref n)=false:=by simp[cl]
@[simp] theorem zz0:Ik []=true:=by simp[Ik]
@[simp] theorem E4(d:D)(a:List D):Ik (d::a)=(cl d && Ik a):=by simp[Ik]
theorem OL:∀ {a:List D},(∀ d∈a,cl d=true)->Ik a=true
 |[],_=>by simp
 |d::a,h=>by rw[E4,h d Ua,OL λx b=>h x (Ka _ b)];rfl
theorem Í{a:Type}{f:a->D}{l:List a}(h:∀ x,cl (f x)=true):Ik (l.map f)=true:=OL λd b=>by obtain⟨x,_,rfl⟩:=Ed.mp b;exact h x
@[simp] theorem zsz(l:List Int):Ik (l.map D.int)=true:=Í yi8
theorem l4{xs:List D}{k:Int}(a:0<=k)(h:k<xs.length):tq xs k=some (xs.getD k.toNat .Mc):=by
 obtain⟨n,rfl⟩:=Int.eq_ofNat_of_zero_le a;have b:n<xs.length:=by omega
 refine Wv ?_;show xs[n]?=some (xs.getD n .Mc);rw[Di,Fb b];rfl
theorem Q8{a:List Int}{k:Int}(b:0<=k)(h:k<a.length):tq (a.map D.int) k=some (.int (a.getD k.toNat 0)):=by
 rw[l4 b (by simpa using h)];have c:k.toNat<a.length:=by omega
 simp[c]
@[simp] theorem ytj(a:D):Gz [a] σ=.ok (.Ca [a]) σ:=nr rfl
@[simp] theorem yti:Gz [] σ=.ok (.Ca []) σ:=nr rfl
@[simp] theorem ytk(a b:D):Gz [a,b] σ=.ok (.Ca [a,b]) σ:=nr rfl
@[simp] theorem ytl(a b c:D):Gz [a,b,c] σ=.ok (.Ca [a,b,c]) σ:=nr rfl
@[simp] theorem ytm(a b c d:D):Gz [a,b,c,d] σ=.ok (.Ca [a,b,c,d]) σ:=nr rfl
@[simp] theorem ZU(xs:List D):ti (σ++[.Ca xs]) σ.length=some xs:=by simp[ti]
@[simp] theorem eG(a b:Ob):(σ++[a]).set σ.length b=σ++[b]:=by
 rw[vk _ _ (wa _)];simp
@[simp] theorem zta(o:D->List D->M D)(f:Ev->M D)(a:Ev->M (List D)):uC o f a ρ σ=(f ρ σ).bind (Yy o (a ρ)):=nr rfl
theorem lG{o:D->List D->M D}{m:M (List D)}{x:D}{xs:List D}(h:Mh σ x=some xs):Yy o m x σ=(m σ).bind (o x):=by unfold Yy;rw[h];rfl
theorem OJ{xs:List D}{d:D}(h:xs.length<1000):zt (.ref σ.length) [d] (σ++[.Ca xs])=.ok .Mc (σ++[.Ca (xs++[d])]):=by
 unfold zt;simp only[ZU];rw[ja (show xs.length<zi from h),eG]
theorem YT{neg:Bool}{w:Int}{x:D}{ws:List Int}(h:Im σ x=some (ws.map D.int)):kA neg (.int w) x σ=.ok (.bl (if neg then !(ws.any (·== w))else ws.any (·== w))) σ:=by
 have a:∀ l:List Int,(l.map D.int).all vy=true:=λl=>by simp[vy,sc]
 have b:∀ l:List Int,((l.map D.int).any λz=>Jz z (.int w))=l.any (·== w):=λl=>by simp[Jz,sc,Jn,Function.comp_def]
 unfold kA;rw[h];simp only[a,b,show vy (.int w)=true from rfl,Bool.and_self,vm]
@[simp] theorem i5(xs:List D):Im σ (.Ca xs)=some xs:=nr rfl
@[simp] theorem zrv(xs:List D):Im σ (.ub xs)=some xs:=nr rfl
@[simp] theorem nM(f:Ev->M D):qi f ρ σ=(f ρ σ).bind sw:=nr rfl
@[simp] theorem QU(a:List D):sw (.ub a) σ=.ok (.seq a) σ:=nr rfl
@[simp] theorem RH(a:List D):sw (.Ca a) σ=.ok (.seq a) σ:=nr rfl
@[simp] theorem yhp(f:Ev->M D):Tz f ρ σ=(f ρ σ).bind cA:=nr rfl
theorem YL{j:Int}(h:-(2 ^ 62)<=j)(a:j<2 ^ 62):cA (.int j) σ=.ok (.seq (IA j.toNat)) σ:=by
 unfold cA;dsimp only;rw[ja (by simp only[Mx,zq,Ea,Kc];exact⟨h,a⟩)]
@[simp] theorem Nx(b:Ev->M Lk)(tg:D->Ev->Option Ev)(a:Ev->M Fl):Tn b tg a ρ σ=Xm ρ (BG tg a ρ) (b ρ σ):=yr ..
@[simp] theorem Dx(tg:D->Ev->Option Ev)(a:Ev->M Fl)(b:List D):BG tg a ρ (.seq b) σ=br tg a b ρ σ:=nr rfl
@[simp] theorem jC(tg:D->Ev->Option Ev)(a:Ev->M Fl):br tg a [] ρ σ=.ok (.nx ρ) σ:=nr rfl
theorem j7{tg:D->Ev->Option Ev}{body:Ev->M Fl}{d:D}{a:List D}{ρ1:Ev}(h:tg d ρ=some ρ1):br tg body (d::a) ρ σ=(body ρ1 σ).bind (Rx (br tg body a)):=by
 show (match tg d ρ with|none=>Sb|some ρ1=>Ld (body ρ1) (Rx (br tg body a))) σ=_;rw[h];rfl
@[simp] theorem Ny(i:Nat)(a:Ev->M Fl)(d:D)(b:List D):br (de i) a (d::b) ρ σ=(a (ρ.set i (some d)) σ).bind (Rx (br (de i) a b)):=j7 rfl
@[simp] theorem gn(k:Ev->M Fl):Rx k (.nx ρ) σ=k ρ σ:=nr rfl
theorem jD{m:M α}{a:α}{b:xb}(h:m σ=.ok a b):eq m σ=.ok a b:=by unfold eq;rw[h]
end
section
variable{α β:Type}{ρ:Ev}{σ:xb}
@[simp] theorem Ŗ(a:List Int):Im σ (.Uh a)=some (a.map D.int):=nr rfl
theorem Į{a:List Int}{k:Int}(b:0<=k)(h:k<a.length):nc (.Uh a) (.int k) σ=.ok (.int (a.getD k.toNat 0)) σ:=by
 simp only[nc,Ŗ,Q8 b h]
@[simp] theorem zv9(c:BT)(i:Int):Vs c (.int i) σ=.ok (.bl (match c with | .int=>true|_=>false)) σ:=nr rfl
@[simp] theorem yeo(c:BT)(i:Bool):Vs c (.bl i) σ=.ok (.bl (match c with | .int=>true | .bool=>true|_=>false)) σ:=nr rfl
@[simp] theorem zwc(xs:List D):Vs .tuple (.ub xs) σ=.ok (.bl true) σ:=nr rfl
@[simp] theorem zou(o d:D->D->M D)(a b c:Ev->M D):pM o d a b c ρ σ=(a ρ σ).bind (ON o d (b ρ) (c ρ)):=nr rfl
noncomputable def pl:Nat->D->Bool
 |_,.Mc=>true
 |_,.bl _=>true
 |_,.int _=>true
 |_,.str _=>true
 |n+1,.ub xs=>xs.all (pl n)
 |n+1,.Ca xs=>xs.all (pl n)
 |_,_=>false
theorem JM{f:D->D->Option Bool}:∀ {xs:List D},(∀ x∈xs,f x x=some true)->du f xs xs=some true
 |[],_=>rfl
 |x::xs,h=>by unfold du;rw[h x Ua,JM λy a=>h y (Ka _ a)];rfl
theorem BH:∀ (n:Nat) (x:D),pl n x=true->Up σ n x x=some true
 |0,x,h=>by cases x<;>simp[pl]at h<;>simp[Up,kd,uv,Jn]
 |n+1,x,h=>by
  cases x with
  |Mc=>simp[Up,kd,uv,Jn]
  |bl b=>simp[Up,kd,uv,Jn]
  |int b=>simp[Up,kd,uv,Jn]
  |str b=>simp[Up,kd,uv,Jn]
  |ub xs=>
   simp only[pl,Dc]at h;exact JM λy a=>BH n y (h y a)
  |Ca xs=>
   simp only[pl,Dc]at h;exact JM λy a=>BH n y (h y a)
  |_=>simp[pl]at h
theorem WL{x:D}(h:pl 8 x=true):sh x x σ=.ok (.bl true) σ:=FJ (BH 8 x h)
theorem ű{x:D}(h:pl 8 x=true):xr x x σ=.ok (.bl false) σ:=PR (BH 8 x h)
@[simp] theorem zxo(f b a:Ev->M D):IK f b a ρ σ=Xm ρ (uM ρ b a) (f ρ σ):=yr ..
@[simp] theorem zol(o a:D->D->M D)(b c:M D)(x:D):ON o a b c x σ=(b σ).bind (oM o a c x):=nr rfl
@[simp] theorem zon(o a:D->D->M D)(c:M D)(x y:D):oM o a c x y σ=(o x y σ).bind (ML a c y):=nr rfl
@[simp] theorem zom(a:D->D->M D)(c:M D)(y:D)(b:Bool):ML a c y (.bl b) σ=fm (Ld c (a y)) (ret (.bl false)) b σ:=nr rfl
@[simp] theorem zx1(b a:Ev->M D)(d:D):uM ρ b a d σ=Xm ρ (yJ ρ a d) (b ρ σ):=yr ..
@[simp] theorem zx2(a:Ev->M D)(d x:D):yJ ρ a d x σ=Xm ρ (xC ρ d x) (a ρ σ):=yr ..
@[simp] theorem zn8{a:Type}(f:a->Bool)(l:List a):FC (l.map λx=>D.bl (f x))=some (l.map f):=by
 induction l with
 |nil=>rfl
 |cons x l b=>simp[FC,b]
@[simp] theorem oW(l:List Int):Vu (l.map D.int)=some l:=by
 induction l with
 |nil=>rfl
 |cons x l a=>simp[Vu,a]
theorem A7{a:Type}{f:a->Bool}{l:List a}:RB [.Ca (l.map λx=>D.bl (f x))] σ=.ok (.bl (l.all f)) σ:=by
 simp only[RB];simp
theorem zhr{l:List Int}(h:l.length<=1000):aC (.Ca (l.map D.int)) σ=.ok (.int (Zq l).length) σ:=by
 simp only[aC,Mh,kj,oW];rw[ja (show l.length<=zi from h)]
end
section
variable{ρ:Ev}{σ:xb}
@[simp] theorem jP(c n:Nat)(a:List D->M D)(b:Ev->M (List D)):au c n a b ρ σ=(b ρ σ).bind (Uq c n a):=nr rfl
theorem wI{c n:Nat}{b:List D->M D}{a:List D}(h:a.length+1=n):Uq c n b a σ=Oy σ.length (b (.ref σ.length::a) (σ++[.jc c []])):=by unfold Uq;rw[ja h]
@[simp] theorem fM(c:Nat)(b:List D->M D)(a:D):Uq c 2 b [a] σ=Oy σ.length (b [.ref σ.length,a] (σ++[.jc c []])):=wI rfl
@[simp] theorem yU(c:Nat)(g:List D->M D)(a b d e f:D):Uq c 6 g [a,b,d,e,f] σ=Oy σ.length (g [.ref σ.length,a,b,d,e,f] (σ++[.jc c []])):=wI rfl
@[simp] theorem iB(n:Nat):Oy n (.ok .Mc σ)=.ok (.ref n) σ:=nr rfl
@[simp] theorem az(a:List Nat)(f:qa)(c b:Ev->M D):Qi a f c b ρ σ=Xm ρ (cK ρ a f b) (c ρ σ):=yr ..
@[simp] theorem Xy(a:List Nat)(f:qa)(b:Ev->M D)(d:D):cK ρ a f b d σ=Xm ρ (Zv ρ a f d) (b ρ σ):=yr ..
theorem VH{cs:List Nat}{f:qa}{d:D}{c:Nat}{fs:List (qa × D)}(h:cs.contains c=true)(a:fs.length<1000):Zv ρ cs f d (.ref σ.length) (σ++[.jc c fs])=.ok (.nx ρ) (σ++[.jc c (Xk f d fs)]):=by
 have e:iA cs f d (.ref σ.length) (σ++[.jc c fs])=.ok () (σ++[.jc c (Xk f d fs)]):=by
  have:(σ++[Ob.jc c fs])[σ.length]?=some (.jc c fs):=by simp
  unfold iA;simp only[this];rw[ja (by rw[h];simpa using a)];simp
 unfold Zv;rw[e]
theorem mC{c:Nat}{b:List qa}{a:List D}(h:b.length=a.length):Qp σ (.obj c b a)=some (c,b.zip a):=by unfold Qp;dsimp only;rw[ja h]
theorem jl{cs:List Nat}{f:qa}{x d:D}{c:Nat}{a:List (qa × D)}(h:Qp σ x=some (c,a))(b:cs.contains c=true)(e:a.lookup f=some d):gd cs f x σ=.ok d σ:=by
 unfold gd;rw[h];dsimp only;rw[ja b,e]
@[simp] theorem jF(b:Mt)(n:Nat)(m:qa)(f:Ev->M D)(a:Ev->M (List D)):Df b n m f a ρ σ=(f ρ σ).bind (qm b n m (a ρ)):=nr rfl
theorem Lv{d:Mt}{n:Nat}{m:qa}{a:M (List D)}{x:D}{c:Nat}{b:List (qa × D)}{fn:List D->M D}(h:Qp σ x=some (c,b))(f:qv d c=some fn)(e:b.lookup m=none):qm d n m a x σ=(a σ).bind (Do n fn x):=by
 unfold qm;rw[h];dsimp only;rw[f,e];rfl
theorem bE{n:Nat}{b:List D->M D}{x:D}{a:List D}(h:a.length+1=n):Do n b x a σ=b (x::a) σ:=by unfold Do;rw[ja h]
@[simp] theorem zE(a:List D->M D)(x:D):Do 1 a x [] σ=a [x] σ:=bE rfl
@[simp] theorem BS(b:List D->M D)(x a:D):Do 2 b x [a] σ=b [x,a] σ:=bE rfl
@[simp] theorem OK(c:List D->M D)(x a b:D):Do 3 c x [a,b] σ=c [x,a,b] σ:=bE rfl
@[simp] theorem yd5(e:List D->M D)(x a b c d:D):Do 5 e x [a,b,c,d] σ=e [x,a,b,c,d] σ:=bE rfl
theorem mI{c:Nat}{a:List (qa × D)}(h:Ik (a.map (·.2))=true):uh σ (.ok (.ref σ.length) (σ++[.jc c a]))=.ok (.obj c (a.map (·.1)) (a.map (·.2))) σ:=by
 unfold uh;dsimp only;rw[ja (by simp)];have e:fz σ.length (σ++[.jc c a]) 6 (.ref σ.length)=some (.obj c (a.map (·.1)) (a.map (·.2))):=by
  unfold fz;dsimp only;rw[ua (Jf _)];have:(σ++[Ob.jc c a])[σ.length]?=some (.jc c a):=by simp
  rw[this];dsimp only;have g:∀ b (m:Nat),Ik b=true->bp (fz σ.length (σ++[.jc c a]) m) b=some b:=by
   intro b m;induction b with
   |nil=>intro _;rfl
   |cons y b i=>
    intro f;have d:cl y=true/\Ik b=true:=by simpa using f
    unfold bp;rw[RL d.1,i d.2]
  rw[g _ 5 h];rfl
 rw[e]
@[simp] theorem yjb(c:Nat)(b:List qa)(a:List D):cl (.obj c b a)=Ik a:=by simp[cl]
@[simp] theorem zwb(i:qa):Vs .str (.str i) σ=.ok (.bl true) σ:=nr rfl
@[simp] theorem zwa(c:BT):Vs c .Mc σ=.ok (.bl false) σ:=by cases c<;>rfl
end
end L4
namespace L4
open PySem PySem.Spec PySem.Calls PyProof.Rows PySem.Builtin PySem.Builtin.ObjectAttr PySem.Builtin.Getset_descriptor L2
structure Qw(K:W.Frag)(C:Addr):Prop where
 g:W.findIn K (.ref C) "__getattribute__" = some (some (.builtin "BaseException.__getattribute__"))
 g2:W.findIn K (.ref C) "__getattr__" = some none
 mb:W.mroIn K C (.type "BaseException")=some true
 d:W.hasDictIn K C=true
 a:W.findIn K (.ref C) "__class__" = some (some (.builtin "object.__class__"))
 n:W.specialIn K (.builtin "object.__class__") "__get__" = some (some (.builtin "getset_descriptor.__get__"))
 t:W.takesIn K (.builtin "object.__class__")=some true
 m:W.mroIn K C (.type "object")=some true
section
variable{prog:za}{w:Ma}{A:Ha}{E:Value->Shared->Prop}{s:Shared}{K:W.Frag}{C ea:Addr}{hp:Heap}{Mo:zl}
theorem mL(p:YH C ea hp):W.Looks Mo hp (Op (.ref ea)) (.ref C):=by
 obtain⟨o,a,b⟩:=p;rw[<-b];exact(Ip a).andThen .now
theorem ĕ(Z:Qw K C)(X:K.In hp):W.Looks Mo hp (find (.ref ea) (.ref C) "__class__") (.bind (.builtin "getset_descriptor.__get__") (.builtin "object.__class__")):=by
 have b:W.Looks Mo hp (dataDescriptor? (some (.builtin "object.__class__")) (some (.builtin "getset_descriptor.__get__"))) (some (.builtin "getset_descriptor.__get__",.builtin "object.__class__")):=(W.looks_takesIn X Z.t).andThen .now;exact(jm X Z.a).andThen ((W.looks_specialIn X Z.n).andThen (b.andThen (W.Looks.tag .now)))
theorem yau{a:Value}{R:Mp->Shared->Prop}(Z:Qw K C)(X:K.In s.heap)(p:YH C ea s.heap)(h:R (.ok (.ret (.ref C))) s):codeAny (model prog w) A (.call (.builtin "getset_descriptor.__get__") ⟨[.builtin "object.__class__",.ref ea,a],[]⟩) R s:=by
 obtain⟨d,c,b,i,g⟩:=s;have e:=mL (Mo:=model prog w) p;have f:=YI (M:=model prog w) X Z.m;refine Qm VC.plain W.KF.entry_gs (VC.check _ _ _ _ _ _ _ _ W.KF.type_class (W.KF.args_gs _ _ _) ?_);refine aa (da ?_);unfold descrGetter descrCheckInstance descrNameAndClass Ou;simp only[W.KF.owner_class];repeat lk
 refine⟨vw _ (by decide +kernel),qd W.KF.entry_class ?_⟩;unfold gj.«object.__class__» shownTypeOf;repeat lk
 exact h
theorem Ä{Q:Option Value->Shared->Prop}(Z:Qw K C)(X:K.In s.heap)(p:YH C ea s.heap)(h:Q (some (.ref C)) { s with toks:=s.toks+1 }):wpAny (model prog w) A (getAttr? (.ref ea) "__class__") Q E s:=by
 obtain⟨f,e,c,o,n⟩:=s;have i:=mL (Mo:=model prog w) p;have j:=jm (M:=model prog w) X Z.g;have k:=jm (M:=model prog w) X Z.g2;have l:=ĕ (ea:=ea) (Mo:=model prog w) Z X;have m:=YI (M:=model prog w) X Z.mb;have d:=Jp.ga.bind (.ref ea);repeat (any_goals (first|assumption|(with_reducible refine W.Looks.at (by assumption) ?_)|wp_step))
 refine Qm Jp.ga.plain PySem.F.entry_bexc_ga ?_;have a:builtinKind "BaseException.__getattribute__" = some .slot:=by decide +kernel
 have b:splitId "BaseException.__getattribute__" = some ("BaseException","__getattribute__"):=by decide +kernel
 simp only[List.cons_append,List.nil_append,checkBuiltinCall,a,b];refine aa ?_;unfold Ou;repeat (any_goals (first|assumption|(with_reducible refine W.Looks.at (by assumption) ?_)|wp_step))
 refine yau Z X p ?_;exact da (W.handed_on rfl (da h))
theorem ay.plain{a:Option Addr}(p:ay C a ea hp):YH C ea hp:=let ⟨o,b,c,_⟩:=p;⟨o,b,c⟩
theorem V8{f:Option Addr}(Z:Qw K C):W.KitX K (.ref ea) (.ref C) (ay C f ea) where
 ty:=λ_ _ _ p=>mL p.plain
 it:=λ_ _ X _=>by
  obtain⟨g,a,_⟩:=oz Z.d;unfold W.clsIn at a;split at a
  ·rename_i b
   intro j m l o k q;unfold isType loadHead;exact aa (RN (k _ _ (X _ _ b)) (da q))
  ·cases a
 ne:=λh s f i n r X c=>by
  obtain⟨g,a,_⟩:=oz Z.d;refine Bool.eq_false_iff.mpr λq=>?_;have e:=zaE (kh.mp q);subst e;unfold W.clsIn at a;split at a
  ·rename_i b;have z:=(X _ _ b).symm.trans c;cases z
  ·cases a
 ca:=λX p k=>Ä Z X p.plain k
end
noncomputable def qA(t:Nat->Option Bool)(x:D):M D:=λa=>match x with
 | .Vr c=>(match t c with|some b=>.ok (.bl b) a|none=>.Sb)
 |_=>.Sb
section
variable{T:Tb}{X:Cx}
def nX(K:W.Frag)(e:V)(c:Value):List V->Hp->VK->Prop:=λxs H Q=>∃ a C d b,xs=[.ref a,e]/\H a=some (.ext (ay C d a))/\Qw K C/\W.kitOne K (.ref C) c=some b/\Q (.bl b) H
theorem zsp{g:V}{d:Value}(j:∀ u,ie g u->u=d):Oo X (.builtin "isinstance") (nX X.K g d):=by
 intro f s m H xs o Q I r h;obtain⟨a,C,l,b,rfl,i,Z,e,q⟩:=h;obtain⟨u,u2,rfl,k,c⟩:=YJ r;cases j _ c;cases (k);exact bg (V8 Z) I.Yj (I.md a _ i).1 e (λz=>nomatch z) λn=>⟨.bl b,H,I.tok _,rfl,q⟩
inductive Fu(X:Cx)(y:qa):V->Value->Prop where
 |own {a:Addr} (h:X.mg y=some (.ref a)):Fu X y (.ref a) (.ref a)
 |bt {n:String} (h:X.mg y=none) (hv:bootBuiltins y=some (.type n)) (hn:y ≠ "__name__"):Fu X y (.ty n) (.type n)
theorem Fu.pe{y:qa}{c:V}{d:Value}{p2:Me}(h:Fu X y c d)(b:Gl X y)(a:(y == ("__debug__" : qa))=false):PE X (.Name y p2) (tC c):=by
 cases h with
 |own h=>exact AI b h rfl a
 |bt h f e=>exact IQ b h f rfl e a
theorem Fu.rel{y:qa}{b:V}{a:Value}(h:Fu X y b a):∀ u,ie b u->u=a:=by
 cases h with
 |own h=>exact λu q=>q
 |bt h d c=>exact λu q=>q
theorem AS{y:qa}{J:V}{m:Value}{t:Nat->Option Bool}{e:Fa}{f:Ev->M D}{p p2 g:Me}(w:FE T X e f)(z:Gl X "isinstance")(A:X.mg "isinstance" = none)(k:Gl X y)(j:(y == ("__debug__" : qa))=false)(n:Fu X y J m)
  (E:∀ c b,t c=some b->Qw X.K (T.ca c)/\W.kitOne X.K (.ref (T.ca c)) m=some b)
  (o:la [e,.Name y p2] X.env=(false,Ib e X.env)::la [.Name y p2] X.env:=by rfl) (l:(Bc g (la [.Name y p2] X.env)).any (·.1)=false:=by rfl) :
  FE T X (.Call (.Name "isinstance" p) [e,.Name y p2] [] g) (Qd (qA t) f):=by
 intro d s G H Q I h;refine lC (zsp n.rel) z A Tt (Dt w (Dt (n.pe k j) aw) o) (by decide) (by decide) o l d s G H Q I ?_;obtain⟨O,R,S,u,C,B⟩:=h;refine⟨O,R,S,u,C,B.bind λx U P v Y _ Z F p1 q1=>?_⟩;unfold qA at q1;cases x with
 |Vr c=>
  dsimp only at q1;cases i:t c with
  |none=>rw[i]at q1;exact q1.elim
  |some b=>
   rw[i]at q1;obtain⟨a,q,rfl,_,r,_⟩:=p1;obtain⟨L,N⟩:=E c b i;exact⟨a,T.ca c,q,b,rfl,r,L,N,Zb.here q1 F (by rw[Ia])⟩
 |_=>exact q1.elim
end
def KI(K:W.Frag)(a:Nat->Addr)(b:Value)(l:List (Nat × Bool)):Prop:=∀ p∈l,Qw K (a p.1)/\W.kitOne K (.ref (a p.1)) b=some p.2
theorem bS{K:W.Frag}{a:Nat->Addr}{b:Value}:KI K a b []:=λ_ h=>nomatch h
theorem cU{K:W.Frag}{a:Nat->Addr}{d:Value}{c:Nat}{b:Bool}{l:List (Nat × Bool)}(z:Qw K (a c))(h:W.kitOne K (.ref (a c)) d=some b)(r:KI K a d l):KI K a d ((c,b)::l):=λp e=>by
 rcases Da.mp e with rfl|e
 ·exact⟨z,h⟩
 ·exact r p e
theorem CO{K:W.Frag}{a:Nat->Addr}{d:Value}{l:List (Nat × Bool)}(h:KI K a d l):∀ c b,ut l c=some b->Qw K (a c)/\W.kitOne K (.ref (a c)) d=some b:=λc b e=>h (c,b) (NG e)
section
variable{ρ:Ev}{σ:xb}
@[simp] theorem yll(t:Nat->Option Bool)(i:Nat)(g:Ev->M Fl)(x:Xn):hit ⟨t,some i,g⟩ ρ x σ=(g (ρ.set i (some (.Vr x.cls))) σ).bind (kH i):=nr rfl
@[simp] theorem yh8(i:Nat):kH i (.nx ρ) σ=.ok (.nx (ρ.set i none)) σ:=nr rfl
theorem oV{t:Nat->Option Bool}{c:Nat}{b:Bool}(h:t c=some b):qA t (.Vr c) σ=.ok (.bl b) σ:=by unfold qA;dsimp only;rw[h]
end
end L4
namespace L4
open PySem PySem.Spec PySem.Calls PyProof.Rows L2
section
variable{T:Tb}{X:Cx}
end
end L4
namespace HT
open PySem Builtin
open Sem (wp)
end HT
namespace L4
open PySem PySem.Spec PyProof.Rows L2
end L4
namespace HT
open PySem Builtin
open Sem (wp)
end HT
namespace L4
open PySem PySem.Spec PyProof.Rows L2
section
variable{T:Tb}{X:Cx}
end
end L4
namespace L2
open PySem PySem.Spec PyProof.Rows
section
variable{κ:Type}[DecidableEq κ]
noncomputable def cr(a:List (κ × V))(k:κ):Option V:=(a.find? λb=>decide (b.1=k)).map (·.2)
noncomputable def On(a:List (κ × V))(k:κ)(v:V):List (κ × V):=
 if (a.any λb=>decide (b.1=k))=true then a.map (λb=>if b.1=k then (b.1,v)else b)else a++[(k,v)]
noncomputable def kS(a:List (κ × V))(k:κ):List (κ × V):=a.filter λb=>decide (b.1≠k)
theorem O2{k:κ}:cr ([]:List (κ × V)) k=none:=rfl
theorem xE{p:κ × V}{r:List (κ × V)}{k:κ}(e:p.1=k):cr (p::r) k=some p.2:=by simp[cr,Bf,e]
theorem ED{p:κ × V}{r:List (κ × V)}{k:κ}(e:¬ p.1=k):cr (p::r) k=cr r k:=by simp[cr,Bf,e]
theorem lP(k:κ):∀ a:List (κ × V),(a.any λb=>decide (b.1=k))=(cr a k).isSome
 |[]=>rfl
 |p::r=>by
  rw[Ff];by_cases e:p.1=k
  ·simp only[xE e,ci e,Bool.true_or,Option.isSome_some]
  ·rw[ED e,yd e,LB];exact lP k r
theorem tG(a:List (κ × V))(k:κ)(v:V):(On a k v).length<=a.length+1:=by
 unfold On;split
 ·rw[Pb];omega
 ·rw[ye,Cc,rz];omega
theorem Ts.Pi{o:Option V}{u:Option Value}(r:Ts o u):o.isSome=u.isSome:=by
 cases o with
 |none=>cases u with
  |none=>rfl
  |some _=>exact(show False from r).elim
 |some _=>cases u with
  |none=>exact(show False from r).elim
  |some _=>rfl
theorem Ts.getD{o:Option V}{u:Option Value}{d:V}{a:Value}(r:Ts o u)(b:ie d a):ie (o.getD d) (u.getD a):=by
 cases o with
 |none=>cases u with
  |none=>exact b
  |some _=>exact(show False from r).elim
 |some _=>cases u with
  |none=>exact(show False from r).elim
  |some _=>exact r
theorem KV.val{a:List (κ × V)}{g:List (κ × Value)}(r:KV a g)(k:κ):Ts (cr a k) (Mq g k):=by
 unfold KV at r;induction r with
 |nil=>exact True.intro
 |@cons p q l d h t j=>
  obtain⟨f,i⟩:=h;by_cases e:p.1=k
  ·have c:q.1=k:=f.symm.trans e;have b:Mq (q::d) k=some q.2:=by simp[Mq,Bf,c]
   rw[xE e,b];exact i
  ·have c:¬ q.1=k:=λz=>e (f.trans z);have b:Mq (q::d) k=Mq d k:=by simp[Mq,Bf,c]
   rw[ED e,b];exact j
theorem KV.any{a:List (κ × V)}{c:List (κ × Value)}(r:KV a c)(k:κ):(a.any λb=>decide (b.1=k))=c.any λb=>decide (b.1=k):=by
 unfold KV at r;induction r with
 |nil=>rfl
 |cons h t d=>rw[Ff,Ff,d,h.1]
theorem KV.ZA{b:List (κ × V)}{d:List (κ × Value)}(r:KV b d)(k:κ){y:V}{u:Value}(i:ie y u) :
  KV (b.map λa=>if a.1=k then (a.1,y)else a) (d.map λa=>if a.1=k then (a.1,u)else a):=by
 unfold KV at r ⊢;induction r with
 |nil=>exact .nil
 |@cons p q j l h t g=>
  rw[yb,yb];refine .cons ?_ g;obtain⟨c,f⟩:=h;by_cases e:p.1=k
  ·rw[ja e,ja (c.symm.trans e)];exact⟨c,i⟩
  ·rw[ua e,ua (λz=>e (c.trans z))];exact⟨c,f⟩
theorem KV.put{a:List (κ × V)}{b:List (κ × Value)}(r:KV a b)(k:κ){y:V}{u:Value}(c:ie y u):KV (On a k y) (stored b k u):=by
 unfold On stored;rw[r.any k];by_cases e:(b.any λd=>decide (d.1=k))=true
 ·rw[ja e,ja e];exact r.ZA k c
 ·rw[ua e,ua e];exact Paired.snoc r ⟨rfl,c⟩
theorem KV.drop{c:List (κ × V)}{g:List (κ × Value)}(r:KV c g)(k:κ):KV (kS c k) (without g k):=by
 unfold KV at r ⊢;unfold kS without;induction r with
 |nil=>exact .nil
 |@cons p q l m h t f=>
  obtain⟨d,j⟩:=h;rw[Aj,Aj];by_cases e:p.1=k
  ·have a:¬ decide (p.1≠k)=true:=by simp[e]
   have b:¬ decide (q.1≠k)=true:=by simp[d.symm.trans e]
   rw[ua a,ua b];exact f
  ·have i:¬ q.1=k:=λz=>e (d.trans z);have a:decide (p.1≠k)=true:=by simp[e]
   have b:decide (q.1≠k)=true:=by simp[i]
   rw[ja a,ja b];exact .cons ⟨d,j⟩ f
theorem KV.keys{a:List (κ × V)}{b:List (κ × Value)}(r:KV a b):a.map (·.1)=b.map (·.1):=by
 unfold KV at r;induction r with
 |nil=>rfl
 |cons h t c=>rw[yb,yb,c,h.1]
theorem KV.length{a:List (κ × V)}{b:List (κ × Value)}(r:KV a b):a.length=b.length:=Paired.length r
end
theorem zy{P:za}{w:Ma}{k:gc}{u:Value}(r:ie (kV k) u):(Ri P w).is k u=true:=by
 cases k with
 |inl i=>obtain⟨t,e⟩:=(show ∃ t,u=Gg i t from r);subst e;exact jZ P w i t
 |inr x=>obtain⟨t,e⟩:=(show ∃ t,u=zx x t from r);subst e;exact P0 P w x t
theorem UV{P:za}{w:Ma}:∀ {a:List gc} {us:List Value},jf (a.map kV) us->ItemsAre (Ri P w) a us
 |[],_,r=>by rw[Qj]at r;cases r;exact .nil
 |k::a,_,r=>by
  rw[yb]at r;cases r with
  |cons h t=>exact .cons (zy h) (UV t)
abbrev KT(H:Hp):List (List gc × V)->List (List gc × Addr × Value)->Prop:=Paired λp q=>p.1=q.1/\H q.2.1=some (.ub (p.1.map kV))/\ie p.2 q.2.2
theorem KT.val{H:Hp}{a:List (List gc × V)}{xs:List (List gc × Addr × Value)}(r:KT H a xs)(k:List gc):Ts (cr a k) ((Nq xs k).map (·.2)):=by
 induction r with
 |nil=>exact True.intro
 |@cons p q j d h t i=>
  obtain⟨f,_,g⟩:=h;by_cases e:p.1=k
  ·have c:q.1=k:=f.symm.trans e;have b:Nq (q::d) k=some q.2:=by simp[Nq,Bf,c]
   rw[xE e,b];exact g
  ·have c:¬ q.1=k:=λz=>e (f.trans z);have b:Nq (q::d) k=Nq d k:=by simp[Nq,Bf,c]
   rw[ED e,b];exact i
theorem KT.ZA{H:Hp}{a:List (List gc × V)}{xs:List (List gc × Addr × Value)}(r:KT H a xs)(k:List gc){y:V}{u:Value}(i:ie y u) :
  KT H (a.map λc=>if c.1=k then (c.1,y)else c) (xs.map (putAt k u)):=by
 induction r with
 |nil=>exact .nil
 |@cons p q j l h t g=>
  rw[yb,yb];refine .cons ?_ g;obtain⟨b,d,f⟩:=h;unfold putAt;by_cases e:p.1=k
  ·rw[ja e,ja (b.symm.trans e)];exact⟨b,d,i⟩
  ·rw[ua e,ua (λz=>e (b.trans z))];exact⟨b,d,f⟩
theorem KT.put{H:Hp}{a:List (List gc × V)}{xs:List (List gc × Addr × Value)}(r:KT H a xs)(k:List gc){b:Addr}{y:V}{u:Value}(d:H b=some (.ub (k.map kV)))(c:ie y u) :
  KT H (On a k y) (storedH xs k b u):=by
 have e:(a.any λf=>decide (f.1=k))=(Nq xs k).isSome:=by
  rw[lP,(r.val k).Pi,ym]
 unfold On storedH;rw[e];by_cases q:(Nq xs k).isSome=true
 ·rw[ja q,ja q];exact r.ZA k c
 ·rw[ua q,ua q];exact Paired.snoc r ⟨rfl,d,c⟩
theorem KT.keeps{H c:Hp}{a:List (List gc × V)}{xs:List (List gc × Addr × Value)}(r:KT H a xs)(e:∀ b d,H b=some (.ub d)->c b=some (.ub d)):KT c a xs:=
 Paired.yu r λ_ _ z=>⟨z.1,e _ _ z.2.1,z.2.2⟩
section
variable{P:za}{w:Ma}{H:Hp}{h:Heap}{a:Addr}
theorem LQ{u:HO}(ok:xj P w H h)(e:Rd H a u):mn P w H h a u:=e.ok ok
theorem cx{b:List (gc × V)}(ok:xj P w H h)(e:Rd H a (.dK b)):b.length<=sizeLine/\(a == Rg)=false/\∃ c,KV b c/\h.DictOf (Ri P w) a c:=
 show mn P w H h a (.dK b)from LQ ok e
theorem QJ{b:List (gc × V)}(ok:xj P w H h)(e:H a=some (.dK b)):b.length<=sizeLine/\(a == Rg)=false/\∃ c,KV b c/\h.DictOf (Ri P w) a c:=cx ok (.inl e)
theorem vF{c:List gc}(ok:xj P w H h)(e:H a=some (.ub (c.map kV))):(Os (Ri P w)).is h c a:=by
 obtain⟨_,b,r,o,d,f,n,g⟩:=(show mn P w H h a (.ub (c.map kV))from ok a _ e)
 exact⟨o,b.toArray,n,d,f,g,by simpa using UV r⟩
theorem bF{b:List (List gc × V)}(ok:xj P w H h)(e:Rd H a (.dT b)):b.length<=sizeLine/\(a == Rg)=false/\
  ∃ xs,KT H b xs/\h.DictOfH (Os (Ri P w)) a xs:=by
 obtain⟨z,y,xs,r,o,i,g,j,k,n,s,u⟩:=(show mn P w H h a (.dT b)from LQ ok e)
 refine⟨z,y,xs,r,o,i,g,j,k,n,s,λx c=>?_,u⟩;have d:∀ {l:List (List gc × V)} {m:List (List gc × Addr × Value)},KT H l m->∀ x∈m,(Os (Ri P w)).is h x.1 x.2.1:=by
  intro l m q;induction q with
  |nil=>intro x c;exact nomatch c
  |@cons p q A B f t v=>
   intro x c;rcases Da.mp c with e|c
   ·subst e;exact vF ok (by rw[<-f.1];exact f.2.1)
   ·exact v x c
 exact d r x c
theorem SU{b:List (List gc × V)}(ok:xj P w H h)(e:H a=some (.dT b)):b.length<=sizeLine/\(a == Rg)=false/\
  ∃ xs,KT H b xs/\h.DictOfH (Os (Ri P w)) a xs:=bF ok (.inl e)
end
def Fj(H:Hp)(a:Addr)(y:V)(r:Option V):Prop:=
 (∃ c k,Rd H a (.dK c)/\y=kV k/\r=cr c k)\/∃ c k b,Rd H a (.dT c)/\y=.ref b/\H b=some (.ub (k.map kV))/\r=cr c k
def pA(H:Hp)(a:Addr)(y v:V)(d:Hp):Prop:=
 (∃ c k,H a=some (.dK c)/\y=kV k/\c.length<sizeLine/\d=ic H a (.dK (On c k v)))\/
 ∃ c k b,H a=some (.dT c)/\y=.ref b/\H b=some (.ub (k.map kV))/\c.length<sizeLine/\d=ic H a (.dT (On c k v))
theorem Fj.k{H:Hp}{a:Addr}{b:List (gc × V)}{k:gc}(e:H a=some (.dK b)):Fj H a (kV k) (cr b k):=.inl ⟨b,k,.inl e,rfl,rfl⟩
theorem Fj.t{H:Hp}{a b:Addr}{c:List (List gc × V)}{k:List gc}(e:H a=some (.dT c))(d:H b=some (.ub (k.map kV))):Fj H a (.ref b) (cr c k):=.inr ⟨c,k,b,.inl e,rfl,d,rfl⟩
theorem pA.k{H:Hp}{a:Addr}{b:List (gc × V)}{k:gc}{v:V}(e:H a=some (.dK b))(c:b.length<sizeLine):pA H a (kV k) v (ic H a (.dK (On b k v))):=.inl ⟨b,k,e,rfl,c,rfl⟩
theorem pA.t{H:Hp}{a b:Addr}{c:List (List gc × V)}{k:List gc}{v:V}(e:H a=some (.dT c))(d:H b=some (.ub (k.map kV)))(f:c.length<sizeLine) :
  pA H a (.ref b) v (ic H a (.dT (On c k v))):=.inr ⟨c,k,b,e,rfl,d,f,rfl⟩
section
variable{X:Cx}{pins:List (Addr × Obj)}{σ:St}{H:Hp}{s:Shared}{a:Addr}{y v:V}{u r:Value}{o:Option V}{A:Ha}{E:Value->Shared->Prop}
theorem Qa.vH(I:Qa X pins σ H s):Rg<s.heap.objs.size:=by
 have h:mainGlobals<s.heap.objs.size:=(I.mod.glob.keeps I.bk).lt;exact Ku (by decide) h
theorem zop{Q:Value->Shared->Prop}(D:A.units+1<cLine)(I:Qa X pins σ H s)(g:Fj H a y (some v))(r:ie y u)(h:∀ f t,Qa X pins σ H t->ie v f->Q f t) :
  wpAny (model X.prog X.w) A (Sj (.ref a) u) Q E s:=by
 rcases g with⟨q,k,e,j,l⟩|⟨q,k,b,e,j,x,l⟩
 ·subst j;obtain⟨z,B,F,c,i⟩:=cx I.md e;obtain⟨f,n,d⟩:=Ts.some_of (v:=v) (o:=Mq F k) (by rw[l];exact c.val k);exact wpAny_getItem_of (zy r) i.mapOf n (h f _ (I.tok _) d)
 ·subst j;cases (show u=cc b from r);obtain⟨z,B,xs,c,i⟩:=bF I.md e;obtain⟨f,n,d⟩:=Ts.some_of (v:=v) (o:=(Nq xs k).map (·.2)) (by rw[l];exact c.val k);obtain⟨p,C,m⟩:=dc.mp n;refine wpAny_getItem_heap (rj D) (vF I.md x) i C ?_;rw[m];exact h f _ (I.tok _) d
theorem ō{Q:Value->Shared->Prop}(r:A.units+1<cLine)(I:Qa X pins σ H s)(g:Fj H a y o)(m:ie y u)(h:∀ n,Qa X pins σ H n->Q (.bool o.isSome) n) :
  wpAny (model X.prog X.w) A (Gc .In u (.ref a)) Q E s:=by
 rcases g with⟨j,k,e,f,l⟩|⟨j,k,b,e,f,p,l⟩
 ·subst f;obtain⟨z,i,t,c,d⟩:=cx I.md e;refine wpAny_in_of (zy m) i d.mapOf ?_;rw[<-(c.val k).Pi,<-l];exact h _ (I.tok _)
 ·subst f;cases (show u=cc b from m);obtain⟨z,i,xs,c,d⟩:=bF I.md e;refine JW (rj r) (vF I.md p) i d ?_;have q:=(c.val k).Pi;rw[ym]at q;rw[<-q,<-l];exact h _ (I.tok _)
theorem U0{Q:Value->Shared->Prop}(r:A.units+1<cLine)(I:Qa X pins σ H s)(g:Fj H a y o)(m:ie y u)(h:∀ n,Qa X pins σ H n->Q (.bool (!o.isSome)) n) :
  wpAny (model X.prog X.w) A (Gc .NotIn u (.ref a)) Q E s:=by
 rcases g with⟨j,k,e,f,l⟩|⟨j,k,b,e,f,p,l⟩
 ·subst f;obtain⟨z,i,t,c,d⟩:=cx I.md e;refine wpAny_notIn_of (zy m) i d.mapOf ?_;rw[<-(c.val k).Pi,<-l];exact h _ (I.tok _)
 ·subst f;cases (show u=cc b from m);obtain⟨z,i,xs,c,d⟩:=bF I.md e;refine wpAny_notIn_heap (rj r) (vF I.md p) i d ?_;have q:=(c.val k).Pi;rw[ym]at q;rw[<-q,<-l];exact h _ (I.tok _)
theorem TH{h':Heap}{t':Nat}{d:HO}(I:Qa X pins σ H s)(i:wE (H a))(h:Fd a s.heap h')(g:∃ q,h'.get? a=some q)(c:mn X.prog X.w (ic H a d) h' a d) :
  Qa X pins σ (ic H a d) { s with heap:=h',toks:=t' }:=
 I.write (x:=a) (e:=a) i (.inl rfl) (λb q f z=>(h.2 b f).trans z) g c
theorem sI{P:za}{w:Ma}{f:Hp}{e:Heap}{b:List (gc × V)}{d:List (gc × Value)}(z:b.length<=sizeLine)(h:(a == Rg)=false)(c:KV b d)(g:e.DictOf (Ri P w) a d) :
  mn P w f e a (.dK b):=⟨z,h,d,c,g⟩
theorem Ė{C:Hp}{Q:Unit->Shared->Prop}(T:A.units+1<cLine)(I:Qa X pins σ H s)(g:pA H a y v C)(J:ie y u)(G:ie v r)(h:∀ K,Qa X pins σ C K->Q () K) :
  wpAny (model X.prog X.w) A (ju (.ref a) u r) Q E s:=by
 rcases g with⟨d,k,e,o,l,n⟩|⟨d,k,b,e,o,D,l,n⟩
 ·subst o n;obtain⟨z,p,U,f,m⟩:=QJ I.md e;have B:U.length<=sizeLine:=by rw[<-f.length];exact z
  have t:(On d k v).length<=sizeLine:=by have:=tG d k v;omega
  refine wpAny_setItem_pairs (hsz:=B) (zy J) m λh' i x=>h _ ?_;have S:∃ q,h'.get? a=some q:=let ⟨q,_,_,j,_⟩:=i;⟨q,j⟩;exact TH I (by rw[e];exact True.intro) x S (sI t p (f.put k G) i)
 ·subst o n;cases (show u=cc b from J);obtain⟨z,p,xs,f,m⟩:=SU I.md e;have B:xs.length<=sizeLine:=by rw[<-Paired.length f];exact z
  have t:(On d k v).length<=sizeLine:=by have:=tG d k v;omega
  refine wpAny_setItem_heap (hsz:=B) (rj T) (vF I.md D) m λh' i x=>h _ ?_;obtain⟨q,M,L,j,N,O,P,_,R⟩:=i;refine TH I (by rw[e];exact True.intro) x ⟨q,j⟩ ⟨t,p,_,(f.put k D G).keeps λc V F=>?_,q,M,L,j,N,O,P,R⟩;rw[Le (nN F e (λz=>nomatch z))];exact F
end
section
variable{X:Cx}{pins:List (Addr × Obj)}{σ:St}{H:Hp}{s:Shared}{a:Addr}{kvs:List (gc × V)}{k:gc}{u:Value}{A:Ha}{E:Value->Shared->Prop}
end
def YM(i:Fa):Prop:=∀ b a,kt i false b a=operate [b,a] (Sj b a)
theorem û{a:za}{w:Ma}{A:Ha}{E:Value->Shared->Prop}{s:Shared}{j:Ih}{c b:Fa}{n:Me}{T u:String}{Q:Value->Shared->Prop}
  (q:typeLookup (.type T) "__getitem__" = pure (some (.builtin u))) (t:YM b)
  (h:wpAny (model a w) A (Ib c j) (λo f=>wpAny (model a w) A (Ib b j) (λi d=>d.TypeIs o T/\wpAny (model a w) A (Sj o i) Q E d) E f) E s) :
  wpAny (model a w) A (Ib (.Subscript c b n) j) Q E s:=by
 refine JB (Xb h (λo f l=>Xb l (λi d e=>?_) λ_ _ x=>x) λ_ _ x=>x);obtain⟨p,e⟩:=e;unfold NW;refine aa ?_;rw[getitemInPython_of_ne p.not_modules];refine aa (Ki p q ?_);have k:wpAny (model a w) A (kt b false o i) (λr g=>wpAny (model a w) A (letTemporaryGo c o r >>= λ_=>pure r) Q E g) E d:=by
  rw[t o i];exact wpAny_operating (Xb e (λr g m=>aa (wpAny_letTemporaryGo (da m))) λ_ _ x=>x)
 first
  |exact da (aa k)
  |exact aa (da (aa k))
  |exact aa k
theorem S4{X:Cx}{c:List (Addr × Obj)}{h:St}{H:Hp}{s:Shared}{a:Addr}{y:V}{o:Option V}(I:Qa X c h H s)(g:Fj H a y o):s.TypeIs (.ref a) "dict":=by
 rcases g with⟨f,k,e,_,_⟩|⟨f,k,b,e,_,_,_⟩
 ·obtain⟨_,_,i,_,d⟩:=cx I.md e;exact d.typeIs
 ·obtain⟨_,_,xs,_,d⟩:=bF I.md e;exact d.typeIs
noncomputable def nZ(e ty:TE):TE:=λc H Q=>e c H λx d=>ty c d λy b=>∃ a v,x=.ref a/\Fj b a y (some v)/\Q v b
section
variable{X:Cx}{o i e value:Fa}{pos pos' tpos:Me}{td ty tv:TE}
theorem x6(p:X.A.units+1<cLine)(m:PE X o td)(l:PE X i ty)(n:YM i):PE X (.Subscript o i pos) (nZ td ty):=by
 intro b s e H Q I h;refine û PySem.F.slot_dict_getitem.lookup n (Re (m b s e H _ I h) λu s1 ⟨x,H1,j,r,q1⟩=>Re (l b s1 e H1 _ j q1) λw s2 ⟨y,f,d,t,a,v,ex,g,q⟩=>?_);subst ex;obtain rfl:u=cc a:=r;exact⟨S4 d g,zop p d g t λB z k c=>⟨v,f,k,c,q⟩⟩
end
theorem wP{P:za}{w:Ma}{H:Hp}(h:Heap)(a:Rg<h.objs.size):mn P w H (h.push { cls:=.type "dict",data:=.dict #[] }) h.objs.size (.dK []):=
 ⟨ij _,Yc.mpr (Te (ya a)),[],.nil,TN h⟩
theorem tX{P:za}{w:Ma}{H:Hp}(h:Heap)(a:Rg<h.objs.size):mn P w H (h.push { cls:=.type "dict",data:=.dict #[] }) h.objs.size (.dT []):=
 ⟨ij _,Yc.mpr (Te (ya a)),[],.nil,_,#[],0,Ba _ rfl,⟨rfl,rfl,rfl⟩,rfl,rfl,dr⟩
def ú:TE:=λ_ H Q=>∀ p,H p=none->Q (.ref p) (ic H p (.dK []))
def ċ:TE:=λ_ H Q=>∀ p,H p=none->Q (.ref p) (ic H p (.dT []))
section
variable{X:Cx}{pos:Me}
theorem mR:PE X (.Dict [] [] pos) ú:=λb s c H Q I h=>
 OF ⟨.ref s.heap.objs.size,_,I.laid (a:=s.heap.objs.size) (o:=.dK []) (t':=s.toks) (λ_ _ q=>ba _ q) (wa _) (wP s.heap I.vH),rfl,h _ (I.md.fresh (wa _))⟩
theorem Đ:PE X (.Dict [] [] pos) ċ:=λb s c H Q I h=>
 OF ⟨.ref s.heap.objs.size,_,I.laid (a:=s.heap.objs.size) (o:=.dT []) (t':=s.toks) (λ_ _ q=>ba _ q) (wa _) (tX s.heap I.vH),rfl,h _ (I.md.fresh (wa _))⟩
end
section
variable{X:Cx}{pins:List (Addr × Obj)}{σ:St}{H:Hp}{s:Shared}{a:Addr}{kvs:List (gc × V)}{A:Ha}{E:Value->Shared->Prop}
theorem A4{Q:Value->Shared->Prop}(I:Qa X pins σ H s)(e:Rd H a (.dK kvs))(h:∀ p g,H p=none->Qa X pins σ (ic H p (.dK kvs)) g->Q (.ref p) g):wpAny (model X.prog X.w) A (call (.type "dict") [.ref a]) Q E s:=by
 obtain⟨z,j,l,c,i⟩:=cx I.md e;refine kt_call_dict j i (by rw[<-c.length];exact z) λh' d k=>?_;refine h _ _ (I.md.fresh (wa _)) (I.laid (a:=s.heap.objs.size) (o:=.dK kvs) (t':=s.toks) (λb q f=>?_) (wa _) (sI z (Yc.mpr (Te (ya I.vH))) c d));exact(k.2 b (ya (va f))).trans (ba _ f)
end
end L2
namespace L4
open PySem PySem.Spec PyProof.Rows L2
noncomputable def Gm:D->Option gc
 | .int i=>some (.inl i)
 | .str x=>some (.inr x)
 |_=>none
noncomputable def Yi(c:xb):D->Option (List (gc × D))
 | .Ja b xs=>if b.length=xs.length then some (b.zip xs)else none
 | .ref n=>(match c[n]? with
  |some (.Ja a)=>some a
  |some (.ag a)=>some a
  |_=>none)
 |_=>none
noncomputable def gw(a:List (gc × D))(k:gc):Option D:=(a.find? λb=>decide (b.1=k)).map (·.2)
noncomputable def VB(a:List (gc × D))(k:gc)(d:D):List (gc × D):=
 if a.any (λb=>decide (b.1=k))then a.map λb=>if b.1=k then (b.1,d)else b else a++[(k,d)]
section
variable{T:Tb}{X:Cx}{μ:List Addr}{H:Hp}
theorem Yz{y:D}{v:V}{k:gc}(h:Ia T μ H y v)(e:Gm y=some k):v=kV k:=by
 cases y<;>simp[Gm]at e<;>subst e<;>rw[Ia]at h<;>exact h
theorem JH:∀ {c:List gc} {ds:List D} {a:List (gc × V)},a.map (·.1)=c->gb T μ H ds (a.map (·.2))->vj T μ H (c.zip ds) a
 |c,[],a,f,b=>by
  rw[gb]at b;have:a=[]:=by simpa using b
  subst this;rw[<-f];exact .nil
 |c,d::ds,a,f,b=>by
  obtain⟨v,r,e,q1,g⟩:=b;cases a with
  |nil=>cases e
  |cons p a=>
   cases e;rw[<-f];exact .cons ⟨rfl,q1⟩ (JH rfl g)
theorem XA{i:xb}(r:ee T μ H i){x:D}{v:V}{f:List (gc × D)}(h:Ia T μ H x v)(e:Yi i x=some f):∃ a b,v=.ref a/\Rd H a (.dK b)/\vj T μ H f b:=by
 cases x with
 |Ja k xs=>
  obtain⟨a,b,rfl,_,c,d,j⟩:=h;unfold Yi at e;dsimp only at e;split at e
  ·cases e;exact⟨a,b,rfl,c,JH d j⟩
  ·cases e
 |ref n=>
  unfold Yi at e;dsimp only at e;cases q:i[n]? with
  |none=>rw[q]at e;cases e
  |some o=>
   rw[q]at e;cases o with
   |Ja g=>
    cases e;obtain⟨a,rfl,_,b,c,d⟩:=r.at h q;exact⟨a,b,rfl,.inl c,d⟩
   |ag g=>
    cases e;obtain⟨a,rfl,_,ob,b,c,d⟩:=r.at h q;exact⟨a,b,rfl,.inr ⟨ob,c⟩,d⟩
   |_=>cases e
 |_=>cases e
theorem ZL{a:List (gc × D)}{c:List (gc × V)}(h:vj T μ H a c)(k:gc):(gw a k=none/\cr c k=none)\/∃ d v,gw a k=some d/\cr c k=some v/\Ia T μ H d v:=by
 induction h with
 |nil=>exact .inl ⟨rfl,rfl⟩
 |@cons p q i m h t l=>
  obtain⟨g,j⟩:=h;by_cases e:p.1=k
  ·have b:=g.symm.trans e;exact .inr ⟨p.2,q.2,by unfold gw;rw[Bf,ci e];rfl,xE b,j⟩
  ·have b:=λz=>e (g.trans z);have f:gw (p::i) k=gw i k:=by unfold gw;rw[Bf,yd e]
   rw[f,ED b];exact l
theorem T9{a:List (gc × D)}{c:List (gc × V)}(h:vj T μ H a c)(k:gc):(a.any λb=>decide (b.1=k))=(c.any λb=>decide (b.1=k)):=by
 induction h with
 |nil=>rfl
 |@cons p q e f h t d=>rw[Ff,Ff,d,h.1]
theorem cW{d e:Type}{F:d->e->Prop}{f:d->d}{g:e->e}(c:∀ a b,F a b->F (f a) (g b)):∀ {l:List d} {m:List e},Paired F l m->Paired F (l.map f) (m.map g)
 |_,_,.nil=>.nil
 |_,_,.cons h t=>.cons (c _ _ h) (cW c t)
theorem EV{d e:Type}{F:d->e->Prop}{a:d}{b:e}(c:F a b):∀ {l:List d} {m:List e},Paired F l m->Paired F (l++[a]) (m++[b])
 |_,_,.nil=>.cons c .nil
 |_,_,.cons h t=>.cons h (EV c t)
theorem tR{a:List (gc × D)}{c:List (gc × V)}(h:vj T μ H a c)(k:gc){d:D}{v:V}(b:Ia T μ H d v):vj T μ H (VB a k d) (On c k v):=by
 unfold VB On;rw[T9 h k];split
 ·refine cW (λp q h=>?_) h;by_cases e:p.1=k
  ·rw[ja e,ja (h.1.symm.trans e)];exact⟨h.1,b⟩
  ·rw[ua e,ua (λz=>e (h.1.trans z))];exact h
 ·exact EV ⟨rfl,b⟩ h
theorem vj.mono{b:List Addr}{c:Hp}(e:Se μ H b c){a:List (gc × D)}{d:List (gc × V)}(h:vj T μ H a d):vj T b c a d:=Paired.yu h λ_ _ z=>⟨z.1,Ia.mono e _ _ z.2⟩
theorem _root_.L2.Fj.kr{H:Hp}{a:Addr}{b:List (gc × V)}{k:gc}(e:Rd H a (.dK b)):Fj H a (kV k) (cr b k):=.inl ⟨b,k,e,rfl,rfl⟩
def pw(x y:D):M D:=λb=>match Gm y with
 |some k=>(match Yi b x with
  |some a=>(match gw a k with
   |some d=>.ok d b
   |none=>.Sb)
  |none=>.Sb)
 |none=>.Sb
theorem YB{o i:Fa}{n fi:Ev->M D}{f:Me}(Z:X.A.units+9<cLine)(F:FE T X o n)(E:FE T X i fi)(K:YM i):FE T X (.Subscript o i f) (nb pw n fi):=by
 intro b s P H Q I h;refine x6 (by omega) F E K b s P H Q I ?_;obtain⟨μ,r,V,p,J,G⟩:=h;refine⟨μ,r,V,p,J,G.bind λx l j v W _ t O q1 p1=>⟨j,r,l,p.mono t,O,p1.bind λy m U u Y _ z q N p2=>?_⟩⟩;unfold pw at p2;cases e:Gm y with
 |none=>rw[e]at p2;exact p2.elim
 |some k=>
  rw[e]at p2;cases c:Yi m x with
  |none=>rw[c]at p2;exact p2.elim
  |some L=>
   rw[c]at p2;dsimp only at p2;obtain⟨a,vs,rfl,B,C⟩:=XA q (Ia.mono z _ _ q1) c;obtain rfl:=Yz N e;rcases ZL C k with⟨g,_⟩|⟨d,w,g,R,S⟩
   ·rw[g]at p2;exact p2.elim
   ·rw[g]at p2;exact⟨a,w,rfl,by rw[<-R];exact Fj.kr B,Zb.here p2 q S⟩
noncomputable def JN:R2:=λy x H Q=>∃ a o,x=.ref a/\Fj H a y o/\Q (.bl o.isSome) H
theorem CJ(f:X.A.units+9<cLine):yj X (Gc .In) JN:=by
 intro b s k H y x i u Q I e d h;obtain⟨a,o,rfl,g,q⟩:=h;obtain rfl:u=cc a:=d;exact ō (by omega) I g e λj c=>⟨.bl o.isSome,H,c,rfl,q⟩
def BC(y x:D):M D:=λb=>match Gm y with
 |some k=>(match Yi b x with
  |some a=>.ok (.bl (gw a k).isSome) b
  |none=>.Sb)
 |none=>.Sb
theorem hV:rn T JN BC:=by
 intro E μ H m y x u v Q r q p h;unfold BC at h;cases c:Gm y with
 |none=>rw[c]at h;exact h.elim
 |some k=>
  rw[c]at h;cases b:Yi m x with
  |none=>rw[b]at h;exact h.elim
  |some j=>
   rw[b]at h;obtain⟨a,l,rfl,g,i⟩:=XA r p b;obtain rfl:=Yz q c;refine⟨a,cr l k,rfl,Fj.kr g,Zb.here h r ?_⟩;rcases ZL i k with⟨e,f⟩|⟨d,w,e,f,n⟩
   ·rw[e,f];rfl
   ·rw[e,f];rfl
noncomputable def Λ:GI:=λx y v H Q=>∃ a b,x=.ref a/\pA H a y v b/\Q b
theorem RU(l:X.A.units+9<cLine):DL X Λ:=by
 intro b s p H o i v e m u Q I j f k h;obtain⟨a,c,rfl,g,q⟩:=h;obtain rfl:e=cc a:=j;exact Ė (by omega) I g f k λn d=>⟨c,d,q⟩
def Qu(c:Ev)(d x:D)(y:D):M Fl:=λb=>match x with
 | .ref n=>(match Gm y with
  |some k=>(match b[n]? with
   |some (.Ja a)=>if a.length<zi then .ok (.nx c) (b.set n (.Ja (VB a k d)))else .Sb
   |_=>.Sb)
  |none=>.Sb)
 |_=>.Sb
def FK(a:Ev)(b:Ev->M D)(d x:D):M Fl:=xs a (b a) (Qu a d x)
def VJ(a:Ev)(c b:Ev->M D)(d:D):M Fl:=xs a (c a) (FK a b d)
def Qx(f c b:Ev->M D):Ev->M Fl:=λa=>xs a (f a) (VJ a c b)
theorem gA{e o i:Fa}{f Q fi:Ev->M D}{m b:Me}(hu:X.A.units+9<cLine)(he:FE T X e f)(ho:FE T X o Q)(hi:FE T X i fi)
  (Z:∀ v,rl (.Subscript o i b) X.env v=(do
   let r <-qf [v] (Ib o X.env);let E <-qf [v,r] (Ib i X.env)
   pi b
   qf [v,r,E] (ju r E v)
   fD [v,r,E] []):=by intro _;rfl)
  (hs:Jo [.Subscript o i b] e m.line X.env=pure false:=by rfl) (hw:Ko [.Subscript o i b] e X.env=pure none:=by rfl)
  (Y:(Cf [.Subscript o i b] X.env).map (·.2)=[rl (.Subscript o i b) X.env]:=by rfl):FS T X (.Assign [.Subscript o i b] e m) (Qx f Q fi):=by
 intro l s V H D I hq;refine MN he (RM ho hi (RU hu) Z) hs hw Y l s V H D I ?_;obtain⟨μ,K,σ,c,hr,hp⟩:=hq;refine⟨μ,K,σ,c,hr,hp.xs c λd L G v H1 _ h r1 q1 p1=>?_⟩;refine⟨G,K,L,c.mono h,r1,p1.xs (c.mono h) λx N J vo H2 _ q r2 q2 p2=>?_⟩;refine⟨J,K,N,(c.mono h).mono q,r2,p2.xs ((c.mono h).mono q) λy O p vi P _ t U q3 p3=>?_⟩;have hd:=Ia.mono t _ _ (Ia.mono q _ _ q1);have hx:=Ia.mono t _ _ q2;unfold Qu at p3;cases x with
 |ref n=>
  dsimp only at p3;cases u:Gm y with
  |none=>rw[u]at p3;exact p3.elim
  |some k=>
   rw[u]at p3;cases w:O[n]? with
   |none=>rw[w]at p3;exact p3.elim
   |some ob=>
    rw[w]at p3;cases ob with
    |Ja g=>
     dsimp only at p3;by_cases C:g.length<zi
     ·rw[ja C]at p3;obtain⟨a,rfl,S,W,R,B⟩:=U.at hx w;obtain rfl:=Yz q3 u;have F:=U.write (ob:=.Ja (VB g k d)) S ⟨_,Hh,by
       have ex:Se p P p (ic P a (.dK (On W k v))):=Zx (La S) R (λ_ z=>by cases z) (λ_ _ z=>by cases z);exact tR (vj.mono ex B) k (Ia.mono ex _ _ hd)⟩
      have j:W.length=g.length:=by unfold vj at B;exact(Paired.length B).symm
      exact⟨a,_,rfl,pA.k R (by rw[j];exact Ga C (by decide)),p3 _ (.nx V) _ F.1 F.2 (((c.mono h).mono q).mono t |>.mono F.1)⟩
     ·rw[ua C]at p3;exact p3.elim
    |_=>exact p3.elim
 |_=>exact p3.elim
noncomputable def Xt:Ev->M D:=λ_ a=>.ok (.ref a.length) (a++[.Ja []])
theorem bw{b:Me}:FE T X (.Dict [] [] b) Xt:=by
 intro a s f H Q I h;obtain⟨μ,i,j,g,d,e⟩:=h;refine mR a s f H Q I λp c=>?_;exact e (μ++[p]) (.ref p) _ (Sy c) (d.push c ⟨[],Hh,.nil⟩) (kF d)
theorem GP{c:Me}:FE T X (.Dict [] [] c) (eC (.Ja [] [])):=by
 intro a s i H Q I h;obtain⟨μ,k,l,j,d,g⟩:=h;refine mR a s i H Q I λp b=>?_;exact g μ (.ref p) _ (Fm b) (d.fresh b) (by rw[Ia];exact⟨p,[],rfl,λf=>(by obtain⟨u,e,_⟩:=d.mem f;rw[b]at e;cases e),(.inl Hh),rfl,gb.nil⟩)
def qU:List V->Hp->VK->Prop:=λxs H Q=>∃ a b,xs=[.ref a]/\Rd H a (.dK b)/\∀ p,H p=none->Q (.ref p) (ic H p (.dK b))
theorem UU:Oo X (.type "dict") qU:=by
 intro b s j H xs k Q I r h;obtain⟨a,f,rfl,e,q⟩:=h;obtain⟨u,rfl,g⟩:=jw r;cases g;exact A4 I e λp i d c=>⟨.ref p,_,c,rfl,q p d⟩
def Zz(c:List D):M D:=λb=>match c with
 |[x]=>(match Yi b x with
  |some a=>.ok (.Ja (a.map (·.1)) (a.map (·.2))) b
  |none=>.Sb)
 |_=>.Sb
theorem pO:∀ {a:List (gc × D)} {b:List (gc × V)},vj T μ H a b->b.map (·.1)=a.map (·.1)/\gb T μ H (a.map (·.2)) (b.map (·.2))
 |_,_,.nil=>⟨rfl,gb.nil⟩
 |_,_,.cons h t=>by
  obtain⟨c,d⟩:=pO t;exact⟨by rw[yb,yb,c,h.1],gb.cons h.2 d⟩
theorem OT:Ww T qU Zz:=by
 intro E μ H q f t Q r p h
 match f with
 |[]=>exact h.elim
 |[x]=>
  unfold Zz at h;dsimp only at h;cases c:Yi q x with
  |none=>rw[c]at h;exact h.elim
  |some k=>
   rw[c]at h;obtain⟨v,s,rfl,q1,m⟩:=p;subst m;obtain⟨a,e,rfl,g,i⟩:=XA r q1 c;refine⟨a,e,rfl,g,λl b=>?_⟩;obtain⟨n,o⟩:=pO i;exact h μ (.ref l) _ (Fm b) (r.fresh b) (by rw[Ia];exact⟨l,e,rfl,λj=>(by obtain⟨u,d,_⟩:=r.mem j;rw[b]at d;cases d),(.inl Hh),n,gb.mono (Fm b) _ _ o⟩)
 |_::_::_=>exact h.elim
end
section
variable{T:Tb}{X:Cx}
structure InK(K:W.Frag)(C:Addr):Prop where
 cl:L2.Dm K C
 a:W.findIn K (.ref C) "__class__" = some (some (.builtin "object.__class__"))
 n:W.specialIn K (.builtin "object.__class__") "__get__" = some (some (.builtin "getset_descriptor.__get__"))
 t:W.takesIn K (.builtin "object.__class__")=some true
 m:W.mroIn K C (.type "object")=some true
def fX(K:W.Frag)(c:Addr):List V->Hp->VK->Prop:=λxs H Q=>∃ a C d e b,xs=[.ref a,.ref c]/\H a=some (.jc C d e)/\InK K C/\W.kitOne K (.ref C) (.ref c)=some b/\Q (.bl b) H
theorem DY{cv:Addr}:Oo X (.builtin "isinstance") (fX X.K cv):=by
 intro d s k H xs o Q I r h;obtain⟨a,C,i,j,b,rfl,f,Z,e,q⟩:=h;obtain⟨u,u2,rfl,g,c⟩:=YJ r;cases c;exact QV I g (.jc f Z.cl Z.a Z.n Z.t Z.m) e λl=>⟨.bl b,H,I.tok _,rfl,q⟩
def bC(t:Nat->Option Bool)(x:D):M D:=λa=>match Qp a x with
 |some (c,_)=>(match t c with|some b=>.ok (.bl b) a|none=>.Sb)
 |none=>.Sb
def DI(K:W.Frag)(a:Nat->Addr)(b:Addr)(l:List (Nat × Bool)):Prop:=∀ p∈l,InK K (a p.1)/\W.kitOne K (.ref (a p.1)) (.ref b)=some p.2
theorem yls{K:W.Frag}{a:Nat->Addr}{b:Addr}:DI K a b []:=λ_ h=>nomatch h
theorem Sx{K:W.Frag}{a:Nat->Addr}{d:Addr}{c:Nat}{b:Bool}{l:List (Nat × Bool)}(z:InK K (a c))(h:W.kitOne K (.ref (a c)) (.ref d)=some b)(r:DI K a d l):DI K a d ((c,b)::l):=λp e=>by
 rcases Da.mp e with rfl|e
 ·exact⟨z,h⟩
 ·exact r p e
theorem X7{y:qa}{d:Addr}{l:List (Nat × Bool)}{e:Fa}{f:Ev->M D}{p p2 i:Me}(hK:T.K=X.K)(C:FE T X e f)(E:Gl X "isinstance")(F:X.mg "isinstance" = none)(n:Gl X y)(m:(y == ("__debug__" : qa))=false)(B:X.mg y=some (.ref d))
  (L:DI X.K T.ca d l)
  (r:la [e,.Name y p2] X.env=(false,Ib e X.env)::la [.Name y p2] X.env:=by rfl) (o:(Bc i (la [.Name y p2] X.env)).any (·.1)=false:=by rfl) :
  FE T X (.Call (.Name "isinstance" p) [e,.Name y p2] [] i) (Qd (bC (ut l)) f):=by
 intro g s N H Q I h;refine lC (DY (cv:=d)) E F Tt (Dt C (Dt (AI (v:=.ref d) n B rfl m) aw) r) (by decide) (by decide) r o g s N H Q I ?_;obtain⟨S,V,W,A,J,G⟩:=h;refine⟨S,V,W,A,J,G.bind λx q U v Y _ Z t p1 q1=>?_⟩;unfold bC at q1;cases j:Qp q x with
 |none=>rw[j]at q1;exact q1.elim
 |some u=>
  obtain⟨c,fs⟩:=u;rw[j]at q1;dsimp only at q1;cases k:ut l c with
  |none=>rw[k]at q1;exact q1.elim
  |some b=>
   rw[k]at q1;obtain⟨a,w,O,rfl,z,_⟩:=UD t p1 j;obtain⟨P,R⟩:=L (c,b) (NG k);exact⟨a,T.ca c,w,O,b,rfl,z,P,R,Zb.here q1 t (by rw[Ia])⟩
theorem x8{l:List (Nat × Bool)}{x:D}{c:Nat}{d:List (qa × D)}{b:Bool}{a:xb}(h:Qp a x=some (c,d))(e:ut l c=some b):bC (ut l) x a=.ok (.bl b) a:=by
 unfold bC;rw[h];dsimp only;rw[e]
end
section
variable{T:Tb}{X:Cx}
inductive lF(X:Cx):List (Option Fa)->List Fa->List (qa × qa)->Prop
 |nil:lF X [] [] []
 |cons {k v:Fa} {x y:qa} {ks:List (Option Fa)} {vs:List Fa} {l:List (qa × qa)}:PE X k (tC (.str x))->PE X v (tC (.str y))->lF X ks vs l->lF X (some k::ks) (v::vs) ((x,y)::l)
theorem lF.all{ks vs l}(h:lF X ks vs l):ks.all (·.isSome)=true/\ks.length=vs.length/\ks.length=l.length:=by
 induction h with
 |nil=>exact⟨rfl,rfl,rfl⟩
 |cons _ _ _ a=>exact⟨by simpa using a.1,by simpa using a.2.1,by simpa using a.2.2⟩
end
noncomputable def II(o:Int->Int->Int)(i:Nat)(c:Ev)(x d:D):M Fl:=λe=>match x,d with
 | .int a,.int b=>.ok (.nx (c.set i (some (.int (o a b))))) e
 |_,_=>.Sb
def wC(o:Int->Int->Int)(i:Nat)(f:Ev->M D):Ev->M Fl:=λa=>match a[i]? with
 |some (some x)=>xs a (f a) (II o i a x)
 |_=>λ_=>.Sb
theorem yf8{o:Int->Int->Int}{i:Nat}{f:Ev->M D}{a:Ev}{b:xb}{x:D}(h:a[i]?=some (some x)):wC o i f a b=Xm a (II o i a x) (f a b):=by
 unfold wC;rw[h];exact yr ..
@[simp] theorem zzn(o:Int->Int->Int)(i:Nat)(c:Ev)(a b:Int)(d:xb):II o i c (.int a) (.int b) d=.ok (.nx (c.set i (some (.int (o a b))))) d:=nr rfl
section
variable{T:Tb}{X:Cx}{e:Fa}{f:Ev->M D}{pos:Me}
theorem U1{i:Nat}{x:qa}{j:Me}{m:Nu}{o:Int->Int->Int}(C:KN X m (jQ o))(w:X.N.Nodup)(B:X.N[i]?=some x)(G:Loc X.env.scope x)(z:FE T X e f)(A:X.fn x=true\/X.env.scope.names.lookup x=some .local:=by first|exact .inl rfl|exact .inr rfl|assumption) :
  FS T X (.AugAssign (.Name x j) m e pos) (wC o i f):=by
 intro h s n H D I F;refine Ŝ w B G z C A h s n H D I ?_;obtain⟨K,p,M,l,E,c⟩:=F;unfold wC at c;cases k:p[i]? with
 |none=>rw[k]at c;exact c.elim
 |some q=>
  cases q with
  |none=>rw[k]at c;exact c.elim
  |some d=>
   rw[k]at c;obtain⟨v,t,u⟩:=l.2 i d k;refine⟨v,t,K,p,M,l,E,c.xs l λy O L Q P _ r J q1 p1=>?_⟩;cases d with
   |int a=>
    cases y with
    |int b=>
     subst u q1;exact⟨a,b,rfl,rfl,Zb.here (g:=nu.nx (n.set i (some (.int (o a b))))) p1 J ((l.mono r).set i (by rw[Ia]))⟩
    |_=>exact p1.elim
   |_=>exact p1.elim
end
end L4
namespace L4
open PySem PySem.Spec PySem.Calls PyProof.Rows L2
section
variable{T:Tb}{X:Cx}
end
end L4
namespace L4
open PySem PySem.Spec PyProof.Rows L2
def ND(o:D->List D->M D)(m:M (List D))(x:D):M D:=λa=>match Yi a x with
 |some _=>Ld m (o x) a
 |none=>.Sb
def BN(o:D->List D->M D)(f:Ev->M D)(b:Ev->M (List D)):Ev->M D:=λa=>Ld (f a) (ND o (b a))
section
variable{T:Tb}{X:Cx}{o e:Fa}{es:List Fa}{f:Ev->M D}{fs:Ev->M (List D)}{name:qa}{apos cpos:Me}{id:String}{r:V->List V->Hp->VK->Prop}{g:D->List D->M D}
theorem xV{p:Addr}{c:List (gc × V)}{b:List (Addr × Obj)}{h:St}{H:Hp}{s:Shared}(I:Qa X b h H s)(g:Rd H p (.dK c)):s.TypeIs (.ref p) "dict"/\∀ a,cc p=.ref a->∃ d,s.heap.get? a=some d/\d.dict=none:=by
 obtain⟨_,_,_,_,o,_,_,e,ex,_⟩:=cx I.md g;refine⟨⟨o,e,ex.1⟩,λa f=>?_⟩;cases f;exact⟨o,e,ex.2.1⟩
def T4(r:V->List V->Hp->VK->Prop)(d:TE):TE:=λe H Q=>d e H λx c=>(∃ a b,x=.ref a/\Rd c a (.dK b))/\r x [] c Q
def UZ(r:V->List V->Hp->VK->Prop)(f:TE)(t:TA):TE:=λd H Q=>f d H λx c=>(∃ a b,x=.ref a/\Rd c a (.dK b))/\t d c λxs e=>r x xs e Q
theorem eU{i:TE}(t:Np "dict")(e:cO "dict" name id)(f:Op (.builtin id)=pure (.type "method_descriptor"))(n:Zw X id r)(p:PE X o i)
  (c:Oe o name X.env (Ib o X.env)=Ib o X.env:=by rfl) (d:(apos.endLine == cpos.line)=true:=by rfl):PE X (.Call (.Attribute o name apos) [] [] cpos) (T4 r i):=by
 intro b s j H Q I h;refine wpAny_Call_method0_late c d (Re (p b s j H _ I h) λv s1 ⟨x,H1,g,u,ty,q1⟩=>?_);obtain⟨a,q,rfl,m⟩:=ty;cases u;obtain⟨k,l⟩:=xV g m;exact⟨"dict",id,t,e,f,k,l,Jj rfl (PySem.evalArgs_none (n b s1 j H1 (.ref a) [] (.ref a) [] Q g rfl .nil q1))⟩
theorem tZ{n:TE}{t:TA}(E:Np "dict")(i:cO "dict" name id)(j:Op (.builtin id)=pure (.type "method_descriptor"))(A:Zw X id r)(B:PE X o n)(y:PA X (e::es) t)
  (d:Oe o name X.env (Ib o X.env)=Ib o X.env:=by rfl)
  (g:((Bc cpos (la (e::es) X.env)).all (λx=>!x.1) && (si cpos (ng [] X.env)).all (λx=>x.1.isSome)
   && decide ((e::es).length+([]:List ul).length+(if ([]:List ul).isEmpty then 0 else 1)<30))=true:=by rfl)
  (f:(apos.endLine == cpos.line)=true:=by rfl) (C:la (e::es) X.env=(false,Ib e X.env)::la es X.env:=by rfl) (c:(Bc cpos (la es X.env)).any (·.1)=false:=by rfl) :
  PE X (.Call (.Attribute o name apos) (e::es) [] cpos) (UZ r n t):=by
 intro b s k H Q I h;refine qx d g f rfl (Re (B b s k H _ I h) λv s1 ⟨x,H1,l,G,ty,q1⟩=>?_);obtain⟨a,D,rfl,z⟩:=ty;cases G;obtain⟨u,w⟩:=xV l z;refine⟨"dict",id,E,i,j,u,w,?_⟩;have m:=y cpos b s1 k H1 _ l q1;rw[C]at m ⊢;refine Jj (by show (false || (Bc cpos (la es X.env)).any (·.1))=false;rw[c]<;>rfl) (Ak ?_);exact Re m λus s2 ⟨K,p,q,J,F⟩=>A b s2 k p (.ref a) K (.ref a) us Q q rfl J F
theorem ü(N:Np "dict")(k:cO "dict" name id)(p:Op (.builtin id)=pure (.type "method_descriptor"))(G:Zw X id r)(M:FD T r g)(J:FE T X o f)(F:FA T X (e::es) fs)
  (c:Oe o name X.env (Ib o X.env)=Ib o X.env:=by rfl)
  (i:((Bc cpos (la (e::es) X.env)).all (λx=>!x.1) && (si cpos (ng [] X.env)).all (λx=>x.1.isSome)
   && decide ((e::es).length+([]:List ul).length+(if ([]:List ul).isEmpty then 0 else 1)<30))=true:=by rfl)
  (d:(apos.endLine == cpos.line)=true:=by rfl) (n:la (e::es) X.env=(false,Ib e X.env)::la es X.env:=by rfl) (b:(Bc cpos (la es X.env)).any (·.1)=false:=by rfl) :
  FE T X (.Call (.Attribute o name apos) (e::es) [] cpos) (BN g f fs):=by
 intro j s R H Q I h;refine tZ N k p G J F c i d n b j s R H Q I ?_;obtain⟨V,z,W,w,L,K⟩:=h;refine⟨V,z,W,w,L,K.bind λx l q v Y _ C y p1 q1=>?_⟩;unfold ND at q1;cases m:Yi l x with
 |none=>rw[m]at q1;exact q1.elim
 |some xs=>
  rw[m]at q1;obtain⟨a,S,rfl,E,Z⟩:=XA y p1 m;refine⟨⟨a,S,rfl,E⟩,q,z,l,w.mono C,y,q1.bind λB u t U A _ D P p2 O=>?_⟩;exact M _ t A u x B (.ref a) U Q P (Ia.mono D _ _ p1) p2 O
end
def uB(a:xb)(x:D):List D->Option (List Bool)
 |[]=>some []
 |y::c=>match Up a 7 y x,uB a x c with
  |some b,some bs=>some (b::bs)
  |_,_=>none
def IH(a:Bool)(x y:D):M D:=λb=>match Im b y with
 |some xs=>(match uB b x xs with
  |some bs=>.ok (.bl (if a then !(bs.any id)else bs.any id)) b
  |none=>.Sb)
 |none=>.Sb
theorem fV{c:xb}{x:D}:∀ {xs:List D} {bs:List Bool},uB c x xs=some bs->bs.length=xs.length/\∀ (j:Nat) (d:D) (b:Bool),xs[j]?=some d->bs[j]?=some b->Up c 7 d x=some b
 |[],bs,h=>by cases h;exact⟨rfl,λj d b h=>by simp at h⟩
 |y::m,bs,h=>by
  unfold uB at h;cases a:Up c 7 y x with
  |none=>rw[a]at h;cases h
  |some n=>
   cases e:uB c x m with
   |none=>rw[a,e]at h;cases h
   |some i=>
    rw[a,e]at h;cases h;obtain⟨k,l⟩:=fV e;refine⟨by simp[k],λj d b g f=>?_⟩;cases j with
    |zero=>simp at g f;subst g;subst f;exact a
    |succ j=>exact l j d b (by simpa using g) (by simpa using f)
open Classical in
def ew(a:List Value)(b:List Bool)(u:Value):Bool:=decide (∃ j:Nat,a[j]?=some u/\b[j]?=some true)
theorem BI{a:List Value}{b:List Bool}{u:Value}:ew a b u=true ↔ ∃ j:Nat,a[j]?=some u/\b[j]?=some true:=by unfold ew;exact @decide_eq_true_iff _ (Classical.propDecidable _)
theorem mP{a:List Value}{c:List Bool}(k:c.length=a.length):a.toArray.any (ew a c)=c.any id:=by
 rw[show a.toArray.any (ew a c)=a.any (ew a c) by simp,tz,Jg,Jg];constructor
 ·rintro ⟨u,_,i⟩;obtain⟨j,_,h⟩:=BI.mp i;exact⟨true,La h,rfl⟩
 ·rintro ⟨b,d,g⟩;cases (g);obtain⟨j,f,h⟩:=Rv d;have e:j<a.length:=by omega
  exact⟨a[j],Bj e,BI.mpr ⟨j,by simp,by simp[f,h]⟩⟩
theorem Ă{A:Ha}{s:Shared}{x:Value}{a:List Value}{c:List Bool}(m:c.length=a.length)(h:∀ (j:Nat) (u:Value) (b:Bool),a[j]?=some u->c[j]?=some b->ve A s u x b)(w:Value)(l:w∈a):ve A s w x (ew a c w):=by
 cases e:ew a c w with
 |true=>obtain⟨j,g,i⟩:=BI.mp e;exact h j w true g i
 |false=>
  obtain⟨j,f,rfl⟩:=Rv l;have d:j<c.length:=by omega
  have k:c[j]=false:=by
   cases q:c[j]with
   |false=>rfl
   |true=>exact absurd (BI.mpr ⟨j,Fb f,by rw[Fb d,q]⟩) (by rw[e];decide)
  exact h j _ false (Fb f) (by rw[Fb d,k])
section
variable{T:Tb}{X:Cx}
theorem z9(J:T.K=X.K)(Y:X.A.units+9<cLine){l:List (Addr × Obj)}{s:Shared}{U:St}{H:Hp}{t:List Addr}{B:xb}(I:Qa X l U H s)(r:ee T t H B){x y:D}{v u:V}{m o:Value}(M:Ia T t H x v)(N:Ia T t H y u)(R:ie v m)(P:ie u o)
  {xs:List D} {a:List Bool} (e:Im B y=some xs) (G:uB B x xs=some a) {Q:Value->Shared->Prop} :
  (Q (.bool (a.any id)) s->wpAny (model X.prog X.w) X.A (Gc .In m o) Q X.xe s)/\(Q (.bool (!a.any id)) s->wpAny (model X.prog X.w) X.A (Gc .NotIn m o) Q X.xe s):=by
 obtain⟨p,W,rfl,C,f⟩:=WA r N e;rw[J]at f;obtain⟨lb,L⟩:=fV G;cases P;have i:∀ {its:List Value},jf W its->(a.length=its.length/\∀ w∈its,ve X.A.in1 s w m (ew its a w)):=fun {its} q=>by
  have Z:=C.length;have l2:=q.length;have g:a.length=its.length:=by omega
  refine⟨g,Ă g λj w b c n=>?_⟩;obtain⟨z,E,S⟩:=qI q c;obtain⟨d,F,O⟩:=xK C E;exact sK I r 7 X.A.in1 d x z v w m b (by show X.A.units+1+7+1<cLine;omega) O M S R (L j d b F n)
 rcases f with f|f
 ·obtain⟨its,q,pl,_⟩:=L2.Qa.list I f;obtain⟨g,k⟩:=i q;refine⟨λh=>gy (ew its a) pl.isList (λw c=>k w (by simpa using c)) ?_,λh=>SeqAt.notIn_listAt (ew its a) pl.isList (λw c=>k w (by simpa using c)) ?_⟩<;>rw[mP g]<;>exact h
 ·obtain⟨its,q,pl,_⟩:=L2.Qa.tuple I f;obtain⟨g,k⟩:=i q;refine⟨λh=>px (ew its a) pl (λw c=>k w (by simpa using c)) ?_,λh=>SeqAt.notIn_tupleAt (ew its a) pl (λw c=>k w (by simpa using c)) ?_⟩<;>rw[mP g]<;>exact h
theorem Β(f:T.K=X.K)(g:X.A.units+9<cLine):yj X (Gc .In) (rD T (IH false)):=by
 intro c s m H v u o n Q I l k h;obtain⟨E,p,d,x,y,r,i,j,a⟩:=h;unfold IH at a;cases e:Im d y with
 |none=>rw[e]at a;exact a.elim
 |some xs=>
  rw[e]at a;dsimp only at a;cases b:uB d x xs with
  |none=>rw[b]at a;exact a.elim
  |some bs=>
   rw[b]at a;exact(z9 f g I r i j l k e b).1 ⟨.bl (bs.any id),H,I,rfl,Zb.here a r (by rw[Ia];rfl)⟩
end
section
variable{T:Tb}{X:Cx}
end
section
variable{T:Tb}{X:Cx}{tg iter:Fa}{f:Ev->M D}
end
section
variable{T:Tb}{X:Cx}{o e:Fa}{es:List Fa}{f:Ev->M D}{fs:Ev->M (List D)}{name:qa}{apos cpos:Me}{id:String}{r:V->List V->Hp->VK->Prop}{g:D->List D->M D}
end
noncomputable def kG:Ev->M D:=λ_ _=>.Sb
noncomputable def al:Ev->M Fl:=λ_ _=>.Sb
theorem GR{T:Tb}{X:Cx}{e:Fa}:FE T X e kG:=λpins s st H Q I ⟨b,c,σ,_,_,a⟩=>a.elim
theorem yY{T:Tb}{X:Cx}{e:Stmt}:FS T X e al:=λpins s st H D I ⟨b,c,σ,_,_,a⟩=>a.elim
section
variable{X:Cx}{pins:List (Addr × Obj)}{σ:St}{H:Hp}{s:Shared}{h':Heap}
theorem nE{H:Hp}{a b:Addr}{u:HO}(e:H b=some u)(n:H a=none):b≠a:=λz=>by rw[z,n]at e;cases e
theorem _root_.L2.Qa.Sw{t':Nat}{its:List Addr}{p:Addr}{o:HO}(I:Qa X pins σ H s)(k:∀ b u,b ∉ its->s.heap.get? b=some u->h'.get? b=some u)(h:∀ b∈its,yn X pins H b)(j:s.heap.objs.size<=p)(i:mn X.prog X.w (ic H p o) h' p o) :
  Qa X pins σ (ic H p o) { s with heap:=h',toks:=t' }:=by
 have d:=I.md.fresh j;have f:∀ b u,H b=some u->b ∉ its:=λb u e z=>by rw[(h b z).1]at e;cases e
 refine I.step (λb g=>?_) (λb o _ _ a e _=>k b o a e) (λb o _ _ a e _=>⟨o.slots,k b o a e⟩) (λb u _ q n=>by rw[Le (ya (Ga (va q) j))];exact n)
  (λb o a e=>⟨o,k b o a e⟩) (λb xs q=>by rw[Le (nE q d)];exact q) (λb u xs q=>by rw[Le (nE q d)];exact q) (λb G q=>⟨#[],by rw[Le (nE q d),q];simp⟩) (λm C=>?_) (λb u e=>?_) I.bare
 ·obtain⟨E,x,F,y,A,B⟩:=h b g;exact⟨y,x,A,B⟩
 ·obtain⟨o,t,l,D,r⟩:=C;exact⟨o,t,l,k _ o (λz=>(h _ z).2.1 rfl) D,r⟩
 ·by_cases g:b=p
  ·subst g;rw[Hh]at e;cases e;exact i
  ·rw[Le g]at e;refine(I.md b u e).cm (λc v a q=>k c v ?_ q) (λc q=>by rw[Le (nE q d)];exact q) λc xs q=>by rw[Le (nE q d)];exact q
   rcases a with z|z
   ·rw[z];exact f b u e
   ·exact f c _ z
theorem _root_.L2.Qa.Lw{t':Nat}{its:List Addr}(I:Qa X pins σ H s)(k:∀ b u,b ∉ its->s.heap.get? b=some u->h'.get? b=some u)(f:∀ b∈its,yn X pins H b):Qa X pins σ H { s with heap:=h',toks:=t' }:=by
 have d:∀ b u,H b=some u->b ∉ its:=λb u e z=>by rw[(f b z).1]at e;cases e
 refine I.step (λb t=>?_) (λb o _ _ a e _=>k b o a e) (λb o _ _ a e _=>⟨o.slots,k b o a e⟩) (λb u _ q n=>n)
  (λb o a e=>⟨o,k b o a e⟩) (λb xs q=>q) (λb u xs q=>q) (λb B q=>⟨#[],by rw[q];simp⟩) (λm w=>?_) (λb u e=>?_) I.bare
 ·obtain⟨y,i,A,j,l,p⟩:=f b t;exact⟨j,i,l,p⟩
 ·obtain⟨o,h,g,x,r⟩:=w;exact⟨o,h,g,k _ o (λz=>(f _ z).2.1 rfl) x,r⟩
 ·refine(I.md b u e).cm (λc v a q=>k c v ?_ q) (λ_ q=>q) λ_ _ q=>q;rcases a with z|z
  ·rw[z];exact d b u e
  ·exact d c _ z
end
theorem Br{h:Heap}{a b:Addr}{o i:Obj}{n g:String}(e:h.get? a=some o)(f:h.get? b=some i)(c:o.cls=.type n)(d:i.cls=.type g)(j:n≠g):a≠b:=λz=>by
 subst z;rw[e]at f;cases f;rw[c]at d;injection d with q;exact j q
def dS(K:W.Frag)(l:Addr):It:=
 ⟨λi H=>∃ xs x,Cg K H l xs/\xs[i]?=some x,λi H v a=>∃ p x,H p=none/\v=.ref p/\(∀ xs,Cg K H l xs->xs[i]?=some x)/\a=ic H p (.ub [.int i,x]),λi H=>∃ xs,Cg K H l xs/\i=xs.length⟩
def kO(K:W.Frag)(l m:Addr):It:=
 ⟨λi H=>∃ xs a x y,Cg K H l xs/\Cg K H m a/\xs[i]?=some x/\a[i]?=some y,λi H v b=>∃ p x y,H p=none/\v=.ref p/\(∀ xs,Cg K H l xs->xs[i]?=some x)/\(∀ a,Cg K H m a->a[i]?=some y)/\b=ic H p (.ub [x,y]),
  λi H=>∃ xs a,Cg K H l xs/\Cg K H m a/\i=min xs.length a.length⟩
theorem υ{P:za}{w:Ma}{K:PySem.W.Frag}{n:List Fa}{kk:Nat}{L:Me}(l e C:Addr):Mr P w K (.Tuple n kk L) (dS K l) [e,C] e (λi h=>(∃ a,IsEnum h e C i a)/\h.IsListIter C l i) where
 mem:=by simp
 obj:=λi h m b g=>by
  obtain⟨⟨a,f⟩,o,j,c,d⟩:=m;simp only[Da,Nb,lg]at g;rcases g with rfl|rfl
  ·exact⟨_,f,λv z=>by cases z⟩
  ·exact⟨o,j,λv z=>by rw[d]at z;cases z⟩
 keep:=λi h h' m k=>by
  obtain⟨⟨a,f⟩,j⟩:=m;exact⟨⟨a,k e (by simp) _ f⟩,j.at λo q=>k C (by simp) o q⟩
 item:=by
  intro X U hw S Y i J s σ H E I N m Z;subst U hw S;obtain⟨xs,x,O,hx⟩:=Z;obtain⟨its,rv,p,hz⟩:=I.list O;obtain⟨u,hu,ru⟩:=rv.get hx;obtain⟨⟨a,f⟩,j⟩:=m;obtain⟨oa,ea,ca,_⟩:=id p.isList;obtain⟨ob,M,cb,_⟩:=id j;have a1:l≠e:=Br ea f ca rfl (by decide);have a2:l≠C:=Br ea M ca cb (by decide);have a0:e≠C:=Br f M rfl cb (by decide);have W:=WalksT.enumerate (prog:=X.prog) (w:=X.w) (I.ok.hd Y) e C l a0 a1 a2 its.toArray;have hi:i<its.toArray.size:=by
   have:=(na.mp hu).1;simpa using this
  refine W.item i s _ E hi ⟨⟨a,f⟩,j,p.isList⟩ λT a3 h' tk V hT D r hk=>?_;obtain⟨t,y,R,rfl⟩:=V;have ey:y=u:=by
   have:its.toArray[i]?=some u:=by simpa using hu
   rw[this]at R;cases R;rfl
  subst ey;refine⟨.ref T,rfl,W.go n kk L i T { s with heap:=h',toks:=tk } _ E r λh2 hS G=>?_⟩;have F:=W.apart i T h' r;have B:h2.IsTuple T #[.int i t,y]:=by
   obtain⟨o,e1,c1⟩:=D;exact⟨o,G T o F e1,c1⟩
  have hn:H T=none:=I.md.fresh hT;refine⟨.ref T,ic H T (.ub [.int i,x]),I.Sw (λb o g q=>G b o g (hk b o g q)) N hT ?_,rfl,⟨T,x,hn,rfl,λys R=>by rw[I.Dl R O];exact hx,rfl⟩,⟨hS.1,hS.2.1⟩,λb g=>?_⟩
  ·exact⟨(show 2<=sizeLine by decide),[.int i t,y],.cons ⟨t,rfl⟩ (.cons ru .nil),B⟩
  ·rw[Le (λz=>F (by rw[<-z];exact g))];exact(N b g).1
 done:=by
  intro X U hw S Y i J s σ H E I N m Z;subst U hw S;obtain⟨xs,O,hx⟩:=Z;obtain⟨its,rv,p,hz⟩:=I.list O;obtain⟨⟨a,f⟩,j⟩:=m;have hl:=rv.length;exact wpAny_pyNext_enum_end (I.ok.hd Y) f j p.isList (by simp;omega) λh' M=>⟨rfl,I.Lw (λb o g q=>M b o (λz=>g (by simp[z])) q) N⟩
 self:=λA i s Q E m h=>by
  obtain⟨⟨a,f⟩,j⟩:=m;exact WC f h
theorem NR{h:Heap}{l m z TI TO s t:Addr}{x y:Nat}{xs C:Array Value}{a b c d:Value}{f:Value}(v:TI≠TO)(w:s≠t)(p1:h.IsList l xs)(p2:h.IsList m C)(e:IsZip h z TI TO f)(u:fO h TI a b)(n:fO h TO c d)(A:h.IsListIter s l x)(B:h.IsListIter t m y):ZipApart z TI TO s t l m:=by
 obtain⟨D,q,o,_⟩:=p1;obtain⟨E,r,p,_⟩:=p2;obtain⟨F,j,g,_⟩:=A;obtain⟨G,k,i,_⟩:=B;exact⟨Br u e rfl rfl (by decide),Br n e rfl rfl (by decide),Br j e g rfl (by decide),Br k e i rfl (by decide),v,Br u j rfl g (by decide),Br u k rfl i (by decide),Br n j rfl g (by decide),Br n k rfl i (by decide),w,
  Br q e o rfl (by decide),Br q n o rfl (by decide),Br q j o g (by decide),Br q k o i (by decide),Br r e p rfl (by decide),Br r n p rfl (by decide),Br r j p g (by decide),Br r k p i (by decide)⟩
theorem Y0{P:za}{w:Ma}{K:PySem.W.Frag}{J:List Fa}{kk:Nat}{a1:Me}(l m z TI TO f g:Addr)(d1:TI≠TO)(d2:f≠g) :
  Mr P w K (.Tuple J kk a1) (kO K l m) [z,TI,TO,f,g] z (λi h=>IsZip h z TI TO .none/\fO h TI (.ref f) (.ref g)/\(∃ a b,fO h TO a b)/\h.IsListIter f l i/\h.IsListIter g m i) where
 mem:=by simp
 obj:=λi h F b e=>by
  obtain⟨j,n,⟨a,c,r⟩,⟨o4,t,c4,d4⟩,⟨o5,B,c5,d5⟩⟩:=F;simp only[Da,Nb,lg]at e;rcases e with rfl|rfl|rfl|rfl|rfl
  ·exact⟨_,j,λv z=>by cases z⟩
  ·exact⟨_,n,λv z=>by cases z⟩
  ·exact⟨_,r,λv z=>by cases z⟩
  ·exact⟨o4,t,λv z=>by rw[d4]at z;cases z⟩
  ·exact⟨o5,B,λv z=>by rw[d5]at z;cases z⟩
 keep:=λi h h' F k=>by
  obtain⟨j,n,⟨a,c,r⟩,t,B⟩:=F;exact⟨k z (by simp) _ j,k TI (by simp) _ n,⟨a,c,k TO (by simp) _ r⟩,t.at λo q=>k f (by simp) o q,B.at λo q=>k g (by simp) o q⟩
 item:=by
  intro X hP hw hK hc i a0 s σ H E I hf F hg;subst hP hw hK;obtain⟨xs,ys,x,y,hq,C,hx,hy⟩:=hg;obtain⟨its,rv,p,hz⟩:=I.list hq;obtain⟨d,N,p2,a4⟩:=I.list C;obtain⟨u,hu,ru⟩:=rv.get hx;obtain⟨u2,V,a6⟩:=N.get hy;obtain⟨j,n,⟨a,c,r⟩,t,B⟩:=F;have D:=NR d1 d2 p.isList p2.isList j n r t B;have W:=MB (prog:=X.prog) (w:=X.w) (I.ok.hd hc) z TI TO f g l m D its.toArray d.toArray;have hi:i<min its.toArray.size d.toArray.size:=by
   have h1:=(na.mp hu).1;have h2:=(na.mp V).1;simp;omega
  refine W.item i s _ E hi ⟨j,n,⟨a,c,r⟩,t,B,p.isList,p2.isList⟩ λT a7 h' tk a2 hT R L hk=>?_;obtain⟨v1,v2,Y,Z,rfl⟩:=a2;have e1:v1=u:=by
   have:its.toArray[i]?=some u:=by simpa using hu
   rw[this]at Y;cases Y;rfl
  have e2:v2=u2:=by
   have:d.toArray[i]?=some u2:=by simpa using V
   rw[this]at Z;cases Z;rfl
  subst e1;subst e2;refine⟨.ref T,rfl,W.go J kk a1 i T { s with heap:=h',toks:=tk } _ E L λh2 O S=>?_⟩;have a3:=W.apart i T h' L;have M:h2.IsTuple T #[v1,v2]:=by
   obtain⟨o,e1,c1⟩:=R;exact⟨o,S T o a3 e1,c1⟩
  have hn:H T=none:=I.md.fresh hT;have G:∀ b,b ∉ [z,TI,TO,f,g]->b ∉ [z,TO,f,g]:=λb e U=>e (by simp at U ⊢;rcases U with h|h|h|h<;>simp[h]);have a5:∀ b∈[z,TI,TO,f,g],b<s.heap.objs.size:=λb e=>by
   simp only[Da,Nb,lg]at e;rcases e with rfl|rfl|rfl|rfl|rfl
   ·exact va j
   ·exact va n
   ·exact va r
   ·obtain⟨o,q,_⟩:=t;exact va q
   ·obtain⟨o,q,_⟩:=B;exact va q
  refine⟨.ref T,ic H T (.ub [x,y]),I.Sw (λb o e q=>S b o (G b e) (hk b o (G b e) q)) hf hT ?_,rfl,⟨T,x,y,hn,rfl,λzs hz=>by rw[I.Dl hz hq];exact hx,λzs hz=>by rw[I.Dl hz C];exact hy,rfl⟩,⟨O.1,O.2.1,O.2.2.1,O.2.2.2.1,O.2.2.2.2.1⟩,λb e=>?_⟩
  ·exact⟨(show (2:Nat)<=sizeLine by decide),[v1,v2],.cons ru (.cons a6 .nil),M⟩
  ·rw[Le (ya (Ga (a5 b e) hT))];exact(hf b e).1
 done:=by
  intro X hP hw hK hc i a0 s σ H E I hf F hg;subst hP hw hK;obtain⟨xs,ys,hq,C,hx⟩:=hg;obtain⟨its,rv,p,hz⟩:=I.list hq;obtain⟨d,N,p2,a4⟩:=I.list C;obtain⟨j,n,⟨a,c,r⟩,t,B⟩:=F;have D:=NR d1 d2 p.isList p2.isList j n r t B;have W:=MB (prog:=X.prog) (w:=X.w) (A:=X.A) (I.ok.hd hc) z TI TO f g l m D its.toArray d.toArray;have hl:=rv.length;have a8:=N.length;have ei:i=min its.toArray.size d.toArray.size:=by simp;omega
  subst ei;have G:∀ b,b ∉ [z,TI,TO,f,g]->b ∉ [z,TO,f,g]:=λb e U=>e (by simp at U ⊢;rcases U with h|h|h|h<;>simp[h]);exact W.done s _ E ⟨j,n,⟨a,c,r⟩,t,B,p.isList,p2.isList⟩ λh' tk hk=>⟨rfl,I.Lw (t':=tk) (λb o e q=>hk b o (G b e) q) hf⟩
 self:=λA i s Q E F h=>QF F.1 h
abbrev NX:=Nat->xb->Option (Option D)
def eB(T:Tb)(c:List Addr)(f:Hp)(nx:NX)(J:It):Prop:=∀ a H e i,Se c f a H->ee T a H e->match nx i e with
 |none=>True
 |some none=>J.stop i H
 |some (some d)=>J.go i H/\∀ x b,J.fC i H x b->Se a H a b/\ee T a b e/\Ia T a b d x
def t2(T:Tb)(X:Cx)(f:Ev->M NX):TI:=λb H R=>∃ a c d,ni T a H c b/\ee T a H d/\Zb T (XE X b) (eB T) a H (f c d) R
abbrev Ky(T:Tb)(X:Cx)(tg a:Fa)(f:Ev->M NX):Prop:=PI X tg a (t2 T X f)
def Tp(nx:NX)(tg:D->Ev->Option Ev)(a:Ev->M Fl):Nat->Nat->Ev->M Fl
 |0,_,_=>Sb
 |k+1,i,e=>λc=>match nx i c with
  |none=>.Sb
  |some none=>.ok (.nx e) c
  |some (some d)=>match tg d e with
   |none=>.Sb
   |some b=>Ld (a b) (Rx (Tp nx tg a k (i+1))) c
def cC(tg:D->Ev->Option Ev)(a:Ev->M Fl)(b:Ev)(nx:NX):M Fl:=Tp nx tg a 1001 0 b
def Jt(b:Ev->M NX)(tg:D->Ev->Option Ev)(a:Ev->M Fl):Ev->M Fl:=λc=>xs c (b c) (cC tg a c)
section
variable{T:Tb}{X:Cx}{tgt iter:Fa}{body:List Stmt}{src:Ev->M NX}{t:D->Ev->Option Ev}{g:Ev->M Fl}{pos:Me}
theorem fw(K:Ps (model X.prog X.w) X.A X.env X.xe)(hc:X.Vh=true)(hi:Ky T X tgt iter src)(hg:FG T X tgt t)(Z:Ao T X body g)
  (hs:∀ x,Sh iter X.env x=pure x:=by intro _;rfl):FS T X (.For tgt iter body [] pos) (Jt src t g):=by
 intro u s st H D I hq;refine RT K hc hi hg Z hs u s st H D I ?_;obtain⟨a,c,p,C,hr,K⟩:=hq;refine⟨a,c,p,C,hr,K.xs C λnx P l J R _ W r1 q1 p1=>?_⟩;have M:=p1;refine⟨λi m j q=>∃ a c p,Se l R a q/\ni T a q c j/\ee T a q p/\Zb T EN (Eo T) a q (Tp nx t g m i c p) (mo X D),⟨1001,l,c,P,Se.refl _ _,C.mono W,r1,M⟩,?_⟩;rintro i m j q ⟨n,ρ2,b,ex,r,S,p2⟩;cases m with
 |zero=>exact p2.elim
 |succ m=>
  unfold Tp at p2;have z:=q1 n q b i ex S;cases B:nx i b with
  |none=>simp only[B]at p2;exact p2.elim
  |some o=>
   cases o with
   |none=>
    simp only[B]at p2 z;exact .inl ⟨z,Zb.here (g:=nu.nx j) p2 S r⟩
   |some d=>
    simp only[B]at p2 z;obtain⟨G,hy⟩:=z;refine .inr ⟨G,λk e=>∃ a c p,Se l R a e/\ni T a e c k/\ee T a e p/\Zb T EN (Eo T) a e (Tp nx t g m (i+1) c p) (mo X D),λk e h=>⟨m,Qb _,h⟩,λx e y=>?_⟩;obtain⟨f,U,hx⟩:=hy x e y;cases L:t d ρ2 with
    |none=>simp only[L]at p2;exact p2.elim
    |some v=>
     simp only[L]at p2;exact⟨n,b,ρ2,d,v,r.mono f,U,hx,L,λk E=>⟨n,v,b,E,U,(Zb.mono f p2).bind λfl Q N gl H4 _ Y V q4 p4=>BM V q4 p4 λO a0 F p5=>⟨N,O,Q,(ex.trans f).trans Y,F,V,p5⟩⟩⟩
end
def nv(a:D):NX:=λi b=>match Mh b a with
 |some xs=>(match xs[i]? with
  |some x=>some (some (.ub [.int (i:Int),x]))
  |none=>if i=xs.length then some none else none)
 |none=>none
def fN(a b:D):NX:=λi d=>match Mh d a with
 |some xs=>(match Mh d b with
  |some c=>(match xs[i]? with
   |some x=>(match c[i]? with
    |some y=>some (some (.ub [x,y]))
    |none=>if i=min xs.length c.length then some none else none)
   |none=>if i=min xs.length c.length then some none else none)
  |none=>none)
 |none=>none
def Kz(d:D):M NX:=λa=>match Mh a d with
 |some _=>.ok (nv d) a
 |none=>.Sb
def aF(f:Ev->M D):Ev->M NX:=λa=>Ld (f a) Kz
def XJ(a b:D):M NX:=λc=>match Mh c a with
 |some _=>(match Mh c b with
  |some _=>.ok (fN a b) c
  |none=>.Sb)
 |none=>.Sb
def DU(m:M D)(a:D):M NX:=Ld m (XJ a)
def XB(f g:Ev->M D):Ev->M NX:=λa=>Ld (f a) (DU (g a))
section
variable{T:Tb}{X:Cx}{elts:List Fa}{kk:Nat}{p0 p pos:Me}{f g:Ev->M D}
theorem oZ:bootBuiltins "enumerate" = some (.type "enumerate"):=by decide +kernel
theorem ř:bootBuiltins "zip" = some (.type "zip"):=by decide +kernel
def ysc(K:W.Frag)(b:TA):TI:=λd H R=>b d H λc a=>∃ l xs,c=[.ref l]/\Cg K a l xs/\R (dS K l) a
theorem Þ{a:Fa}{j:TA}(o:Gl X "enumerate")(t:X.mg "enumerate" = none)(n:PA X [a] j)(v:la [a] X.env=[(false,Ib a X.env)]:=by rfl):PI X (.Tuple elts kk p0) (.Call (.Name "enumerate" p) [a] [] pos) (ysc X.K j):=by
 intro d s y H R I h;refine Call_ (Gy I o t oZ (Ie (Re (n pos d s y H _ I h) λus s1 ⟨C,H1,f,w,q1⟩=>?_) v rfl));obtain⟨l,xs,e,u,q⟩:=q1;subst e;cases w with
 |cons r x=>
  cases x;cases r;obtain⟨its,B,pl,A⟩:=f.list u;refine call_enumerate_list pl.isList λh' g k z m=>WC g ?_;refine⟨s1.heap.objs.size+1,[s1.heap.objs.size+1,s1.heap.objs.size],_,_,H1,rfl,f.kept m,υ l _ _,⟨⟨_,g⟩,k⟩,λb i=>?_,q⟩;have c:s1.heap.objs.size<=b:=by simp at i;rcases i with rfl|rfl<;>omega
  exact f.sr c (f.md.fresh c)
theorem AM{e:Fa}(M:Gl X "enumerate")(N:X.mg "enumerate" = none)(h:FE T X e f)(w:la [e] X.env=[(false,Ib e X.env)]:=by rfl):Ky T X (.Tuple elts kk p0) (.Call (.Name "enumerate" p) [e] [] pos) (aF f):=by
 intro j s U H R I Q;refine Þ M N (Dt h aw w) w j s U H R I ?_;obtain⟨W,ρ,σ,L,P,O⟩:=Q;refine⟨W,ρ,σ,L,P,O.bind λd r Y v H1 _ e1 B q1 p1=>?_⟩;unfold Kz at p1;cases m:Mh r d with
 |none=>rw[m]at p1;exact p1.elim
 |some ds=>
  rw[m]at p1;obtain⟨l,V,rfl,G,h2⟩:=B.ls q1 m;refine⟨l,V,rfl,Cg.of G,Zb.here p1 B λZ D t i ex C=>?_⟩;unfold nv;cases n:Mh t d with
  |none=>trivial
  |some xs=>
   obtain⟨l',k,E,J,u⟩:=C.ls (Ia.mono ex _ _ q1) n;cases E;have b:Cg X.K D l k:=Cg.of J;dsimp only;cases F:xs[i]? with
   |none=>
    by_cases o:i=xs.length
    ·rw[ja o];exact⟨k,b,by rw[o];exact u.length⟩
    ·rw[ua o];trivial
   |some d'=>
    obtain⟨x,A,S⟩:=u.get F;refine⟨⟨k,x,b,A⟩,λz H' y=>?_⟩;obtain⟨q,x',a,rfl,c,rfl⟩:=y;have g:=c k b;rw[A]at g;cases g;refine⟨Fm a,C.fresh a,?_⟩;exact⟨q,_,rfl,Hh,gb.cons (by rw[Ia]) (gb.cons (Ia.mono (Fm a) _ _ S) gb.nil)⟩
def QX(K:W.Frag)(b:TA):TI:=λe H R=>b e H λc a=>∃ l m xs d,c=[.ref l,.ref m]/\Cg K a l xs/\Cg K a m d/\R (kO K l m) a
theorem j8{a b:Fa}{u:TA}(B:Gl X "zip")(C:X.mg "zip" = none)(A:PA X [a,b] u)(E:la [a,b] X.env=[(false,Ib a X.env),(false,Ib b X.env)]:=by rfl)(f:la [b] X.env=[(false,Ib b X.env)]:=by rfl):PI X (.Tuple elts kk p0) (.Call (.Name "zip" p) [a,b] [] pos) (QX X.K u):=by
 intro g s M H R I h;refine Call_ (Gy I B C ř (Ie (Re (A pos g s M H _ I h) λus s1 ⟨Q,H1,c,J,q1⟩=>?_) (by rw[E,f]) (by rw[f];rfl)));obtain⟨l,m,xs,S,e,D,i,q⟩:=q1;subst e;cases J with
 |cons r k=>
  cases k with
  |cons G k=>
   cases k;cases r;cases G;obtain⟨its,P,pl,O⟩:=c.list D;obtain⟨t,L,j,F⟩:=c.list i;refine call_zip_2 pl.isList j.isList λh' n v w x y N z=>QF n ?_;refine⟨s1.heap.objs.size+4,[s1.heap.objs.size+4,s1.heap.objs.size+2,s1.heap.objs.size+3,s1.heap.objs.size,s1.heap.objs.size+1],_,_,H1,rfl,c.kept z,Y0 l m (s1.heap.objs.size+4) (s1.heap.objs.size+2) (s1.heap.objs.size+3) s1.heap.objs.size (s1.heap.objs.size+1) (show (s1.heap.objs.size+2)≠s1.heap.objs.size+3 by omega) (show s1.heap.objs.size≠s1.heap.objs.size+1 by omega),⟨n,v,⟨_,_,w⟩,x,y⟩,λb o=>?_,q⟩;have d:s1.heap.objs.size<=b:=by simp at o;rcases o with rfl|rfl|rfl|rfl|rfl<;>omega
   exact c.sr d (c.md.fresh d)
theorem Ļ{e b:Fa}(hg:Gl X "zip")(hm:X.mg "zip" = none)(h:FE T X e f)(h':FE T X b g)(Z:la [e,b] X.env=[(false,Ib e X.env),(false,Ib b X.env)]:=by rfl)(t:la [b] X.env=[(false,Ib b X.env)]:=by rfl) :
  Ky T X (.Tuple elts kk p0) (.Call (.Name "zip" p) [e,b] [] pos) (XB f g):=by
 intro B s st H R I hw;refine j8 hg hm (Dt h (Dt h' aw t) (by rw[Z,t])) Z t B s st H R I ?_;obtain⟨μ,ρ,σ,Y,hr,hp⟩:=hw;refine⟨μ,ρ,σ,Y,hr,hp.bind λd Q P v H1 _ e1 r1 q1 p1=>⟨P,ρ,Q,Y.mono e1,r1,p1.bind λU E a2 v2 H2 _ e2 M q2 p2=>?_⟩⟩;unfold XJ at p2;cases J:Mh E d with
 |none=>rw[J]at p2;exact p2.elim
 |some ds=>
  rw[J]at p2;cases n:Mh E U with
  |none=>rw[n]at p2;exact p2.elim
  |some a1=>
   rw[n]at p2;have C:=Ia.mono e2 _ _ q1;obtain⟨l,vs,rfl,h1,h2⟩:=M.ls C J;obtain⟨m,ws,rfl,h3,h4⟩:=M.ls q2 n;refine⟨l,m,vs,ws,rfl,Cg.of h1,Cg.of h3,Zb.here p2 M λa3 S F i ex N=>?_⟩;unfold fN;cases fl:Mh F d with
   |none=>trivial
   |some xs=>
    obtain⟨l',D,b,h5,V⟩:=N.ls (Ia.mono ex _ _ C) fl;cases b;cases L:Mh F U with
    |none=>trivial
    |some O=>
     obtain⟨m',a,b,h7,W⟩:=N.ls (Ia.mono ex _ _ q2) L;cases b;have j:Cg X.K S l D:=Cg.of h5;have k:Cg X.K S m a:=Cg.of h7;have l1:=V.length;have l2:=W.length;dsimp only;cases ei:xs[i]? with
     |none=>
      by_cases r:i=min xs.length O.length
      ·rw[ja r];exact⟨D,a,j,k,by rw[r,l1,l2]⟩
      ·rw[ua r];trivial
     |some d'=>
      cases G:O[i]? with
      |none=>
       by_cases r:i=min xs.length O.length
       ·rw[ja r];exact⟨D,a,j,k,by rw[r,l1,l2]⟩
       ·rw[ua r];trivial
      |some a0=>
       obtain⟨x,hx,rx⟩:=V.get ei;obtain⟨y,hy,ry⟩:=W.get G;refine⟨⟨D,a,x,y,j,k,hx,hy⟩,λz H' yy=>?_⟩;obtain⟨q,x',y',c,rfl,u,o,rfl⟩:=yy;have w:=u D j;rw[hx]at w;cases w;have A:=o a k;rw[hy]at A;cases A;refine⟨Fm c,N.fresh c,?_⟩;exact⟨q,_,rfl,Hh,gb.cons (Ia.mono (Fm c) _ _ rx) (gb.cons (Ia.mono (Fm c) _ _ ry) gb.nil)⟩
end
open PySem.Builtin.Str (occurrences partsBetween subAt)
end L4
namespace L4
open PySem PySem.Spec PyProof.Rows L2
section
variable{T:Tb}{X:Cx}{a b c:Fa}{fa fb fc:Ev->M D}{pos:Me}
end
section
variable{T:Tb}{X:Cx}
def Bq(y x:D):M D:=λb=>match Gm y with
 |some k=>(match Yi b x with
  |some a=>.ok (.bl (!(gw a k).isSome)) b
  |none=>.Sb)
 |none=>.Sb
noncomputable def fU:R2:=λy x H Q=>∃ a o,x=.ref a/\Fj H a y o/\Q (.bl (!o.isSome)) H
theorem DE(f:X.A.units+9<cLine):yj X (Gc .NotIn) fU:=by
 intro b s k H y x i u Q I e d h;obtain⟨a,o,rfl,g,q⟩:=h;obtain rfl:u=cc a:=d;exact U0 (by omega) I g e λj c=>⟨.bl (!o.isSome),H,c,rfl,q⟩
theorem JE:rn T fU Bq:=by
 intro E o H m y x u v Q r q p h;unfold Bq at h;cases c:Gm y with
 |none=>rw[c]at h;exact h.elim
 |some k=>
  rw[c]at h;cases b:Yi m x with
  |none=>rw[b]at h;exact h.elim
  |some j=>
   rw[b]at h;obtain⟨a,l,rfl,g,i⟩:=XA r p b;obtain rfl:=Yz q c;refine⟨a,cr l k,rfl,Fj.kr g,Zb.here h r ?_⟩;rcases ZL i k with⟨e,f⟩|⟨d,w,e,f,n⟩
   ·rw[e,f];rfl
   ·rw[e,f];rfl
def ou(T:Tb)(P:za)(w:Ma)(g:qa->Option Value)(a:Heap)(k:Nat)(f:Addr)(b:List qa)(d:List Value)(e:List D->M D):Prop:=
 ∃ c,uu T.K c b []/\uu T.K c b d/\Ei P w T.K g a (sm P w) k f c b (uq T b.length e)
structure Et(K:W.Frag)(C:Addr)(x qual:qa)(st:Stmt)(ps:List qa)(dv:List Value)(f:Addr):Prop where
 ex:∃ fd,(∃ (oc:Value) (od:Option Addr) (dV kV doc pm:Value) (an:Option Addr) (cdv ct:Value) (osl:Array (Option Value)),
  fd=W.fnOf x qual (En st) (uj st) (Ec st) dV kV doc pm an cdv ct/\K.lookup f=some ⟨oc,od,.func fd,osl⟩/\W.codeIn K cdv qual=true)/\uu K fd ps []/\uu K fd ps dv
end
section
variable{P:za}{w:Ma}{K:W.Frag}{mg:qa->Option Value}{base:Heap}{ca:Nat->Addr}{tx:Tx}
theorem FM{k:Nat}{C f:Addr}{x a:qa}{d:Stmt}{i N:List qa}{j:List Value}{g:Ev->M Fl}(h:Et K C x a d i j f)(S:ra N i (Ec d))
  (o:∀ (b:Value) (A:Ha) (c:List Ih) (s:Shared) (H:Hp) (E:XK),Ce k (A.deeper (Sg a (Ec d) s.heap.objs.size f b))->Ao ⟨K,ca,tx⟩ (Wq (sm P w) P w K mg base N a (Ec d) f b A c s H E) (uj d) g) :
  ou ⟨K,ca,tx⟩ P w mg base (k+1) f i j (Gd N.length g):=by
 obtain⟨u,⟨v,y,t,kV,n,z,r,b,ct,q,rfl,p,e⟩,l,m⟩:=h.ex;exact⟨_,l,m,qC p e S (o b)⟩
theorem ou.Wa{T:Tb}{k:Nat}{f:Addr}{c:List qa}{a:List Value}{b:List D->M D}(h:ou T P w mg base k f c a b):ou T P w mg base k f c a (L4.Wa b):=by rw[zq];exact h
theorem ou.Vb{T:Tb}{k:Nat}{f:Addr}{c:List qa}{a:List Value}{b:List D->M D}(h:ou T P w mg base k f c a b):ou T P w mg base k f c a (λd=>L4.Vb (b d)):=by
 obtain⟨e,g,i,j⟩:=h;exact⟨e,g,i,OG j⟩
theorem CK{C f t:Addr}{x b:qa}{g:Stmt}{p:List qa}{k:List Value}{A v:Value}{B i w:Option Addr}{m y:Array (Option Value)}{kV e j a ct:Value}{u:Nat}
  (z:∀ (t:Addr) (kV e j:Value) (i:Option Addr) (a ct:Value) (s:Shared) (o:Obj) (n:Nat) (h:List Value),s.heap.get? t=some o->o.data=.seq k.toArray n->((h++[]).length=p.length->xg s (W.fnOf x b (En g) (uj g) (Ec g) (.ref t) kV e j i a ct) ⟨h,[]⟩ (p.zip (h++[])))/\
   ((h++k).length=p.length->xg s (W.fnOf x b (En g) (uj g) (Ec g) (.ref t) kV e j i a ct) ⟨h,[]⟩ (p.zip (h++k))))
  (l:K.lookup f=some ⟨A,B,.func (W.fnOf x b (En g) (uj g) (Ec g) (.ref t) kV e j i a ct),m⟩)
  (c:W.codeIn K a b=true) (d:K.lookup t=some ⟨v,w,.seq k.toArray u,y⟩):Et K C x b g p k f:=
 ⟨⟨_,⟨A,B,_,kV,e,j,i,a,ct,m,rfl,l,c⟩,λs h q r=>(z t kV e j i a ct s _ u h (q _ _ d) rfl).1 r,λs h q r=>(z t kV e j i a ct s _ u h (q _ _ d) rfl).2 r⟩⟩
end
section
variable{T:Tb}{X:Cx}
theorem o1{pl:Io Bool}{k c:Nat}{n:List D->M D}{ps:List qa}{dv:List Value}{m:qa}{o e:Fa}{l:List Fa}{f:Ev->M D}{N:Ev->M (List D)}{b g:Me}{fa:Addr}(hK:T.K=X.K)(he:FE T X o f)(hC:Dm T.K (T.ca c))(P:He T.K (T.ca c) m fa)
  (h:ou T X.prog X.w X.mg X.base k fa ps dv n) (hr:Ce k X.A) (ha:FA T X (e::l) N)
  (V:la (e::l) X.env=(false,Ib e X.env)::la l X.env:=by rfl) (S:(Bc b (la l X.env)).any (·.1)=false:=by rfl)
  (ht:Ib (.Call (.Attribute o m g) (e::l) [] b) X.env=(do
   let ov <-Ib o X.env
   pi g.atName
   let (f,first) <-qf [ov] (mj ov m pl)
   Lq b f first (Bc b (la (e::l) X.env)) (si b (ng [] X.env))):=by rfl) :
  FE T X (.Call (.Attribute o m g) (e::l) [] b) (Df [(c,n)] ps.length m f N):=by
 intro i s G H Q I hq;obtain⟨μ,ρ,σ,hE,U,hp⟩:=hq;have O:=hE;refine Qk (Re (he i s G H (λx p=>∃ a E j,x=.ref a/\p a=some (.jc (T.ca c) E j)/\j.lookup m=none/\tL T X N G p λZ J=>uq T ps.length n (x::(Z++[])) J Q (XE X G)) I ⟨μ,ρ,σ,hE,U,hp.bind λd C a0 v p _ e1 r1 q1 p1=>?_⟩) λu s1 ⟨x,p,I1,rx,a,E,j,ex,ea,t,q⟩=>?_) ht
 ·unfold qm at p1;cases L:Qp C d with
  |none=>rw[L]at p1;exact p1.elim
  |some z=>
   obtain⟨c',gs⟩:=z;rw[L]at p1;dsimp only at p1;by_cases B:c=c'
   ·subst B;have F:qv [(c,n)] c=some n:=by unfold qv;rw[ja (IW c)]
    cases t:gs.lookup m with
    |some y=>rw[F,t]at p1;exact p1.elim
    |none=>
     rw[F,t]at p1;dsimp only at p1;obtain⟨a,E,j,rfl,h1,h2⟩:=UD r1 q1 L;refine⟨a,E,j,rfl,h1,(HE h2).2 t,a0,ρ,C,O.mono e1,r1,p1.bind λds a2 a1 Z J _ e2 r2 Y p2=>?_⟩;unfold Do at p2;by_cases R:ds.length+1=ps.length
     ·rw[ja R]at p2;exact⟨a1,a2,d::ds,gb.cons (Ia.mono e2 _ _ q1) (by rw[Pe];exact Y),by rw[Cc];exact R,r2,p2⟩
     ·rw[ua R]at p2;exact p2.elim
   ·have F:qv [(c,n)] c'=none:=by unfold qv;rw[ua (by simpa using B)];rfl
    rw[F]at p1;exact p1.elim
 ·subst ex;obtain rfl:u=cc a:=rx;obtain⟨fd,hb,_,hF⟩:=h;rw[hK]at hC P hF hb;refine uK I1 ea hC P t ?_;refine Ji I.ok.mod.Ex P.kp (Re (ha b i s1 G p _ I1 q) λZ s2 ⟨j,J,I2,r,Y⟩=>⟨I2.Yj,?_⟩) V S;exact QD (vs:=.ref a::j) hF hr hb .nil I2 (.cons rfl r) Y
end
section
variable{T:Tb}{X:Cx}
end
noncomputable def iw(a:List Nat)(b:Ev):Ev:=none::none::a.map λi=>(b[i]?).getD none
noncomputable def AA(a:List Nat)(b:St):St:=none::none::a.map λi=>(b[i]?).getD none
theorem P3{T:Tb}{c:List Addr}{H:Hp}{f:Ev}{b:St}(a:List Nat)(h:ni T c H f b):ni T c H (iw a f) (AA a b):=by
 have q:=qO a h;refine⟨by simp[iw,AA],λi d e=>?_⟩;cases i with
 |zero=>simp[iw]at e
 |succ j=>exact q.2 j d e
section
variable{X:Cx}{pins:List (Addr × Obj)}{st:St}{H:Hp}{s:Shared}{x z0:qa}{M':List qa}{ix:List Nat}{scope:Scope}{fp:List Addr}
theorem i6(I:Qa X pins st H s)(L:Dp X x M' ix scope)(r:∀ b∈fp,yn X pins H b/\b<s.heap.objs.size){h':Heap}{t':Nat}{m:qa->Option Value}(P:h'.Ns s.heap.objs.size m)
  (F:∀ b o,s.heap.get? b=some o->h'.get? b=some o) :
  Qa (Vv X (x::z0::M') scope (Kk X.env scope.names []) s.heap.objs.size s H fp) [] (AA ix st) H { s with heap:=h',toks:=t' }:=by
 have f:∀ n c,(Kk X.env scope.names []).lookup n=some c->X.env.cells.lookup n=some c:=λn c e=>vK X.env scope.names [] n c (λ_ _ q=>by simp at q) e;have w:H s.heap.objs.size=none:=I.md.fresh (wa _);refine⟨⟨I.ok.mod,L.kind,I.ok.glob,I.ok.blt,wa _,λa b c t d=>I.ok.inj a b c (f a c t) (f b c d),λa ha=>?_,λa c h=>(by cases h),I.ok.hd,I.ok.frames,.inl rfl,λb A=>⟨ya (r b A).2,λa c e=>?_⟩,λb o e=>I.bs b o e,Wb I.ok.su I.sz,λb o e A=>?_,λb A z=>?_,I.stack,I.Vl⟩,
  rfl,I.bare,Un.kept F,⟨m,P,λi y v W G e3=>?_⟩,λa c e=>?_,w,λa c e=>I.lh a c (f a c e),λp hp=>absurd (show p∈[]from hp) (by simp),I.md.kept F,?_⟩
 ·
  have K:(scope.names.map λ(n,k)=>if (k == qb && X.env.scope.kind == .function && X.env.kindOf n == some .cell)then (n,sd)else (n,k)).lookup a=some .cell\/(scope.names.map λ(n,k)=>if (k == qb && X.env.scope.kind == .function && X.env.kindOf n == some .cell)then (n,sd)else (n,k)).lookup a=some .free:=ha;have T:scope.names.lookup a=some .free:=by
   rcases K with z|z
   ·obtain⟨k0,t,d⟩:=iN z;rcases d with d|⟨d,_⟩
    ·subst d;exact absurd rfl (uD L _ (Fx t))
    ·rw[d]at t;exact t
   ·obtain⟨k0,t,d⟩:=iN z;rcases d with d|⟨_,d⟩
    ·rw[<-d]at t;exact t
    ·cases d
  exact JD X.env scope.names [] a (Fx T) (dB I L _ (Fx T) rfl)
 ·exact(r b A).1.2.2.2.2.1 a c (f a c e)
 ·rcases(r b A).1.2.2.2.1 with z|z
  ·exact I.ok.Ht b o e z
  ·exact absurd (Ga (va e) (Wb I.ok.su z)) (Jf _)
 ·rcases Da.mp (I.Bu b z)with q|q
  ·exact(r b A).1.2.1 q
  ·exact(r b A).1.2.2.1 q
 ·
  cases i with
  |zero=>simp[AA]at G
  |succ i=>
  cases i with
  |zero=>simp[AA]at G
  |succ j=>
   have B:M'[j]?=some y:=W;have g:(ix.map λi=>(st[i]?).getD none)[j]?=some (some v):=G;rw[Xa]at g;cases J:ix[j]? with
   |none=>rw[J]at g;cases g
   |some D=>
    rw[J]at g;have E:(st[D]?).getD none=some v:=Ya g;have Y:st[D]?=some (some v):=by
     cases q:st[D]? with
     |none=>rw[q]at E;cases E
     |some o=>rw[q]at E;exact Ef some E
    have Z:X.N[D]?=some y:=by
     have z:=Ef (λl=>l[j]?) L.at_;simp only[Xa,J,B]at z;exact Ya z
    have q:=Dc.mp L.yR y (La B);simp only[Ea,di]at q;have U:X.env.scope.names.lookup y=some .cell\/X.env.scope.names.lookup y=some .free:=by
     rcases q.1 with z|z
     ·exact .inl (eq_of_beq z)
     ·exact .inr (eq_of_beq z)
    have R:scope.names.lookup y=some .free:=eq_of_beq q.2;obtain⟨m0,a0,O⟩:=I.loc;obtain⟨u,ru,lu⟩:=O D y v Z Y (by rcases U with z|z;exact .inr (.inl z);exact .inr (.inr z));refine⟨u,ru,.inr ⟨ZT (env:=X.env) R,?_⟩⟩;rcases lu with⟨z,_⟩|⟨_,c,ec,zc⟩
    ·rcases U with k|k
     ·rw[show X.env.kindOf y=X.env.scope.names.lookup y from rfl,k]at z;cases z
     ·rw[show X.env.kindOf y=X.env.scope.names.lookup y from rfl,k]at z;cases z
    ·obtain⟨V,C⟩:=JD X.env scope.names [] y (Fx R) (dB I L _ (Fx R) rfl);have S:=f y V C;rw[ec]at S;cases S;obtain⟨o,Q,M⟩:=zc;exact⟨c,C,o,F _ _ Q,M⟩
 ·obtain⟨v,o,Q,M⟩:=I.cell a c (f a c e);exact⟨v,o,F _ _ Q,M⟩
 ·simp[AA,Vv];have z:=Ef List.length L.at_;simpa using z
end
section
variable{T:Tb}{X:Cx}
end
noncomputable def Us(l:List Int):List Int:=l.mergeSort λa b=>decide (a<=b)
theorem HA(l:List Int):(Us l).Perm l:=List.mergeSort_perm l _
theorem yI(l:List Int):(Us l).Pairwise (·<=·):=by
 have:=List.pairwise_mergeSort (le:=λa b:Int=>decide (a<=b)) (λa b c d e=>by simp at *;omega) (λa b=>by simp;omega) l;exact this.imp λh=>by simpa using h
theorem mD:∀ {l m:List Int},l.Perm m->l.Pairwise (·<=·)->m.Pairwise (·<=·)->l=m
 |[],m,h,_,_=>by rw[List.nil_perm]at h;exact h.symm
 |a::l,[],h,_,_=>by have:=h.length_eq;simp at this
 |a::l,b::m,h,c,d=>by
  rw[List.pairwise_cons]at c d;have f:=h.subset Ua;have g:=h.symm.subset Ua;have e:a=b:=by
   rcases Da.mp f with e|f
   ·exact e
   ·rcases Da.mp g with e|g
    ·exact e.symm
    ·have:=c.1 b g;have:=d.1 a f;omega
  subst e;rw[mD (zaF h) c.2 d.2]
def lM(K:W.Frag):List V->Hp->VK->Prop:=λxs H Q=>∃ (p:Addr) (is:List Int),xs=[.ref p]/\Cg K H p (is.map V.int)/\is.length<64/\∀ l,H l=none->Q (.ref l) (ic H l (.Ca ((Us is).map V.int)))
section
variable{T:Tb}{X:Cx}
theorem N4:Oo X (.builtin "sorted") (lM X.K):=by
 intro f s z H xs y Q I r h;obtain⟨p,c,rfl,o,d,q⟩:=h;obtain⟨u,rfl,v⟩:=jw r;cases v;obtain⟨its,g,pl,x⟩:=I.list o;have a:=g.length;rw[Pb]at a;refine sorted_ints pl.isList (dL g) (by omega) λb t i j k=>?_;obtain⟨e,m⟩:=sortedAll_at s.heap its b;have l:=mD (j.trans (HA c).symm) k (yI c);subst l;have n:=(HA c).length_eq;exact⟨.ref (s.heap.objs.size+1),_,I.laid (λ_ _=>sortedAll_old) (jj _) (show mn X.prog X.w _ _ _ (.Ca ((Us c).map V.int))from⟨by rw[Pb,n];exact Wb (ff d) (by decide),b.toList,e,EF i,by rw[Bk];exact m⟩),rfl,q _ (I.md.fresh (jj _))⟩
def xN(xs:List D):M D:=λa=>match xs with
 |[x]=>(match Mh a x with
  |some b=>(match Vu b with
   |some is=>if is.length<64 then yC ((Us is).map D.int) a else .Sb
   |none=>.Sb)
  |none=>.Sb)
 |_=>.Sb
theorem eK{b:List Addr}{H:Hp}:∀ a:List Int,gb T b H (a.map D.int) (a.map V.int)
 |[]=>gb.nil
 |i::a=>gb.cons (by rw[Ia]) (eK a)
theorem j0(k:T.K=X.K):Ww T (lM X.K) xN:=by
 intro E o H j xs n Q r p h
 match xs with
 |[]=>exact h.elim
 |[x]=>
  obtain⟨v,w,rfl,p1,p2⟩:=p;rw[gb]at p2;subst p2;unfold xN at h;cases e:Mh j x with
  |none=>simp only[e]at h;exact h.elim
  |some i=>
   simp only[e]at h;cases a:Vu i with
   |none=>simp only[a]at h;exact h.elim
   |some is=>
    simp only[a]at h;by_cases c:is.length<64
    ·rw[ja c]at h;obtain⟨b,m,rfl,d,f⟩:=r.ls p1 e;obtain rfl:=IF f a;exact⟨b,is,rfl,Cg.of d,c,λl g=>CD h r (eK _) g⟩
    ·rw[ua c]at h;exact h.elim
 |_::_::_=>exact h.elim
def Hw(b a:List (gc × V)):List (gc × V):=a.foldl (λacc c=>On acc c.1 c.2) b
def QA(b a:List (gc × D)):List (gc × D):=a.foldl (λacc c=>VB acc c.1 c.2) b
theorem Z4:∀ {a:List (gc × V)} {d:List (gc × Value)} {b:List (gc × V)} {e:List (gc × Value)},KV a d->KV b e->KV (Hw b a) (merged e d):=by
 intro a;induction a with
 |nil=>intro d b e c f;cases c;exact f
 |cons p a g=>
  intro d b e c f;cases c with
  |cons q c=>
   obtain⟨q1,h⟩:=q;have:=g c (f.put p.1 h);simpa [Hw,merged,q1]using this
theorem ĸ:∀ (a b:List (gc × V)),(Hw b a).length<=b.length+a.length:=by
 intro a;induction a with
 |nil=>intro b;simp[Hw]
 |cons p a d=>
  intro b;have e:=d (On b p.1 p.2);have f:=tG b p.1 p.2;have c:Hw b (p::a)=Hw (On b p.1 p.2) a:=rfl;rw[c,Cc];omega
def xO:V->List V->Hp->VK->Prop:=λx e H Q=>∃ a b d c,x=.ref a/\e=[.ref b]/\a≠b/\H a=some (.dK d)/\Rd H b (.dK c)/\d.length+c.length<=sizeLine/\Q .Mc (ic H a (.dK (Hw d c)))
theorem G7:Zw X "dict.update" xO:=by
 intro p s M H x O v N Q I E D h;obtain⟨a,b,g,d,rfl,rfl,l,o,k,K,q⟩:=h;cases E;obtain⟨u,rfl,C⟩:=jw D;cases C;obtain⟨z,t,r,e,n⟩:=QJ I.md o;obtain⟨P,m,i,c,j⟩:=cx I.md k;have G:g.length=r.length:=by unfold KV at e;exact Paired.length e
 have J:d.length=i.length:=by unfold KV at c;exact Paired.length c
 refine call_meetsIn Dq n.typeIs PySem.F.entry_dict_update (PySem.F.args_dict_update_2 _ _) (meets_dict_update (Ri X.prog X.w) a b l m) ⟨r,i,n,j,by omega,λh' f _ B=>?_⟩;have y:∃ q,h'.get? a=some q:=let ⟨q,_,_,A,_⟩:=f;⟨q,A⟩;have L:=ĸ d g;exact⟨.Mc,_,TH I (by rw[o];exact True.intro) B y (sI (by omega) t (Z4 c e) f),rfl,q⟩
noncomputable def apart(n:Nat):D->Bool
 | .ref m=>!(m == n)
 |_=>true
def Hz(x:D)(xs:List D):M D:=λb=>match x,xs with
 | .ref n,[y]=>(match b[n]? with
  |some (.Ja a)=>(match Yi b y with
   |some more=>if (apart n y && decide (a.length+more.length<=zi))=true then .ok .Mc (b.set n (.Ja (QA a more)))else .Sb
   |none=>.Sb)
  |_=>.Sb)
 |_,_=>.Sb
theorem sO{g:List Addr}{H:Hp}:∀ {a:List (gc × D)} {d:List (gc × V)} {b:List (gc × D)} {e:List (gc × V)},vj T g H a d->vj T g H b e->vj T g H (QA b a) (Hw e d):=by
 intro a;induction a with
 |nil=>intro d b e c f;unfold vj at c;cases c;exact f
 |cons p a h=>
  intro d b e c f;cases c with
  |cons q c=>
   have:=h c (tR f p.1 q.2);simpa [QA,Hw,q.1]using this
theorem L0:FD T xO Hz:=by
 intro E F H G x xs v R Q r p q h;cases x with
 |ref n=>
  match xs with
  |[]=>exact h.elim
  |[y]=>
   obtain⟨w,z,rfl,q1,C⟩:=q;rw[gb]at C;subst C;unfold Hz at h;cases d:G[n]? with
   |none=>simp only[d]at h;exact h.elim
   |some ob=>
    cases ob with
    |Ja f=>
     simp only[d]at h;cases i:Yi G y with
     |none=>simp only[i]at h;exact h.elim
     |some more=>
      simp only[i]at h;by_cases g:(apart n y && decide (f.length+more.length<=zi))=true
      ·rw[ja g]at h;simp only[Ea,Kc]at g;obtain⟨a,rfl,j,t,A,k⟩:=r.at p d;obtain⟨b,u,rfl,J,l⟩:=XA r q1 i;have M:t.length=f.length:=by unfold vj at k;exact(Paired.length k).symm
       have N:u.length=more.length:=by unfold vj at l;exact(Paired.length l).symm
       have o:a≠b:=by
        cases y with
        |ref m=>
         obtain⟨I,e,L⟩:=q1;cases e;intro e;subst e;have s:=kI r.nd L j;have:=g.1;simp[apart,s]at this
        |Ja P ds=>
         obtain⟨I,B,e,K,_⟩:=q1;cases e;intro e;subst e;exact K (La j)
        |_=>cases i
       refine⟨a,b,t,u,rfl,rfl,o,A,J,by rw[M,N];exact Wb g.2 (by decide),?_⟩;have D:=r.write (ob:=.Ja (QA f more)) j ⟨_,Hh,by
        have ex:Se F H F (ic H a (.dK (Hw t u))):=Zx (La j) A (λ_ z=>by cases z) (λ_ _ z=>by cases z);exact sO (vj.mono ex l) (vj.mono ex k)⟩
       exact h _ _ _ D.1 D.2 (by rw[Ia])
      ·rw[ua g]at h;exact h.elim
    |Ca S=>simp only[d]at h;exact h.elim
    |jc c O=>simp only[d]at h;exact h.elim
    |ag _=>simp only[d]at h;exact h.elim
    |yf _=>simp only[d]at h;exact h.elim
  |_::_::_=>exact h.elim
 |_=>exact h.elim
end
theorem JK:bootBuiltins "sorted" = some (.builtin "sorted"):=by decide +kernel
theorem xT:∀ {a:List gc} {b:List Value},b.length=a.length->(∀ (j:Nat) (v:Value) (k:gc),b[j]?=some v->a[j]?=some k->ie (kV k) v)->jf (a.map kV) b
 |[],[],_,_=>.nil
 |[],_::_,h,_=>by simp at h
 |_::_,[],h,_=>by simp at h
 |k::a,v::b,h,c=>.cons (c 0 v k rfl rfl) (xT (by simpa using h) λj v k d e=>c (j+1) v k d e)
theorem Z0{P:za}{w:Ma}{k:gc}{v:Value}(h:(Ri P w).is k v=true):ie (kV k) v:=by
 rcases Xw h with⟨i,t,rfl,rfl⟩|⟨x,t,rfl,rfl⟩
 ·exact⟨t,rfl⟩
 ·exact⟨t,rfl⟩
theorem SQ:∀ {a:List (gc × V)} {ws:List (gc × Value)},KV a ws->ws.map (·.1)=a.map (·.1)
 |[],_,h=>by cases h;rfl
 |p::a,_,h=>by
  cases h with
  |cons q h=>simp only[yb];rw[SQ h,q.1]
section
variable{T:Tb}{X:Cx}
def DA:gc->D
 | .inl i=>.int i
 | .inr x=>.str x
end
end L4
namespace L4
open PySem PySem.Spec PySem.Calls PySem.W PyProof.Rows PyProof.V
theorem zg5{j:za}{w:Ma}{A:Ha}{E:Value->Shared->Prop}{s:Shared}{R:List Value->Shared->Prop}{C:String}{r d:Addr}{n:Nat}{P:Nat->Value->Prop}{v:Heap->Prop}
  (K:KdlSrc j w C r d n P v) (D:A.handled=none) (m:v s.heap) (G:n<=sizeLine)
  (t:∀ (a:Heap) (i:Nat) (acc:Array Value),(∀ b o,s.heap.get? b=some o->a.get? b=some o)->s.heap.objs.size<=a.objs.size->Oq P acc n->R acc.toList { s with heap:=a,toks:=i }) :
  wpAny (model j w) A (collect (.ref r)) R E s:=by
 have B:=K.there _ m;let S:Addr:=s.heap.objs.size;let Z:Mp->Shared->Prop:=λq u=>∃ (a:Heap) (i:Nat) (acc:Array Value) (c:Nat),q=.ok (.ret (.ref S))/\u={ s with heap:=a,toks:=i }/\(∀ b o,s.heap.get? b=some o->a.get? b=some o)/\
  a.get? S=some { cls:=.type "list",dict:=none,data:=.seq acc c,slots:=#[] }/\Oq P acc n
 have h:∀ {a:Heap} {i c:Nat} {acc:Array Value},(∀ b o,s.heap.get? b=some o->a.get? b=some o)->a.get? S=some { cls:=.type "list",dict:=none,data:=.seq acc c,slots:=#[] }->Oq P acc n->R acc.toList { s with heap:=a,toks:=i }:=
  λl g k=>t _ _ _ l (ff (va g)) k
 have p:(s.heap.push { cls:=.type "list",data:=.seq ([]:List Value).toArray }).get? S=some { cls:=.type "list",data:=.seq #[] }:=Ba _ rfl;have Gd:=kdl_extend (A:=A) (s:={ s with heap:=s.heap.push { cls:=.type "list",data:=.seq ([]:List Value).toArray } }) (R:=Z) K D (K.keep _ _ m λb _ o e=>ba _ e) S (gf B.1) (gf B.2) (.ref S) 0 p
  (λa i acc c l g k=>⟨a,i,acc,c,rfl,rfl,λb o e=>l b o (ya (va e)) (ba _ e),g,k⟩) G
 refine aa (Lu (qd uz ?_));refine aa (Hc (da ⟨tf gr _,qd RF ?_⟩));refine Xb Gd (λf u x=>?_) (λe u x=>by obtain⟨_,_,_,_,z,_⟩:=x;cases z);cases f with
 |done f=>
  obtain⟨a,i,acc,c,e,rfl,l,g,k⟩:=x;cases e;exact aa (Gp g (da (h l g k)))
 |again H=>
  refine⟨x.1,ah x.2 λq I y=>?_⟩;obtain⟨a,i,acc,c,rfl,rfl,l,g,k⟩:=y;exact aa (Gp g (da (h l g k)))
end L4
namespace L4
open PySem PySem.Spec PyProof.Rows L2
def tM:List V->Hp->VK->Prop:=λxs H Q=>∃ (a:Addr) (b:List (gc × V)) (is:List Int),xs=[.ref a]/\Rd H a (.dK b)/\b.map (·.1)=is.map Sum.inl/\is.length<64/\∀ l,H l=none->Q (.ref l) (ic H l (.Ca ((Us is).map V.int)))
theorem qR:∀ {a:List Int} {b:List Value},jf ((a.map (Sum.inl:Int->gc)).map kV) b->fj b a
 |[],_,h=>by cases h;exact .nil
 |i::a,_,h=>by
  cases h with
  |cons q h=>
   obtain⟨t,rfl⟩:=q;exact .cons i t (qR h)
section
variable{T:Tb}{X:Cx}
theorem A3(hc:X.Vh=true):Oo X (.builtin "sorted") tM:=by
 intro R s σ H xs us Q I r h;obtain⟨a,f,i,rfl,hH,l,t,q⟩:=h;obtain⟨u,rfl,rx⟩:=jw r;cases rx;obtain⟨z,hd,p,E,Y⟩:=cx I.md hH;obtain⟨J,y⟩:=Y.dictAt;have K:=SQ E;have a4:p.length=f.length:=by have:=Ef List.length K;simpa using this
 have a0:f.length=i.length:=by have:=Ef List.length l;simpa using this
 have M:p.length<=sizeLine:=by omega
 refine ir kind_sorted plain_sorted entry_sorted (args_sorted1 _) ?_;unfold gj.«sorted»;refine aa (m:=checkCount "sorted" 1 1 _) (da ?_);refine aa (zg5 (A:=X.A.in1) (W.kdl_dict (knd:=Ri X.prog X.w) (kvs:=p) (ep:=J) hd) (I.ok.hd hc) y M λh' tk acc O n c=>?_);have L:acc.toList.length=p.length:=by rw[Eb];exact c.1
 have N:jf ((p.map (·.1)).map kV) acc.toList:=xT (by rw[Pb];exact L) λj v k Z F=>by
  obtain⟨k',x,hx,B⟩:=c.2 j v (by rw[<-pf];exact Z);rw[Xa,hx]at F;cases F;exact Z0 B
 rw[K,l]at N;have hI:=qR N;refine aa (Sv ?_ (by rw[L];exact M));have d:(h'.push (ck "list" acc.toList.toArray 0)).get? h'.objs.size=some (ck "list" acc.toList.toArray 0):=Ba _ rfl;refine aa (Ac (Qc UN ⟨_,d,rfl⟩ ZI (VN d hI (by omega) λg D S T U=>⟨_,rfl,?_⟩) (WN _)));refine da ⟨_,rfl,?_⟩;have en:D=Us i:=mD (T.trans (HA i).symm) U (yI i);subst en;have C:=(HA i).length_eq;obtain⟨e,he⟩:=KW (out:=g) d;exact⟨.ref h'.objs.size,_,I.laid (t':=tk) (λb o G=>by
  have P:b<h'.objs.size:=va (O b o G);rw[XN (ya P) (by rw[NB];exact Rb P)];exact ba _ (O b o G)) n (show mn X.prog X.w _ _ _ (.Ca ((Us i).map V.int))from⟨by rw[Pb,C];exact Wb (ff t) (by decide),g.toList,e,EF S,by rw[Bk];exact he⟩),rfl,q _ (I.md.fresh n)⟩
noncomputable def DB:List (gc × D)->Option (List Int)
 |[]=>some []
 |(.inl i,_)::r=>(DB r).map (i::·)
 |_::_=>none
theorem fW{c:List Addr}{H:Hp}:∀ {a:List (gc × D)} {us:List (gc × V)} {is:List Int},vj T c H a us->DB a=some is->us.map (·.1)=is.map Sum.inl
 |[],_,is,h,e=>by unfold vj at h;cases h;cases e;rfl
 |(k,d)::a,_,is,h,e=>by
  cases h with
  |cons q h=>
   cases k with
   |inr x=>cases e
   |inl i=>
    unfold DB at e;cases b:DB a with
    |none=>rw[b]at e;cases e
    |some f=>
     rw[b]at e;cases e;simp only[yb];rw[fW h b,<-q.1]
def MH(xs:List D):M D:=λb=>match xs with
 |[x]=>(match Yi b x with
  |some a=>(match DB a with
   |some is=>if is.length<64 then yC ((Us is).map D.int) b else .Sb
   |none=>.Sb)
  |none=>.Sb)
 |_=>.Sb
theorem z7:Ww T tM MH:=by
 intro E n H k xs m Q r p h
 match xs with
 |[]=>exact h.elim
 |[x]=>
  obtain⟨v,w,rfl,p1,p2⟩:=p;rw[gb]at p2;subst p2;unfold MH at h;cases e:Yi k x with
  |none=>simp only[e]at h;exact h.elim
  |some d=>
   simp only[e]at h;cases b:DB d with
   |none=>simp only[b]at h;exact h.elim
   |some is=>
    simp only[b]at h;by_cases c:is.length<64
    ·rw[ja c]at h;obtain⟨a,j,rfl,f,g⟩:=XA r p1 e;exact⟨a,j,is,rfl,f,fW g b,c,λl i=>CD h r (eK _) i⟩
    ·rw[ua c]at h;exact h.elim
 |_::_::_=>exact h.elim
def EO(K:W.Frag):List V->Hp->VK->Prop:=λxs H Q=>lM K xs H Q\/tM xs H Q
theorem gU(d:X.Vh=true):Oo X (.builtin "sorted") (EO X.K):=by
 intro a s c H xs b Q I r h;rcases h with h|h
 ·exact N4 a s c H xs b Q I r h
 ·exact A3 d a s c H xs b Q I r h
def Wy(xs:List D):M D:=λa=>match xs with
 |[x]=>(match Mh a x with
  |some _=>xN [x] a
  |none=>MH [x] a)
 |_=>.Sb
theorem uT(d:T.K=X.K):Ww T (EO X.K) Wy:=by
 intro E c H a xs b Q r p h
 match xs with
 |[]=>exact h.elim
 |[x]=>
  unfold Wy at h;cases e:Mh a x with
  |some f=>simp only[e]at h;exact .inl (j0 d E c H a [x] b Q r p h)
  |none=>simp only[e]at h;exact .inr (z7 E c H a [x] b Q r p h)
 |_::_::_=>exact h.elim
end
section
variable{T:Tb}{X:Cx}
end
end L4
namespace L2
open PySem PySem.Spec PyProof.Rows
def PH:List (TE × TE)->St->Hp->(List (V × V)->Hp->Prop)->Prop
 |[],_,H,Q=>Q [] H
 |(e,f)::r,σ,H,Q=>e σ H λx a=>f σ a λy b=>PH r σ b λd c=>Q ((x,y)::d) c
abbrev VV:List (V × V)->List (Value × Value)->Prop:=Paired λp q=>ie p.1 q.1/\ie p.2 q.2
def kD(X:Cx)(d:Me)(c:List (Option Fa))(a:List Fa)(e:List (TE × TE)):Prop:=
 ∀ (b:List (Addr × Obj)) (s:Shared) (σ:St) (H:Hp) (Q:List (V × V)->Hp->Prop),Qa X b σ H s->PH e σ H Q->
  wpAny (model X.prog X.w) X.A (evalPairs (pairTrees c a X.env d)) (λi h=>∃ g f,Qa X b σ f h/\VV g i/\Q g f) X.xe s
theorem K5{X:Cx}{a:Me}:kD X a [] [] []:=λb s c H Q I h=>pairTrees_nil_walk ⟨[],H,I,.nil,h⟩
theorem ż{X:Cx}{b:Me}{k v:Fa}{e:List (Option Fa)}{i:List Fa}{f g:TE}{c:List (TE × TE)}(p:PE X k f)(r:PE X v g)(q:kD X b e i c) :
  kD X b (some k::e) (v::i) ((f,g)::c):=λa s d H Q I h=>
 pairTrees_cons_walk (Re (p a s d H _ I h) λu s1 ⟨x,H1,m,A,q1⟩=>Re (r a s1 d H1 _ m q1) λC s2 ⟨y,j,n,B,w⟩=>
  Re (q a s2 d j _ n w) λws s3 ⟨t,l,o,rel,z⟩=>⟨(x,y)::t,l,o,.cons ⟨A,B⟩ rel,z⟩)
def tE(b a:List (gc × V)):List (gc × V):=a.foldl (λacc c=>On acc c.1 c.2) b
theorem KV.merge:∀ {b:List (gc × V)} {d:List (gc × Value)} {a:List (gc × V)} {c:List (gc × Value)},KV b d->KV a c->KV (tE a b) (merged c d):=by
 intro b d a c r;unfold KV at r;induction r generalizing a c with
 |nil=>intro q;exact q
 |@cons p q i j h t f=>
  intro g;have e:KV (On a p.1 p.2) (stored c q.1 q.2):=by
   have:=g.put p.1 h.2;rw[<-h.1];exact this
  exact f e
theorem jU:∀ (b a:List (gc × V)),(tE a b).length<=a.length+b.length
 |[],a=>by show a.length<=a.length+0;omega
 |p::r,a=>by
  have c:=jU r (On a p.1 p.2);have d:=tG a p.1 p.2;show (tE (On a p.1 p.2) r).length<=_;rw[Cc];omega
theorem UR{P:za}{w:Ma}:∀ {d:List (gc × V)} {ws:List (Value × Value)},VV (d.map λf=>(kV f.1,f.2)) ws->∃ e,Carries (Ri P w) ws e/\KV d e
 |[],_,r=>by rw[Qj]at r;cases r;exact⟨[],True.intro,.nil⟩
 |p::d,_,r=>by
  rw[yb]at r;cases r with
  |@cons a b as bs h t=>
   obtain⟨e,c,q⟩:=UR (P:=P) (w:=w) t;obtain⟨i,g⟩:=b;exact⟨(p.1,g)::e,⟨zy h.1,rfl,c⟩,.cons ⟨rfl,h.2⟩ q⟩
def yv6(b:List (TE × TE)):TE:=λf H Q=>∀ p,H p=none->PH b f (ic H p (.dK [])) λe c=>c p=some (.dK [])/\∃ a:List (gc × V),e=a.map (λd=>(kV d.1,d.2))/\a.length<=15/\Q (.ref p) (ic c p (.dK (tE [] a)))
theorem ï{X:Cx}{k:Me}{b:List (Option Fa)}{d:List Fa}{l:List (TE × TE)}(h:kD X k b d l)(g:b.all (·.isSome)=true)(A:b.length=d.length)(u:b≠[])
  (m:b.length<=15):PE X (.Dict b d k) (yv6 l):=by
 intro j s M H Q I q;have B:=I.md.fresh (wa s.heap.objs.size);have p:=I.laid (a:=s.heap.objs.size) (o:=.dK []) (h':=s.heap.push { cls:=.type "dict",data:=.dict #[] }) (t':=s.toks) (λ_ _ q=>ba _ q) (wa _) (wP s.heap I.vH);refine wpAny_Dict_walk (knd:=Ri X.prog X.w) g A u m (Re (h j _ M _ _ p (q _ B)) λws s2 ⟨R,N,n,rel,e,i,t,O,F⟩=>?_);subst t;obtain⟨K,c,J⟩:=UR (P:=X.prog) (w:=X.w) rel;obtain⟨z,x,L,G,r⟩:=QJ n.md e;cases G;refine⟨K,c,r,λh' f D=>⟨.ref s.heap.objs.size,_,?_,rfl,F⟩⟩;have E:(tE [] i).length<=sizeLine:=by
  have v:=jU i [];rw[rz]at v;rw[nz];omega
 have y:∃ q,h'.get? s.heap.objs.size=some q:=let ⟨q,_,_,C,_⟩:=f;⟨q,C⟩;exact TH n (by rw[e];exact True.intro) D y (sI E x (J.merge .nil) f)
end L2
namespace L4
open PySem PySem.Spec PyProof.Rows L2
def XH(n:Nat)(a:List gc)(c:List D):M D:=λb=>match b[n]? with
 |some (.Ja [])=>if a.length<=15 then .ok (.ref n) (b.set n (.Ja (QA [] (a.zip c))))else .Sb
 |_=>.Sb
def iF(c:List gc)(b:Ev->M (List D)):Ev->M D:=λd a=>Ld (b d) (XH a.length c) (a++[.Ja []])
section
variable{T:Tb}{X:Cx}
inductive gz(T:Tb)(X:Cx):List (Option Fa)->List Fa->List gc->(Ev->M (List D))->Prop
 |nil:gz T X [] [] [] Na
 |cons {k v:Fa} {kk:gc} {f:Ev->M D} {ks:List (Option Fa)} {vs:List Fa} {kks:List gc} {fs:Ev->M (List D)} (hk:FE T X k (eC (DA kk))) (hv:FE T X v f) (r:gz T X ks vs kks fs):gz T X (some k::ks) (v::vs) (kk::kks) (xa f fs)
theorem R5{b:List Addr}{H:Hp}{a:gc}{v:V}(h:Ia T b H (DA a) v):v=kV a:=by
 cases a<;>(unfold DA at h;rw[Ia]at h;exact h)
theorem gz.HX{s:Me}{q:List (Option Fa)}{t:List Fa}{a:List gc}{n:Ev->M (List D)}(h:gz T X q t a n) :
  ∃ b,kD X s q t b/\∀ (e:St) (H:Hp) (Q:List (V × V)->Hp->Prop) (i:List Addr) (c:Ev) (j:xb),ni T i H c e->ee T i H j->Zb T (XE X e) (gb T) i H (n c j) (λy A=>Q ((a.map kV).zip y) A)->PH b e H Q:=by
 induction h with
 |nil=>exact⟨[],K5,λe H Q i c j l p o=>by
  have z:=Zb.here o p gb.nil;exact z⟩
 |@cons k v kk f q t a n I J r K=>
  obtain⟨b,F,G⟩:=K;refine⟨_,ż I J F,λe H Q i c j l p o=>?_⟩;refine⟨i,c,j,l,p,λu g W m O q1=>?_⟩;obtain rfl:=R5 q1;refine⟨u,c,j,l.mono m,O,(Zb.mono m o).bind λd x w v2 B _ C P p2 L=>?_⟩;exact G e B _ w c x (l.mono (m.trans C)) P (L.bind λZ U S y Y _ E R p3 N=>by
   have z:=Zb.here N R (gb.cons (Ia.mono E _ _ p2) p3);exact z)
theorem mW:∀ (a:List gc) (us:List V),(a.map kV).zip us=(a.zip us).map λb=>(kV b.1,b.2)
 |[],_=>by simp
 |_::_,[]=>by simp
 |k::a,u::us=>by simp[mW a us]
theorem BU{a:List Addr}{H:Hp}:∀ {ks:List gc} {ds:List D} {us:List V},gb T a H ds us->vj T a H (ks.zip ds) (ks.zip us)
 |[],_,_,_=>by unfold vj;simp only[List.zip_nil_left];exact .nil
 |k::ks,[],us,h=>by rw[gb]at h;subst h;unfold vj;simp only[ww];exact .nil
 |k::ks,d::ds,us,h=>by
  obtain⟨v,r,rfl,b,c⟩:=h;have:=BU (ks:=ks) c;exact .cons ⟨rfl,b⟩ this
theorem D9{b:List (Option Fa)}{d:List Fa}{f:List gc}{r:Ev->M (List D)}{x:Me}(h:gz T X b d f r)(k:b.all (·.isSome)=true)(S:b.length=d.length)(P:b≠[])(t:b.length<=15) :
  FE T X (.Dict b d x) (iF f r):=by
 intro l s st H Q I W;obtain⟨a0,v,Y⟩:=h.HX;refine ï v k S P t l s st H Q I ?_;obtain⟨m,ρ,n,R,F,V⟩:=W;intro p E;have ex:Se m H (m++[p]) (ic H p (.dK [])):=Sy E;have Z:ee T (m++[p]) (ic H p (.dK [])) (n++[.Ja []]):=F.push E ⟨[],Hh,by unfold vj;exact .nil⟩;have u:(m++[p])[n.length]?=some p:=by rw[<-F.len];simp
 refine Y _ _ _ (m++[p]) ρ (n++[.Ja []]) (R.mono ex) Z ((Zb.mono ex V).bind λK A j y o _ L G p2 e=>?_);have g:=L.get u;unfold XH at e;cases i:A[n.length]? with
 |none=>simp only[i]at e;exact e.elim
 |some ob=>
  cases ob with
  |Ca ys=>simp only[i]at e;exact e.elim
  |jc c r=>simp only[i]at e;exact e.elim
  |ag _=>simp only[i]at e;exact e.elim
  |yf _=>simp only[i]at e;exact e.elim
  |Ja w=>
   cases w with
   |cons z zs=>simp only[i]at e;exact e.elim
   |nil=>
    simp only[i]at e;by_cases C:f.length<=15
    ·rw[ja C]at e;obtain⟨a,N,U,ws,B,O⟩:=G.at (show Ia T j o (.ref n.length) (.ref p) by rw[Ia];exact⟨p,rfl,g⟩) i;cases N;cases O;refine⟨B,f.zip y,mW f y,by rw[List.length_zip];omega,?_⟩;have J:=G.write (ob:=.Ja (QA [] (f.zip K))) g ⟨_,Hh,by
      have q:Se j o j (ic o p (.dK (Hw [] (f.zip y)))):=Zx (La g) B (λ_ z=>by cases z) (λ_ _ z=>by cases z);exact sO (BU (p2.mono q)) (by unfold vj;exact .nil)⟩
     exact e _ _ _ J.1 J.2 (by rw[Ia];exact⟨p,rfl,g⟩)
    ·rw[ua C]at e;exact e.elim
end
section
variable{T:Tb}{X:Cx}{pins:List (Addr × Obj)}{st:St}{H:Hp}{s:Shared}
variable{N':List qa}{scope:Scope}{cl:List (qa × Addr)}{H3:Hp}{s3:Shared}{fp:List Addr}{xe:Value->Shared->Prop}
end
section
variable{T:Tb}{X:Cx}
end
section
variable{ρ:Ev}{σ:xb}
end
end L4
namespace L4
open PySem PySem.Spec PyProof.Rows L2 Builtin Builtin.Str
section
variable{T:Tb}{X:Cx}{a b e o:Fa}{fa fb f:Ev->M D}{pos apos cpos:Me}
end
section
variable{ρ:Ev}{σ:xb}
end
end L4
namespace L4
open PySem PySem.Spec PyProof.Rows L2
section
variable{T:Tb}{X:Cx}
end
section
variable{ρ:Ev}{σ:xb}
end
section
variable{prog:za}{w:Ma}{A:Ha}{E:Value->Shared->Prop}{h:Heap}{g:Array Um}{d:zw}{t:Nat}{os:OsState}
variable{nm qn:qa}{C N:Addr}{bs bm bmB:List Value}{hdct:Bool}{sn:List qa}{sub:List Value}{ab:Bool}{col:Option Bool}{dd:Option Addr}{k0 k1 k2 k3 k5:Option Value}{B newId initId:String}
end
section
variable{T:Tb}{X:Cx}{pins:List (Addr × Obj)}{st:St}{H:Hp}{s:Shared}
end
section
variable{X:Cx}
end
section
variable{prog:za}{w:Ma}{A:Ha}{E:Value->Shared->Prop}{h:Heap}{g:Array Um}{d:zw}{t:Nat}{os:OsState}{K:W.Frag}
variable{nm qn:qa}{C N x:Addr}{bs bm bmB:List Value}{sn:List qa}{sub:List Value}{ab:Bool}{col:Option Bool}{dd:Option Addr}{k0 k1 k2 k3 k5:Option Value}{B newId sa owner:String}{name:qa}{v:Value}{o:Obj}{vs:Array Value}
end
section
variable{X:Cx}
end
section
variable{P:za}{w:Ma}{K:W.Frag}{mg:qa->Option Value}{base:Heap}
end
section
variable{M:zl}{A:Ha}{E:Value->Shared->Prop}{s:Shared}{env:Ih}
variable{nm qn:qa}{C N:Addr}{bs bm:List Value}{hdct:Bool}{sn:List qa}{sub:List Value}{ab:Bool}{col:Option Bool}{dd:Option Addr}{k0 k1 k2 k3 k5:Option Value}{newId:String}
end
section
variable{T:Tb}{X:Cx}
end
end L4
namespace L4
open PySem PySem.Spec PySem.Calls PyProof.Rows PySem.Builtin PySem.Builtin.ObjectAttr L2
section
variable{prog:za}{w:Ma}{A:Ha}{E:Value->Shared->Prop}{s:Shared}{K:W.Frag}{C ea dN:Addr}{hp:Heap}{n:Nat}{Mo:zl}
end
section
variable{T:Tb}{X:Cx}
end
section
variable{ρ:Ev}{σ:xb}
end
end L4
namespace HT
open PySem Builtin
open Sem (wp)
end HT
namespace L4
open PySem PySem.Spec PyProof.Rows L2
end L4
namespace L4
open PySem
def oA(xs:Array Nat):Prop:=∀ i k:Nat,∀ a b:Nat,i<k->xs[i]?=some a->xs[k]?=some b->a<b
def Cut(xs:Array Nat)(j p:Nat):Prop:=p<=xs.size/\(∀ i a:Nat,i<p->xs[i]?=some a->a<j)/\∀ i a:Nat,p<=i->xs[i]?=some a->j<=a
theorem L5{xs:Array Nat}(q:oA xs)(j:Nat):∀ (d c b:Nat),b - c<=d->c<=b->b<=xs.size->(∀ i a:Nat,i<c->xs[i]?=some a->a<j)->(∀ i a:Nat,b<=i->xs[i]?=some a->j<=a)->Cut xs j (Pq xs j d c b):=by
 intro d;induction d with
 |zero=>
  intro c b u v k l m;have e:c=b:=by omega
  subst e;exact⟨k,l,m⟩
 |succ f s=>
  intro c b u v k l m;unfold Pq;by_cases p:c<b
  ·rw[ja p];dsimp only;have r:(c+b) / 2<xs.size:=by omega
   have h:=Kb r;have t:xs.getD ((c+b) / 2) j=xs[(c+b) / 2]:=by simp[r]
   rw[t];by_cases n:xs[(c+b) / 2]<j
   ·rw[ja n];refine s _ _ (by omega) (by omega) k (λi a o g=>?_) m;by_cases e:i=(c+b) / 2
    ·subst e;rw[h]at g;cases g;exact n
    ·have:=q i ((c+b) / 2) a _ (by omega) g h;omega
   ·rw[ua n];refine s _ _ (by omega) (by omega) (by omega) l (λi a o g=>?_);by_cases e:i=(c+b) / 2
    ·subst e;rw[h]at g;cases g;omega
    ·have:=q ((c+b) / 2) i _ a (by omega) h g;omega
  ·rw[ua p];have e:c=b:=by omega
   subst e;exact⟨k,l,m⟩
theorem iR{xs:Array Nat}(c:oA xs)(j:Nat):Cut xs j (og xs j):=by
 exact L5 c j _ _ _ (by omega) (by omega) (wa _) (λi a h=>by omega) (λi a h b=>by
  have:=(Zd.mp b).1;omega)
theorem Ö{xs:Array Nat}{j p q:Nat}(a:Cut xs j p)(b:Cut xs j q):p=q:=by
 rcases iy p q with h|h|h
 ·have f:=Ga h b.1;have e:=Kb f;have c:=b.2.1 p _ h e;have d:=a.2.2 p _ (wa _) e;omega
 ·exact h
 ·have g:=Ga h a.1;have e:=Kb g;have c:=a.2.1 q _ h e;have d:=b.2.2 q _ (wa _) e;omega
theorem Ÿ{xs:Array Nat}{p x:Nat}(e:p<=xs.size)(i:Nat):(Al xs p x)[i]?=if i<p then xs[i]? else if i=p then some x else xs[i - 1]?:=by
 unfold Al;have a:(xs.extract 0 p).size=p:=by simp;omega
 rw[Array.getElem?_append,Array.size_push,a];by_cases b:i<p
 ·rw[ja (by omega),ja b,ev,ua (by rw[a];omega),Ut];simp;omega
 ·rw[ua b];by_cases c:i=p
  ·subst c;rw[ja (by omega),ja rfl,ev,ja (by rw[a])]
  ·rw[ua (by omega),ua c,Ut];by_cases d:i - 1<xs.size
   ·rw[ja (by omega)];congr 1;omega
   ·rw[ua (by omega),Vt (by omega)]
theorem zna{xs:Array Nat}{p x:Nat}(m:oA xs)(l:Cut xs x p)(t:¬ xs[p]?=some x):oA (Al xs p x):=by
 have r:∀ i a:Nat,p<=i->xs[i]?=some a->x<a:=λi a s c=>by
  have g:=l.2.2 i a s c;rcases Nat.lt_or_ge x a with h|h
  ·exact h
  ·have e:a=x:=by omega
   subst e;by_cases o:i=p
   ·subst o;exact absurd c t
   ·have v:=(Zd.mp c).1;have u:p<xs.size:=by omega
    have q:=Kb u;have:=m p i _ _ (by omega) q c;have:=l.2.2 p _ (wa _) q;omega
 intro i k a b n c d;rw[Ÿ l.1]at c d;by_cases g:i<p
 ·rw[ja g]at c;by_cases j:k<p
  ·rw[ja j]at d;exact m i k a b n c d
  ·rw[ua j]at d;by_cases f:k=p
   ·rw[ja f]at d;cases d;exact l.2.1 i a g c
   ·rw[ua f]at d;exact m i (k - 1) a b (by omega) c d
 ·rw[ua g]at c;have j:¬ k<p:=by omega
  rw[ua j,ua (by omega)]at d;by_cases f:i=p
  ·rw[ja f]at c;cases c;exact r (k - 1) b (by omega) d
  ·rw[ua f]at c;exact m (i - 1) (k - 1) a b (by omega) c d
structure Ml(b:Bool)(t:lf):Prop where
 led:t.led = !b
 fH:oA t.place
 HJ:t.dummies=#[]
theorem nU(j:Nat):ly #[] j=false:=by
 unfold ly;simp
theorem ð{b:Bool}{t:lf}(h:Ml b t)(j:Nat):t.slot j=.empty/\¬ t.place[og t.place j]?=some j\/∃ i,t.slot j=.live i:=by
 unfold SetTable.slot;by_cases e:(t.place[og t.place j]? == some j)=true
 ·rw[ja e];exact .inr ⟨_,rfl⟩
 ·rw[ua e,h.HJ,nU];exact .inl ⟨rfl,by simpa using e⟩
theorem E2{b:Bool}{t:lf}(h:Ml b t)(g:Nat->Int)(l:Int):∀ (a:Nat) (p:SetTable.Probe) (m:SetTable.Met),p.dummy=none->Th t g l a p=some m->(∃ j,m=.empty j none/\¬ t.place[og t.place j]?=some j)\/∃ j i nx,m=.candidate j i nx:=by
 intro a;induction a with
 |zero=>intro p m _ e;unfold Th at e;cases e
 |succ f o=>
  intro p m d e;unfold Th at e;rcases ð h p.j with⟨c,n⟩|⟨i,c⟩
  ·rw[c]at e;dsimp only at e;cases e;rw[d];exact .inl ⟨_,rfl,n⟩
  ·rw[c]at e;dsimp only at e;by_cases k:(g i == l)=true
   ·rw[ja k]at e;cases e;exact .inr ⟨_,_,_,rfl⟩
   ·rw[ua k]at e;refine o _ m ?_ e;unfold SetTable.advance;split
    ·exact d
    ·exact d
theorem y4{b:Bool}{t:lf}(h:Ml b t){a:Int}{j:Nat}{g:Bool}(e:t.freeSlot a=some (j,g)):¬ t.place[og t.place j]?=some j:=by
 unfold SetTable.freeSlot SetTable.probe at e;cases c:Th t (λ_=>a+1) a (10 * SetTable.turns t.mask) (t.probeStart a)with
 |none=>rw[c]at e;cases e
 |some m=>
  rw[c]at e;rcases E2 h _ _ _ _ m rfl c with⟨f,rfl,d⟩|⟨f,i,nx,rfl⟩
  ·cases e;exact d
  ·cases e
theorem Ml.put{b:Bool}{t:lf}(h:Ml b t){j:Nat}(a:¬ t.place[og t.place j]?=some j):Ml b (t.put j).1:=by
 unfold SetTable.put;refine⟨h.led,zna h.fH (iR h.fH j) a,?_⟩;rw[h.HJ,nU];rfl
theorem Ml.plain{b p:Bool}{t:lf}(h:Ml b t):Ml b { t with plain:=p }:=⟨h.led,h.fH,h.HJ⟩
theorem Ħ(n:Nat):oA (Array.range n):=by
 intro i k a c g b d;have e:=(Zd.mp b).1;have f:=(Zd.mp d).1;simp only[Array.size_range]at e f;simp[e]at b;simp[f]at d;omega
theorem Ml.Ru{b:Bool}{t:lf}(h:Ml b t)(n:Nat):Ml b (t.standIn n):=⟨h.led,Ħ n,rfl⟩
theorem Ml.or{b:Bool}{t:lf}(h:Ml b t)(n:Nat):Ml b (t.orStandIn n):=by
 unfold SetTable.orStandIn;split
 ·exact h
 ·exact h.Ru n
theorem Ml.lay{b:Bool}{t:lf}(h:Ml b t)(c:Array (Int × Value))(a:Int)(x:Value):Ml b (layNew t c a x).2.1:=by
 unfold layNew;cases e:t.freeSlot a with
 |none=>exact h.Ru _
 |some q=>
  obtain⟨j,d⟩:=q;dsimp only;exact(h.put (y4 h e)).or _
theorem J7(m:Nat)(f:Nat->Option Nat):oA ((((List.range m).filterMap λj=>(f j).map (j,·)).map (·.1)).toArray):=by
 have p:List.Pairwise (·<·) (((List.range m).filterMap λj=>(f j).map (j,·)).map (·.1)):=by
  have n:List.Pairwise (·<·) (List.range m):=List.pairwise_lt_range;have e:((List.range m).filterMap λj=>(f j).map (j,·)).map (·.1)=(List.range m).filter λj=>(f j).isSome:=by
   rw[List.map_filterMap];rw[<-List.filterMap_eq_filter];congr 1;funext j;cases o:f j<;>simp[Option.guard,o]
  rw[e];exact n.sublist List.filter_sublist
 intro i k a c b d g;rw[kg]at d g;obtain⟨q,h⟩:=na.mp d;obtain⟨r,l⟩:=na.mp g;rw[<-h,<-l];exact Js.mp p i k q r b
theorem Ml.FF{b:Bool}{t:lf}(h:Ml b t)(a:Array (Int × Value))(c:Nat):Ml b (Qq t a c).2.1:=by
 unfold Qq;cases e:t.relaid (a.map (·.1)) c with
 |none=>exact h.Ru _
 |some q=>
  obtain⟨i,f⟩:=q;dsimp only;split
  ·unfold SetTable.relaid SetTable.laid at e;cases d:SetTable.layClean (SetTable.sizeAbove c - 1) (a.map (·.1))with
   |none=>rw[d]at e;cases e
   |some g=>
    rw[d]at e;cases e;exact⟨h.led,J7 _ _,rfl⟩
  ·exact h.Ru _
theorem Ml.fresh(b:Bool):Ml b (Aw 0 0 (!b)):=⟨rfl,λi k a c _ d _=>by simp[Aw]at d,rfl⟩
end L4
namespace L4
open PySem PySem.Spec PyProof.Rows
section
variable{prog:za}{w:Ma}{K:Type}[DecidableEq K][BEq K][LawfulBEq K]{knd:KeyKind prog w K}{A:Ha}{E:Value->Shared->Prop}{s:Shared}{b:Bool}{a:Addr}{k:K}{x:Value}
def vu(knd:KeyKind prog w K)(b:Bool)(h:Heap)(a:Addr)(S:K->Bool)(n:Nat):Prop:=
 ∃ o c d t,h.get? a=some o/\o.ExactSet/\o.data=.set c d t/\iD knd c.toList/\(∀ k,S k=true ↔ ∃ e∈c.toList,knd.is k e.2=true)/\c.size<scanBound/\t.fits c.size=true/\c.size=n/\Ml b t
theorem kU{h:Heap}{o:Obj}{p c:Array (Int × Value)}{f:Nat}{t d:lf}{S':K->Bool}(q:h.get? a=some o)(i:o.ExactSet)(r:o.data=.set p f t)(j:iD knd c.toList)
  (l:∀ k,S' k=true ↔ ∃ e∈c.toList,knd.is k e.2=true) (m:c.size<scanBound) (n:d.fits c.size=true) (s:Ml b d) :
  (h.update a (Ax c d)).get? a=some { o with data:=.set c (f+1) d }/\vu knd b (h.update a (Ax c d)) a S' c.size:=by
 obtain⟨g,_⟩:=SetOf_store q i r j l m n;exact⟨g,_,c,f+1,d,g,i,rfl,j,l,m,n,rfl,s⟩
theorem iS{g:Bool->Io Unit}(L:∀ (c:Bool) (F:Shared) (n:Unit->Shared->Prop),n () F->wpAny (model prog w) A (g c) n E F){o:Obj}{I d:Array (Int × Value)}{H:Nat}{t f:lf}{i:K->Bool}{M:Bool}{R:Option Bool->Shared->Prop}
  (u:s.heap.get? a=some o) (v:o.ExactSet) (x:o.data=.set I H t) (B:iD knd d.toList) (C:∀ k,i k=true ↔ ∃ e∈d.toList,knd.is k e.2=true) (j:d.size<scanBound) (J:f.fits d.size=true) (D:Ml b f)
  (q:∀ m,Fd a s.heap m->vu knd b m a i d.size->R (some true) { s with heap:=m }) :
  wpAny (model prog w) A (do
    storeSet a d f
    if (!M && f.tooFull)=true then do
      g (Qq f d (qg d.size)).2.2
      storeSet a (Qq f d (qg d.size)).1 (Qq f d (qg d.size)).2.1
      pure (some true)
     else pure (some true)) R E s:=by
 refine aa (XC u x ?_ (Oh j));obtain⟨r,G⟩:=kU u v x B C j J D;have h:=pc s.heap a (Ax d f);split
 ·have p1:=relayAll_perm f d (qg d.size);have p2:=relayAll_fits f d (qg d.size);have p3:=D.FF d (qg d.size);generalize Qq f d (qg d.size)=Z at p1 p2 p3 ⊢;obtain⟨l,O,N⟩:=Z;have z:l.size=d.size:=by rw[<-Eb,p1.length_eq,Eb]
  refine aa (L _ _ _ (aa (XC r rfl ?_ (Oh (by rw[z];exact j)))));obtain⟨_,p⟩:=kU (knd:=knd) (S':=i) r v rfl (B.perm p1) (λk=>(C k).trans ⟨λ⟨e,he,y⟩=>⟨e,p1.mem_iff.mpr he,y⟩,λ⟨e,he,y⟩=>⟨e,p1.mem_iff.mp he,y⟩⟩) (by rw[z];exact j) p2 p3;rw[z]at p;exact da (q _ (h.trans (pc _ a _)) p)
 ·exact da (q _ h G)
theorem Ψ{S:K->Bool}{n:Nat}{Q:Bool->Shared->Prop}(J:knd.is k x=true)(L:x.scannable=true)(X:vu knd b s.heap a S n)(hn:n+1<scanBound)
  (q:∀ d,Fd a s.heap d->vu knd b d a (λh=>S h || decide (h=k)) (if S k then n else n+1)->Q (!S k) { s with heap:=d }):wpAny (model prog w) A (setAddHashed a x (knd.hash k)) Q E s:=by
 obtain⟨o,f,W,t,r,H,u,D,F,P,I,R,T⟩:=X;refine Ac (aa (Kg r u I ?_));dsimp only;rw[byScan_of L P D];refine aa (aa (nl (aa (wpAny_setScan_of J r u I D ?_))));cases U:List.findIdx? (λe=>knd.is k e.2) f.toList with
 |some j=>
  obtain⟨hj,pj,_⟩:=List.findIdx?_eq_some_iff_getElem.mp U;have B:=(F k).mpr ⟨f.toList[j],Bj hj,pj⟩;refine da (da ?_);have z:=q s.heap (aJ a s.heap) ⟨o,f,W,t,r,H,u,D,λh=>by
   rw[di,Kc,<-F h];exact⟨λy=>y.elim id λe=>e ▸ B,.inl⟩,P,I,by rw[B];exact R,T⟩
  rw[B]at z;obtain⟨hp,gg,dd,tk,os⟩:=s;exact z
 |none=>
  have B:S k=false:=by
   cases y:S k with
   |false=>rfl
   |true=>obtain⟨e,Y,p⟩:=(F k).mp y;have:=List.findIdx?_eq_none_iff.mp U e Y;rw[p]at this;cases this
  have G:∀ c {v:Shared} {l:Unit->Shared->Prop},l () v->wpAny (model prog w) A (match c with|true=>rule "set.scan.the-table-gave-way" | false=>pure ()) l E v:=λc v l y=>by
   cases c
   ·exact da y
   ·exact nl y
  have p1:=layNew_perm t f (knd.hash k) x;have p2:=layNew_fits t f (knd.hash k) x;have p3:=T.lay f (knd.hash k) x;generalize layNew t f (knd.hash k) x=Z at p1 p2 p3 ⊢;obtain⟨g,t1,wd,gv⟩:=Z;rw[Array.toList_push]at p1;have M:=(D.push J L).perm p1;have N:=mem_push_iff J F p1;have V:g.size=n+1:=by rw[<-Eb,p1.length_eq,ye,Eb,R];rfl
  have O:g.size<scanBound:=by omega
  have m:∀ d,Fd a s.heap d->vu knd b d a (λh=>S h || decide (h=k)) g.size->Q true { s with heap:=d }:=λd C i=>by
   have:=q d C;rw[B]at this;rw[V]at i;exact this i
  refine aa (G _ ?_);split
  ·refine aa ?_;rw[hashByValue_scannable 8 L];refine da (iS (b:=b) ?_ r H u M N O ?_ ?_ ?_)
   ·exact λc v l y=>G c y
   ·split
    ·exact p2
    ·exact SetTable.fits_plain_off p2
   ·split
    ·exact p3
    ·exact p3.plain
   ·exact λd C i=>da (m d C i)
  ·refine aa (da ?_);refine iS ?_ r H u M N O p2 p3 ?_
   ·exact λc v l y=>G c y
   ·exact λd C i=>da (m d C i)
end
noncomputable def bT(w:Ma):Bool:=w.params.followText "set-order"
section
variable{prog:za}{w:Ma}{A:Ha}
theorem À{b:Bool}{h:Heap}{a:Addr}{S c:Int->Bool}{n d:Nat}(g:vu (dh prog w) b h a S n)(e:∀ k,S k=c k)(f:n=d):vu (dh prog w) b h a c d:=by
 obtain rfl:S=c:=funext e;subst f;exact g
theorem zL{b:Bool}{h c:Heap}{a:Addr}{S:Int->Bool}{n:Nat}(f:vu (dh prog w) b h a S n)(k:∀ o,h.get? a=some o->c.get? a=some o):vu (dh prog w) b c a S n:=by
 obtain⟨o,e,d,t,g,r⟩:=f;exact⟨o,e,d,t,k o g,r⟩
theorem e6{R:Mp->Shared->Prop}{I:Addr}{B j:List Addr}{G:Array Um->Array Um->Prop}{n:Nat}{P:Nat->Value->Prop}{St:Nat->Shared->Prop}{b:Bool}(W:WalksS prog w A.in1 I B j G n P St)(a:Addr)(C:a ∉ B)(f:Nat->Int)(M:∀ i v,P i v->∃ t,v=.int (f i) t)(U:n+1<scanBound) :
  ∀ (k i:Nat) (s:Shared),n - i=k->i<=n->St i s->vu (dh prog w) b s.heap a (λy=>(vh f i).any (·== y)) (vh f i).length->
   (∀ d,Moved (a::j) G s d->vu (dh prog w) b d.heap a (λy=>(vh f n).any (·== y)) (vh f n).length->R (.ok (.ret .none)) d)->codeAny (model prog w) A (.builtin "set.update.loop" ⟨[.ref a,.ref I],[]⟩) R s:=by
 have x:a ∉ j:=λz=>C (W.sub _ z);have h:∀ c∈j,c∈a::j:=λc g=>Ka _ g;intro k;induction k with
 |zero=>
  intro i s O N r l q;obtain rfl:i=n:=by omega
  refine qd fv ?_;refine aa (W.done s _ _ r λd m=>?_);exact da (q d (m.mono h) (zL l λo e=>m.heap a _ x e))
 |succ k Q=>
  intro i s O N r l q;have D:i<n:=by omega
  refine qd fv ?_;refine aa (W.item i s _ _ D r λv d L u m=>?_);obtain⟨t,rfl⟩:=M i v L;have p:=zL l λo e=>m.heap a _ x e;refine aa (Ac (Ac (aa ((dh prog w).pyHash (intKind_is _ _ _ _) ?_))));refine Ψ (intKind_is _ _ _ _) rfl p (by have:=OB f i;omega) λh' E H=>?_;have J:vu (dh prog w) b h' a (λy=>(vh f (i+1)).any (·== y)) (vh f (i+1)).length:=À H (λy=>by rw[LW,step_any]) (by rw[LW,step_length]);refine da ⟨tf F.plain_set_update_loop _,Q (i+1) _ (by omega) D (W.frame _ d _ _ u (jj _) λc g o e=>?_) J λT S K=>?_⟩
  ·rw[E.2 c (λz:c=a=>C (by rw[<-z];exact g))];exact e
  ·refine q T (Moved.trans W.gtrans ((m.mono h).then_heap (jj _) λc o g e=>?_) S) K;rw[E.2 c (λz:c=a=>g (by rw[z];exact Ua))];exact e
variable{E:Value->Shared->Prop}{s:Shared}
theorem ê(x:Value){Q:Value->Shared->Prop}(q:Q (.ref s.heap.objs.size) { s with heap:=s.heap.push { cls:=.type "set",dict:=none,data:=.set #[] 0 (.fresh 0 0 (!bT w)) } }) :
  codeAny (model prog w) A (.call (.builtin "set.__new__") ⟨[.type "set",x],[]⟩) (wants Q E) s:=by
 refine bJ ?_;refine aa (vz (PySem.F.newCall_set_1 x) (da ⟨tf PySem.F.plain_set_new _,qd PySem.F.entry_set_new ?_⟩));unfold gj.«set.__new__» yz;have a:=sub_set_self;obtain⟨b,g,d,e,c⟩:=s
 wp_walk
 refine Ks (da ?_);exact aa (wpAny_alloc (da (da q)))
end
section
variable{prog:za}{w:Ma}{A:Ha}{E:Value->Shared->Prop}{s:Shared}
abbrev dz(w:Ma):Obj:={ cls:=.type "set",dict:=none,data:=.set #[] 0 (.fresh 0 0 (!bT w)) }
set_option maxHeartbeats 3200000 in
theorem SY{l:Addr}{a:Array Value}{h:List Int}{Q:Value->Shared->Prop}(Y:A.handled=none)(hl:s.heap.IsList l a)(Z:fj a.toList h)(W:a.size+1<scanBound)
  (q:∀ (d:Heap) (t:Nat),vu (dh prog w) (bT w) d s.heap.objs.size (λy=>(vh (λi=>h.getD i 0) a.size).any (·== y)) (vh (λi=>h.getD i 0) a.size).length->
   (∀ b o,b<s.heap.objs.size->s.heap.get? b=some o->d.get? b=some o)->Q (.ref s.heap.objs.size) { s with heap:=d,toks:=t }) :
  wpAny (model prog w) A (call (.type "set") [.ref l]) Q E s:=by
 obtain⟨c,tl,K⟩:=me.mro;have f1:=me.made;have f2:=me.sub;refine Ju (bJ (show wpAny _ _ (callAny (.type "set") _) _ _ _ from da ⟨vw _ (by decide +kernel),qd PySem.F.entry_type_call ?_⟩));rw[Around.under_plain (weight_type_call_type "set" [.ref l] []) rfl];have f3:=me.notType;have f4:=me.canCreate;have f5:=PySem.F.typeCall_set_1 (.ref l);repeat (any_goals (first|assumption|wp_step))
 refine ah (ê (.ref l) (E:=E) (Q:=λob O=>ob=.ref s.heap.objs.size/\O={ s with heap:=s.heap.push (dz w) }) ⟨rfl,rfl⟩) λr O C=>?_;cases r with
 |error e=>exact C
 |ok T=>
  cases T with
  |ret ob=>
   obtain⟨rfl,rfl⟩:=C;have I:(s.heap.push (dz w)).get? s.heap.objs.size=some (dz w):=Ba _ rfl;have tS:qr { s with heap:=s.heap.push (dz w) } (.ref s.heap.objs.size) "set":=⟨_,I,rfl⟩
   have i1:=me.init.lookup;have i2:=me.init.bind (.ref s.heap.objs.size);repeat (any_goals (first|assumption|wp_step))
   refine ah (Qm (R:=wants (λr P=>r=.none/\∃ d t,P={ s with heap:=d,toks:=t }/\vu (dh prog w) (bT w) d s.heap.objs.size (λy=>(vh (λi=>h.getD i 0) a.size).any (·== y)) (vh (λi=>h.getD i 0) a.size).length/\
     (∀ b o,b<s.heap.objs.size->s.heap.get? b=some o->d.get? b=some o)) E) me.init.plain PySem.F.entry_set_init (check_set_init_1 tS ?_)) λr2 P g=>?_
   ·obtain⟨⟨oc,od,a0,G⟩,J,j,N,m⟩:=hl;simp only at j m;subst j;subst m;have x:(s.heap.push (dz w)).get? l=some { cls:=.type "list",dict:=od,data:=.seq a N,slots:=G }:=ba _ J;have g1:=PySem.F.sub_list_set;have g2:=PySem.F.sub_list_frozenset;have g3:(Lj "list" == Lj "dict")=false:=by decide
    have n:(s.heap.push (dz w)).IsList l a:=⟨_,x,rfl,N,rfl⟩
    unfold gj.«set.__init__» noKeywords zz;generalize z:pyIter=PI
    wp_walk
    subst z;refine Rj n (aa (Lu ?_));have L:l<s.heap.objs.size:=va J;have V:A.in1.in1.in1.handled=none:=by simp[Y]
    have nI:l≠(s.heap.push (dz w)).objs.size:=by rw[Cd];exact ya (Rb L)
    have nf:s.heap.objs.size ∉ [(s.heap.push (dz w)).objs.size,l]:=by
     rw[Cd];simp only[Da,Nb,lg,not_or];exact⟨ya (Qb _),gf L⟩
    refine e6 (b:=bT w) ((lm V _ l nI a).toS) s.heap.objs.size nf (λi=>h.getD i 0) (λi v hv=>IntsAre.int_at Z i v (by rw[pf];exact hv)) W (a.size - 0) 0 _ (by omega) (ij _) ⟨⟨_,Ba _ rfl,rfl,rfl⟩,(n.push _)⟩ ?S0 ?RR;case S0=>
     exact⟨dz w,#[],0,_,ba _ I,⟨rfl,rfl,rfl⟩,rfl,λe X=>by simp at X,λk=>by simp[MW],by decide,by rfl,by simp[MW],Ml.fresh _⟩
    case RR=>
     intro s' p f;obtain⟨d,U,S,H,D⟩:=s';obtain rfl:U=s.gens:=p.gens;obtain rfl:S=s.drawn:=p.drawn;obtain rfl:D=s.os:=p.os;refine da (da ⟨rfl,d,H,rfl,f,λb o M e=>?_⟩);refine p.heap b o ?_ (ba _ (ba _ e));rw[Cd];simp only[Da,Nb,lg,not_or];exact⟨ya M,ya (Rb M)⟩
   ·cases r2 with
    |error e=>exact g
    |ok u=>
     cases u with
     |ret r=>
      obtain⟨rfl,d,t,rfl,f,B⟩:=g;repeat (any_goals (first|assumption|wp_step))
      exact q _ _ f B
     |_=>exact g
  |_=>exact C
end
theorem Cw:cO "set_iterator" "__next__" "set_iterator.__next__":=.of (owner:="set_iterator") (n:="__next__") (by rw[cJ,jy];kernel_rfl) (by decide +kernel) (by decide +kernel) (by decide +kernel) (.inl (by decide +kernel)) (by rw[Mu];kernel_rfl)
theorem dI:gO table "set_iterator.__next__" = some gj.«set_iterator.__next__»:=entryFor_of_tree (by kernel_rfl)
theorem SH(a:Value):hO "set_iterator.__next__" ⟨[a],[]⟩:=by unfold hO;kernel_rfl
theorem Ç:gO table "set.__iter__" = some gj.«frozenset.__iter__»:=YN (id':="frozenset.__iter__") (by kernel_rfl) (by first|rfl|decide +kernel) (by decide +kernel) (by kernel_rfl)
def qt(h:Heap)(a:Addr)(c:Array (Int × Value))(b:Nat)(t:lf):Prop:=∃ o,h.get? a=some o/\o.ExactSet/\o.data=.set c b t
def eu(h:Heap)(I a:Addr)(first:Value)(i n b:Nat):Prop:=∃ o,h.get? I=some o/\o.cls=.type "set_iterator"/\o.data=.fields #[first,Nc i,.ref a,Nc n,Nc b]
section
variable{prog:za}{w:Ma}{A:Ha}{E:Value->Shared->Prop}{s:Shared}{I a:Addr}{es:Array (Int × Value)}{ep:Nat}{t:lf}{i:Nat}
theorem eu.ty{first:Value}{n:Nat}(h:eu s.heap I a first i n ep):s.TypeIs (.ref I) "set_iterator":=let ⟨o,b,c,_⟩:=h;⟨o,b,c⟩
theorem NZ{f:Nat}{Q:Option Value->Shared->Prop}{v:Value}{b:Nat}(g:eu s.heap I a (Nc f) i es.size ep)(n:qt s.heap a es ep t)(r:t.fits es.size=true)(x:a≠I)
  (u:∀ (A:Ha) (E:Value->Shared->Prop) (Q:Option (Value × Nat)->Shared->Prop),Q (some (v,b)) s->wpAny (model prog w) A (Bx a f i ep) Q E s)
  (q:∀ e,eu e I a (Nc b) (i+1) es.size ep->Fd I s.heap e->Q (some v) { s with heap:=e }):wpAny (model prog w) A (pyNext (.ref I)) Q E s:=by
 obtain⟨o,h,p,c⟩:=id g;obtain⟨y,m,z,k⟩:=id n;refine aa (Ho (af g.ty Cw (Qc Cw g.ty dI ?_ (SH _))));refine aa (da ?_);refine aa (Rm h c ?_);refine aa (oh m k r ?_);rw[ua (by simp)];refine aa (u _ _ _ ?_);refine aa (Ph h c (by simp) ?_);have j:=Bd (Kf (·.setIfInBounds 0 (Gg b 0))) h (wg (Ic c _));have d:=Ic c (·.setIfInBounds 0 (Gg b 0));refine aa (Ph j d (by simp) ?_);have l:=Bd (Kf (·.setIfInBounds 1 (Gg (i+1) 0))) j (wg (Ic d _));refine da ⟨_,rfl,da (q _ ⟨_,l,?_,?_⟩ ((pc ..).trans (pc ..)))⟩
 ·rw[xo,xo];exact p
 ·rw[Ic d];simp[Nc]
theorem GU{Q:Option Value->Shared->Prop}{first:Value}{n:Nat}{f:Heap}(g:A.handled=none)(h:Fd I s.heap f)(q:∀ d,Pp I s.heap d->Q none { s with heap:=d }) :
  wpAny (model prog w) A.in1 (do let e <-newExc (.type "StopIteration") [];raiseNew e:Io PySem.Fin) (λa b=>∃ v,a=Fin.done (Flow.ret v)/\wpAny (model prog w) A (pure (some v)) Q E b)
   (λe b=>wpAny (model prog w) A (do let c <-Ou e (Lj "StopIteration");if c=true then pure none else throw e) Q E b) { s with heap:=f }:=by
 refine aa ?_;refine aa (Hc (aa (vz (by first|rfl|(simp only;rfl)) (Hc ?_ (by size_fits)))) (by size_fits));refine aa (wpAny_handled ?_);rw[g];refine aa (da (wpAny_throw ?_));refine aa (Ck ⟨_,Ba _ rfl,rfl⟩ isSubtype_stop ?_);exact da (q _ ((h.extBut.push _).push _))
theorem K1{f:Nat}{Q:Option Value->Shared->Prop}(l:A.handled=none)(b:eu s.heap I a (Nc f) i es.size ep)(j:qt s.heap a es ep t)(k:t.fits es.size=true)
  (m:∀ (A:Ha) (E:Value->Shared->Prop) (Q:Option (Value × Nat)->Shared->Prop),Q none s->wpAny (model prog w) A (Bx a f i ep) Q E s)
  (q:∀ c,Pp I s.heap c->Q none { s with heap:=c }):wpAny (model prog w) A (pyNext (.ref I)) Q E s:=by
 obtain⟨o,e,p,d⟩:=id b;obtain⟨r,h,u,g⟩:=id j;refine aa (Ho (af b.ty Cw (Qc Cw b.ty dI ?_ (SH _))));refine aa (da (aa (Rm e d ?_)));refine aa (oh h g k ?_);rw[ua (by simp)];refine aa (m _ _ _ ?_);refine aa (Ph e d (by simp) ?_);exact GU (first:=.none) (n:=0) l (pc ..) q
end
theorem gK{a:Type}:∀ (l:List a) (i:Nat) (h:i<l.length),(l[i]::l.eraseIdx i).Perm l
 |x::l,0,_=>.refl _
 |x::l,i+1,h=>by
  have:=gK l i (by simpa using h);exact(List.Perm.swap _ _ _).trans (this.cons x)
theorem eS{d:Type}(nx:Nat->Nat):∀ (a k:Nat) (left:List d) (out:Array d),left.length=a->∃ b:List d,(Rq nx a k left out).toList=out.toList++b/\b.Perm left
 |0,k,left,out,h=>by
  obtain rfl:=Sf.mp h;exact⟨[],by unfold Rq;simp,.refl _⟩
 |a+1,k,left,out,h=>by
  have c:nx k % left.length<left.length:=ZN _ (by omega);unfold Rq;rw[Fb c];obtain⟨b,e,p⟩:=eS nx a (k+1) (left.eraseIdx (nx k % left.length)) (out.push left[nx k % left.length]) (by rw[jr c];omega);refine⟨left[nx k % left.length]::b,by rw[e];simp,?_⟩;exact(p.cons _).trans (gK left _ c)
theorem mQ{a:Type}(nx:Nat->Nat)(xs:Array a):(Rs nx xs).toList.Perm xs.toList:=by
 obtain⟨b,e,p⟩:=eS nx xs.size 0 xs.toList #[] (by simp);unfold Rs;rw[e];simpa using p
def fB(pl:Array Nat)(i:Nat):Nat:=if i=0 then 0 else pl.getD (i - 1) 0+1
theorem Ξ{pl:Array Nat}(f:oA pl){i:Nat}(k:i<=pl.size):og pl (fB pl i)=i:=by
 refine Ö (iR f _) ⟨k,λj a l b=>?_,λj a l b=>?_⟩
 ·unfold fB;rw[ua (by omega)];have c:i - 1<pl.size:=by omega
  have d:=Kb c;have h:pl.getD (i - 1) 0=pl[i - 1]:=by simp[c]
  by_cases e:j=i - 1
  ·subst e;rw[d]at b;cases b;omega
  ·have:=f j (i - 1) a _ (by omega) b d;omega
 ·unfold fB;by_cases g:i=0
  ·rw[ja g];omega
  ·rw[ua g];have c:i - 1<pl.size:=by omega
   have d:=Kb c;have h:pl.getD (i - 1) 0=pl[i - 1]:=by simp[c]
   have:=f (i - 1) j _ a (by omega) d b;omega
section
variable{prog:za}{w:Ma}{A:Ha}{E:Value->Shared->Prop}{s:Shared}{a:Addr}{es:Array (Int × Value)}{ep:Nat}{t:lf}{i:Nat}
theorem MI{Q:Bool->Shared->Prop}(q:Q (bT w) s):wpAny (model prog w) A setsByText Q E s:=by
 exact aa (Ks (da q))
theorem YX{Q:Option (Value × Nat)->Shared->Prop}(b:bT w=true)(f:qt s.heap a es ep t)(c:t.fits es.size=true)(q:Q (((Rs (w.params.setOrder a ep) es)[i]?).map λe=>(e.2,0)) s):wpAny (model prog w) A (Bx a 0 i ep) Q E s:=by
 obtain⟨o,g,x,d⟩:=f;refine aa (Kg g d c ?_);refine aa (MI ?_);rw[b];simp only[bne_self_eq_false];refine aa ?_;refine aa (Kg g d c ?_);refine aa (MI ?_);rw[b];exact aa (Ks (da (da q)))
theorem Û{Q:Option (Value × Nat)->Shared->Prop}(j:bT w=false)(h:Ml (bT w) t)(u:(!t.plain && decide (es.size > 1))=false)(r:i<=es.size)(p:qt s.heap a es ep t)(f:t.fits es.size=true)(q:Q ((es[i]?).map λe=>(e.2,fB t.place (i+1))) s):wpAny (model prog w) A (Bx a (fB t.place i) i ep) Q E s:=by
 obtain⟨o,g,x,d⟩:=p;have l:t.place.size=es.size:=by simp only[SetTable.fits,Ea,kh]at f;exact f.1
 refine aa (Kg g d f ?_);refine aa (MI ?_);rw[j];simp only[xm,Zs];refine xh (λz=>?_) (λ_=>?_)
 ·have:(!t.plain && decide (es.size > 1))=true:=z;rw[u]at this;cases this
 ·refine aa ?_;refine xh (λz=>?_) (λ_=>da ?_)
  ·have:=z;rw[h.led,j]at this;cases this
  ·rw[Ξ h.fH (by rw[l];exact r)];refine da ?_;by_cases k:i<es.size
   ·have c:es[i]?=some es[i]:=Kb k;have b:i<t.place.size:=by rw[l];exact k
    have m:t.place[i]?=some t.place[i]:=Kb b;rw[c]at q ⊢;rw[m];have n:fB t.place (i+1)=t.place[i]+1:=by unfold fB;simp[b]
    rw[n]at q;exact q
   ·have c:es[i]?=none:=Vt (by omega);rw[c]at q ⊢;exact q
end
section
variable{prog:za}{w:Ma}{A:Ha}{E:Value->Shared->Prop}{s:Shared}{I a p:Addr}{es:Array (Int × Value)}{ep:Nat}{t:lf}{i:Nat}
theorem p7{M:zl}{a:Source}{n:Nat}{Q:Nat->Shared->Prop}(b:n≠0)(q:∀ i,i<n->∀ c,Q i { s with drawn:=c }):wpAny M A (choose a n) Q E s:=λe d _=>⟨b,q _ (ZN _ (Nat.pos_of_ne_zero b)) _⟩
theorem UO{M:zl}{d:Type}:∀ (n:Nat) (xs:List d) (s:Shared) (Q:List d->Shared->Prop),xs.length=n->(∀ b c,b.Perm xs->Q b { s with drawn:=c })->wpAny M A (drawOrder n xs) Q E s
 |0,xs,s,Q,h,q=>by
  obtain rfl:=Sf.mp h;exact da (q [] s.drawn (.refl _))
 |n+1,[],s,Q,h,q=>by cases h
 |n+1,x::xs,s,Q,h,q=>by
  refine aa (p7 (by simp) λi a c=>?_);rw[Fb a];refine aa (UO n _ _ _ (by rw[jr a];simpa using h) λb e p=>da ?_);exact q _ e ((p.cons _).trans (gK (x::xs) i a))
def wB(h:Heap)(p:Addr)(a:List Nat):Prop:=∃ o n,h.get? p=some o/\o.data=.seq (a.map λ(i:Nat)=>Nc i).toArray n
theorem qX{g:List Nat}{j:Nat}{v:Int × Value}{Q:Option Value->Shared->Prop}(d:eu s.heap I a (.ref p) i es.size ep)(r:qt s.heap a es ep t)(l:t.fits es.size=true)(u:wB s.heap p g)(y:g[i]?=some j)(z:es[j]?=some v)
  (q:∀ c,eu c I a (.ref p) (i+1) es.size ep->Fd I s.heap c->Q (some v.2) { s with heap:=c }):wpAny (model prog w) A (pyNext (.ref I)) Q E s:=by
 obtain⟨o,f,x,b⟩:=id d;obtain⟨C,k,F,h⟩:=id r;obtain⟨D,B,n,dT⟩:=u;refine aa (Ho (af d.ty Cw (Qc Cw d.ty dI ?_ (SH _))));refine aa (da (aa (Rm f b ?_)));refine aa (oh k h l ?_);rw[ua (by simp)];refine aa (Qh n dT ?_);dsimp only;have e:(g.map λ(i:Nat)=>Nc i).toArray[(i:Int).toNat]?=some (.int (j:Int) 0):=by
  rw[yo,kg,Xa,y];rfl
 rw[e];simp only[yo];refine aa (aa (Kg k h l ?_));dsimp only;rw[ua (by simp)];rw[z];refine da (aa (Ph f b (by simp) ?_));have m:=Bd (Kf (·.setIfInBounds 1 (Gg ((i:Int)+1) 0))) f (wg (Ic b _));refine da ⟨_,rfl,da (q _ ⟨_,m,?_,?_⟩ (pc ..))⟩
 ·rw[xo];exact x
 ·rw[Ic b];simp[Nc]
theorem Ê{f:List Nat}{Q:Option Value->Shared->Prop}(x:A.handled=none)(c:eu s.heap I a (.ref p) i es.size ep)(r:qt s.heap a es ep t)(v:t.fits es.size=true)(u:wB s.heap p f)(y:f[i]?=none)
  (q:∀ g,Pp I s.heap g->Q none { s with heap:=g }):wpAny (model prog w) A (pyNext (.ref I)) Q E s:=by
 obtain⟨o,d,z,b⟩:=id c;obtain⟨C,l,F,j⟩:=id r;obtain⟨D,B,m,dT⟩:=u;refine aa (Ho (af c.ty Cw (Qc Cw c.ty dI ?_ (SH _))));refine aa (da (aa (Rm d b ?_)));refine aa (oh l j v ?_);rw[ua (by simp)];refine aa (Qh m dT ?_);dsimp only;have e:(f.map λ(i:Nat)=>Nc i).toArray[(i:Int).toNat]?=none:=by
  rw[yo,kg,Xa,y];rfl
 rw[e];refine aa (Ph d b (by simp) ?_);have k:=Bd (Kf (·.setIfInBounds 0 (Gg 0 0))) d (wg (Ic b _));have h:=Ic b (·.setIfInBounds 0 (Gg 0 0));refine aa (Ph k h (by simp) ?_);exact GU (s:=s) (first:=.none) (n:=0) x ((pc ..).trans (pc ..)) q
noncomputable abbrev yA(a:Addr)(first:Value)(n ep:Nat):Obj:={ cls:=.type "set_iterator",data:=.fields #[first,Nc 0,.ref a,Nc n,Nc ep] }
noncomputable abbrev KG(a:List Nat):Obj:={ cls:=.type "tuple",data:=.seq (a.map λ(i:Nat)=>Nc i).toArray }
theorem RW{Q:Value->Shared->Prop}(l:qt s.heap a es ep t)(c:t.fits es.size=true)(n:es.size<scanBound)
  (j:(!bT w && (!t.plain && decide (es.size > 1)))=false->Q (.ref s.heap.objs.size) { s with heap:=s.heap.push (yA a (Nc 0) es.size ep) })
  (k:(!bT w && (!t.plain && decide (es.size > 1)))=true->∀ b e,b.Perm (List.range es.size)->Q (.ref (s.heap.objs.size+1)) { s with heap:=(s.heap.push (KG b)).push (yA a (.ref s.heap.objs.size) es.size ep),drawn:=e }) :
  wpAny (model prog w) A (pyIter (.ref a)) Q E s:=by
 obtain⟨o,g,x,d⟩:=id l;have h:s.TypeIs (.ref a) "set":=⟨o,g,x.1⟩
 refine YC h dt (Qc dt h Ç ?_ (PySem.F.args_set_iter_1 _));refine aa (da ?_);refine aa (aa (oh g d c (da ?_)));refine aa (aa (Kg g d c ?_));refine aa (MI (da ?_));refine xh (λz=>?_) (λz=>?_)
 ·have f:=z;refine aa (UO _ _ _ _ (by simp) λb e i=>?_);have m:b.length=es.size:=by rw[i.length_eq,bj]
  refine aa (wpAny_newTuple ?_ (by rw[Pb,m];exact Oh n));refine aa (ZC (ba _ g) d c ?_);refine aa (Hc (da ⟨_,rfl, "set_iterator",_,⟨_,Ba _ rfl,rfl⟩,Cw.lookup,?_⟩) (by size_fits));have:=k f b e i;rw[<-Cd s.heap (KG b)]at this;exact this
 ·have f:(!bT w && (!t.plain && decide (es.size > 1)))=false:=by
   cases y:(!bT w && (!t.plain && decide (es.size > 1)))with
   |false=>rfl
   |true=>exact absurd y z
  refine aa (da ?_);refine aa (ZC g d c ?_);refine aa (Hc (da ⟨_,rfl, "set_iterator",_,⟨_,Ba _ rfl,rfl⟩,Cw.lookup,?_⟩) (by size_fits));exact j f
end
theorem MV:cO "set_iterator" "__iter__" "set_iterator.__iter__":=.of (owner:="set_iterator") (n:="__iter__") (by rw[cJ,jy];kernel_rfl) (by decide +kernel) (by decide +kernel) (by decide +kernel) (by first|exact .inl (by decide +kernel)|exact .inr (by decide +kernel)) (by rw[Mu];kernel_rfl)
theorem D1:gO table "set_iterator.__iter__" = some gj.«dict_keyiterator.__iter__»:=YN (id':="dict_keyiterator.__iter__") (by kernel_rfl) (by first|rfl|decide +kernel) (by decide +kernel) (by kernel_rfl)
theorem ů(a:Value):hO "set_iterator.__iter__" ⟨[a],[]⟩:=by unfold hO;kernel_rfl
section
variable{prog:za}{w:Ma}{A:Ha}{I a p:Addr}{es:Array (Int × Value)}{ep:Nat}{t:lf}
theorem mV{E:Value->Shared->Prop}{s:Shared}{first:Value}{i n:Nat}{Q:Value->Shared->Prop}(h:eu s.heap I a first i n ep)(q:Q (.ref I) s):wpAny (model prog w) A (pyIter (.ref I)) Q E s:=by
 refine YC h.ty MV (Qc MV h.ty D1 ?_ (ů _));exact da ⟨_,rfl, "set_iterator",_,h.ty,Cw.lookup,q⟩
theorem eu.keep{h b:Heap}{first:Value}{i n:Nat}(x:eu h I a first i n ep)(k:∀ o,h.get? I=some o->b.get? I=some o):eu b I a first i n ep:=let ⟨o,e,r⟩:=x;⟨o,k o e,r⟩
theorem qt.keep{h b:Heap}(x:qt h a es ep t)(k:∀ o,h.get? a=some o->b.get? a=some o):qt b a es ep t:=let ⟨o,e,r⟩:=x;⟨o,k o e,r⟩
theorem wB.keep{h a:Heap}{b:List Nat}(x:wB h p b)(k:∀ o,h.get? p=some o->a.get? p=some o):wB a p b:=let ⟨o,n,e,r⟩:=x;⟨o,n,k o e,r⟩
theorem HP{f:Nat->Nat}{ord:List (Int × Value)}(H:A.handled=none)(u:t.fits es.size=true)(j:a≠I)(B:ord.length=es.size)
  (C:∀ (s:Shared) (i:Nat),qt s.heap a es ep t->i<=es.size->∀ (A:Ha) (E:Value->Shared->Prop) (Q:Option (Value × Nat)->Shared->Prop),Q ((ord[i]?).map λe=>(e.2,f (i+1))) s->wpAny (model prog w) A (Bx a (f i) i ep) Q E s) :
  Walks prog w A I [I,a] [I] es.size (λi v=>(ord[i]?).map (·.2)=some v) (λi h=>eu h I a (Nc (f i)) i es.size ep/\qt h a es ep t) where
 sub:=λb d=>by simp at d;simp[d]
 frame:=λ_ _ _ c y=>⟨c.1.keep λo e=>y I (by simp) o e,c.2.keep λo e=>y a (by simp) o e⟩
 item:=λi s Q E x c g=>by
  have q:i<ord.length:=by rw[B];exact x
  have k:=Fb q;refine NZ c.1 c.2 u j (λl m n r=>C s i c.2 (ff x) l m n (by rw[k];exact r)) λp F D=>?_;exact g _ p s.toks (by rw[k];rfl) ⟨F,c.2.keep λo e=>by rw[D.2 a j];exact e⟩ λb o d e=>by rw[D.2 b (λz=>d (by simp[z]))];exact e
 done:=λs Q E c g=>by
  have k:ord[es.size]?=none:=by rw[<-B];simp
  exact K1 H c.1 c.2 u (λl m n r=>C s es.size c.2 (wa _) l m n (by rw[k];exact r)) λp G=>g p s.toks λb o d e=>G b o (λz=>d (by simp[z])) e
 self:=λ_ _ _ _ c g=>mV c.1 g
theorem cZ{d:List Nat}(G:A.handled=none)(C:t.fits es.size=true)(r:a≠I)(x:p≠I)(u:d.Perm (List.range es.size)) :
  Walks prog w A I [I,a,p] [I] es.size (λi v=>((d[i]?).bind λj=>es[j]?).map (·.2)=some v) (λi h=>(eu h I a (.ref p) i es.size ep/\qt h a es ep t)/\wB h p d) where
 sub:=λb f=>by simp at f;simp[f]
 frame:=λ_ _ _ c n=>⟨⟨c.1.1.keep λo e=>n I (by simp) o e,c.1.2.keep λo e=>n a (by simp) o e⟩,c.2.keep λo e=>n p (by simp) o e⟩
 item:=λi s Q E H c g=>by
  have q:d.length=es.size:=by rw[u.length_eq,bj]
  have k:i<d.length:=by rw[q];exact H
  have l:=Fb k;have J:=Rf.mp (u.mem_iff.mp (Bj k));have B:=Kb J;refine qX c.1.1 c.1.2 C c.2 l B λm D y=>?_;exact g _ m s.toks (by rw[l,kj,B];rfl) ⟨⟨D,c.1.2.keep λo e=>by rw[y.2 a r];exact e⟩,c.2.keep λo e=>by rw[y.2 p x];exact e⟩ λb o f e=>by rw[y.2 b (λz=>f (by simp[z]))];exact e
 done:=λs Q E c g=>by
  have q:d.length=es.size:=by rw[u.length_eq,bj]
  have l:d[es.size]?=none:=by rw[<-q];simp
  exact Ê G c.1.1 c.1.2 C c.2 l λm F=>g m s.toks λb o f e=>F b o (λz=>f (by simp[z])) e
 self:=λ_ _ _ _ c g=>mV c.1.1 g
theorem SZ{E:Value->Shared->Prop}{s:Shared}{Q:Bool->Shared->Prop}(d:s.TypeIs (.ref a) "set")(h:Q false s):wpAny (model prog w) A (om (.ref a)) Q E s:=by
 refine aa (Ki d PySem.F.slot_set_len.lookup ?_);generalize e:("set.__len__")=f;subst e;refine aa (Ck (b:=true) d (by rw[Mu];kernel_rfl) ?_);refine xh (λc=>absurd c (by decide)) (λ_=>?_);refine xh (λ_=>?_) (λc=>absurd (by decide +kernel) c);exact aa (ll d (da h))
end
end L4
namespace L4
open PySem PySem.Spec PySem.Calls PySem.W PyProof.Rows PyProof.V
section
variable{prog:za}{w:Ma}{A:Ha}{E:Value->Shared->Prop}{s:Shared}{a:Addr}{es:Array (Int × Value)}{ep:Nat}{t:lf}
theorem FN{E:Bool}{I S:Addr}{y:List Addr}{n x:Nat}{P:Nat->Value->Prop}{St:Nat->Heap->Prop}{R:Mp->Shared->Prop}{d:Value}(W:Walks prog w A.in1 I y [I] n P St)(Q:n<=sizeLine)(j:S ∉ y)(M:s.TypeIs (.ref a) "set")(D:St 0 s.heap)
  (t:s.heap.get? S=some { cls:=.type "list",data:=.seq #[] x })
  (L:∀ h' p acc c,(∀ b o,b≠S->b≠I->s.heap.get? b=some o->h'.get? b=some o)->h'.get? S=some { cls:=.type "list",dict:=none,data:=.seq acc c,slots:=#[] }->Oq P acc n->R (.ok (.ret d)) { s with heap:=h',toks:=p }) :
  wpAny (model prog w) A.in1 (do
    let m <-qf [cc I] (om (.ref a))
    if (m || E)=true then do
     rule "list.extend.makes-room"
     fJ (.ref S)
     again (.builtin "list.extend.loop" ⟨[.ref S,.ref I,d],[]⟩)
    else again (.builtin "list.extend.loop" ⟨[.ref S,.ref I,d],[]⟩))
   (λr i=>match r with | .done f=>R (.ok f) i | .again v=>v.quiet=true/\codeAny (model prog w) A v R i) (λe i=>R (.error e) i) s:=by
 have k:∀ h q p,St 0 h->(∀ b o,b≠S->s.heap.get? b=some o->h.get? b=some o)->h.get? S=some { cls:=.type "list",data:=.seq #[] q }->codeAny (model prog w) A (.builtin "list.extend.loop" ⟨[.ref S,.ref I,d],[]⟩) R { s with heap:=h,toks:=p }:=by
  intro h q p u O J;refine codeAny_extend_loopS W.toS Q S j d n 0 _ #[] q rfl (ij _) u J (ItemsOf.nil _) λi acc c C G N=>?_;rw[Moved.eq_with C];refine L i.heap i.toks acc c (λb o g K e=>C.heap b o (λz=>?_) (O b o g e)) G N;rcases Da.mp z with z|z
  ·exact g z
  ·exact K (qc.mp z)
 refine aa (Ac (SZ M ?_));refine xh (λ_=>?_) (λ_=>da ⟨tf Yp _,k _ x _ D (λb o _ e=>e) t⟩);refine aa (nl (aa ?_));refine aa (Li t rfl ?_);have B:=Bd (rf (·.push ib)) t rfl;refine Li B rfl ?_;have H:=Bd (rf (·.pop)) B rfl;have l:∀ b o,b≠S->s.heap.get? b=some o->((s.heap.update S (rf (·.push ib))).update S (rf (·.pop))).get? b=some o:=λb o g e=>(fg _ _ (Te g)).trans ((fg _ _ (Te g)).trans e);exact da ⟨tf Yp _,k _ _ _ (W.frame 0 _ _ D λb g o e=>l b o (λz=>j (z ▸ g)) e) (λb o g e=>l b o g e) H⟩
theorem WK{a b:Type}{f:a->Option b}{g:a->b}:∀ {l:List a},(∀ j∈l,f j=some (g j))->l.filterMap f=l.map g
 |[],_=>rfl
 |x::l,h=>by rw[Og,h x Ua,yb,WK λj c=>h j (Ka _ c)]
theorem ć{acc:Array Value}{a:List (Int × Value)}{n:Nat}(b:a.length=n)(h:Oq (λi v=>(a[i]?).map (·.2)=some v) acc n):acc.toList=a.map (·.2):=by
 apply aj;intro i;rw[pf,Xa];cases e:acc[i]? with
 |none=>
  have:n<=i:=by have:=Fq.mp e;rw[h.1]at this;exact this
  rw[wk (by omega)];rfl
 |some v=>exact(h.2 i v e).symm
theorem R3(es:Array (Int × Value)):(List.range es.size).filterMap (λj=>(es[j]?).map (·.2))=es.toList.map (·.2):=by
 apply aj;intro i;have e:(List.range es.size).filterMap (λj=>(es[j]?).map (·.2))=(List.range es.size).map (λj=>((es[j]?).map (·.2)).getD .none):=by
  refine WK λj b=>?_;have:=Rf.mp b;simp[this]
 rw[e,Xa,Xa];by_cases a:i<es.size
 ·simp[a]
 ·simp[a]
theorem zjy{acc:Array Value}{a:List Nat}(b:a.Perm (List.range es.size))(h:Oq (λi v=>((a[i]?).bind λj=>es[j]?).map (·.2)=some v) acc es.size):acc.toList.Perm (es.toList.map (·.2)):=by
 have k:a.length=es.size:=by rw[b.length_eq,bj]
 have e:acc.toList=a.filterMap (λj=>(es[j]?).map (·.2)):=by
  have f:a.filterMap (λj=>(es[j]?).map (·.2))=a.map (λj=>((es[j]?).map (·.2)).getD .none):=by
   refine WK λj g=>?_;have:=Rf.mp (b.mem_iff.mp g);simp[this]
  rw[f];apply aj;intro i;rw[pf,Xa];cases c:acc[i]? with
  |none=>
   have:es.size<=i:=by have:=Fq.mp c;rw[h.1]at this;exact this
   rw[wk (by omega)];rfl
  |some v=>
   have this:((a[i]?).bind λj=>es[j]?).map (·.2)=some v:=h.2 i v c;cases d:a[i]? with
   |none=>rw[d]at this;cases this
   |some j=>rw[d]at this;simp only[kj]at this;rw[Kj,this];rfl
 rw[e,<-R3];exact b.filterMap _
theorem p8{R:List Value->Shared->Prop}(hh:A.handled=none)(hA:qt s.heap a es ep t)(K:t.fits es.size=true)(hk:Ml (bT w) t)(hz:es.size<scanBound)
  (G:∀ h m r (acc:Array Value),(∀ b o,s.heap.get? b=some o->h.get? b=some o)->s.heap.objs.size<=h.objs.size->acc.toList.Perm (es.toList.map (·.2))->R acc.toList { s with heap:=h,toks:=m,drawn:=r }) :
  wpAny (model prog w) A (collect (.ref a)) R E s:=by
 have hn:es.size<=sizeLine:=Oh hz;have Q:a<s.heap.objs.size:=let ⟨_,g,_⟩:=hA;va g;let S:Addr:=s.heap.objs.size;let Z:Mp->Shared->Prop:=λq u=>∃ (h:Heap) (m:Nat) (r:zw) (acc:Array Value) (c:Nat),q=.ok (.ret (.ref S))/\u={ s with heap:=h,toks:=m,drawn:=r }/\(∀ b o,s.heap.get? b=some o->h.get? b=some o)/\
  h.get? S=some { cls:=.type "list",dict:=none,data:=.seq acc c,slots:=#[] }/\acc.toList.Perm (es.toList.map (·.2))
 let d:Shared:={ s with heap:=s.heap.push { cls:=.type "list",data:=.seq ([]:List Value).toArray } }
 have X:d.heap.get? S=some { cls:=.type "list",data:=.seq #[] }:=Ba _ rfl;have B:qt d.heap a es ep t:=hA.keep λo e=>ba _ e;have M:d.heap.objs.size=S+1:=Cd ..;have Gd:wpAny (model prog w) A.in1 (gJ (.ref S) (.ref a) (.ref S)) (λG u=>match G with | .done f=>Z (.ok f) u | .again c'=>c'.quiet=true/\codeAny (model prog w) A c' Z u) (λe u=>Z (.error e) u) d:=by
  have Y:d.TypeIs (.ref a) "set":=let ⟨o,g,x,_⟩:=B;⟨o,g,x.1⟩;refine aa (ll (T:="set") Y ?_);have ns:xn (.ref S) (.ref a)=false:=by simp only[xn,Yc];exact gf Q
  have n1:(Lj "set" == Lj "list")=false:=by decide
  simp only[ns];refine aa (RW B K hz (λhc=>?_) (λhc ps r L=>?_))
  ·have W:eu (d.heap.push (yA a (Nc 0) es.size ep)) d.heap.objs.size a (Nc 0) 0 es.size ep:=⟨_,Ba _ rfl,rfl,rfl⟩
   have j:qt (d.heap.push (yA a (Nc 0) es.size ep)) a es ep t:=B.keep λo e=>ba _ e;have C:qr { d with heap:=d.heap.push (yA a (Nc 0) es.size ep) } (.ref a) "set":=let ⟨o,g,x,_⟩:=j;⟨o,g,x.1⟩;have O:a≠d.heap.objs.size:=by rw[M];exact ya (Rb Q)
   have N:S ∉ [d.heap.objs.size,a]:=by rw[M];simp only[Da,Nb,lg,not_or];exact⟨ya (Qb _),gf Q⟩
   have V:∀ (l:List (Int × Value)),l.length=es.size->l.Perm es.toList->∀ h m acc c,(∀ b o,b≠S->b≠d.heap.objs.size->(d.heap.push (yA a (Nc 0) es.size ep)).get? b=some o->h.get? b=some o)->h.get? S=some { cls:=.type "list",dict:=none,data:=.seq acc c,slots:=#[] }->
     Oq (λi v=>(l[i]?).map (·.2)=some v) acc es.size->Z (.ok (.ret (.ref S))) { d with heap:=h,toks:=m }:=λl I L h m acc c k g D=>⟨h,m,s.drawn,acc,c,rfl,rfl,λb o e=>by
      have U:=va e;exact k b o (ya U) (by rw[M];exact ya (Rb U)) (ba _ (ba _ e)),g,by rw[ć I D];exact L.map _⟩
   cases hb:bT w with
   |true=>
    have I:(Rs (w.params.setOrder a ep) es).toList.length=es.size:=by rw[(mQ _ _).length_eq,Eb]
    exact FN (HP (f:=λ_=>0) (ord:=(Rs (w.params.setOrder a ep) es).toList) hh K O I λu i H _ A' E' Q' q'=>YX hb H K (by rw[<-pf];exact q')) hn N C ⟨W,j⟩ (ba _ X) (V _ I (mQ _ _))
   |false=>
    have L:(!t.plain && decide (es.size > 1))=false:=by rw[hb]at hc;simpa using hc
    have I:es.toList.length=es.size:=Eb;exact FN (HP (f:=fB t.place) (ord:=es.toList) hh K O I λu i H hi A' E' Q' q'=>Û hb hk L hi H K (by rw[<-pf];exact q')) hn N C ⟨W,j⟩ (ba _ X) (V _ I (.refl _))
  ·let J:Heap:=(d.heap.push (KG ps)).push (yA a (.ref d.heap.objs.size) es.size ep);have k2:∀ b o,d.heap.get? b=some o->J.get? b=some o:=λb o e=>ba _ (ba _ e);have z2:(d.heap.push (KG ps)).objs.size=d.heap.objs.size+1:=Cd ..;have W:eu J (d.heap.objs.size+1) a (.ref d.heap.objs.size) 0 es.size ep:=⟨_,by rw[<-z2];exact Ba _ rfl,rfl,rfl⟩
   have j:qt J a es ep t:=B.keep λo e=>k2 a o e;have a0:wB J d.heap.objs.size ps:=⟨_,_,ba _ (Ba _ rfl),rfl⟩
   have C:qr { d with heap:=J,drawn:=r } (.ref a) "set":=let ⟨o,g,x,_⟩:=j;⟨o,g,x.1⟩;refine FN (s:={ d with heap:=J,drawn:=r }) (cZ (p:=d.heap.objs.size) hh K (by rw[M];exact ya (Rb (Rb Q))) (ya (Qb _)) L) hn (by rw[M];simp only[Da,Nb,lg,not_or];exact⟨ya (Rb (Qb _)),gf Q,ya (Qb _)⟩) C ⟨⟨W,j⟩,a0⟩ (k2 _ _ X) λh m acc c k g D=>⟨h,m,r,acc,c,rfl,rfl,λb o e=>?_,g,zjy L D⟩
   have U:=va e;exact k b o (ya U) (by rw[M];exact ya (Rb (Rb U))) (k2 b o (ba _ e))
 have n:∀ {h:Heap} {m c:Nat} {r:zw} {acc:Array Value},(∀ b o,s.heap.get? b=some o->h.get? b=some o)->h.get? S=some { cls:=.type "list",dict:=none,data:=.seq acc c,slots:=#[] }->acc.toList.Perm (es.toList.map (·.2))->R acc.toList { s with heap:=h,toks:=m,drawn:=r }:=λP g D=>G _ _ _ _ P (ff (va g)) D;refine aa (Lu (qd uz ?_));refine aa (Hc (da ⟨tf gr _,qd RF ?_⟩));refine Xb Gd (λf u x=>?_) (λe u x=>by obtain⟨_,_,_,_,_,z,_⟩:=x;cases z);cases f with
 |done f=>
  obtain⟨h,m,r,acc,c,e,rfl,P,g,D⟩:=x;cases e;exact aa (Gp g (da (n P g D)))
 |again c1=>
  refine⟨x.1,ah x.2 λq s2 y=>?_⟩;obtain⟨h,m,r,acc,c,rfl,rfl,P,g,D⟩:=y;exact aa (Gp g (da (n P g D)))
end
end L4
namespace L4
open PySem PySem.Spec PyProof.Rows L2
theorem rY(d:List Int):(Zq d).Nodup:=by
 have h:∀ (l acc:List Int),acc.Nodup->(l.foldl QB acc).Nodup:=by
  intro l;induction l with
  |nil=>intro acc h;exact h
  |cons x l i=>
   intro acc h;refine i _ ?_;unfold QB;split
   ·exact h
   ·rename_i g
    rw[ux];refine⟨h,by simp,λa f b c=>?_⟩;rw[qc]at c;intro e;subst e;subst c;exact g (Jg.mpr ⟨_,f,by simp⟩)
 exact h d [] dr
theorem HV{i:Type}[DecidableEq i]:∀ {a b:List i},a.Nodup->(∀ x∈a,x∈b)->b.length<=a.length->a.Perm b
 |[],b,_,_,h=>by
  have:=Sf.mp (Nat.le_zero.mp h);subst this;exact .refl _
 |x::a,b,c,d,j=>by
  rw[bi]at c;have f:=d x Ua;have p:=List.perm_cons_erase f;have k:=HV c.2 (λy g=>(List.mem_erase_of_ne (show y≠x from λe=>c.1 (by rw[<-e];exact g))).mpr (d y (Ka _ g))) (by rw[List.length_erase_of_mem f];simp at j;omega);exact(k.cons x).trans p.symm
theorem gQ:∀ {a:za} {w:Ma} {l:List (Int × Value)},iD (dh a w) l->∃ d,fj (l.map (·.2)) d/\d.length=l.length/\∀ k,k∈d ↔ ∃ e∈l,(dh a w).is k e.2=true
 |a,w,[],_=>⟨[],.nil,rfl,λk=>by simp⟩
 |a,w,e::l,h=>by
  obtain⟨d,i,j,m⟩:=gQ (λx b=>h x (.tail _ b));obtain⟨⟨k,f,_⟩,_⟩:=h e (.head _);have c:=f;obtain⟨t,g⟩:=tw f;refine⟨k::d,by rw[yb,g];exact .cons k t i,by simp[j],λn=>?_⟩;rw[Da,m n];constructor
  ·rintro (rfl|⟨x,b,q⟩)
   ·exact⟨e,.head _,c⟩
   ·exact⟨x,.tail _ b,q⟩
  ·rintro ⟨x,b,q⟩;rcases Da.mp b with rfl|b
   ·exact .inl ((dh a w).inj _ _ _ q c)
   ·exact .inr ⟨x,b,q⟩
theorem zpl{l i:List Value}(p:i.Perm l):∀ {b:List Int},fj l b->∃ a,fj i a/\a.Perm b:=by
 induction p with
 |nil=>intro b h;exact⟨b,h,.refl _⟩
 |cons x p o=>
  intro b h;cases h with
  |cons n t h=>obtain⟨a,c,d⟩:=o h;exact⟨n::a,.cons n t c,d.cons n⟩
 |swap x y l=>
  intro b h;cases h with
  |cons n t h=>
   cases h with
   |cons m u h=>exact⟨m::n::_,.cons m u (.cons n t h),.swap _ _ _⟩
 |trans p1 p2 e f=>
  intro b h;obtain⟨q,c,d⟩:=f h;obtain⟨g,j,k⟩:=e c;exact⟨g,j,k.trans d⟩
def RD(P:za)(w:Ma)(b:List Int)(a:Addr):Heap->Prop:=λh=>vu (dh P w) (bT w) h a (λk=>(Zq b).any (·== k)) (Zq b).length
theorem χ{P:za}{w:Ma}{d:List Int}{a:Addr}:∀ b c:Heap,RD P w d a b->(∀ u,b.get? a=some u->c.get? a=some u)->RD P w d a c:=λb c x k=>zL x k
section
variable{T:Tb}{X:Cx}
def w6(X:Cx):List V->Hp->VK->Prop:=λxs H Q=>∃ (p:Addr) (ns:List Int),xs=[.ref p]/\Cg X.K H p (ns.map V.int)/\ns.length<64/\∀ l,H l=none->Q (.ref l) (ic H l (.ext (RD X.prog X.w ns l)))
theorem zoe(j:X.Vh=true):Oo X (.type "set") (w6 X):=by
 intro f s v H xs x Q I r h;obtain⟨p,d,rfl,m,l,q⟩:=h;obtain⟨u,rfl,n⟩:=jw r;cases n;obtain⟨its,i,pl,t⟩:=I.list m;have c:its.length=d.length:=by rw[<-i.length,Pb]
 refine SY (I.ok.hd j) pl.isList (dL i) (by rw[Aa,c];exact tV (Wb (ff l) (by decide))) λh' w a k=>?_;rw[show its.toArray.size=d.length by rw[Aa,c],fK]at a;refine⟨.ref s.heap.objs.size,_,I.laid (λb o e=>k b o (va e) e) (wa _) ?_,rfl,q _ (I.md.fresh (wa _))⟩;exact⟨a,let ⟨o,_,_,_,g,_⟩:=a;⟨o,g⟩,χ⟩
theorem A9{a:List (Addr × Obj)}{b:St}{H:Hp}{s:Shared}(I:Qa X a b H s)(c:zw):Qa X a b H { s with drawn:=c }:=⟨I.ok,I.os,I.bare,I.base,I.loc,I.cell,I.free,I.lh,I.pin,I.md,I.len⟩
def Ę(X:Cx):List V->Hp->VK->Prop:=λxs H Q=>∃ (a:Addr) (ns:List Int),xs=[.ref a]/\H a=some (.ext (RD X.prog X.w ns a))/\ns.length<64/\(Zq ns).length<=ns.length/\∀ l,H l=none->Q (.ref l) (ic H l (.Ca ((Us (Zq ns)).map V.int)))
theorem S7(Z:X.Vh=true):Oo X (.builtin "sorted") (Ę X):=by
 intro D s σ H xs us Q I r h;obtain⟨a,g,rfl,W,U,a0,q⟩:=h;obtain⟨u,rfl,rx⟩:=jw r;cases rx;obtain⟨⟨o,k,ep,t,L,M,N,O,P,y,R,S,T⟩,_,_⟩:=I.md a _ W;obtain⟨is,i1,i2,i3⟩:=gQ O;have hp:is.Perm (Zq g):=(HV (rY g) (λx hx=>(i3 x).mpr ((P x).mp (Jg.mpr ⟨x,hx,by simp⟩))) (by rw[i2,Eb,S];exact wa _)).symm;have i:k.size<64:=by omega
 have hn:k.size<=sizeLine:=Oh y;refine ir kind_sorted plain_sorted entry_sorted (args_sorted1 _) ?_;refine aa (m:=checkCount "sorted" 1 1 _) (da ?_);refine aa (p8 (A:=X.A.in1) (I.ok.hd Z) ⟨o,L,M,N⟩ R T y λh' tk J acc B j c=>?_);obtain⟨a4,Y,n⟩:=zpl c i1;have z:acc.toList.length=k.size:=by rw[c.length_eq,Pb,Eb]
 refine aa (Sv ?_ (by rw[z];exact hn));have d:(h'.push (ck "list" acc.toList.toArray 0)).get? h'.objs.size=some (ck "list" acc.toList.toArray 0):=Ba _ rfl;refine aa (Ac (Qc UN ⟨_,d,rfl⟩ ZI (VN d Y (by rw[z];exact i) λf p E F G=>⟨_,rfl,?_⟩) (WN _)));refine da ⟨_,rfl,?_⟩;have K:p=Us (Zq g):=mD (F.trans (n.trans (hp.trans (HA _).symm))) G (yI _);subst K;have l:=(HA (Zq g)).length_eq;obtain⟨e,he⟩:=KW (out:=f) d;exact⟨.ref h'.objs.size,_,(A9 I J).laid (t':=tk) (λb o v=>by
  have C:b<h'.objs.size:=va (B b o v);rw[XN (ya C) (by rw[NB];exact Rb C)];exact ba _ (B b o v)) j (show mn X.prog X.w _ _ _ (.Ca ((Us (Zq g)).map V.int))from⟨by rw[Pb,l];exact Wb (show (Zq g).length<=1000 by omega) (by decide),f.toList,e,EF E,by rw[Bk];exact he⟩),rfl,q _ (I.md.fresh j)⟩
def TB(x:D):M D:=λa=>match (Mh a x).bind Vu with
 |some ns=>if ns.length<64 then yC ((Us (Zq ns)).map D.int) a else .Sb
 |none=>.Sb
theorem J9(a:List Int):(Zq a).length<=a.length:=by rw[<-fK];exact OB _ _
theorem uQ{b:List Addr}{H:Hp}:∀ (a:List Int),gb T b H (a.map D.int) (a.map V.int)
 |[]=>gb.nil
 |i::a=>gb.cons (by rw[Ia]) (uQ a)
theorem M1{e:Fa}{f:Ev->M D}{p p2 j b:Me}(hK:T.K=X.K)(x:X.Vh=true)(N:Gl X "sorted")(O:X.mg "sorted" = none)(n:Gl X "set")(q:X.mg "set" = none)(L:FE T X e f)
  (z:la [e] X.env=(false,Ib e X.env)::la [] X.env:=by rfl) (t:(Bc b (la [] X.env)).any (·.1)=false:=by rfl)
  (g:la [.Call (.Name "set" p2) [e] [] b] X.env=(false,Ib (.Call (.Name "set" p2) [e] [] b) X.env)::la [] X.env:=by rfl) (c:(Bc j (la [] X.env)).any (·.1)=false:=by rfl) :
  FE T X (.Call (.Name "sorted" p) [.Call (.Name "set" p2) [e] [] b] [] j) (Qd TB f):=by
 intro i s S H Q I h;refine lC (S7 x) N O L4.JK (Dt (sL (zoe x) n q rfl (Dt L aw z) (by decide) (by decide) z t) aw g) (by decide) (by decide) g c i s S H Q I ?_;obtain⟨U,W,Y,J,R,P⟩:=h;refine⟨U,W,Y,J,R,P.bind λd u V v Z _ e1 A q1 p1=>?_⟩;unfold TB at p1;cases m:(Mh u d).bind Vu with
 |none=>rw[m]at p1;exact p1.elim
 |some ns=>
  rw[m]at p1;dsimp only at p1;by_cases k:ns.length<64
  ·rw[ja k]at p1;obtain⟨ys,B,C⟩:=bh.mp m;obtain⟨a,vs,rfl,F,G⟩:=A.ls q1 B;have E:=IF G C;subst E;refine⟨a,ns,rfl,Cg.of F,k,λl y=>⟨l,ns,rfl,Hh,k,J9 ns,λl2 r=>?_⟩⟩;have p2:=Zb.mono (Fm (o:=.ext (RD X.prog X.w ns l)) y) p1;exact CD p2 (A.fresh y) (uQ _) r
  ·rw[ua k]at p1;exact p1.elim
end
section
variable{X:Cx}{pins:List (Addr × Obj)}{σ:St}{H:Hp}{s:Shared}
theorem _root_.L2.Qa.freeze{a:Addr}{d:List (gc × V)}{i:Obj}(I:Qa X pins σ H s)(g:H a=some (.dK d))(e:s.heap.get? a=some i):Qa X pins σ (ic H a (.Vb i (.dK d))) s:=by
 have f:∀ b u,H b=some u->u≠.dK d->b≠a:=λb u q n z=>by rw[z,g]at q;exact n (Ya q).symm
 refine I.step (ch:=[]) (λ_ z=>nomatch z) (λb o _ _ _ q _=>q) (λb o _ _ _ q _=>⟨o.slots,q⟩) (λb o _ q n=>?_) (λb o _ q=>⟨o,q⟩)
  (λb xs q=>by rw[Le (f b _ q (λz=>by cases z))];exact q) (λb u xs q=>by rw[Le (f b _ q (λz=>by cases z))];exact q) (λb k q=>⟨#[],by rw[Le (f b _ q (λz=>by cases z)),q];simp⟩) (λm j=>j) (λb u q=>?_) I.bare
 ·rw[Le (λz=>by rw[z,g]at n;cases n)];exact n
 ·by_cases h:b=a
  ·subst h;rw[Hh]at q;cases q;exact⟨e,I.md b _ g⟩
  ·rw[Le h]at q;exact(I.md b u q).cm (λc v _ z=>z) (λc z=>by rw[Le (f c _ z (λy=>by cases y))];exact z) λc xs z=>by rw[Le (f c _ z (λy=>by cases y))];exact z
theorem WB{a:Addr}{b:List (gc × V)}{g:Obj}(I:Qa X pins σ H s)(k:H a=some (.Vb g (.dK b))):∃ f d c,KV b f/\g.data=.dict d c/\s.heap.DictAt (Ri X.prog X.w) a f c:=by
 obtain⟨e,_,_,f,h,o,d,c,j,ex,i,r⟩:=I.md a _ k;rw[e]at j;cases j;exact⟨f,d,c,h,i,g,d,e,ex,i,r⟩
end
def Itm(d:Addr)(b:Obj)(a:List (gc × V)):It:=
 ⟨λi H=>H d=some (.Vb b (.dK a))/\∃ x,a[i]?=some x,λi H v c=>∃ p k x,H p=none/\v=.ref p/\a[i]?=some (k,x)/\c=ic H p (.ub [kV k,x]),λi H=>H d=some (.Vb b (.dK a))/\i=a.length⟩
theorem vN{d:Type}:∀ {c:List (d × V)} {g:List (d × Value)} (r:KV c g) (i:Nat) {k:d} {x:V},c[i]?=some (k,x)->∃ u,g[i]?=some (k,u)/\ie x u
 |_,_,.nil,i,_,_,h=>by simp at h
 |_,_,.cons (b:=q) a b,0,k,x,h=>by
  simp only[Cj,Dk]at h;obtain⟨e,f⟩:=a;rw[h]at e f;exact⟨q.2,by simp only[Cj,Dk];exact rW e.symm rfl,f⟩
 |_,_,.cons a b,i+1,k,x,h=>by
  exact vN b i h
theorem IU{P:za}{w:Ma}{k:gc}{v:Value}(h:(Ri P w).is k v=true):ie (kV k) v:=by
 rcases Xw h with⟨i,t,rfl,rfl⟩|⟨x,t,rfl,rfl⟩
 ·exact⟨t,rfl⟩
 ·exact⟨t,rfl⟩
theorem HY{P:za}{w:Ma}{K:W.Frag}{n:List Fa}{kk:Nat}{U:Me}(d f:Addr)(od:Obj)(B:List (gc × V))(a0:d≠f){es:Array YF}{Y:Nat}(t:od.data=.dict es Y) :
  Mr P w K (.Tuple n kk U) (Itm d od B) [f] f (λi h=>∃ ok l,IsItemIter h f d i B.length Y ok l) where
 mem:=by simp
 obj:=λi h g b e=>by
  obtain⟨ok,l,a⟩:=g;obtain rfl:b=f:=by simpa using e
  exact⟨_,a,λv z=>by cases z⟩
 keep:=λi h h' g k=>by
  obtain⟨ok,l,a⟩:=g;exact⟨ok,l,k f (by simp) _ a⟩
 item:=by
  intro X L T J Z i C s σ H E I D g O;subst L T J;obtain⟨N,⟨k,x⟩,hx⟩:=O;obtain⟨vs,G,F,c,m,S⟩:=WB I N;rw[t]at m;cases m;obtain⟨u,hu,ru⟩:=vN c i hx;obtain⟨ok,l,a⟩:=g;rw[c.length]at a;refine wpAny_pyNext_items_item a S hu λj h' r ho hT a1 hk=>?_;have p:s.heap.objs.size≠f:=gf (va a);refine⟨.ref s.heap.objs.size,rfl,wpAny_letOwnedTupleGo_items ho λh2 R y=>?_⟩;have hn:H s.heap.objs.size=none:=I.md.fresh (wa _);have M:h2.get? s.heap.objs.size=some { cls:=.type "tuple",data:=.seq #[j,u] }:=y.extBut _ _ p hT;refine⟨.ref s.heap.objs.size,ic H s.heap.objs.size (.ub [kV k,x]),I.Sw (λb o e q=>y.extBut b o (λz=>e (by simp[z])) (hk b o (λz=>e (by simp[z])) q)) D (wa _) ?_,rfl,⟨_,k,x,hn,rfl,hx,rfl⟩,⟨j,u,by rw[c.length];exact R⟩,λb e=>?_⟩
  ·exact⟨(show 2<=sizeLine by decide),[j,u],.cons (IU r) (.cons ru .nil),⟨_,M,rfl,_,rfl⟩⟩
  ·obtain rfl:b=f:=by simpa using e
   rw[Le (λz=>p z.symm)];exact(D b e).1
 done:=by
  intro X L T J Z i C s σ H E I D g O;subst L T J;obtain⟨N,hi⟩:=O;obtain⟨vs,G,F,c,m,S⟩:=WB I N;rw[t]at m;cases m;obtain⟨ok,l,a⟩:=g;rw[c.length]at a hi;exact wpAny_pyNext_items_end (I.ok.hd Z) a S (by rw[hi];simp) λh' eb=>⟨rfl,I.Lw (t':=s.toks) (its:=[f]) (λb o e q=>eb b o (λz=>e (by simp[z])) q) D⟩
 self:=λA i s Q E g h=>by
  obtain⟨ok,l,a⟩:=g;exact W.kcp_self a h
def vq(l a:Addr):Heap->Prop:=λh=>h.IsItemsView l a
def GY:V->List V->Hp->VK->Prop:=λx xs H Q=>∃ a b,x=.ref a/\xs=[]/\Rd H a (.dK b)/\∀ l,H l=none->Q (.ref l) (ic H l (.ext (vq l a)))
theorem GC{H:Hp}{a:Addr}{o:HO}(h:H a=some o):ic H a o=H:=by
 funext b;unfold ic;split
 ·next e=>rw[e,h]
 ·rfl
theorem vG(h:Heap)(o:Obj)(a:o.data≠.freed):(h.push o).get? h.objs.size=some o:=by
 obtain⟨c,d,x,b⟩:=o;simp[Heap.get?,Heap.push];cases x<;>first|rfl|exact absurd rfl a
section
variable{T:Tb}{X:Cx}{elts:List Fa}{kk:Nat}{p0:Me}
theorem DV:Zw X "dict.items" GY:=by
 intro f s y H x B v A Q I n m h;obtain⟨a,j,rfl,rfl,g,q⟩:=h;cases n;cases m;obtain⟨z,i,r,l,d⟩:=cx I.md g;refine call_meetsIn cj d.typeIs PySem.F.entry_dict_items (PySem.F.args_dict_items_1 _) (meets_dict_items (Ri X.prog X.w) a i) ⟨⟨r,d⟩,?_⟩;refine⟨.ref s.heap.objs.size,_,I.laid (λb o e=>ba _ e) (wa _) ?_,rfl,q _ (I.md.fresh (wa _))⟩;refine⟨⟨_,vG _ _ (λz=>by cases z),rfl,rfl⟩,⟨_,vG _ _ (λz=>by cases z)⟩,λt u p k=>?_⟩;obtain⟨o,e,c⟩:=p;exact⟨o,k o e,c⟩
def Ĝ(e:TE):TI:=λf H R=>e f H λv c=>∃ l a b,v=.ref l/\c l=some (.ext (vq l a))/\Rd c a (.dK b)/\∀ d,c a=some (.dK b)\/c a=some (.Vb d (.dK b))->R (Itm a d b) (ic c a (.Vb d (.dK b)))
theorem cQ{f:Fa}{t:TE}(C:PE X f t):PI X (.Tuple elts kk p0) f (Ĝ t):=by
 intro i s u H R I h;refine Re (C i s u H _ I h) λv s1 ⟨x,H1,k,F,q1⟩=>?_;obtain⟨l,a,c,rfl,D,d,q⟩:=q1;cases F;obtain⟨g,p,m⟩:∃ g,(H1 a=some (.dK c)\/H1 a=some (.Vb g (.dK c)))/\Qa X i u (ic H1 a (.Vb g (.dK c))) s1:=by
  rcases d with d|⟨g,d⟩
  ·obtain⟨_,_,G,j,o,A,y,e,_⟩:=k.md a _ d;exact⟨o,.inl d,k.freeze d e⟩
  ·exact⟨g,.inr d,by rw[GC d];exact k⟩
 obtain⟨G,A,y,j,w,r⟩:=WB m Hh;have E:=(k.md l _ D).1;have n:=ya r.lt_size;refine wpAny_pyIter_items E r ?_;refine⟨s1.heap.objs.size,[s1.heap.objs.size],_,Itm a g c,_,rfl,m.kept (λb o e=>ba _ e),HY a _ g c n w,⟨.none,.none,by rw[j.length];exact vG _ _ (λz=>by cases z)⟩,λb B=>?_,q g p⟩;obtain rfl:b=s1.heap.objs.size:=by simpa using B
 exact m.sr (wa _) (m.md.fresh (wa _))
noncomputable def Wu(a:List (gc × D)):NX:=λi _=>match a[i]? with
 |some p=>some (some (.ub [DA p.1,p.2]))
 |none=>if i=a.length then some none else none
def UE(d:D):M NX:=λb=>match d with
 | .Ja a xs=>if a.length=xs.length then .ok (Wu (a.zip xs)) b else .Sb
 |_=>.Sb
def Xx(f:Ev->M D):Ev->M NX:=λa=>Ld (f a) UE
theorem pJ{a:List Addr}{H:Hp}(k:gc):Ia T a H (DA k) (kV k):=by
 cases k<;>(unfold DA kV;rw[Ia])
theorem QP{μ:List Addr}{H:Hp}{a:Addr}{od:Obj}{c:List (gc × V)}(d:H a=some (.dK c)):Se μ H μ (ic H a (.Vb od (.dK c))):=by
 have f:∀ b u,H b=some u->u≠.dK c->b≠a:=λb u q n z=>by rw[z,d]at q;exact n (Ya q).symm
 refine⟨⟨[],by simp⟩,λp xs h=>by rw[Le (f p _ h (λz=>by cases z))];exact h,λp o u h=>by rw[Le (f p _ h (λz=>by cases z))];exact h,λp o h n=>⟨?_,n⟩⟩;by_cases e:p=a
 ·subst e;rw[d]at h;cases h;exact⟨_,Hh,.inr (.inl ⟨od,c,rfl,rfl⟩)⟩
 ·exact⟨o,by rw[Le e];exact h,.inl rfl⟩
theorem LH{c e:Type}{R:c->e->Prop}:∀ {xs:List c} {d:List e},Paired R xs d->∀ (i:Nat) {x:c},xs[i]?=some x->∃ y,d[i]?=some y/\R x y
 |_,_,.nil,i,_,h=>by simp at h
 |_,_,.cons a b,0,x,h=>by
  simp only[Cj,Dk]at h ⊢;subst h;exact⟨_,rfl,a⟩
 |_,_,.cons a b,i+1,x,h=>by
  exact LH b i h
theorem pF{e:Fa}{f:Ev->M D}{k m:Me}(h:FE T X e f)(n:Oe e "items" X.env (Ib e X.env)=Ib e X.env:=by rfl)(t:(k.endLine == m.line)=true:=by rfl) :
  Ky T X (.Tuple elts kk p0) (.Call (.Attribute e "items" k) [] [] m) (Xx f):=by
 intro G s st H R I hw;refine cQ (eU dj cj lr DV h n t) G s st H R I ?_;obtain⟨μ,ρ,σ,hE,hr,hp⟩:=hw;refine⟨μ,ρ,σ,hE,hr,hp.bind λd J g v j _ e1 r1 q1 p1=>?_⟩;unfold UE at p1;cases d with
 |Ja S xs=>
  dsimp only at p1;by_cases Y:S.length=xs.length
  ·rw[ja Y]at p1;obtain⟨a,c,rfl,hn,o,O,Q⟩:=q1;refine⟨⟨a,c,rfl,o⟩,a,c,rfl,rfl,o,λl u=>?_⟩;have U:a≠l:=by rcases o with o|⟨_,o⟩<;>exact rs o u
   have N:Rd (ic j l (.ext (vq l a))) a (.dK c):=by unfold Rd;rw[Le U];exact o
   refine⟨l,a,c,rfl,Hh,N,λB A=>?_⟩;have x1:Se g j g (ic j l (.ext (vq l a))):=Fm u;have x:ee T g (ic j l (.ext (vq l a))) J:=r1.fresh u;obtain⟨x2,V⟩:Se g j g (ic (ic j l (.ext (vq l a))) a (.Vb B (.dK c)))/\ee T g (ic (ic j l (.ext (vq l a))) a (.Vb B (.dK c))) J:=by
    rcases A with A|A
    ·have y:=QP (μ:=g) (od:=B) A;exact⟨x1.trans y,x.keep y (λb K=>Le (λz=>hn (by rw[<-z];exact K))) (x.tb.out (λb K=>Le K) (.inr ⟨_,A⟩))⟩
    ·rw[GC A];exact⟨x1,x⟩
   have h3:ic (ic j l (.ext (vq l a))) a (.Vb B (.dK c)) a=some (.Vb B (.dK c)):=Hh;refine Zb.here (Zb.mono x2 p1) V λa0 H2 a1 i ex r2=>?_;have W:=ex.Vb _ _ _ h3;have E:=vj.mono (x2.trans ex) (JH O Q);unfold Wu;cases ei:(S.zip xs)[i]? with
   |none=>
    by_cases L:i=(S.zip xs).length
    ·rw[ja L];exact⟨W,by rw[L];exact Paired.length E⟩
    ·rw[ua L];trivial
   |some p=>
    obtain⟨q,Z,P,rx⟩:=LH E i ei;refine⟨⟨W,q,Z⟩,λz H' y=>?_⟩;obtain⟨r,k',x',w,rfl,C,rfl⟩:=y;rw[Z]at C;cases C;refine⟨Fm w,r2.fresh w,?_⟩;rw[Ia,P];exact⟨r,_,rfl,Hh,gb.cons (pJ _) (gb.cons (Ia.mono (Fm w) _ _ rx) gb.nil)⟩
  ·rw[ua Y]at p1;exact p1.elim
 |_=>exact p1.elim
end
def Wj(nx:NX)(n:Nat)(tg:D->Ev->Option Ev)(fi:Ev->M Bool)(b:Ev->M D):Nat->Nat->Ev->M Unit
 |0,_,_=>Sb
 |k+1,i,f=>λe=>match nx i e with
  |none=>.Sb
  |some none=>.ok () e
  |some (some d)=>match tg d f with
   |none=>.Sb
   |some a=>Ld (eq (fi a)) (λc=>if c=true then Ld (eq (b a)) λy=>Ld (zt (.ref n) [y]) λ_=>Wj nx n tg fi b k (i+1) a else Wj nx n tg fi b k (i+1) a) e
def zF(tg:D->Ev->Option Ev)(c:Ev->M Bool)(b:Ev->M D)(d:Ev)(nx:NX):M D:=λa=>
 Ld (Wj nx a.length tg c b 1001 0 d) (λ_=>ret (.ref a.length)) (a++[.Ca []])
def wj(a:Ev->M NX)(e:List Nat)(tg:D->Ev->Option Ev)(d:Ev->M Bool)(c:Ev->M D):Ev->M D:=λb=>Ld (a b) (zF tg d c (iw e b))
section
variable{T:Tb}{X:Cx}
theorem sT{E:XK}{b1 a4 a9:Fa}{b2:List Fa}{a:Scope}{b9:Me}{x z0:qa}{M':List qa}{ix:List Nat}{tg:D->Ev->Option Ev}{fi:Ev->M Bool}{H:Ev->M D}
  {b6:List (Addr × Obj)} {st:St} {H3:Hp} {Z:Shared} {I:Heap} {t':Nat} {m:qa->Option Value} {fp:List Addr} {it D0:Addr} {tn:Nat->Heap->Prop} {J:It} {nx:NX} {P:List Addr} {c3:xb} {ρ:Ev} {n:Nat} {Q:VK}
  (hc:X.Vh=true) (L:Dp X x M' ix a)
  (d8:∀ cl C O G ex,FG T (Vv X (x::z0::M') a cl C O G ex) a9 tg)
  (d5:∀ cl C O G ex,uF T (Vv X (x::z0::M') a cl C O G ex) b2 fi)
  (c6:∀ cl C O G ex,FE T (Vv X (x::z0::M') a cl C O G ex) b1 H)
  (I3:Qa X b6 st H3 Z) (c7:∀ b∈fp,yn X b6 H3 b/\b<Z.heap.objs.size) (d7:I.Ns Z.heap.objs.size m) (kp:∀ b o,Z.heap.get? b=some o->I.get? b=some o)
  (TT:Mr X.prog X.w X.K a9 J fp it tn) (b5:tn 0 I) (so:eB T P H3 nx J) (hE:ni T P H3 ρ st) (r3:ee T P H3 c3) (hn:P[n]?=some D0)
  (p3:Zb T E (Ia T) P H3 (Ld (Wj nx n tg fi H 1001 0 (iw ix ρ)) (λ_=>ret (.ref n)) c3) Q) {RR:Mp->Shared->Prop}
  (d3:∀ (s6:Shared) (q:Hp) (m6:qa->Option Value),s6.heap.Ns Z.heap.objs.size m6->q Z.heap.objs.size=none->Un (Wk X.stack) fp H3 q Z.heap s6.heap->s6.os=Z.os->xj X.prog X.w q s6.heap->ej s6.gens->Q (.ref D0) q->RR (.ok .next) s6) :
  codeAny (model X.prog X.w) X.A (.compStart (.ListComp b1 [⟨a9,a4,b2,0⟩] a b9) 0 (.ref it) (.ref D0) (compEnvC a (Kk X.env a.names []) Z.heap.objs.size X.env))
   RR { Z with heap:=I,toks:=t' }:=by
 have I4:=i6 (z0:=z0) (t':=t') I3 L c7 d7 kp;let Y:Cx:=Vv X (x::z0::M') a (Kk X.env a.names []) Z.heap.objs.size Z H3 fp;have a8:∀ {q:Hp},(∀ b∈fp,q b=none)->∀ b∈fp,yn Y [] q b:=fun {q} hn b hb=>⟨hn b hb,(I4.ok.GA b hb).1,I4.ok.Pt b hb,.inl hb,(I4.ok.GA b hb).2,λp hp=>absurd (show p∈([]:List (Addr × Obj))from hp) (by simp)⟩
 have br:codeAny (model X.prog X.w) X.A (.compLoop (.ListComp b1 [⟨a9,a4,b2,0⟩] a b9) 0 (.ref it) (.ref D0) Y.env) RR { Z with heap:=I,toks:=t' }:=by
  refine codeAny_loop rfl (λk s'=>∃ i g q h t F,Qa Y [] F q s'/\tn i s'.heap/\(∀ b∈fp,q b=none)/\Se P H3 g q/\ni T g q t F/\ee T g q h/\
   Zb T E (Ia T) g q (Ld (Wj nx n tg fi H k i t) (λ_=>ret (.ref n)) h) Q) ?_ 1001 ⟨0,P,H3,c3,iw ix ρ,AA ix st,I4,b5,λb hb=>(c7 b hb).1.1,Se.refl _ _,P3 ix hE,r3,p3⟩
  rintro k s' ⟨i,g,q,h,t,F,I',c9,c4,W,b8,r',p'⟩;show wpAny _ X.A ((compTurn (.ListComp b1 [⟨a9,a4,b2,0⟩] a b9) 0 (.ref it) (.ref D0) Y.env).onRaise (λx=>do Jh x Y.env;theTreesLotGoes x)) _ _ s';refine wpAny_noted ?_;refine Xb (E:=λ_ _=>False) ?_ (λ_ _ z=>z) (λ_ _ z=>z.elim);refine aa (Nv ?_);cases k with
  |zero=>exact p'.elim
  |succ k=>
   have b4:=so g q h i W r';cases en:nx i h with
   |none=>
    have e1:Wj nx n tg fi H (k+1) i t h=.Sb:=by unfold Wj;simp only[en]
    rw[NI (m':=Sb) e1]at p';exact p'.elim
   |some od=>
    rw[en]at b4;cases od with
    |none=>
     have e1:Wj nx n tg fi H (k+1) i t h=.ok () h:=by unfold Wj;simp only[en]
     rw[NI (m':=ret ()) e1]at p';refine aa (Re (TT.done Y rfl rfl rfl hc i [] s' F q (λ_ _=>False) I' (a8 c4) c9 b4) λr s6 ⟨er,I6⟩=>?_);subst er;refine da ?_;obtain⟨m6,d6,_⟩:=I6.loc;exact d3 s6 q m6 d6 I6.free I6.base I6.os I6.md I6.bare (Zb.here p' r' (by rw[Ia];exact⟨_,rfl,W.get hn⟩))
    |some d=>
     refine aa (Re (TT.item Y rfl rfl rfl hc i [] s' F q (λ_ _=>False) I' (a8 c4) c9 b4.1) λr s6 ⟨u,er,h6⟩=>?_);subst er;refine aa (Re h6 λ_ s7 ⟨xv,H7,I7,r7,y7,c2,d4⟩=>?_);obtain⟨b7,d9,hd⟩:=b4.2 xv H7 y7;replace p':=Zb.mono b7 p';replace b8:=b8.mono b7;replace W:=W.trans b7;replace r':=d9;cases et:tg d t with
     |none=>
      have e1:Wj nx n tg fi H (k+1) i t h=.Sb:=by unfold Wj;simp only[en,et]
      rw[NI (m':=Sb) e1]at p';exact p'.elim
     |some l=>
      have e1:Wj nx n tg fi H (k+1) i t h=Ld (eq (fi l)) (λc=>if c=true then Ld (eq (H l)) λy=>Ld (zt (.ref n) [y]) λ_=>Wj nx n tg fi H k (i+1) l else Wj nx n tg fi H k (i+1) l) h:=by
       conv=>lhs;unfold Wj
       simp only[en,et]
      rw[NI e1,SL]at p';have d1:=I7.pinned (a8 d4) (TT.obj _ _ c2);refine aa (Re (d8 _ _ _ _ _ _ s7 F H7 xv u (λN H8=>H8=H7/\ni T g H7 l N) d1 r7 ⟨g,h,t,d,l,b8,r',hd,et,λN a3=>⟨rfl,a3⟩⟩) λ_ s8 ⟨N,H8,I8,d2,a3⟩=>?_);subst d2;refine aa (Re (d5 _ _ _ _ _ _ s8 N H8 (λc H9=>∃ U a0,Se g H8 U H9/\ee T U H9 a0/\Zb T E (Ia T) U H9 (Ld (if c=true then Ld (eq (H l)) λy=>Ld (zt (.ref n) [y]) λ_=>Wj nx n tg fi H k (i+1) l else Wj nx n tg fi H k (i+1) l) (λ_=>ret (.ref n)) a0) Q) I8
       ⟨g,l,h,a3,r',p'.Iw λc a0 U c' H9 _ e9 r9 q9 p9=>by cases q9;exact⟨U,a0,e9,r9,p9⟩⟩) λc s9 ⟨H9,I9,U,a0,e9,r9,p9⟩=>?_)
      have a2:∀ {a7:Shared} {s:Hp} {f:List Addr} {j:xb},Qa Y ([]++wD fp s7.heap) N s a7->Se g H8 f s->ee T f s j->Zb T E (Ia T) f s (Ld (Wj nx n tg fi H k (i+1) l) (λ_=>ret (.ref n)) j) Q->
        ∃ m,m<k+1/\∃ i g q h t F,Qa Y [] F q a7/\tn i a7.heap/\(∀ b∈fp,q b=none)/\Se P H3 g q/\ni T g q t F/\ee T g q h/\Zb T E (Ia T) g q (Ld (Wj nx n tg fi H m i t) (λ_=>ret (.ref n)) h) Q:=by
       intro a7 s f j a1 V a6 a5;refine⟨k,Qb _,i+1,f,s,j,l,N,a1.Kl,TT.keep _ _ _ c2 (λb hb o e=>(a1.pin (b,o) (Pa _ (Pa _ (oH hb e)))).1),λb hb=>?_,W.trans V,a3.mono V,a6,a5⟩;obtain⟨o,e,_⟩:=TT.obj _ _ c2 b hb;exact(a1.pin (b,o) (Pa _ (Pa _ (oH hb e)))).2.1
      cases c with
      |false=>
       exact da ⟨rfl,a2 I9 e9 r9 p9⟩
      |true=>
       rw[ja rfl,SL]at p9;refine aa (aa (Re (c6 _ _ _ _ _ _ s9 N H9 (λv S=>∃ y B R,Se g H8 B S/\ee T B S R/\Ia T B S y v/\Zb T E (Ia T) B S (Ld (zt (.ref n) [y]) (λ_=>Ld (Wj nx n tg fi H k (i+1) l) (λ_=>ret (.ref n))) R) Q) I9
        ⟨U,l,a0,a3.mono e9,r9,p9.Iw λy R B v S _ b0 c1 c0 b3=>⟨y,B,R,e9.trans b0,c1,c0,by rw[SL]at b3;exact b3⟩⟩) λw e0 ⟨v,S,d0,c8,y,B,R,b0,c1,c0,b3⟩=>?_))
       have c5:=O5 (Q:=λ_ s=>∃ f j,Se g H8 f s/\ee T f s j/\Zb T E (Ia T) f s (Ld (Wj nx n tg fi H k (i+1) l) (λ_=>ret (.ref n)) j) Q) c1 ((W.trans b0).get hn) c0
        (b3.bind λ_ j f v11 s _ V a6 e2 a5=>⟨f,j,b0.trans V,a6,a5⟩)
       refine aa (Re (NJ (X:=Y) _ e0 N S (.ref D0) [v] (.ref D0) [w] _ d0 rfl (.cons c8 .nil) c5) λ_ a7 ⟨v11,s,a1,_,f,j,V,a6,a5⟩=>?_);exact da (da ⟨rfl,a2 a1 V a6 a5⟩)
 exact codeAny_compStart_list br (TT.self X.A 0 _ _ _ b5 br)
theorem ku{B k A:Fa}{P:List Fa}{a:Scope}{a6:Me}{x z0:qa}{M':List qa}{ix:List Nat}{R:Ev->M NX}{tg:D->Ev->Option Ev}{fi:Ev->M Bool}{W:Ev->M D}
  (hc:X.Vh=true) (L:Dp X x M' ix a) (N:Ky T X A k R)
  (a4:∀ cl C d c ex,FG T (Vv X (x::z0::M') a cl C d c ex) A tg)
  (a0:∀ cl C d c ex,uF T (Vv X (x::z0::M') a cl C d c ex) P fi)
  (F:∀ cl C d c ex,FE T (Vv X (x::z0::M') a cl C d c ex) B W)
  (hs:∀ y,Sh k X.env y=pure y:=by intro _;rfl) :
  FE T X (.ListComp B [⟨A,k,P,0⟩] a a6) (wj R ix tg fi W):=by
 intro w s st H Q I h;obtain⟨U,ρ,σ,hE,hr,hp⟩:=h;refine Tv rfl hs (aK X.env a (dB I L)) L.kind (λy hy e=>?_) ?_
 ·have q:=Dc.mp L.names y hy;rw[e]at q;exact eq_of_beq q
 have h1:=N w s st H (λJ m=>∃ nx f g,Se U H f m/\ee T f m g/\eB T f m nx J/\Zb T (XE X st) (Ia T) f m (Ld (Wj nx g.length tg fi W 1001 0 (iw ix ρ)) (λ_=>ret (.ref g.length)) (g++[Ob.Ca []])) Q) I
  ⟨U,ρ,σ,hE,hr,hp.bind λnx a8 a7 J H1 _ e1 r1 q1 p1=>⟨nx,a7,a8,e1,r1,q1,p1⟩⟩
 refine Re h1 λv s1 h2=>Re h2 λa9 l h3=>?_;obtain⟨it,fp,tn,J,m,rfl,I2,TT,S,f2,nx,f,g,V,r2,so,p2⟩:=h3;refine Hc (Sm (uD L) (by intro y hy;simp at hy) (λO t u=>?_) L.kind);have I3:=I2.VA (t':=l.toks) .nil (by simp);have E:m l.heap.objs.size=none:=I2.md.fresh (wa _);have r3:=r2.push (ob:=.Ca []) E ⟨[],Hh,gb.nil⟩;have z:Se f m (f++[l.heap.objs.size]) (ic m l.heap.objs.size (.Ca [])):=Sy E;have a3:l.heap.objs.size<(l.heap.push { cls:=.type "list",data:=.seq [].toArray }).objs.size:=by rw[Cd];exact Qb _
 have kp:∀ b o,(l.heap.push { cls:=.type "list",data:=.seq [].toArray }).get? b=some o->O.get? b=some o:=λb o e=>u.extBut b o (ya (va e)) (ba _ e);have j:∀ b∈fp,yn X w (ic m l.heap.objs.size (.Ca [])) b/\b<(l.heap.push { cls:=.type "list",data:=.seq [].toArray }).objs.size:=λb p=>by
  obtain⟨o,e,_⟩:=TT.obj 0 _ S b p;have lt:=va e;exact⟨⟨by rw[Le (ya lt)];exact(f2 b p).1,(f2 b p).2⟩,Ku lt a3⟩
 refine sT (n:=g.length) (D0:=l.heap.objs.size) hc L a4 a0 F I3 j t kp TT (TT.keep 0 _ _ S λb p o e=>kp b o (ba _ e))
  (λU H σ i ex r=>so U H σ i (z.trans ex) r) ((hE.mono V).mono z) r3 (by rw[<-r2.len];simp) (p2.mono z) (λs6 H' m6 a1 Y a5 a2 G Z hq=>⟨m6,a1,λh7 K=>?_⟩)
 have hu:=l6 a5 K (wa _);have I7:=L2.Qa.Gw (s':={ s6 with heap:=h7 }) (ch:=fp) I3 a2 hu (ο G K Y) Z (λb p=>⟨(j b p).1.2.2.2.1,(j b p).1.2.1,(j b p).1.2.2.2.2.1,(j b p).1.2.2.2.2.2⟩);exact⟨.ref l.heap.objs.size,H',I7,rfl,hq⟩
end
def OM(K:W.Frag)(b:qa->Option Value)(x:qa)(c:List qa):Prop:=∃ a,b x=some (.ref a)/\YE K a c
noncomputable def jB:List Value->List qa->Bool
 |[],[]=>true
 | .str y _::a,x::ss=>(y == x) && jB a ss
 |_,_=>false
def jK(K:W.Frag)(a:Addr)(c:List qa):Bool:=match K.lookup a with
 |some o=>(o.cls == .type "tuple") && (match o.data with
  | .seq b _=>decide (b.size<=sizeLine) && jB b.toList c
  |_=>false)
 |none=>false
theorem iW:∀ {a:List Value} {ss:List qa},jB a ss=true->jf (ss.map V.str) a
 |[],[],_=>.nil
 |[],_::_,h=>by simp[jB]at h
 |v::a,[],h=>by cases v<;>simp[jB]at h
 |v::a,x::ss,h=>by
  cases v with
  |str y t=>
   simp only[jB,Ea]at h;obtain rfl:=eq_of_beq h.1;exact .cons ⟨t,rfl⟩ (iW h.2)
  |_=>simp[jB]at h
theorem YE.of{K:W.Frag}{a:Addr}{f:List qa}(h:jK K a f=true):YE K a f:=by
 unfold jK at h;cases e:K.lookup a with
 |none=>rw[e]at h;cases h
 |some o=>
  rw[e]at h;simp only[Ea]at h;obtain⟨g,b⟩:=h;cases c:o.data with
  |seq d n=>
   rw[c]at b;simp only[Ea,Kc]at b;exact⟨o,d,n,e,eq_of_beq g,c,b.1,iW b.2⟩
  |_=>rw[c]at b;cases b
section
variable{T:Tb}{X:Cx}{e:Fa}{f:Ev->M D}{x:qa}{p pos:Me}{ss:List qa}
end
section
variable{T:Tb}{X:Cx}
end
theorem XZ{K:W.Frag}{c:qa->Option Value}{h:Heap}{x:qa}{C:Addr}{d:List qa}(X:K.In h)(G:h.Ns mainGlobals c)(a:W.nsIn K mainGlobals x=some (some (.ref C)))(b:jK K C d=true):OM K c x d:=⟨C,Qv X G a,YE.of b⟩
section
variable{T:Tb}{X:Cx}
end
section
variable{T:Tb}{X:Cx}
end
section
variable{prog:za}{w:Ma}{A:Ha}{E:Value->Shared->Prop}{l q I S:Addr}{n:Nat}{P:Nat->Value->Prop}{R:Mp->Shared->Prop}{Q:Value->Shared->Prop}
theorem O8(G:Nat->Value->Int->Shared->Prop)(hh:A.handled=none)(Z:l≠I)(H:S≠I)(a8:l≠S)
  (hl:∀ j d a s,G j d a s->∃ y:List Value,y.length=n/\(∀ (j:Nat) v,y[j]?=some v->P j v)/\s.heap.IsList l y.toArray)
  (u:∀ j d a s B tk,G j d a s->(∀ b o,b≠I->b≠S->s.heap.get? b=some o->B.get? b=some o)->G j d a { s with heap:=B,toks:=tk })
  (a5:∀ j d a s v oI oS,G j d a s->P j v->s.heap.get? I=some oI->s.heap.get? S=some oS->(∀ v,oI.data≠.cell v)->(∀ v,oS.data≠.cell v)->
   wpAny (model prog w) A.in1 (call (.ref q) [v]) (λx s'=>∃ k t,x=.int k t/\s'.heap.get? I=some oI/\s'.heap.get? S=some oS/\G (j+1) (if k<a then v else d) (if k<a then k else a) s') (λ_ _=>False) s)
  (hR:∀ d a s,G n d a s->R (.ok (.ret d)) s) :
  ∀ (r j:Nat) (s:Shared) (d:Value) (a:Int) (tb:Tok) (c:Nat),n - j=r->j<=n->G j d a s->s.heap.get? S=some (ck "list" #[d,.int a tb] c)->s.heap.IsListIter I l j->
   codeAny (model prog w) A (.builtin "min.loop" ⟨[.ref I,.ref q,.ref S],[]⟩) R s:=by
 have a7:(toString "min"++toString ".loop" : String) = "min.loop":=by decide
 intro r;induction r with
 |zero=>
  intro j s d a tb c hr hj g V hit;have X:j=n:=by omega
  obtain⟨y,O,a3,K⟩:=hl j d a s g;have W:=lm (prog:=prog) (w:=w) (A:=A.in1) hh I l Z y.toArray;have N:y.toArray.size=n:=(Aa ..).trans O;refine qd sj ?_;rw[Around.under_plainId Xf _];show wpAny _ A.in1 (seqItems? (.ref S) >>= _) _ _ _;refine aa (Qh V rfl ?_);show wpAny _ A.in1 (tryCatch (pyNext (.ref I)) _ >>= _) _ _ _;refine aa (Rh (W.done _ _ _ ⟨by rw[N,<-X];exact hit,K⟩ λB a4 J=>?_));have m:∀ b o,b≠I->s.heap.get? b=some o->B.get? b=some o:=λb o n e=>J b o (by simpa using n) e;have D:=m S _ H V;have s1:=pc B S (rf λ_=>(#[]:Array Value));refine aa ?_;refine Li D rfl (aa (ft (da ?_)));subst X;exact hR d a _ (u _ _ _ s _ _ g λb o n1 n2 e=>by rw[s1.2 b n2];exact m b o n1 e)
 |succ r ih=>
  intro j s d a tb c hr hj g V hit;have L:j<n:=by omega
  obtain⟨y,O,a3,K⟩:=hl j d a s g;have W:=lm (prog:=prog) (w:=w) (A:=A.in1) hh I l Z y.toArray;have N:y.toArray.size=n:=(Aa ..).trans O;refine qd sj ?_;refine aa (Qh V rfl ?_);refine aa (Rh (W.item j _ _ _ (by rw[N];exact L) ⟨hit,K⟩ λv B a4 hP a2 J=>?_));have m:∀ b o,b≠I->s.heap.get? b=some o->B.get? b=some o:=λb o n e=>J b o (by simpa using n) e;have hv:P j v:=a3 j v (by simpa using hP);obtain⟨Q,a0,a1,M⟩:=id a2.1;have g1:=u _ _ _ s B a4 g λb o n1 n2 e=>m b o n1 e;have D:=m S _ H V;refine aa (Rh (Ac (Xb (a5 j d a _ v Q _ g1 hv a0 D (λv z=>by rw[M]at z;cases z) (λv z=>by cases z)) (λx p he=>?_) λ_ _ hF=>hF.elim)));obtain⟨C,T,rfl,U,E,g2⟩:=he;have Y:p.heap.IsListIter I l (j+1):=⟨Q,U,a1,M⟩
  refine aa (Rh (Ac (aa (CmpOf.ints_lt (prog:=prog) (w:=w) (A:=A.in1) (P:=λ(i:Nat) v=>∃ t,v=.int (if i=0 then C else a) t) (λi=>if i=0 then C else a) (λi v h=>h) 0 1 _ _ _ _ _ ⟨T,rfl⟩ ⟨tb,rfl⟩ ?_))));refine aa (Ac (Zc ?_));refine aa (ft (da ?_));by_cases f:C<a
  ·have s1:=pc p.heap S (rf λ_=>#[v,.int C T]);obtain⟨c2,a6⟩:∃ c2,(p.heap.update S (rf λ_=>#[v,.int C T])).get? S=some (ck "list" #[v,.int C T] c2):=⟨_,dJ E λ_=>#[v,.int C T]⟩
   rw[ja f,ja f]at g2;simp only[f,decide_true,vm,wA,Zs];refine aa ?_;refine Li E rfl (aa (ft ?_));refine da ⟨tf Xf _,ih (j+1) _ v C T c2 (by omega) L (u _ _ _ p _ _ g2 λb o n1 n2 e=>by rw[s1.2 b n2];exact e) a6 ⟨Q,(s1.2 I H.symm).trans U,a1,M⟩⟩
  ·rw[ua f,ua f]at g2;simp only[f,decide_false,xm,Zs,vm,wA];refine aa (ft ?_);exact da ⟨tf Xf _,ih (j+1) _ d a tb c (by omega) L (u _ _ _ p _ _ g2 λb o _ _ e=>e) E Y⟩
theorem ŏ(V:Shared->Prop)(G:Addr->Addr->Nat->Value->Int->Shared->Prop){s:Shared}(hh:A.handled=none)(g0:V s){h:List Value}(a8:h.length=n)(a7:∀ (j:Nat) v,h[j]?=some v->P j v)(i:s.heap.IsList l h.toArray)(K:0<n)
  (Y:∀ s h' tk,V s->(∀ b o,s.heap.get? b=some o->h'.get? b=some o)->V { s with heap:=h',toks:=tk })
  (first:∀ (I S:Addr) (d:Shared) v oI m,s.heap.objs.size<=I->s.heap.objs.size<=S->S≠I->(∃ s0,V s0/\(∀ b o,b≠I->s0.heap.get? b=some o->d.heap.get? b=some o)/\(d={ s0 with heap:=d.heap,toks:=d.toks }))->P 0 v->d.heap.get? I=some oI->d.heap.get? S=some m->(∀ v,oI.data≠.cell v)->(∀ v,m.data≠.cell v)->
   wpAny (model prog w) A.in1 (call (.ref q) [v]) (λx p=>∃ k t,x=.int k t/\p.heap.get? I=some oI/\p.heap.get? S=some m/\G I S 1 v k p) (λ_ _=>False) d)
  (hl:∀ I S j c a s,G I S j c a s->∃ h:List Value,h.length=n/\(∀ (j:Nat) v,h[j]?=some v->P j v)/\s.heap.IsList l h.toArray)
  (J:∀ I S j c a s h' tk,G I S j c a s->(∀ b o,b≠I->b≠S->s.heap.get? b=some o->h'.get? b=some o)->G I S j c a { s with heap:=h',toks:=tk })
  (U:∀ I S j c a s v oI m,G I S j c a s->P j v->s.heap.get? I=some oI->s.heap.get? S=some m->(∀ v,oI.data≠.cell v)->(∀ v,m.data≠.cell v)->
   wpAny (model prog w) A.in1 (call (.ref q) [v]) (λx p=>∃ k t,x=.int k t/\p.heap.get? I=some oI/\p.heap.get? S=some m/\G I S (j+1) (if k<a then v else c) (if k<a then k else a) p) (λ_ _=>False) s)
  (hQ:∀ I S c a s,G I S n c a s->Q c s) :
  wpAny (model prog w) A (call (.builtin "min") [.ref l] [(zo "key",.ref q)]) Q E s:=by
 obtain⟨ol,a5,_⟩:=id i;have H:=va a5;refine kmk_tree PySem.F.kind_min PySem.F.plain_min PySem.F.entry_min (kmk_min_key _ _) ?_;refine aa (vz (rfl) ?_);refine aa (da ?_);refine aa (Rj i ?_);refine aa (Sv ?_ (ij _));have hS:(s.heap.push { cls:=.type "list_iterator",data:=.fields #[.ref l,.int 0 0] }).objs.size=s.heap.objs.size+1:=NB ..;have D:=ya H;have f:(s.heap.push { cls:=.type "list_iterator",data:=.fields #[.ref l,.int 0 0] }).objs.size≠s.heap.objs.size:=by rw[hS];exact gf (Qb _)
 have a3:l≠(s.heap.push { cls:=.type "list_iterator",data:=.fields #[.ref l,.int 0 0] }).objs.size:=by rw[hS];exact ya (Rb H)
 have y:s.heap.objs.size<=(s.heap.push { cls:=.type "list_iterator",data:=.fields #[.ref l,.int 0 0] }).objs.size:=by rw[hS];exact jj _
 refine da ⟨tf Xf _,?_⟩;have gI:((s.heap.push { cls:=.type "list_iterator",data:=.fields #[.ref l,.int 0 0] }).push (ck "list" #[] 0)).get? s.heap.objs.size=some { cls:=.type "list_iterator",data:=.fields #[.ref l,.int 0 0] }:=
  ba _ (Ba _ rfl)
 have gS:((s.heap.push { cls:=.type "list_iterator",data:=.fields #[.ref l,.int 0 0] }).push (ck "list" #[] 0)).get? (s.heap.push { cls:=.type "list_iterator",data:=.fields #[.ref l,.int 0 0] }).objs.size=some (ck "list" #[] 0):=Ba _ rfl;have C:∀ b o,s.heap.get? b=some o->((s.heap.push { cls:=.type "list_iterator",data:=.fields #[.ref l,.int 0 0] }).push (ck "list" #[] 0)).get? b=some o:=λb o e=>ba _ (ba _ e);generalize (s.heap.push { cls:=.type "list_iterator",data:=.fields #[.ref l,.int 0 0] }).objs.size=S at *;generalize ((s.heap.push { cls:=.type "list_iterator",data:=.fields #[.ref l,.int 0 0] }).push (ck "list" #[] 0))=hp at *;have W:=lm (prog:=prog) (w:=w) (A:=A.in1) hh s.heap.objs.size l D h.toArray;have a6:=(Aa ..).trans a8;refine qd sj ?_;refine aa (Qh gS rfl ?_);refine aa (Rh (W.item 0 _ _ _ (by rw[a6];exact K) ⟨⟨_,gI,rfl,rfl⟩,i.at λo e=>C _ _ e⟩ λv h' a9 hP N a2=>?_));have B:=λb o n e=>a2 b o (by simpa using n) e;have hv:=a7 0 v (by simpa using hP);obtain⟨R,L,a4,M⟩:=id N.1;have a0:=B S _ f gS;refine aa (Rh (Ac (Xb (first s.heap.objs.size S _ v R _ (wa _) y f ⟨{ s with heap:=hp,toks:=s.toks },Y s hp _ g0 C,λb o n e=>B b o n e,rfl⟩ hv L a0 (λv z=>by rw[M]at z;cases z) (λv z=>by cases z)) (λx r he=>?_) λ_ _ hF=>hF.elim)));obtain⟨O,T,rfl,Z,u,g2⟩:=he;have d:=pc r.heap S (rf λ_=>#[v,.int O T]);obtain⟨X,a1⟩:∃ X,(r.heap.update S (rf λ_=>#[v,.int O T])).get? S=some (ck "list" #[v,.int O T] X):=⟨_,dJ u λ_=>#[v,.int O T]⟩
 refine aa ?_;refine Li u rfl ?_;exact da ⟨tf Xf _,O8 (G _ _) hh D f a3 (hl _ _) (J _ _) (U _ _) (λc a s g=>hQ _ _ c a s g) _ 1 _ v O T X rfl K (J _ _ _ _ _ r _ _ g2 λb o n1 n2 e=>by rw[d.2 b n2];exact e) a1 ⟨R,(d.2 _ f.symm).trans Z,a4,M⟩⟩
end
noncomputable def OD(X:Cx)(A:Ha)(d:List qa)(b:qa)(a:Scope)(q:Addr)(c:Value)(cl:List (qa × Addr))(s₀:Shared)(H₀:Hp):Cx:=
 { X with A:=A.deeper (W.envX b a s₀.heap.objs.size q c cl),N:=d,s₀:=s₀,H₀:=H₀,env:=W.envX b a s₀.heap.objs.size q c cl,outer:=X.stack,stack:=W.envX b a s₀.heap.objs.size q c cl::X.stack,ex:=[],fn:=λ_=>false,Vh:=true,pn:=[],xe:=λ_ _=>False }
noncomputable def DM(a:List Nat)(d:D)(b:Ev):Ev:=some d::a.map λi=>(b[i]?).getD none
noncomputable def XD(a:List Nat)(v:V)(b:St):St:=some v::a.map λi=>(b[i]?).getD none
theorem O0{T:Tb}{b:List Addr}{H:Hp}{e:Ev}{c:St}{d:D}{v:V}(a:List Nat)(h:ni T b H e c)(f:Ia T b H d v):ni T b H (DM a d e) (XD a v c):=by
 have z:=(qO a h).set 0 f;exact z
section
variable{X:Cx}{pins:List (Addr × Obj)}{st:St}{H:Hp}{s:Shared}{x:qa}{M':List qa}{ix:List Nat}{scope:Scope}{A:Ha}{qual:qa}{q:Addr}{cd:Value}{v:V}{u:Value}
theorem T8(I:Qa X pins st H s)(L:Dp X x M' ix scope)(hx:scope.names.lookup x=some .local)(hA:A.frames=some X.stack)(M:A.handled=none)(rv:ie v u){h':Heap}{t':Nat}{m:qa->Option Value}(P:h'.Ns s.heap.objs.size m)(hm:m x=some u)
  (E:∀ b o,s.heap.get? b=some o->h'.get? b=some o) :
  Qa (OD X A (x::M') qual scope q cd (Kk X.env scope.names []) s H) [] (XD ix v st) H { s with heap:=h',toks:=t' }:=by
 have f:∀ n c,(Kk X.env scope.names []).lookup n=some c->X.env.cells.lookup n=some c:=λn c e=>vK X.env scope.names [] n c (λ_ _ q=>by simp at q) e;have r:H s.heap.objs.size=none:=I.md.fresh (wa _);have t:∀ b:Addr,b ∉ (OD X A (x::M') qual scope q cd (Kk X.env scope.names []) s H).ex:=λb z=>absurd (show b∈[]from z) (by simp);refine⟨⟨I.ok.mod,L.kind,rfl,rfl,wa _,λa b c h1 h2=>I.ok.inj a b c (f a c h1) (f b c h2),λa ha=>?_,λa c h=>(by cases h),λ_=>M,fu hA,.inr ⟨rfl,rfl⟩,λb J=>absurd J (t b),λb o e=>I.bs b o e,Wb I.ok.su I.sz,λb o e=>t b,λb J=>absurd J (t b),I.stack,I.Vl⟩,
  rfl,I.bare,Un.kept E,⟨m,P,λi y C S T e3=>?_⟩,λa c e=>?_,r,λa c e=>I.lh a c (f a c e),λp hp=>absurd (show p∈[]from hp) (by simp),I.md.kept E,?_⟩
 ·have G:scope.names.lookup a=some .cell\/scope.names.lookup a=some .free:=ha;rcases G with z|z
  ·exact absurd rfl (uD L _ (Fx z))
  ·exact JD X.env scope.names [] a (Fx z) (dB I L _ (Fx z) rfl)
 ·cases i with
  |zero=>
   have g:some x=some y:=S;have d:some (some v)=some (some C):=T;cases g;cases d;exact⟨u,rv,.inl ⟨hx,hm⟩⟩
  |succ j=>
   have g:M'[j]?=some y:=S;have d:(ix.map λi=>(st[i]?).getD none)[j]?=some (some C):=T;rw[Xa]at d;cases F:ix[j]? with
   |none=>rw[F]at d;cases d
   |some B=>
    rw[F]at d;have D:(st[B]?).getD none=some C:=Ya d;have Y:st[B]?=some (some C):=by
     cases q:st[B]? with
     |none=>rw[q]at D;cases D
     |some o=>rw[q]at D;exact Ef some D
    have Z:X.N[B]?=some y:=by
     have z:=Ef (λl=>l[j]?) L.at_;simp only[Xa,F,g]at z;exact Ya z
    have q:=Dc.mp L.yR y (La g);simp only[Ea,di]at q;have V:X.env.scope.names.lookup y=some .cell\/X.env.scope.names.lookup y=some .free:=by
     rcases q.1 with z|z
     ·exact .inl (eq_of_beq z)
     ·exact .inr (eq_of_beq z)
    have R:scope.names.lookup y=some .free:=eq_of_beq q.2;obtain⟨m0,a0,O⟩:=I.loc;obtain⟨u2,ru,lu⟩:=O B y C Z Y (by rcases V with z|z;exact .inr (.inl z);exact .inr (.inr z));refine⟨u2,ru,.inr ⟨.inr R,?_⟩⟩;rcases lu with⟨z,_⟩|⟨_,c,ec,zc⟩
    ·rcases V with k|k
     ·rw[show X.env.kindOf y=X.env.scope.names.lookup y from rfl,k]at z;cases z
     ·rw[show X.env.kindOf y=X.env.scope.names.lookup y from rfl,k]at z;cases z
    ·obtain⟨W,w⟩:=JD X.env scope.names [] y (Fx R) (dB I L _ (Fx R) rfl);have U:=f y W w;rw[ec]at U;cases U;obtain⟨o,Q,K⟩:=zc;exact⟨c,w,o,E _ _ Q,K⟩
 ·obtain⟨v,o,Q,K⟩:=I.cell a c (f a c e);exact⟨v,o,E _ _ Q,K⟩
 ·have z:=Ef List.length L.at_;simp[XD,OD];simpa using z
theorem P8{d:qa}{a:Arguments}{c:Fa}{F i:Value}{h:Addr}{t:TE}{Q:VK}(I:Qa X pins st H s)(L:Dp X x M' ix scope)(D:scope.names.lookup x=some .local)(N:A.frames=some X.stack)(p:A.handled=none)(n:A.depth<recursionLimit)
  (P:s.heap.get? q=some (W.kla_obj d qual a c scope (Kk X.env scope.names []) F h i)) (l:s.heap.CodeRec (.ref h) qual)
  (f:bindArgs (W.kla_fn d qual a c scope (Kk X.env scope.names []) F (.ref h) i) ⟨[u],[]⟩=pure [(x,u)]) (m:scope.isCoroutine=false) (j:scope.isGenerator=false) (U:ie v u)
  (O:PE (OD X A (x::M') qual scope q (.ref h) (Kk X.env scope.names []) s H) c t) (S:t (XD ix v st) H Q) :
  wpAny (model X.prog X.w) A (call (.ref q) [u]) (λr G=>CE X.stack X.prog X.w H s Q r G) (λ_ _=>False) s:=by
 refine Ju (W.kla_callFunE n P rfl m j rfl l ?_);rw[f];refine da (Sm (uD L) (λy T=>?_) (λE B k=>⟨?_,?_⟩) L.kind)
 ·have e:y=(x,u):=by simpa using T
  subst e;exact D
 ·exact(I.nolimit).fresh _ k
 ·have g:=λb o e=>k.extBut b o (ya (va e)) (ba _ e);refine W.kla_codeExpr ?_;have M:=T8 (qual:=qual) (q:=q) (cd:=.ref h) (t':=s.toks+1) I L D N p U B (by simp) g;refine Xb (O [] _ (XD ix v st) H Q M S) (λY G z=>?_) λ_ _ z=>z.elim;obtain⟨V,K,J,C,R⟩:=z;exact⟨V,K,J.os,J.bare,J.base,J.md,C,R⟩
end
noncomputable def DD(K:W.Frag)(c P:Addr):Bool:=match K.lookup c with
 |some o=>(match o.cls,o.data with
  | .type n,.fields a=>n == "code" && (match (a[11]?:Option Value)with|some (.ref p)=>p == P|_=>false) && (match a.getD 11 .none with | .ref p=>p == P|_=>false) && (match a.getD 18 .none with | .str _ _=>true|_=>false) &&
   (match a.getD 7 .none with | .int _ _=>true|_=>false) && (match a.getD 9 .none with | .bool _=>true|_=>false) && (match a.getD 10 .none with | .int _ _=>true|_=>false) && (c != P)
  |_,_=>false)
 |none=>false
theorem S5{K:W.Frag}{h:Heap}{c P:Addr}(X:K.In h)(e:DD K c P=true):W.CodeHd h c P:=by
 unfold DD at e;split at e
 ·next o v=>
  split at e
  ·next n F t u=>
   simp only[Ea]at e;obtain⟨⟨⟨⟨⟨⟨⟨j,a⟩,b⟩,d⟩,f⟩,g⟩,i⟩,k⟩:=e;split at a;case h_2=>cases a
   next p2 l=>
   split at b;case h_2=>cases b
   next p3 m=>
   split at d;case h_2=>cases d
   next y C p=>
   split at f;case h_2=>cases f
   next z D q=>
   split at g;case h_2=>cases g
   next A r=>
   split at i;case h_2=>cases i
   next B E s=>
   have w:=eq_of_beq a;have x:=eq_of_beq b;subst w;subst x;have q1:=eq_of_beq j;subst q1;exact⟨o,F,y,C,z,D,A,B,E,X _ _ v,t,u,l,m,p,q,r,s,by simpa using k⟩
  ·cases e
 ·cases e
theorem gY{X:Cx}{i:List (Addr × Obj)}{F:St}{H:Hp}{s:Shared}{P f:Addr}{l a:Array Value}{d:qa}{h':Heap}{tk:Nat}(I:Qa X i F H s)(h:H P=some (.eo l))(A:Pp P s.heap h')(p:s.heap.objs.size<=f)(O:f<h'.objs.size)
  (r:nw d f h') (w:h'.get? P=some (W.tabObj (l++a))) :
  Qa X i F (ic (ic H P (.eo (l++a))) f (.ext (nw d f))) { s with heap:=h',toks:=tk }:=by
 have j:=I.md.fresh p;have C:f≠P:=λz=>by rw[z,h]at j;cases j
 have B:∀ b,H b=none->b≠P:=λb n z=>by rw[z,h]at n;cases n
 have x:∀ b u,H b=some u->b≠P->ic (ic H P (.eo (l++a))) f (.ext (nw d f)) b=some u:=λb u e n=>by
  rw[Le (rs e j),Le n];exact e
 have R:ic (ic H P (.eo (l++a))) f (.ext (nw d f)) P=some (.eo (l++a)):=by rw[Le C.symm,Hh]
 refine I.un ⟨λb o e n _ _=>A b o (B b n) e,λb o e n _ _=>⟨o.slots,A b o (B b n) e⟩,λb o e n _=>?_,λb o e _=>?_,λb xs e=>x b _ e (λz=>by rw[z,h]at e;cases e),λb o u e=>x b _ e (λz=>by rw[z,h]at e;cases e),λb T e=>?_⟩ λb u e=>?_
 ·have:b≠f:=λz=>by subst z;exact absurd (va e) (vx.mpr p)
  rw[Le this,Le (B b n)];exact n
 ·by_cases g:b=P
  ·subst g;exact⟨_,w⟩
  ·exact⟨o,A b o g e⟩
 ·by_cases g:b=P
  ·subst g;rw[h]at e;cases e;exact⟨a,R⟩
  ·exact⟨#[],by rw[Array.append_empty];exact x b _ e g⟩
 ·by_cases m:b=f
  ·subst m;rw[Hh]at e;cases e;obtain⟨o,S,t,E,L,M⟩:=r;exact⟨⟨o,S,t,E,L,M⟩,⟨o,E⟩,λa1 a2 ⟨Q,D,t',G,J,K⟩ k=>⟨Q,D,t',k _ G,J,K⟩⟩
  ·rw[Le m]at e;by_cases g:b=P
   ·subst g;rw[Hh]at e;cases e;exact w
   ·rw[Le g]at e;refine(I.md b u e).cm (λc v N q=>A c v ?_ q) (λc q=>x c _ q (λz=>by rw[z,h]at q;cases q)) λc xs q=>x c _ q (λz=>by rw[z,h]at q;cases q);rcases N with z|z
    ·rw[z];exact g
    ·intro y;rw[y,h]at z;cases z
section
variable{T:Tb}{X:Cx}{pins:List (Addr × Obj)}{st:St}{H:Hp}{s:Shared}{μ:List Addr}{σ:xb}{x:qa}{M':List qa}{ix:List Nat}{scope:Scope}{params:Arguments}{body:Fa}{pos:Me}{c:Addr}{t:Tab}
structure Az(T:Tb)(X:Cx)(t:Tab)(c:Addr)(pos:Me):Prop where
 mem:t∈T.tx.Wt
 inj:∀ t'∈T.tx.Wt,t'.P=t.P->t'=t
 code:X.env.code=.ref c
 hd:DD X.K c t.P=true
 line:t.line=pos.line
 col:t.col=pos.col
 qual:t.qual=X.env.qual++"<lambda>"
 bm:X.mg "__builtins__" = some (.ref T.tx.bm)
 bb:T.tx.bm≠builtinsNs
theorem R8(I:Qa X pins st H s)(L:Dp X x M' ix scope)(r:ee T μ H σ)(g:Az T X t c pos)(M:defaultsOf params X.env=([],[])) :
  wpAny (model X.prog X.w) X.A (Ib (.Lambda params body scope pos) X.env) (λv s'=>∃ q d i B,v=.ref q/\Qa X ((q,W.kla_obj "<lambda>" t.qual params body scope (Kk X.env scope.names []) ((X.mg "__name__").getD .none) d i)::pins) st B s'/\Se μ H μ B/\ee T μ B σ/\d ∉ μ/\B d=some (.ext (nw t.qual d))) X.xe s:=by
 obtain⟨⟨b3,b5,V⟩,U,ps,E,a9⟩:=r.tb t g.mem;have j:s.heap.get? t.P=some (W.tabObj ps):=I.md _ _ E;have l:s.heap.Ns mainGlobals X.mg:=I.ok.mod.glob.keeps I.bk;have a7:mainGlobals≠t.P:=λz=>by
  obtain⟨o,es,ep,e,hd,_⟩:=l;rw[z,j]at e;cases e;cases hd
 obtain⟨_,⟨ob,S,o2,o3,o4⟩,_⟩:=I.md _ _ V;have G:T.tx.bm≠t.P:=λz=>by rw[z,j]at S;cases S;cases o2
 have Y:T.tx.bm≠mainGlobals:=λz=>by
  obtain⟨o,es,ep,e,hd,_⟩:=l;rw[z,e]at S;cases S;rw[hd]at o4;cases o4
 have hB:s.heap.BuiltinsAt X.mg t.P:=⟨T.tx.bm,ob,g.bm,g.bb,Y,G,S,o2,o3,o4⟩
 have K:=aK X.env scope (dB I L);have C:W.CodeHd s.heap c t.P:=(S5 I.ok.mod.Ex g.hd).keeps I.bk;have f:∀ {h':Heap} {y:Nat} {B:Hp} {o:Obj},Qa X pins st B { s with heap:=h',toks:=y }->o.isFreed=false->(∀ v,o.data≠.cell v)->Qa X ((h'.objs.size,o)::pins) st B { s with heap:=h'.push o,toks:=y }:=fun {h' y B o} J hf hc=>by
  have J2:=J.kept (h':=h'.push o) (t':=y) λb u e=>ba _ e;refine J2.fk λp m=>?_;rcases Da.mp m with rfl|m
  ·exact⟨Ba _ hf,J.md.fresh (wa _),gf J.lt,J.vD (wa _),hc⟩
  ·exact J2.pin p (Pa _ m)
 refine W.kla_eval M ?_;rw[<-g.qual];rcases a9 with rfl|⟨c1,rfl,Z,a0⟩
 ·refine W.kla_makeFunction K I.ok.glob l g.code C j trivial rfl a7 hB λd i h' y hx N a8 O b0=>?_;have a6:nw t.qual d h':=by
   obtain⟨c2,o,vs,tt,e,h1,h2,h3⟩:=O;cases e;exact⟨o,vs,tt,h1,h2,h3⟩
  have J:=gY (tk:=y) I E hx N a8 a6 b0;have k:H d=none:=I.md.fresh N;have b1:d≠t.P:=λz=>by rw[z,E]at k;cases k
  have D:d ∉ μ:=λz=>by obtain⟨u,R,_⟩:=r.mem z;rw[k]at R;cases R
  have F:∀ b u,H b=some u->b≠t.P->ic (ic H t.P (.eo (#[]++#[Nc pos.line,Nc pos.col,.ref d]))) d (.ext (nw t.qual d)) b=some u:=λb u e n=>by
   rw[Le (rs e k),Le n];exact e
  have uP:ic (ic H t.P (.eo (#[]++#[Nc pos.line,Nc pos.col,.ref d]))) d (.ext (nw t.qual d)) t.P=some (.eo (#[]++#[Nc pos.line,Nc pos.col,.ref d])):=by rw[Le b1.symm,Hh]
  have uc:ic (ic H t.P (.eo (#[]++#[Nc pos.line,Nc pos.col,.ref d]))) d (.ext (nw t.qual d)) d=some (.ext (nw t.qual d)):=Hh;have e:Se μ H μ (ic (ic H t.P (.eo (#[]++#[Nc pos.line,Nc pos.col,.ref d]))) d (.ext (nw t.qual d))):=by
   refine⟨⟨[],by simp⟩,λp xs h=>F p _ h (λz=>by rw[z,E]at h;cases h),λp o u h=>F p _ h (λz=>by rw[z,E]at h;cases h),λp o h n=>⟨?_,n⟩⟩;by_cases m:p=t.P
   ·subst m;rw[E]at h;cases h;exact⟨_,uP,.inr (.inr ⟨_,_,rfl,rfl⟩)⟩
   ·exact⟨o,F p o h m,.inl rfl⟩
  refine⟨_,d,i,_,rfl,f J rfl (λv z=>by cases z),e,r.keep e (λa ha=>?_) λt' Q=>?_,D,uc⟩
  ·obtain⟨u,R,_⟩:=r.mem ha;rw[R];exact F a u R λz=>U (by rw[<-z];exact ha)
  ·obtain⟨⟨a1,b2,a2⟩,a3,qs,a4,a5⟩:=r.tb t' Q;refine⟨⟨a1,b2,F _ _ a2 G⟩,a3,?_⟩;by_cases m:t'.P=t.P
   ·have et:=g.inj t' Q m;subst et;exact⟨_,uP,.inr ⟨d,by rw[g.line,g.col];rfl,D,uc⟩⟩
   ·refine⟨qs,F _ _ a4 m,a5.imp id λ⟨c3,z1,z2,z3⟩=>⟨c3,z1,z2,F _ _ z3 (λz=>by rw[z,E]at z3;cases z3)⟩⟩
 ·refine W.kla_makeFunctionHit (cv:=.ref c1) K I.ok.glob l g.code C j ?_ ?_ hB λi h' y hk b4=>?_
  ·exact trivial
  ·rw[g.line,g.col];simp[codeAmong,Nc]
  ·have J:=I.kept (h':=h') (t':=y) hk;exact⟨_,c1,i,H,rfl,f J rfl (λv z=>by cases z),Se.refl _ _,r,Z,a0⟩
end
def cB(a:Ev->M D)(nh:Ev):List D->D->Int->M D
 |[],b,_=>ret b
 |d::ds,b,c=>Ld (eq (a (some d::nh))) λk=>match k with
  | .int k=>if k<c then cB a nh ds d k else cB a nh ds b c
  |_=>Sb
def zC(a:Ev->M D)(nh:Ev)(b:List D):M D:=match b with
 |[.Ca (x::xs)]=>Ld (eq (a (some x::nh))) λk=>match k with
  | .int k=>cB a nh xs x k
  |_=>Sb
 |_=>Sb
def aN(d:List Nat)(b:Ev->M D)(c:Ev->M (List D)):Ev->M D:=λa=>Ld (c a) (zC b (d.map λi=>(a[i]?).getD none))
theorem YR{X:Cx}{a:List (Addr × Obj)}{t:St}{H:Hp}{s:Shared}{h':Heap}{t':Nat}{i j:Addr}(I:Qa X a t H s)(k:∀ b o,b≠i->b≠j->s.heap.get? b=some o->h'.get? b=some o)(g:yn X a H i)(l:yn X a H j):Qa X a t H { s with heap:=h',toks:=t' }:=by
 have f:∀ b u,H b=some u->b≠i/\b≠j:=λb u e=>⟨(λz=>by rw[z,g.1]at e;cases e),(λz=>by rw[z,l.1]at e;cases e)⟩
 have p:∀ {b:Addr},b ∉ [i,j]->b≠i/\b≠j:=fun {b} h=>⟨λz=>h (by simp[z]),λz=>h (by simp[z])⟩
 refine I.step (λb y=>?_) (λb o _ _ d e _=>k b o (p d).1 (p d).2 e) (λb o _ _ d e _=>⟨o.slots,k b o (p d).1 (p d).2 e⟩) (λ_ _ _ _ n=>n)
  (λb o d e=>⟨o,k b o (p d).1 (p d).2 e⟩) (λ_ _ e=>e) (λ_ _ _ e=>e) (λb C e=>⟨#[],by rw[e];simp⟩) (λm A=>?_) (λb u e=>?_) I.bare
 ·have e:b=i\/b=j:=by simpa using y
  rcases e with rfl|rfl
  ·exact⟨g.2.2.2.1,g.2.1,g.2.2.2.2.1,g.2.2.2.2.2⟩
  ·exact⟨l.2.2.2.1,l.2.1,l.2.2.2.2.1,l.2.2.2.2.2⟩
 ·obtain⟨o,x,w,B,r⟩:=A;exact⟨o,x,w,k _ o (Te g.2.1) (Te l.2.1) B,r⟩
 ·refine(I.md b u e).cm (λc v d q=>?_) (λ_ q=>q) λ_ _ q=>q;rcases d with z|z
  ·rw[z]at q ⊢;exact k b v (f b u e).1 (f b u e).2 q
  ·exact k c v (f c _ z).1 (f c _ z).2 q
section
variable{T:Tb}{X:Cx}
theorem Y7{e body:Fa}{l:Arguments}{f:Scope}{b2 a5 kp p:Me}{x:qa}{M':List qa}{ix:List Nat}{fs:Ev->M (List D)}{fe:Ev->M D}{t:Tab}{c:Addr}{k:Nat}
  (O:Ce (k+2) X.A) (L:Dp X x M' ix f) (hx:f.names.lookup x=some .local) (Lm:Az T X t c b2) (hg:Gl X "min") (hm:X.mg "min" = none)
  (c4:defaultsOf l X.env=([],[])) (d4:f.isCoroutine=false) (c5:f.isGenerator=false)
  (b7:∀ (cl:List (qa × Addr)) (pm cd N u:Value),bindArgs (W.kla_fn "<lambda>" t.qual l body f cl pm cd N) ⟨[u],[]⟩=pure [(x,u)])
  (ha:FA T X [e] fs)
  (hb:∀ (A:Ha) (q:Addr) (cd:Value) (b3:Shared) (c1:Hp),Ce k (A.deeper (W.envX t.qual f b3.heap.objs.size q cd (Kk X.env f.names [])))->FE T (OD X A (x::M') t.qual f q cd (Kk X.env f.names []) b3 c1) body fe)
  (he:Bc a5 (la [e] X.env)=(false,Ib e X.env)::Bc a5 (la [] X.env):=by rfl)
  (a9:(Bc a5 (la [e] X.env)).any (·.1)=false:=by rfl) :
  FE T X (.Call (.Name "min" p) [e] [⟨some "key",.Lambda l body f b2,kp⟩] a5) (aN ix fe fs):=by
 intro m s Y H Q I h;refine vg (Gy I hg hm (show bootBuiltins "min" = some (.builtin "min")from rfl) ?_);obtain⟨μ,ρ,σ,hE,hr,hp⟩:=h;refine callWith_kw (Re (ha a5 m s Y H (λvs H1=>∃ G a8 ds,Se μ H G H1/\ee T G H1 a8/\gb T G H1 ds vs/\Zb T (XE X Y) (Ia T) G H1 (zC fe (ix.map λi=>(ρ[i]?).getD none) ds a8) Q) I ⟨μ,ρ,σ,hE,hr,hp.bind λds a8 G vs H1 _ e1 r1 q1 p1=>⟨G,a8,ds,e1,r1,q1,p1⟩⟩) λus s1 ⟨vs,H1,I1,rv,G,a8,ds,e1,r1,q1,p1⟩=>kws_cons (Re (R8 I1 L r1 Lm c4) λlv s2 ⟨q,c',N,H2,c8,I2,e2,r2,d1,d2⟩=>kws_nil ?_)) he a9;subst c8;show wpAny _ _ (call (.builtin "min") us [(zo "key",.ref q)]) _ _ _;have c9:ni T G H2 ρ Y:=(hE.mono e1).mono e2;generalize b9:(ix.map λi=>(ρ[i]?).getD none)=nh at *;obtain⟨x0,xs,rfl⟩:∃ x0 xs,ds=[.Ca (x0::xs)]:=by
  unfold zC at p1;split at p1
  ·exact⟨_,_,rfl⟩
  ·exact p1.elim
 rw[gb]at q1;obtain⟨v0,rr,rfl,q2,q3⟩:=q1;rw[gb]at q3;subst q3;obtain⟨a,ws,rfl,c3,d0,d6⟩:=q2;obtain⟨u0,rfl,d8⟩:=jf.one rv;obtain rfl:u0=.ref a:=d8;have p2:=Zb.mono e2 p1;have b1:H2 a=some (.Ca ws):=(e2.tj _ _ d0 c3).1;have a4:gb T G H2 (x0::xs) ws:=gb.mono e2 _ _ d6;have a0:(x0::xs).length=ws.length:=a4.length;have Ca:∀ {F:Hp} {U:Shared} {pn:List (Addr × Obj)},Qa X pn Y F U->F a=some (.Ca ws)->∃ its:List Value,its.length=ws.length/\(∀ (j:Nat) v,its[j]?=some v->∃ w,ws[j]?=some w/\ie w v)/\U.heap.IsList a its.toArray:=fun {F U pn} J z=>by
  obtain⟨_,its,n,rv,ho⟩:=J.md _ _ z;refine⟨its,rv.length.symm,λj v hv=>?_,⟨_,ho,rfl,⟨_,rfl⟩⟩⟩;have hj:j<ws.length:=by rw[rv.length];exact(na.mp hv).1
  obtain⟨u,hu,ru⟩:=rv.get (i:=j) (x:=ws[j]) (by simp[hj]);rw[hv]at hu;cases hu;exact⟨ws[j],by simp[hj],ru⟩
 have c7:∀ {E:List Addr} {F:Hp} {K:xb} {U:Shared} {d:D} {w:V} {v:Value} {I S:Addr} {oI oS:Obj} {kk:Int->M D},Qa X ((q,W.kla_obj "<lambda>" t.qual l body f (Kk X.env f.names []) ((X.mg "__name__").getD .none) c' N)::m) Y F U->Se G H2 E F->ee T E F K->Ia T E F d w->ie w v->
   yn X ((q,W.kla_obj "<lambda>" t.qual l body f (Kk X.env f.names []) ((X.mg "__name__").getD .none) c' N)::m) F I->yn X ((q,W.kla_obj "<lambda>" t.qual l body f (Kk X.env f.names []) ((X.mg "__name__").getD .none) c' N)::m) F S->
   U.heap.get? I=some oI->U.heap.get? S=some oS->(∀ v,oI.data≠.cell v)->(∀ v,oS.data≠.cell v)->
   Zb T (XE X Y) (Ia T) E F (Ld (eq (fe (some d::nh))) (λk=>match k with | .int k=>kk k|_=>Sb) K) Q->
   wpAny (model X.prog X.w) X.A.in1 (call (.ref q) [v]) (λy a7=>∃ k t',y=.int k t'/\a7.heap.get? I=some oI/\a7.heap.get? S=some oS/\∃ r C B,Qa X ((q,W.kla_obj "<lambda>" t.qual l body f (Kk X.env f.names []) ((X.mg "__name__").getD .none) c' N)::m) Y C a7/\Se E F r C/\ee T r C B/\
    yn X ((q,W.kla_obj "<lambda>" t.qual l body f (Kk X.env f.names []) ((X.mg "__name__").getD .none) c' N)::m) C I/\yn X ((q,W.kla_obj "<lambda>" t.qual l body f (Kk X.env f.names []) ((X.mg "__name__").getD .none) c' N)::m) C S/\Zb T (XE X Y) (Ia T) r C (kk k B) Q) (λ_ _=>False) U:=by
  intro E F K U d w v I S oI oS kk J ex r' rd d9 fI fS gI gS cI cS po;generalize c6:W.kla_obj "<lambda>" t.qual l body f (Kk X.env f.names []) ((X.mg "__name__").getD .none) c' N=ob at *;have b8:U.heap.CodeRec (.ref c') t.qual:=by
   obtain⟨⟨o,e0,tt,h1,h2,h3⟩,_⟩:=J.md _ _ (ex.tj _ _ d2 d1).1;exact⟨c',o,e0,tt,rfl,h1,h2,h3⟩
  have hq:=(J.pin (q,ob) (Pa _ (.head _))).1;have J2:Qa X ((I,oI)::(S,oS)::(q,ob)::m) Y F U:=J.fk λp hp=>by
   rcases Da.mp hp with rfl|hp
   ·exact⟨gI,fI.1,fI.2.1,fI.2.2.1,cI⟩
   ·rcases Da.mp hp with rfl|hp
    ·exact⟨gS,fS.1,fS.2.1,fS.2.2.1,cS⟩
    ·exact J.pin p (Pa _ hp)
  have hd:X.A.in1.handled=none:=O.hd;refine Xb (P8 (A:=X.A.in1) (t:=tF T _ fe) (v:=w) (Q:=λy C=>∃ k r B,y=.int k/\Se E F r C/\ee T r C B/\Zb T (XE X Y) (Ia T) r C (kk k B) Q) J2 L hx J.ok.frames hd (Ce.in1 O).depth (by rw[<-c6]at hq;exact hq) b8 (b7 _ _ _ _ _) d4 c5 d9 (hb _ _ _ _ _ ((Ce.in1 O).deeper _)) ⟨E,DM ix d ρ,K,O0 ix (c9.mono ex) rd,r',?_⟩) (λy a7 d3=>?_) λ_ _ z=>z
  ·unfold DM;rw[b9];refine po.Iw λy B r g C _ b4 c0 d7 b0=>?_;cases y with
   |int k=>
    exact⟨k,r,B,d7,b4,c0,b0⟩
   |_=>exact b0.elim
  ·obtain⟨yv,C,J3,ry,k,r,B,rfl,b4,c0,b0⟩:=J2.after d3;obtain⟨t',rfl⟩:=ry;have pI:=J3.pin (I,oI) (Pa _ (.head _));have pS:=J3.pin (S,oS) (Pa _ (.tail _ (.head _)));have J4:Qa X ((q,ob)::m) Y C a7:=J3.fk λp hp=>J3.pin p (Pa _ (.tail _ (.tail _ hp)));exact⟨k,t',rfl,pI.1,pS.1,r,C,B,J4,b4,c0,⟨pI.2.1,fI.2⟩,⟨pS.2.1,fS.2⟩,b0⟩
 obtain⟨its,hn,hP,d5⟩:=Ca I2 b1;generalize c6:W.kla_obj "<lambda>" t.qual l body f (Kk X.env f.names []) ((X.mg "__name__").getD .none) c' N=ob at *;refine ŏ (n:=ws.length) (P:=λj v=>∃ w,ws[j]?=some w/\ie w v) (λU=>Qa X ((q,ob)::m) Y H2 U)
  (λI S j vb kb U=>yn X ((q,ob)::m) H2 I/\yn X ((q,ob)::m) H2 S/\∃ E F K b wb,Qa X ((q,ob)::m) Y F U/\Se G H2 E F/\ee T E F K/\Ia T E F b wb/\ie wb vb/\yn X ((q,ob)::m) F I/\yn X ((q,ob)::m) F S/\Zb T (XE X Y) (Ia T) E F (cB fe nh ((x0::xs).drop j) b kb K) Q)
  O.hd I2 hn hP d5 (by rw[<-a0];simp) (λs0 h' tk g k=>g.kept k) ?_ ?_ ?_ ?_ ?_
 ·
  intro I S s3 v oI oS hI hS e3 ⟨s0,g0,hk,es⟩ ⟨w,hw,a6⟩ gI gS cI cS;have fI:yn X ((q,ob)::m) H2 I:=I2.sr hI (I2.md.fresh hI);have fS:yn X ((q,ob)::m) H2 S:=I2.sr hS (I2.md.fresh hS);have J:Qa X ((q,ob)::m) Y H2 s3:=by
   rw[es];exact YR g0 (λb o n _ e=>hk b o n e) fI fS
  have rd:∃ w',ws[0]?=some w'/\Ia T G H2 x0 w':=a4.get (i:=0) rfl;obtain⟨w',a3,rd⟩:=rd;rw[hw]at a3;cases a3;refine Xb (c7 (kk:=λk=>cB fe nh xs x0 k) J (Se.refl _ _) r2 rd a6 fI fS gI gS cI cS p2) (λy s4 z=>?_) λ_ _ z=>z;obtain⟨k,t',rfl,b5,b6,r,C,B,J4,e4,r4,f1,f2,p4⟩:=z;exact⟨k,t',rfl,b5,b6,fI,fS,r,C,B,x0,w,J4,e4,r4,Ia.mono e4 _ _ rd,a6,f1,f2,p4⟩
 ·intro I S j vb kb U ⟨_,_,E,F,K,b,wb,J,ex,r',rb,Z,f1,f2,p'⟩;exact Ca J (ex.tj _ _ b1 c3).1
 ·intro I S j vb kb U h' tk ⟨a1,a2,E,F,K,b,wb,J,ex,r',rb,Z,f1,f2,p'⟩ k;exact⟨a1,a2,E,F,K,b,wb,YR J k f1 f2,ex,r',rb,Z,f1,f2,p'⟩
 ·intro I S j vb kb U v oI oS ⟨a1,a2,E,F,K,b,wb,J,ex,r',rb,Z,f1,f2,p'⟩ ⟨w,hw,a6⟩ gI gS cI cS;have hj:j<(x0::xs).length:=by rw[a0];exact(na.mp hw).1
  obtain⟨w',a3,rd⟩:=a4.get (i:=j) (d:=(x0::xs)[j]) (by rw[Fb hj]);rw[hw]at a3;cases a3;rw[Oi hj]at p';generalize (x0::xs)[j]=d at *;generalize e5:(x0::xs).drop (j+1)=c2 at *;refine Xb (c7 (kk:=λk=>if k<kb then cB fe nh c2 d k else cB fe nh c2 b kb) J ex r' (Ia.mono ex _ _ rd) a6 f1 f2 gI gS cI cS p') (λy s4 z=>?_) λ_ _ z=>z;obtain⟨k,t',rfl,b5,b6,r,C,B,J4,e4,r4,f3,f4,p4⟩:=z;refine⟨k,t',rfl,b5,b6,a1,a2,r,C,B,?_⟩;by_cases hk:k<kb
  ·rw[ja hk]at p4;rw[ja hk,ja hk];exact⟨d,w,J4,ex.trans e4,r4,Ia.mono (ex.trans e4) _ _ rd,a6,f3,f4,p4⟩
  ·rw[ua hk]at p4;rw[ua hk,ua hk];exact⟨b,wb,J4,ex.trans e4,r4,Ia.mono e4 _ _ rb,Z,f3,f4,p4⟩
 ·intro I S vb kb U ⟨_,_,E,F,K,b,wb,J,ex,r',rb,Z,f1,f2,p'⟩;rw[<-a0,List.drop_length]at p';have q':Q wb F:=Zb.here (R:=Ia T) p' r' rb;exact⟨wb,F,J.fk (λp hp=>J.pin p (Pa _ (.tail _ hp))),Z,q'⟩
end
noncomputable def Wz(K:W.Frag)(x:qa):Addr:=((W.tabIn K x).getD (0,0)).1
noncomputable def bA(K:W.Frag)(x:qa):Addr:=((W.tabIn K x).getD (0,0)).2
noncomputable def dA(K:W.Frag):Addr:=match W.nsIn K mainGlobals "__builtins__" with
 |some (some (.ref a))=>a
 |_=>0
theorem Ć{K:W.Frag}{x:qa}(h:(W.tabIn K x).isSome=true):W.tabIn K x=some (Wz K x,bA K x):=by
 unfold Wz bA;cases e:W.tabIn K x with
 |none=>rw[e]at h;cases h
 |some p=>rfl
def VL(K:W.Frag)(xs:List qa):Bool:=
 W.noTabs K && (match W.nsIn K mainGlobals "__builtins__" with
  |some (some (.ref a))=>(K.lookup a).isNone && (a != builtinsNs)
  |_=>false) && xs.all λx=>(W.tabIn K x).isSome && DD K (Wz K x) (bA K x)
structure Ry(K:W.Frag)(xs:List qa):Prop where
 no:W.noTabs K=true
 bm:W.nsIn K mainGlobals "__builtins__" = some (some (.ref (dA K)))
 bk:K.lookup (dA K)=none
 bb:dA K≠builtinsNs
 tab:∀ x∈xs,W.tabIn K x=some (Wz K x,bA K x)
 hd:∀ x∈xs,DD K (Wz K x) (bA K x)=true
theorem w8{K:W.Frag}{xs:List qa}(h:VL K xs=true):Ry K xs:=by
 unfold VL at h;rw[Ea,Ea]at h;obtain⟨⟨g,b⟩,e⟩:=h;split at b
 ·next a f=>
  have c:dA K=a:=by unfold dA;rw[f]
  rw[Ea]at b;refine⟨g,by rw[c];exact f,by rw[c];exact Option.isNone_iff_eq_none.mp b.1,by rw[c];simpa using b.2,λx d=>?_,λx d=>?_⟩
  ·have z:=Dc.mp e x d;rw[Ea]at z;exact Ć z.1
  ·have z:=Dc.mp e x d;rw[Ea]at z;exact z.2
 ·cases b
def ZK(K:W.Frag)(d:qa->Option Value)(x:qa)(e:Stmt)(c:List qa):Prop:=
 ∃ f a,d x=some (.ref f)/\Mz K x x e f a/\(∀ b:List Value,b.length=c.length->bindArgs a ⟨b,[]⟩=pure (c.zip b))/\a.code=.ref (Wz K x)
theorem e7{K:W.Frag}{a:qa->Option Value}{h:Heap}{x:qa}{d:Stmt}{c xs:List qa}(X:K.In h)(G:h.Ns mainGlobals a)(i:Nh K a x d c)(l:Ry K xs)(m:x∈xs):ZK K a x d c:=by
 obtain⟨f,q,b,F,j⟩:=i;obtain⟨r,s,kV,g,t,p,e,ct,o,rfl,n,k⟩:=F.ex;exact⟨f,_,b,F,j,W.law_code X G (l.tab x m) b (X _ _ n) rfl⟩
theorem G9{P:za}{w:Ma}{K:W.Frag}{j:qa->Option Value}{a:Heap}{m:Nat->Addr}{tx:Tx}{k:Nat}{x:qa}{c:Stmt}{l N:List qa}{g:Ev->M Fl}(h:ZK K j x c l)(S:ra N l (Ec c))
  (p:∀ (f:Addr) (A:Ha) (b:List Ih) (s:Shared) (H:Hp) (E:XK),Ce k (A.deeper (Sg x (Ec c) s.heap.objs.size f (.ref (Wz K x))))->Ao ⟨K,m,tx⟩ (Wq (sm P w) P w K j a N x (Ec c) f (.ref (Wz K x)) A b s H E) (uj c) g) :
  Ig ⟨K,m,tx⟩ P w j a (k+1) x l (Gd N.length g):=by
 obtain⟨f,y,r,F,d,q⟩:=h;obtain⟨z,B,kV,o,C,v,n,ct,u,rfl,t,i⟩:=F.ex;have e:=q;subst e;exact⟨f,_,r,F.kp,d,qC t i S (p f)⟩
theorem ö{P:za}{w:Ma}{K:W.Frag}{mg mb:qa->Option Value}{k:Nat}{fa a:Addr}{fd:Nf}{x:qa}{f:Shared}{L:List Value}{p:List Int}{ca:Nat->Addr}{tx:Tx}{fn:List D->M D}{ob:Obj}
  (KX:K.In f.heap) (b0:f.heap.Ns mainGlobals mg) (C:f.heap.Ns builtinsNs mb) (a6:∀ x:qa,x ≠ "__name__"->mb x=bootBuiltins x) (a0:f.heap.NoLimit) (hg:f.gens=#[])
  (I:f.heap.get? a=some { cls:=.type "list",data:=.seq L.toArray }) (hi:fj L p) (hl:p.length<=63) (hr:Ce k Kq)
  (hK:W.noTabs K=true) (j:f.heap.get? tx.bm=some ob) (Y:ob.cls=.type "module") (a7:ob.dict=some builtinsNs) (Q:ob.data=.plain) (a5:K.lookup tx.bm=none)
  (X:∀ t∈tx.Wt,∃ c,W.CodeHd f.heap c t.P/\f.heap.get? t.P=some (W.tabObj #[]))
  (F:∀ U:Heap,Ei P w K mg U (sm P w) k fa fd [x] (uq ⟨K,ca,tx⟩ 1 fn)) (O:∀ (s:Shared) (u:Value),xg s fd ⟨[u],[]⟩ [(x,u)])
  (tr:∀ p:List Int,p.length<=63->∃ σ,fn [.Uh p] []=.ok (.bl true) σ) :
  codeAny (model P w) Kq (.call (.ref fa) ⟨[.ref a],[]⟩) (λr B=>r=.ok (.ret (.bool true))/\OldK f.heap B.heap/\B.os=f.os/\ej B.gens) f:=by
 have rv:=EF hi;have a1:=hi.length;have Z:p.length<=sizeLine:=Wb hl (by decide);have E:∀ N:Bool,(N=true->K.lookup a=none)->(N=false->K.lookup a=some { cls:=.type "list",data:=.seq L.toArray })->
   codeAny (model P w) Kq (.call (.ref fa) ⟨[.ref a],[]⟩) (λr B=>r=.ok (.ret (.bool true))/\OldK f.heap B.heap/\B.os=f.os/\ej B.gens) f:=by
  intro N a8 a9;obtain⟨H,c1,c2,c3,c4⟩:∃ H:Hp,(∀ t∈tx.Wt,H t.P=some (.eo #[]))/\(H tx.bm=some (.Vb ob (.ext (sH tx.bm))))/\(N=true->H a=some (.Vb { cls:=.type "list",data:=.seq L.toArray } (.Ca (p.map V.int))))/\
    ∀ b u,H b=some u->(u=.eo #[]/\∃ t∈tx.Wt,b=t.P)\/(b=tx.bm/\u=.Vb ob (.ext (sH tx.bm)))\/(b=a/\N=true/\u=.Vb { cls:=.type "list",data:=.seq L.toArray } (.Ca (p.map V.int))):=by
   refine⟨λb=>if b=tx.bm then some (.Vb ob (.ext (sH tx.bm)))else if b=a then (if N=true then some (.Vb { cls:=.type "list",data:=.seq L.toArray } (.Ca (p.map V.int)))else none)else if b∈tx.Wt.map (·.P)then some (.eo #[])else none,λt g=>?_,ja rfl,λh=>?_,λb u e=>?_⟩
   ·obtain⟨c,_,l⟩:=X t g;have n1:t.P≠tx.bm:=λz=>by rw[z,j]at l;cases l;cases Y
    have n2:t.P≠a:=λz=>by rw[z,I]at l;cases l
    dsimp only;rw[ua n1,ua n2,ja (Ed.mpr ⟨t,g,rfl⟩)]
   ·have n1:a≠tx.bm:=λz=>by rw[z,j]at I;cases I;cases Q
    dsimp only;rw[ua n1,ja rfl,ja h]
   ·dsimp only at e;split at e
    ·next a3=>cases e;exact .inr (.inl ⟨a3,rfl⟩)
    ·split at e
     ·next a4=>
      split at e
      ·next h=>cases e;exact .inr (.inr ⟨a4,h,rfl⟩)
      ·cases e
     ·split at e
      ·next hm=>cases e;obtain⟨t,g,rfl⟩:=Ed.mp hm;exact .inl ⟨rfl,t,g,rfl⟩
      ·cases e
  have b1:xj P w H f.heap:=λb u e=>by
   rcases c4 b u e with⟨rfl,t,g,rfl⟩|⟨rfl,rfl⟩|⟨rfl,_,rfl⟩
   ·obtain⟨c,_,l⟩:=X t g;exact l
   ·exact⟨j,⟨ob,j,Y,a7,Q⟩,⟨ob,j⟩,λh1 h2 ⟨o,e1,G⟩ k=>⟨o,k _ e1,G⟩⟩
   ·exact⟨I,by rw[Pb];exact Z,L,_,rv,I⟩
  have i:∀ {b:Addr} {o:Obj},f.heap.get? b=some o->H b=none->(Sz f.heap H).get? b=some o:=λe n=>ł e n;have b3:∀ {b:Addr} {o:Obj} {es:Array YF} {ep:Nat},f.heap.get? b=some o->o.data=.dict es ep->H b=none:=fun {b o es ep} e d=>by
   cases q:H b with
   |none=>rfl
   |some u=>
    rcases c4 b u q with⟨_,t,g,rfl⟩|⟨rfl,_⟩|⟨rfl,_,_⟩
    ·obtain⟨c,_,l⟩:=X t g;rw[l]at e;cases e;cases d
    ·rw[j]at e;cases e;rw[Q]at d;cases d
    ·rw[I]at e;cases e;cases d
  have S:∀ {b:Addr} {m:qa->Option Value},f.heap.Ns b m->(Sz f.heap H).Ns b m:=fun {b m} ⟨o,es,ep,e,d,r⟩=>⟨o,es,ep,i e (b3 e d),d,r⟩
  have a2:=λb o e=>i (KX b o e) (by
   cases q:H b with
   |none=>rfl
   |some u=>
    rcases c4 b u q with⟨_,t,g,rfl⟩|⟨rfl,_⟩|⟨rfl,h,_⟩
    ·obtain⟨c,_,l⟩:=X t g;have G:=KX _ _ e;rw[l]at G;cases G;have h2:=Dc.mp hK (t.P,_) (W.mem_of_lookupK e);exact absurd (show false=true from h2) jb
    ·rw[a5]at e;cases e
    ·rw[a8 h]at e;cases e)
  have hM:Mod K mg (Sz f.heap H):=⟨a2,S b0,⟨mb,S C,a6⟩,let ⟨mc,h1,h2⟩:=a0;⟨mc,S h1,h2⟩⟩
  have e0:Ap P w K mg (Sz f.heap H) Kq [] f H:=⟨rfl,hM,λb o e=>n7 e,MF (W5 _ _),trivial,λb C=>absurd (show b∈[]from C) (by simp),b1,.of_eq hg⟩
  have hS:jH K H a p:=by
   cases N with
   |true=>exact .inl ⟨_,c3 rfl⟩
   |false=>exact .inr ⟨_,L.toArray,_,a9 rfl,rfl,rfl,rfl,by rw[Aa,a1];exact Z,by simpa using rv⟩
  obtain⟨σ,ef⟩:=tr p hl;have b2:uq ⟨K,ca,tx⟩ 1 fn [.ref a] H (λv _=>v=.bl true) λ_ _ _=>False:=by
   refine⟨[],[],[.Uh p],gb.cons (by rw[Ia];exact⟨a,rfl,hS⟩) gb.nil,rfl,⟨rfl,dr,λn o q=>by simp at q,λt g=>⟨⟨by simp,ob,c2⟩,by simp,#[],c1 t g,.inl rfl⟩⟩,?_⟩;rw[ef];intro b5 v H' _ _ r;exact r
  refine ah ((F _).Gd Kq [] f H ⟨[.ref a],[]⟩ [.ref a] [.ref a] _ _ hr e0 (O f (.ref a)) (.cons rfl .nil) b2) λr B h=>?_;cases r with
  |error e=>obtain⟨_,_,_,_,z⟩:=h;exact z.elim
  |ok f2=>
   cases f2 with
   |next=>exact False.elim h
   |brk=>exact False.elim h
   |cont=>exact False.elim h
   |ret u=>
    obtain⟨v,H',os,T,un,A,r',q⟩:=h;have q':v=.bl true:=q;subst q';obtain rfl:u=mm true:=r';have J:∀ b o,f.heap.get? b=some o->(¬ ∃ t∈tx.Wt,b=t.P)->B.heap.get? b=some o:=λb o e n=>by
     cases q:H b with
     |none=>exact un.keep b o e q (by intro z;exact absurd (show b∈[]from z) (by simp)) (by simp)
     |some u=>
      rcases c4 b u q with⟨_,z⟩|⟨rfl,rfl⟩|⟨rfl,_,rfl⟩
      ·exact absurd z n
      ·obtain⟨G,_⟩:=A _ _ (un.Ti _ _ _ q);rw[j]at e;cases e;exact G
      ·obtain⟨G,_⟩:=A _ _ (un.Ti _ _ _ q);rw[I]at e;cases e;exact G
    have y:∀ t∈tx.Wt,∃ ps,B.heap.get? t.P=some (W.tabObj ps):=λt g=>by
     obtain⟨b4,z⟩:=un.Gj _ _ (c1 t g);exact⟨_,A _ _ z⟩
    refine⟨rfl,⟨λb o e=>?_,λb o e=>?_⟩,os,T⟩
    ·by_cases C:∃ t∈tx.Wt,b=t.P
     ·obtain⟨t,g,rfl⟩:=C;obtain⟨c,hc,l⟩:=X t g;obtain⟨ps,R⟩:=y t g;rw[l]at e;cases e;exact .inr (.inl ⟨(hc.tab l).isCodeTable,rfl,#[],ps,rfl,by rw[Array.empty_append];exact R⟩)
     ·exact .inl (J b o e C)
    ·by_cases C:∃ t∈tx.Wt,b=t.P
     ·obtain⟨t,g,rfl⟩:=C;obtain⟨ps,R⟩:=y t g;exact⟨_,R⟩
     ·exact⟨o,J b o e C⟩
 cases hk:K.lookup a with
 |some o=>
  have e:=KX a o hk;rw[I]at e;cases e;exact E false (λh=>by cases h) λ_=>hk
 |none=>exact E true (λ_=>hk) λh=>by cases h
theorem Ĳ{l:W.OpenLaw}{q:za}{i:List qa}{S:(qa->Option Value)->Heap->Prop}{H:Ma->Heap->Prop}{d:DefRec}{K:Params->W.Frag}{k:Nat}{x:qa}{fn:List D->M D}(xs:List qa)
  (hn:l.most=some 63) (B:d.params.defaults=[]) (hr:Ce k Kq) (hY:∀ (w:Ma) (h:Heap),H w h->(K w.params).In h)
  (hK:∀ w:Ma,VL (K w.params) xs=true) (p:(xs.all λx=>((recsOf q).find? λe=>e.name == x).isSome)=true)
  (F:∀ (w:Ma) (v:qa->Option Value) (h:Heap),(K w.params).In h->h.Ns mainGlobals v->Ry (K w.params) xs->∃ I j,(∀ t∈j,∃ x∈xs,t.P=bA (K w.params) x)/\NM ⟨K w.params,I,⟨j,dA (K w.params)⟩⟩ l.prog w v k d.name [x] fn)
  (tr:∀ E:List Int,E.length<=63->∃ σ,fn [.Uh E] []=.ok (.bl true) σ) :
  W.WalkO q i S H l.row.toRowW d [] (λf R=>PySem.call f R):=by
 refine Att.Kt hn B λw O Q v mb fa o pm cd a0 a R E G Y ho hd a2 C n c m hg=>?_;have r:=hY w _ Y;have TT:=w8 (hK w);obtain⟨I,j,hP,f0,a1,L,g3,g4⟩:=F w v _ r G.T.g TT;rw[C]at L;cases L;obtain⟨bm,ob,U,b2,V,X,Z,b6⟩:=G.T.bmain;have J:=Qv r G.T.g TT.bm;rw[U]at J;cases J;refine ö r G.T.g G.T.b G.T.builtins G.T.nolimit hg n c m hr TT.no V X Z b6 TT.bk (λt ht=>?_) g4 (λs u=>.of_eq (g3 [u] rfl)) tr;obtain⟨y,N,e⟩:=hP t ht;have z:=Dc.mp p y N;obtain⟨d',A⟩:=zd.mp z;have:=W.tab_of G.T r A (TT.tab y N);rw[e];exact⟨_,this.1,this.2⟩
def cy(x:D)(xs:List D):M D:=λa=>match x,xs with
 | .ref n,[y]=>(match ti a n with
  |some b=>(match Mh a y with
   |some zs=>if b.length+zs.length<=zi then .ok .Mc (a.set n (.Ca (b++zs)))else .Sb
   |none=>.Sb)
  |none=>.Sb)
 |_,_=>.Sb
section
variable{T:Tb}
theorem pP:FD T jW cy:=by
 intro E t H u x xs v f Q r p q h;cases x with
 |ref n=>
  match xs with
  |[]=>exact h.elim
  |[y]=>
   obtain⟨w,z,rfl,q1,l⟩:=q;rw[gb]at l;subst l;unfold cy at h;cases c:ti u n with
   |none=>simp only[c]at h;exact h.elim
   |some s=>
    simp only[c]at h;cases d:Mh u y with
    |none=>simp only[d]at h;exact h.elim
    |some zs=>
     simp only[d]at h;by_cases e:s.length+zs.length<=zi
     ·rw[ja e]at h;obtain⟨a,f,rfl,k,g,i⟩:=r.Ca p c;obtain⟨b,m,rfl,A,j⟩:=r.ls q1 d;have o:=r.write (ob:=.Ca (s++zs)) k ⟨_,Hh,by
       have ex:Se t H t (ic H a (.Ca (f++m))):=Zx (La k) g (λ_ z=>by cases z) (λ_ _ z=>by cases z);exact gb.append (gb.mono ex _ _ i) (gb.mono ex _ _ j)⟩
      exact⟨a,b,f,m,rfl,rfl,g,A,by rw[<-i.length,<-j.length];exact UA e,h _ _ _ o.1 o.2 (by rw[Ia])⟩
     ·rw[ua e]at h;exact h.elim
  |_::_::_=>exact h.elim
 |_=>exact h.elim
end
section
variable{T:Tb}{X:Cx}
end
section
variable{X:Cx}{pins:List (Addr × Obj)}{st:St}{H:Hp}{s:Shared}{x z0 z1:qa}{M':List qa}{ix:List Nat}{scope:Scope}{fp:List Addr}
end
section
variable{T:Tb}{X:Cx}
end
section
variable{T:Tb}{X:Cx}{pins:List (Addr × Obj)}{st:St}{H:Hp}{s:Shared}{μ:List Addr}{σ:xb}
end
section
variable{T:Tb}{X:Cx}
end
section
variable{T:Tb}{X:Cx}{x y:qa}{p pos:Me}{ss:List qa}
theorem JX(e:Gl X x)(b:OM T.K X.mg x ss)(d:(x == ("__debug__" : qa))=false:=by decide):FE T X (.Name x p) (eC (.gt ss)):=by
 obtain⟨a,f,c⟩:=b;exact sC (AI e f (v:=.ref a) rfl d) λ_ _=>by rw[Ia];exact⟨a,rfl,c⟩
theorem Ig.alias{P:za}{w:Ma}{b:qa->Option Value}{a:Heap}{k:Nat}{d:List qa}{c:List D->M D}(h:Ig T P w b a k x d c)(e:b y=b x):Ig T P w b a k y d c:=by
 obtain⟨f,g,i,j⟩:=h;exact⟨f,g,e.trans i,j⟩
end
section
variable{T:Tb}{μ μ':List Addr}{H H':Hp}{σ:xb}{a:Addr}
mutual
theorem Ia.chg(j:∀ b,b≠a->H' b=H b)(l:a∈μ)(r:∀ xs,H a≠some (.ub xs))(s:∀ o xs,H a≠some (.Vb o (.Ca xs))):∀ (d:D) (v:V),Ia T μ H d v->Ia T μ H' d v
 | .Mc,v,h=>by simpa [Ia]using h
 | .bl b,v,h=>by simpa [Ia]using h
 | .int i,v,h=>by simpa [Ia]using h
 | .str x,v,h=>by simpa [Ia]using h
 | .ub ds,v,h=>by
  rw[Ia]at h ⊢;obtain⟨p,m,g,e,k⟩:=h;exact⟨p,m,g,by rw[j p (λz=>r _ (by rw[<-z];exact e))];exact e,gb.chg j l r s ds m k⟩
 | .Uh ns,v,h=>by
  rw[Ia]at h ⊢;obtain⟨p,g,e⟩:=h;refine⟨p,g,?_⟩;rcases e with⟨o,e⟩|e
  ·exact .inl ⟨o,by rw[j p (λz=>s _ _ (by rw[<-z];exact e))];exact e⟩
  ·exact .inr e
 | .ref n,v,h=>by rw[Ia]at h ⊢;exact h
 | .Ca ds,v,h=>by
  rw[Ia]at h ⊢;obtain⟨p,m,g,f,e,k⟩:=h;exact⟨p,m,g,f,by rw[j p (λz=>f (by rw[z];exact l))];exact e,gb.chg j l r s ds m k⟩
 | .Ja C ds,v,h=>by
  rw[Ia]at h ⊢;obtain⟨p,m,g,f,e,t,k⟩:=h;exact⟨p,m,g,f,by unfold Rd at e ⊢;rw[j p (λz=>f (by rw[z];exact l))];exact e,t,gb.chg j l r s ds _ k⟩
 | .obj c ns ds,v,h=>by
  rw[Ia]at h ⊢;obtain⟨p,A,m,g,f,e,t,k⟩:=h;exact⟨p,A,m,g,f,by rw[j p (λz=>f (by rw[z];exact l))];exact e,t,gb.chg j l r s ds _ k⟩
 | .Vr c,v,h=>by
  rw[Ia]at h ⊢;obtain⟨p,y,g,f,e,k⟩:=h;refine⟨p,y,g,f,by rw[j p (λz=>f (by rw[z];exact l))];exact e,λn q=>?_⟩;obtain⟨u,q1,w,B⟩:=k n q;exact⟨u,q1,w,by rw[j u (λz=>w (by rw[z];exact l))];exact B⟩
 | .gt ss,v,h=>by rw[Ia]at h ⊢;exact h
theorem gb.chg(j:∀ b,b≠a->H' b=H b)(i:a∈μ)(f:∀ xs,H a≠some (.ub xs))(g:∀ o xs,H a≠some (.Vb o (.Ca xs))):∀ (c:List D) (e:List V),gb T μ H c e->gb T μ H' c e
 |[],e,h=>by simpa [gb]using h
 |d::c,e,h=>by
  rw[gb]at h ⊢;obtain⟨v,r,k,l,m⟩:=h;exact⟨v,r,k,Ia.chg j i f g d v l,gb.chg j i f g c r m⟩
end
theorem zG{c:Type}(i:∀ b,b≠a->H' b=H b)(g:a∈μ)(e:∀ xs,H a≠some (.ub xs))(f:∀ o xs,H a≠some (.Vb o (.Ca xs))){xs:List (c × D)}{d:List (c × V)}(h:Paired (λ(p:c × D) (q:c × V)=>p.1=q.1/\Ia T μ H p.2 q.2) xs d) :
  Paired (λ(p:c × D) (q:c × V)=>p.1=q.1/\Ia T μ H' p.2 q.2) xs d:=L2.Paired.yu h λp q z=>⟨z.1,Ia.chg i g e f _ _ z.2⟩
theorem Tr.chg(d:∀ b,b≠a->H' b=H b)(j:a∈μ)(g:∀ xs,H a≠Option.some (.ub xs))(i:∀ o xs,H a≠Option.some (.Vb o (.Ca xs))){b:Addr}(f:b≠a):∀ {o:Ob},Tr T μ H b o->Tr T μ H' b o
 | .Ca ds,⟨e,h,r⟩=>⟨e,(d b f).trans h,gb.chg d j g i _ _ r⟩
 | .Ja k,⟨e,h,r⟩=>⟨e,(d b f).trans h,zG d j g i r⟩
 | .jc c n,⟨l,e,h,r⟩=>⟨l,e,(d b f).trans h,zG d j g i r⟩
 | .ag k,⟨m,e,h,r⟩=>⟨m,e,(d b f).trans h,zG d j g i r⟩
 | .yf p,⟨e,h,r⟩=>⟨e,(d b f).trans h,r⟩
theorem ee.chg(r:ee T μ H σ)(g:∀ b,b≠a->H' b=H b){n:Nat}(d:μ[n]?=some a)(i:∀ xs,H a≠some (.ub xs))(j:∀ o xs,H a≠some (.Vb o (.Ca xs))){ob:Ob}(l:Tr T μ H' a ob):ee T μ H' (σ.set n ob):=by
 have f:=La d;refine⟨by simp[r.len],r.nd,λm x h=>?_,r.tb.out g (.inl f)⟩;rw[Pc]at h;by_cases c:n=m
 ·subst c;rw[ja rfl]at h;split at h
  ·cases h;exact⟨a,d,l⟩
  ·cases h
 ·rw[ua c]at h;obtain⟨b,e,k⟩:=r.obs m x h;exact⟨b,e,k.chg g f i j (λz=>c (by subst z;exact kI r.nd d e))⟩
end
theorem _root_.L2.Qa.qy{X:Cx}{d:List (Addr × Obj)}{l:St}{H:Hp}{s:Shared}{a:Addr}{A:Obj}{g:List (gc × V)}(I:Qa X d l H s)(f:H a=some (.Vb A (.dK g)))(m:∀ o u,X.H₀ a≠some (.Vb o u)):Qa X d l (ic H a (.dK g)) s:=by
 have i:∀ b u,H b=some u->(∀ o w,u≠.Vb o w)->b≠a:=λb u q n z=>by rw[z,f]at q;exact n _ _ (Ya q).symm
 refine⟨I.ok,I.os,I.bare,⟨I.base.keep,I.base.slot,λb o e n t=>?_,I.base.there,λb xs e=>?_,λb o u e=>?_,λb B e=>?_⟩,I.loc,I.cell,?_,λx c e=>?_,λp r=>?_,λb u e=>?_,I.len⟩
 ·have:=I.base.free b o e n t;rw[Le (λz=>by rw[z,f]at this;cases this)];exact this
 ·have:=I.base.Vj b xs e;rw[Le (i b _ this (λ_ _ z=>by cases z))];exact this
 ·have:=I.base.Ti b o u e;rw[Le (λz=>m o u (by rw[<-z];exact e))];exact this
 ·obtain⟨h,this⟩:=I.base.Gj b B e;exact⟨h,by rw[Le (i b _ this (λ_ _ z=>by cases z))];exact this⟩
 ·rw[Le (λz=>by have:=I.free;rw[z,f]at this;cases this)];exact I.free
 ·have:=I.lh x c e;rw[Le (λz=>by rw[z,f]at this;cases this)];exact this
 ·obtain⟨q1,j,C⟩:=I.pin p r;exact⟨q1,by rw[Le (λz=>by rw[z,f]at j;cases j)];exact j,C⟩
 ·by_cases k:b=a
  ·subst k;rw[Hh]at e;cases e;exact(I.md b _ f).2
  ·rw[Le k]at e;refine(I.md b u e).cm (λc v _ z=>z) (λc z=>?_) λc xs z=>?_
   ·rw[Le (i c _ z (λ_ _ y=>by cases y))];exact z
   ·rw[Le (i c _ z (λ_ _ y=>by cases y))];exact z
section
variable{T:Tb}{X:Cx}{elts:List Fa}{kk:Nat}{p0:Me}
theorem SJ{m:List Addr}{H:Hp}{a:Addr}{l:Obj}{c:List (gc × V)}{f:List (gc × D)}(o:H a=some (.Vb l (.dK c)))(s:vj T m H f c):eB T m H (Wu f) (Itm a l c):=by
 intro v A w i ex t;have j:=ex.Vb _ _ _ o;have e:=vj.mono ex s;unfold Wu;cases n:f[i]? with
 |none=>
  by_cases g:i=f.length
  ·rw[ja g];exact⟨j,by rw[g];exact Paired.length e⟩
  ·rw[ua g];trivial
 |some p=>
  obtain⟨q,k,h,u⟩:=LH e i n;refine⟨⟨j,q,k⟩,λz x y=>?_⟩;obtain⟨r,B,C,b,rfl,d,rfl⟩:=y;rw[k]at d;cases d;refine⟨Fm b,t.fresh b,?_⟩;rw[Ia,h];exact⟨r,_,rfl,Hh,gb.cons (pJ _) (gb.cons (Ia.mono (Fm b) _ _ u) gb.nil)⟩
def wG(d:D):M NX:=λb=>match d with
 | .Ja c xs=>if c.length=xs.length then .ok (Wu (c.zip xs)) b else .Sb
 | .ref n=>(match b[n]? with
  |some (.Ja a)=>.ok (Wu a) (b.set n (.ag a))
  |some (.ag a)=>.ok (Wu a) b
  |_=>.Sb)
 |_=>.Sb
def CB(f:Ev->M D):Ev->M NX:=λa=>Ld (f a) wG
theorem SG{e:Fa}{f:Ev->M D}{w x:Me}(h:FE T X e f)(G:Oe e "items" X.env (Ib e X.env)=Ib e X.env:=by rfl)(J:(w.endLine == x.line)=true:=by rfl) :
  Ky T X (.Tuple elts kk p0) (.Call (.Attribute e "items" w) [] [] x) (CB f):=by
 intro P s st H R I hw;refine cQ (eU dj cj lr DV h G J) P s st H R I ?_;obtain⟨μ,ρ,σ,hE,hr,hp⟩:=hw;refine⟨μ,ρ,σ,hE,hr,hp.bind λd u c v i _ e1 U q1 p1=>?_⟩;unfold wG at p1;cases d with
 |Ja ks xs=>
  dsimp only at p1;by_cases hl:ks.length=xs.length
  ·rw[ja hl]at p1;obtain⟨a,j,rfl,S,p,Y,Z⟩:=q1;refine⟨⟨a,j,rfl,p⟩,a,j,rfl,rfl,p,λl g=>?_⟩;have t:a≠l:=by rcases p with p|⟨_,p⟩<;>exact rs p g
   have W:Rd (ic i l (.ext (vq l a))) a (.dK j):=by unfold Rd;rw[Le t];exact p
   refine⟨l,a,j,rfl,Hh,W,λB m=>?_⟩;have C:Se c i c (ic i l (.ext (vq l a))):=Fm g;have k:ee T c (ic i l (.ext (vq l a))) u:=U.fresh g;obtain⟨x2,a0⟩:Se c i c (ic (ic i l (.ext (vq l a))) a (.Vb B (.dK j)))/\ee T c (ic (ic i l (.ext (vq l a))) a (.Vb B (.dK j))) u:=by
    rcases m with m|m
    ·have y:=QP (μ:=c) (od:=B) m;exact⟨C.trans y,k.keep y (λb V=>Le (λz=>S (by rw[<-z];exact V))) (k.tb.out (λb V=>Le V) (.inr ⟨_,m⟩))⟩
    ·rw[GC m];exact⟨C,k⟩
   exact Zb.here (Zb.mono x2 p1) a0 (SJ Hh (vj.mono x2 (JH Y Z)))
  ·rw[ua hl]at p1;exact p1.elim
 |ref n=>
  dsimp only at p1;cases Q:u[n]? with
  |none=>rw[Q]at p1;exact p1.elim
  |some o=>
   rw[Q]at p1;obtain⟨a,rfl,S,O⟩:=U.at q1 Q;cases o with
   |Ja j=>
    obtain⟨q,E,K⟩:=O;have p:Rd i a (.dK q):=.inl E;refine⟨⟨a,q,rfl,p⟩,a,q,rfl,rfl,p,λl g=>?_⟩;have t:=rs E g;have r:ic i l (.ext (vq l a)) a=some (.dK q):=by rw[Le t];exact E
    refine⟨l,a,q,rfl,Hh,.inl r,λB _=>?_⟩;have C:Se c i c (ic i l (.ext (vq l a))):=Fm g;have k:ee T c (ic i l (.ext (vq l a))) u:=U.fresh g;have N:Se c (ic i l (.ext (vq l a))) c (ic (ic i l (.ext (vq l a))) a (.Vb B (.dK q))):=Zx (La S) r (λ_ z=>by cases z) (λ_ _ z=>by cases z);have A:=vj.mono (C.trans N) K;have wr:=k.write (ob:=.ag j) S ⟨B,q,Hh,A⟩ (λkv z=>by rw[Q]at z;cases z);exact Zb.here (Zb.mono (C.trans N) p1) wr.2 (SJ Hh A)
   |ag j=>
    obtain⟨L,q,E,K⟩:=O;have p:Rd i a (.dK q):=.inr ⟨L,E⟩;refine⟨⟨a,q,rfl,p⟩,a,q,rfl,rfl,p,λl g=>?_⟩;have t:a≠l:=rs E g;have r:ic i l (.ext (vq l a)) a=some (.Vb L (.dK q)):=by rw[Le t];exact E
    refine⟨l,a,q,rfl,Hh,.inr ⟨L,r⟩,λB m=>?_⟩;have C:Se c i c (ic i l (.ext (vq l a))):=Fm g;have k:ee T c (ic i l (.ext (vq l a))) u:=U.fresh g;rcases m with m|m
    ·rw[r]at m;cases m
    ·rw[GC m];exact Zb.here (Zb.mono C p1) k (SJ m (vj.mono C K))
   |_=>exact p1.elim
 |_=>exact p1.elim
def NE{c:Type}(ok:c->Bool)(n:Nat):Nm c->Nm c
 | .ok a σ=>if ok a=true then (match σ[n]? with
  |some (.ag b)=>.ok a (σ.set n (.Ja b))
  |_=>.Sb)else .Sb
 |_=>.Sb
def MG{b:Type}(ok:b->Bool)(m:M D)(g:M b):M b:=λa=>match m a with
 | .ok (.ref n) _=>(match a[n]? with
  |some (.Ja _)=>NE ok n (g a)
  |_=>g a)
 |_=>g a
noncomputable def PK:Fl->Bool
 | .xc _ _=>false
 |_=>true
def bz(f:Ev->M D)(g:Ev->M Fl):Ev->M Fl:=λa=>MG PK (f a) (g a)
theorem zyr{f b:List Addr}{H c:Hp}{a:Addr}{e i:List (gc × V)}{j:Obj}(ex:Se f H b c)(d:a∈f)(g:H a=some (.dK e))(k:c a=some (.Vb j (.dK i))):Se f H b (ic c a (.dK i)):=by
 refine⟨ex.pre,λp xs h=>?_,λp o u h=>?_,λp o h n=>?_⟩
 ·rw[Le (λz=>by rw[z,g]at h;cases h)];exact ex.ub p xs h
 ·rw[Le (λz=>by rw[z,g]at h;cases h)];exact ex.Vb p o u h
 ·rw[Le (λz=>n (by rw[z];exact d))];exact ex.keep p o h n
theorem f6{s w:Type}{E:XK}{R:List Addr->Hp->s->w->Prop}{ok:s->Bool}{y:List Addr}{H:Hp}{n:Nat}{a:Addr}{v:List (gc × V)}{o:Nm s}{Q:w->Hp->Prop}(D:y[n]?=some a)(I:H a=some (.dK v))
  (G:∀ (c:List Addr) (e:Hp) (d:s) (g:w) (k:Obj) (f:List (gc × V)),a∈c->e a=some (.Vb k (.dK f))->ok d=true->R c e d g->R c (ic e a (.dK f)) d g) (h:Zb T E R y H (NE ok n o) Q) :
  Zb T E R y H o (λg e=>∃ k f,e a=some (.Vb k (.dK f))/\Q g (ic e a (.dK f))/\∃ c d,ok d=true/\R c e d g):=by
 cases o with
 |Sb=>exact h
 |ex x q=>exact h.elim
 |ok d q=>
  unfold NE at h;dsimp only at h;by_cases i:ok d=true
  ·rw[ja i]at h;cases t:q[n]? with
   |none=>rw[t]at h;exact h.elim
   |some ob=>
    rw[t]at h;cases ob with
    |ag K=>
     intro c g e ex r F;obtain⟨L,m,k,f,p,u⟩:=r.obs n _ t;have j:=ex.get D;rw[j]at m;cases m;have l:=La j;have C:∀ b,b≠a->ic e a (.dK f) b=e b:=λb J=>Le J;have A:∀ xs,e a≠some (.ub xs):=λxs z=>by rw[p]at z;cases z
     have B:∀ o xs,e a≠some (.Vb o (.Ca xs)):=λo xs z=>by rw[p]at z;cases z
     exact⟨k,f,p,h c g _ (zyr ex (La D) I p) (r.chg C j A B ⟨f,Hh,zG C l A B u⟩) (G c e d g k f l p i F),c,d,i,F⟩
    |_=>exact h.elim
  ·rw[ua i]at h;exact h.elim
theorem nH{c:List Addr}{e:Hp}{a:Addr}{k:Obj}{i:List (gc × V)}(f:a∈c)(g:e a=some (.Vb k (.dK i)))(d:D)(v:V)(h:Ia T c e d v):Ia T c (ic e a (.dK i)) d v:=
 Ia.chg (λb j=>Le j) f (λxs z=>by rw[g]at z;cases z) (λo xs z=>by rw[g]at z;cases z) d v h
theorem TD{s:Stmt}{f:Ev->M D}{g:Ev->M Fl}(h:FS T X s g):FS T X s (bz f g):=by
 intro t L N H D I l;obtain⟨O,P,Q,J,F,A⟩:=l;have p:=λq=>h t L N H D I ⟨O,P,Q,J,F,q⟩;unfold bz MG at A;split at A
 ·rename_i n _ _
  split at A
  ·rename_i V R
   obtain⟨a,U,Y,K,_⟩:=F.obs n _ R;have E:∀ o u,X.H₀ a≠some (.Vb o u):=λo u z=>by have:=I.base.Ti a o u z;rw[K]at this;cases this
   have q:=f6 U K (λG e d y k c r j x m=>by
    cases d with
    |xc _ _=>cases x
    |nx ρ2=>cases y<;>first|exact m.elim|exact⟨m.1,λi d q=>let ⟨v,B,C⟩:=m.2 i d q;⟨v,B,nH r j _ _ C⟩⟩
    |bk ρ2=>cases y<;>first|exact m.elim|exact⟨m.1,λi d q=>let ⟨v,B,C⟩:=m.2 i d q;⟨v,B,nH r j _ _ C⟩⟩
    |ct ρ2=>cases y<;>first|exact m.elim|exact⟨m.1,λi d q=>let ⟨v,B,C⟩:=m.2 i d q;⟨v,B,nH r j _ _ C⟩⟩
    |rt Z=>cases y<;>first|exact m.elim|exact nH r j _ _ m) A
   refine Xb (h t L N H ⟨λb e=>∃ k c,e a=some (.Vb k (.dK c))/\D.nx b (ic e a (.dK c)),λv e=>∃ k c,e a=some (.Vb k (.dK c))/\D.rt v (ic e a (.dK c)),λb e=>∃ k c,e a=some (.Vb k (.dK c))/\D.bk b (ic e a (.dK c)),λb e=>∃ k c,e a=some (.Vb k (.dK c))/\D.ct b (ic e a (.dK c))⟩ I ⟨O,P,Q,J,F,q.imp λy e z=>?_⟩) (λS s' z=>?_) λ_ _ z=>z
   ·obtain⟨k,c,j,l,G,d,x,m⟩:=z;cases y with
    |nx b=>exact⟨k,c,j,l⟩
    |rt v=>exact⟨k,c,j,l⟩
    |bk b=>exact⟨k,c,j,l⟩
    |ct b=>exact⟨k,c,j,l⟩
    |xc b cls fd=>cases d<;>first|exact m.elim|cases x
   ·cases S with
    |next=>obtain⟨b,e,w,k,c,j,l⟩:=z;exact⟨b,_,w.qy j E,l⟩
    |brk=>obtain⟨b,e,w,k,c,j,l⟩:=z;exact⟨b,_,w.qy j E,l⟩
    |cont=>obtain⟨b,e,w,k,c,j,l⟩:=z;exact⟨b,_,w.qy j E,l⟩
    |ret u=>obtain⟨v,b,e,w,W,k,c,j,l⟩:=z;exact⟨v,b,_,w.qy j E,W,l⟩
  ·exact p A
 ·exact p A
end
end L4
namespace L4
open PySem PySem.Spec PyProof.Rows L2
def ZF(d:Addr)(b:Obj)(a:List (gc × V)):It:=
 ⟨λi H=>H d=some (.Vb b (.dK a))/\∃ x,a[i]?=some x,λi H v c=>c=H/\∃ k x,v=kV k/\a[i]?=some (k,x),λi H=>H d=some (.Vb b (.dK a))/\i=a.length⟩
theorem ù{P:za}{w:Ma}{K:W.Frag}{tg:Fa}(d g:Addr)(od:Obj)(q:List (gc × V))(a0:d≠g){es:Array YF}{U:Nat}(p:od.data=.dict es U) :
  Mr P w K tg (ZF d od q) [g] g (λi h=>h.IsKeyIter g d i q.length U) where
 mem:=by simp
 obj:=λi h f b l=>by
  obtain rfl:b=g:=by simpa using l
  obtain⟨o,e,c,y⟩:=f;exact⟨o,e,λv z=>by rw[y]at z;cases z⟩
 keep:=λi h h' f k=>f.at λo e=>k g (by simp) o e
 item:=by
  intro X M S L Y i j s σ H E I t f O;subst M S L;obtain⟨N,⟨k,x⟩,hx⟩:=O;obtain⟨vs,B,A,a,m,Q⟩:=WB I N;rw[p]at m;cases m;obtain⟨u,hu,ru⟩:=vN a i hx;rw[a.length]at f;obtain⟨C,D,f2,F,G,J⟩:=t g (by simp);refine wpAny_pyNext_dict_item f Q hu λT h' n r R=>?_;have I1:Qa X j σ H { s with heap:=h' }:=I.turned (λb o l e=>R.extBut b o l e) C D F G J;obtain⟨o,e,c,y⟩:=id r;exact⟨T,rfl,pG (s:={ s with heap:=h' }) e c y (by decide) ⟨kV k,H,I1,IU n,⟨rfl,k,x,rfl,hx⟩,by rw[a.length];exact r,λb l=>(t b l).1⟩⟩
 done:=by
  intro X M S L Y i j s σ H E I t f O;subst M S L;obtain⟨N,Z⟩:=O;obtain⟨vs,B,A,a,m,Q⟩:=WB I N;rw[p]at m;cases m;rw[a.length]at f Z;obtain⟨C,D,f2,F,G,J⟩:=t g (by simp);exact wpAny_pyNext_dict_end (I.ok.hd Y) f Q (by rw[Z];simp) λh' eb=>⟨rfl,I.turned (t':=s.toks) (λb o l e=>eb b o l e) C D F G J⟩
 self:=λ_ _ _ _ _ f h=>wpAny_pyIter_keyiter f h
noncomputable def oE(a:List (gc × D)):NX:=λi _=>match a[i]? with
 |some p=>some (some (DA p.1))
 |none=>if i=a.length then some none else none
def WG(d:D):M NX:=λb=>match d with
 | .ref n=>(match b[n]? with
  |some (.Ja a)=>.ok (oE a) (b.set n (.ag a))
  |some (.ag a)=>.ok (oE a) b
  |_=>.Sb)
 |_=>.Sb
def UM(f:Ev->M D):Ev->M NX:=λa=>Ld (f a) WG
section
variable{T:Tb}{X:Cx}{tg:Fa}
theorem zT{l:List Addr}{H:Hp}{a:Addr}{k:Obj}{b:List (gc × V)}{e:List (gc × D)}(n:H a=some (.Vb k (.dK b)))(o:vj T l H e b):eB T l H (oE e) (ZF a k b):=by
 intro s v t i ex r;have h:=ex.Vb _ _ _ n;have d:=vj.mono ex o;unfold oE;cases m:e[i]? with
 |none=>
  by_cases f:i=e.length
  ·rw[ja f];exact⟨h,by rw[f];exact Paired.length d⟩
  ·rw[ua f];trivial
 |some p=>
  obtain⟨q,j,g,x⟩:=LH d i m;refine⟨⟨h,q,j⟩,λz u y=>?_⟩;obtain⟨rfl,w,A,rfl,c⟩:=y;rw[j]at c;cases c;exact⟨Se.refl _ _,r,by rw[g];exact pJ _⟩
def nY(e:TE):TI:=λf H R=>e f H λv c=>∃ a b,v=.ref a/\Rd c a (.dK b)/\∀ d,c a=some (.dK b)\/c a=some (.Vb d (.dK b))->R (ZF a d b) (ic c a (.Vb d (.dK b)))
theorem kZ{f:Fa}{r:TE}(B:PE X f r):PI X tg f (nY r):=by
 intro i s t H R I h;refine Re (B i s t H _ I h) λv s1 ⟨x,H1,k,D,q1⟩=>?_;obtain⟨a,c,rfl,d,q⟩:=q1;cases D;obtain⟨_,C,_⟩:=cx k.md d;obtain⟨g,n,l⟩:∃ g,(H1 a=some (.dK c)\/H1 a=some (.Vb g (.dK c)))/\Qa X i t (ic H1 a (.Vb g (.dK c))) s1:=by
  rcases d with d|⟨g,d⟩
  ·obtain⟨_,_,E,j,o,y,w,e,_⟩:=k.md a _ d;exact⟨o,.inl d,k.freeze d e⟩
  ·exact⟨g,.inr d,by rw[GC d];exact k⟩
 obtain⟨E,y,w,j,u,p⟩:=WB l Hh;have m:=ya p.lt_size;refine wpAny_pyIter_dict C p ?_;refine⟨s1.heap.objs.size,[s1.heap.objs.size],_,ZF a g c,_,rfl,l.kept (λb o e=>ba _ e),ù a _ g c m u,by rw[j.length];exact⟨_,vG _ _ (λz=>by cases z),rfl,rfl⟩,λb A=>?_,q g n⟩;obtain rfl:b=s1.heap.objs.size:=by simpa using A
 exact l.sr (wa _) (l.md.fresh (wa _))
theorem Ġ{e:Fa}{f:Ev->M D}(h:FE T X e f):Ky T X tg e (UM f):=by
 intro m s G H R I F;refine kZ h m s G H R I ?_;obtain⟨K,L,N,B,E,C⟩:=F;refine⟨K,L,N,B,E,C.bind λd x q v y _ O w q1 p1=>?_⟩;unfold WG at p1;cases d with
 |ref n=>
  dsimp only at p1;cases r:x[n]? with
  |none=>rw[r]at p1;exact p1.elim
  |some o=>
   rw[r]at p1;obtain⟨a,rfl,A,k⟩:=w.at q1 r;cases o with
   |Ja l=>
    obtain⟨p,j,g⟩:=k;refine⟨a,p,rfl,.inl j,λt _=>?_⟩;have i:Se q y q (ic y a (.Vb t (.dK p))):=Zx (La A) j (λ_ z=>by cases z) (λ_ _ z=>by cases z);have b:=vj.mono i g;have J:=w.write (ob:=.ag l) A ⟨t,p,Hh,b⟩ (λP z=>by rw[r]at z;cases z);exact Zb.here (Zb.mono i p1) J.2 (zT Hh b)
   |ag l=>
    obtain⟨u,p,j,g⟩:=k;refine⟨a,p,rfl,.inr ⟨u,j⟩,λt c=>?_⟩;rcases c with c|c
    ·rw[j]at c;cases c
    ·rw[GC c];exact Zb.here p1 w (zT c g)
   |_=>exact p1.elim
 |_=>exact p1.elim
end
section
variable{T:Tb}{X:Cx}
theorem tm{a:List Stmt}:Ao T X a al:=λpins s st H D I ⟨c,d,σ,_,_,b⟩=>b.elim
end
open Classical in
def MR(d b c:List Addr):Prop:=(∃ r,b=d++r)/\(∀ (n:Nat) (a:Addr),d[n]?=some a->c[n]?=some a)/\∀ a∈c,a∈b
section
variable{T:Tb}{μ μ' μ2:List Addr}{H H':Hp}{σ σ':xb}
mutual
theorem xJ.down(e:MR μ μ' μ2):∀ (d:D) (v0 v:V),Ia T μ H d v0->Ia T μ' H' d v->Ia T μ2 H' d v
 | .Mc,v0,v,_,h=>by simpa [Ia]using h
 | .bl b,v0,v,_,h=>by simpa [Ia]using h
 | .int i,v0,v,_,h=>by simpa [Ia]using h
 | .str x,v0,v,_,h=>by simpa [Ia]using h
 | .ub ds,v0,v,c,h=>by
  rw[Ia]at h c ⊢;obtain⟨p,m,g,f,j⟩:=h;obtain⟨p0,l,_,_,w⟩:=c;exact⟨p,m,g,f,yt.down e ds l m w j⟩
 | .Uh ns,v0,v,_,h=>by rw[Ia]at h ⊢;exact h
 | .ref n,v0,v,c,h=>by
  rw[Ia]at h c ⊢;obtain⟨a,g,f⟩:=h;obtain⟨b,_,t⟩:=c;refine⟨a,g,?_⟩;have j:=e.2.1 _ _ t;obtain⟨⟨r,rfl⟩,_⟩:=e;rw[Za (na.mp t).1]at f;rw[t]at f;cases f;exact j
 | .Ca ds,v0,v,c,h=>by
  rw[Ia]at h c ⊢;obtain⟨a,m,g,f,j,o⟩:=h;obtain⟨_,l,_,_,_,s⟩:=c;exact⟨a,m,g,λz=>f (e.2.2 _ z),j,yt.down e ds l m s o⟩
 | .Ja F ds,v0,v,c,h=>by
  rw[Ia]at h c ⊢;obtain⟨a,m,g,f,j,u,o⟩:=h;obtain⟨_,l,_,_,_,_,s⟩:=c;exact⟨a,m,g,λz=>f (e.2.2 _ z),j,u,yt.down e ds _ _ s o⟩
 | .obj k ns ds,v0,v,c,h=>by
  rw[Ia]at h c ⊢;obtain⟨a,B,m,g,f,j,u,o⟩:=h;obtain⟨_,_,l,_,_,_,_,s⟩:=c;exact⟨a,B,m,g,λz=>f (e.2.2 _ z),j,u,yt.down e ds _ _ s o⟩
 | .Vr k,v0,v,_,h=>by
  rw[Ia]at h ⊢;obtain⟨a,A,g,f,j,o⟩:=h;exact⟨a,A,g,λz=>f (e.2.2 _ z),j,λn q=>let ⟨y,q1,C,E⟩:=o n q;⟨y,q1,λz=>C (e.2.2 _ z),E⟩⟩
 | .gt ss,v0,v,_,h=>by rw[Ia]at h ⊢;exact h
theorem yt.down(e:MR μ μ' μ2):∀ (b:List D) (a f:List V),gb T μ H b a->gb T μ' H' b f->gb T μ2 H' b f
 |[],a,f,_,h=>by simpa [gb]using h
 |d::b,a,f,c,h=>by
  rw[gb]at h c ⊢;obtain⟨v,r,j,k,l⟩:=h;obtain⟨n,m,_,g,i⟩:=c;exact⟨v,r,j,xJ.down e d n v g k,yt.down e b m r i l⟩
end
end
end L4
namespace L4
open PySem PySem.Spec PyProof.Rows L2
section
variable{P:za}{w:Ma}{K:W.Frag}{mg:qa->Option Value}{base:Heap}{T:Tb}
end
section
variable{T:Tb}{X:Cx}
end
section
variable{T:Tb}{X:Cx}{tg:Fa}
end
section
variable{T:Tb}{X:Cx}
end
noncomputable def OH(a b:List D):M (List D):=ret (b++a)
def OA(a:List D)(b:Ev->M (List D)):Ev->M (List D):=λc=>Ld (b c) (OH a)
section
variable{T:Tb}{X:Cx}
theorem P4{k c:Nat}{d:List qa}{b:List Value}{g:List V}{a:List D}{i:List D->M D}{x:qa}{p h:Me}{e:Fa}{m:List Fa}{j:Ev->M (List D)}{f:Addr}{P:Nf}(hm:X.mg x=some (.ref (T.ca c)))(B:Mk T.K (T.ca c) f)(S:uu T.K P d b)
  (R:Ei X.prog X.w T.K X.mg X.base (sm X.prog X.w) k f P d (uq T d.length i)) (hv:jf g b) (E:∀ z H,gb T z H a g) (Z:T.K=X.K) (hr:Ce (k+1) X.A) (hg:Gl X x)
  (ha:FA T X (e::m) j) (C:(x == ("__debug__" : qa))=false:=by decide) (he:la (e::m) X.env=(false,Ib e X.env)::la m X.env:=by rfl) (G:(Bc h (la m X.env)).any (·.1)=false:=by rfl) :
  FE T X (.Call (.Name x p) (e::m) [] h) (au c d.length i (OA a j)):=by
 rw[Z]at B R S;intro n s L H Q I hq;obtain⟨z,o,t,Y,J,hp⟩:=hq;have F:Zb T (XE X L) (Ia T) z H (Ld (j o) (λu=>Uq c d.length i (u++a)) t) Q:=by
  have:au c d.length i (OA a j) o t=Ld (j o) (λu=>Uq c d.length i (u++a)) t:=by
   unfold au OA OH Ld;cases j o t<;>rfl
  rw[<-this];exact hp
 refine vg (MA I hg hm ?_ C);refine Ji I.ok.mod.Ex B.kp (Re (ha h n s L H (λN l=>∀ x y,l x=none->l y=none->y≠x->uq T d.length i (.ref x::(N++g)) (ic (ic l y (.own x)) x (.jc (T.ca c) y [])) (λv U=>v=.Mc/\Q (.ref x) U) (XE X L)) I ⟨z,o,t,Y,J,F.bind λu a1 a0 N l _ e1 r1 p1 q1=>?_⟩) λus s1 ⟨N,l,O,r,q⟩=>⟨O.Yj,?_⟩) he G
 ·have:=iU r1 (gb.append p1 (E _ _)) q1;rw[Pe]at this;exact this
 ·exact MO B R hr S hv O r q
theorem sP{k c:Nat}{ps:List qa}{n a:List Value}{d:List V}{b:List D}{o:List D->M D}{x:qa}{p i:Me}{e:Fa}{g:List Fa}{q:Ev->M (List D)}{f:Addr}(C:X.mg x=some (.ref (T.ca c)))(t:Mk T.K (T.ca c) f)(h:ou T X.prog X.w X.mg X.base k f ps n o)(y:a=[]\/a=n)(F:jf d a)(l:∀ G H,gb T G H b d)(s:T.K=X.K)(E:Ce (k+1) X.A)(B:Gl X x)
  (u:FA T X (e::g) q) (j:(x == ("__debug__" : qa))=false:=by decide) (z:la (e::g) X.env=(false,Ib e X.env)::la g X.env:=by rfl) (m:(Bc i (la g X.env)).any (·.1)=false:=by rfl) :
  FE T X (.Call (.Name x p) (e::g) [] i) (au c ps.length o (OA b q)):=by
 obtain⟨I,J,v,r⟩:=h;exact P4 C t (by rcases y with rfl|rfl<;>assumption) r F l s E B u j z m
end
structure oF(P:za)(w:Ma)(K:W.Frag)(mg:qa->Option Value)(base:Heap)(k:Nat)(f:Addr)(fd:Nf)(ps:List qa)(sp:Sp):Prop where
 len:∀ vs H Q E,sp vs H Q E->vs.length=ps.length
 Gd:∀ (A:Ha) (outer:List Ih) (s:Shared) (H:Hp) (args:Args) (us:List Value) (vs:List V) (Q:VK) (E:XK),Ce k { A with handled:=none }->Ap P w K mg base A outer s H->xg s fd args (ps.zip us)->jf vs us->sp vs H Q E->
  codeAny (model P w) A (.call (.ref f) args) (CR (sm P w) outer P w H s Q E) s
section
variable{P:za}{w:Ma}{K:W.Frag}{mg:qa->Option Value}{base:Heap}{ca:Nat->Addr}{tx:Tx}{T:Tb}{k:Nat}{f:Addr}{ps:List qa}
def GN(T:Tb)(P:za)(w:Ma)(mg:qa->Option Value)(base:Heap)(k:Nat)(x:qa)(ps:List qa)(c:List D->M D):Prop:=
 ∃ f b,mg x=some (.ref f)/\W.keepIn T.K (.ref f)=true/\(∀ a:List Value,a.length=ps.length->bindArgs b ⟨a,[]⟩=pure (ps.zip a))/\oF P w T.K mg base k f b ps (uq T ps.length c)
theorem GN.Wa{k:Nat}{x:qa}{ps:List qa}{a:List D->M D}(h:GN T P w mg base k x ps a):GN T P w mg base k x ps (L4.Wa a):=by rw[zq];exact h
end
section
variable{T:Tb}{X:Cx}
def Dv:List D->Option (List gc)
 |[]=>some []
 |d::ds=>match Gm d,Dv ds with
  |some k,some a=>some (k::a)
  |_,_=>none
theorem pK{m:List Addr}{H:Hp}:∀ {a:List D} {f:List V} {c:List gc},gb T m H a f->Dv a=some c->f=c.map kV
 |[],f,c,h,e=>by rw[gb]at h;cases e;exact h
 |d::a,f,c,h,e=>by
  obtain⟨v,r,rfl,i,j⟩:=h;unfold Dv at e;cases b:Gm d with
  |none=>rw[b]at e;cases e
  |some k=>
   cases g:Dv a with
   |none=>rw[b,g]at e;cases e
   |some l=>
    rw[b,g]at e;cases e;rw[Yz i b,pK j g];rfl
noncomputable def yV:Ev->M D:=λ_ a=>.ok (.ref a.length) (a++[.yf []])
theorem wX{b:Me}:FE T X (.Dict [] [] b) yV:=by
 intro a s f H Q I h;obtain⟨g,j,k,i,d,e⟩:=h;refine Đ a s f H Q I λp c=>?_;exact e (g++[p]) (.ref p) _ (Sy c) (d.push c ⟨[],Hh,rfl⟩) (kF d)
open Classical in
def IG(a:List (List gc))(k:List gc):List (List gc):=if k∈a then a else a++[k]
open Classical in
theorem ĳ(a:List (List gc × V))(k:List gc)(v:V):(On a k v).map (·.1)=if k∈a.map (·.1)then a.map (·.1)else a.map (·.1)++[k]:=by
 unfold On;by_cases h:k∈a.map (·.1)
 ·have:(a.any λc=>decide (c.1=k))=true:=by
   obtain⟨p,b,e⟩:=Ed.mp h;exact Jg.mpr ⟨p,b,by simpa using e⟩
  rw[ja this,ja h,vn];refine List.map_congr_left λp b=>?_;show (if p.1=k then (p.1,v)else p).1=p.1;split<;>rfl
 ·have:¬ (a.any λc=>decide (c.1=k))=true:=λz=>by
   obtain⟨p,b,e⟩:=Jg.mp z;exact h (Ed.mpr ⟨p,b,by simpa using e⟩)
  rw[ua this,ua h,List.map_append];rfl
def eF(d:Ev)(x y:D):M Fl:=λb=>match x,y with
 | .ref n,.ub c=>(match Dv c,b[n]? with
  |some k,some (.yf a)=>if a.length<zi then .ok (.nx d) (b.set n (.yf (IG a k)))else .Sb
  |_,_=>.Sb)
 |_,_=>.Sb
def AJ(a:Ev)(b:Ev->M D)(x:D):M Fl:=xs a (b a) (eF a x)
def HK(a:Ev)(c b:Ev->M D)(_:D):M Fl:=xs a (c a) (AJ a b)
def UK(f c b:Ev->M D):Ev->M Fl:=λa=>xs a (f a) (HK a c b)
theorem E3{e o i:Fa}{f R fi:Ev->M D}{m c:Me}(hu:X.A.units+9<cLine)(he:FE T X e f)(ho:FE T X o R)(hi:FE T X i fi)
  (ha:∀ v,rl (.Subscript o i c) X.env v=(do
   let q <-qf [v] (Ib o X.env);let E <-qf [v,q] (Ib i X.env)
   pi c
   qf [v,q,E] (ju q E v)
   fD [v,q,E] []):=by intro _;rfl)
  (hs:Jo [.Subscript o i c] e m.line X.env=pure false:=by rfl) (hw:Ko [.Subscript o i c] e X.env=pure none:=by rfl)
  (Z:(Cf [.Subscript o i c] X.env).map (·.2)=[rl (.Subscript o i c) X.env]:=by rfl):FS T X (.Assign [.Subscript o i c] e m) (UK f R fi):=by
 intro l s V H D I hq;refine MN he (RM ho hi (RU hu) ha) hs hw Z l s V H D I ?_;obtain⟨μ,L,σ,g,hr,hp⟩:=hq;refine⟨μ,L,σ,g,hr,hp.xs g λd N J v H1 _ h r1 q1 p1=>?_⟩;refine⟨J,L,N,g.mono h,r1,p1.xs (g.mono h) λx O K vo H2 _ r r2 q2 p2=>?_⟩;refine⟨K,L,O,(g.mono h).mono r,r2,p2.xs ((g.mono h).mono r) λy P a0 vi H3 _ Q U q3 p3=>?_⟩;have hx:=Ia.mono Q _ _ q2;unfold eF at p3;cases x with
 |ref n=>
  cases y with
  |ub ys=>
   dsimp only at p3;cases u:Dv ys with
   |none=>rw[u]at p3;exact p3.elim
   |some k=>
    rw[u]at p3;cases p:P[n]? with
    |none=>rw[p]at p3;exact p3.elim
    |some ob=>
     rw[p]at p3;cases ob with
     |yf F=>
      dsimp only at p3;by_cases B:F.length<zi
      ·rw[ja B]at p3;obtain⟨a,rfl,hn,W,Y,S⟩:=U.at hx p;obtain⟨b,ws,rfl,hb,C⟩:=q3;have w:=pK C u;subst w;have G:=U.write (o:=.dT (On W k v)) (ob:=.yf (IG F k)) hn ⟨_,Hh,by
        subst S;rw[ĳ];rfl⟩ (λkv z=>by rw[p]at z;cases z)
       have j:W.length=F.length:=by rw[<-S,Pb]
       exact⟨a,_,rfl,pA.t Y hb (by rw[j];exact Ga B (by decide)),p3 _ (.nx V) _ G.1 G.2 (((g.mono h).mono r).mono Q |>.mono G.1)⟩
      ·rw[ua B]at p3;exact p3.elim
     |_=>exact p3.elim
  |_=>exact p3.elim
 |_=>exact p3.elim
end
section
variable{T:Tb}{X:Cx}
theorem VR(k:List gc):∀ a:List (List gc × V),(cr a k).isSome=true ↔ k∈a.map (·.1)
 |[]=>by rw[O2];simp
 |p::a=>by
  by_cases e:p.1=k
  ·rw[xE e];simp[e]
  ·rw[ED e,VR k a,yb,Da];exact⟨.inr,λz=>z.elim (λy=>absurd y.symm e) id⟩
open Classical in
def bM(y x:D):M D:=λa=>match y,x with
 | .ub c,.ref n=>(match Dv c,a[n]? with
  |some k,some (.yf b)=>.ok (.bl (decide (k∈b))) a
  |_,_=>.Sb)
 |_,_=>.Sb
theorem X9:rn T JN bM:=by
 intro E A H o y x u v Q r q p h;unfold bM at h;cases y with
 |ub m=>
  cases x with
  |ref n=>
   dsimp only at h;cases c:Dv m with
   |none=>rw[c]at h;exact h.elim
   |some k=>
    rw[c]at h;cases e:o[n]? with
    |none=>rw[e]at h;exact h.elim
    |some ob=>
     rw[e]at h;cases ob with
     |yf w=>
      obtain⟨a,rfl,s,l,g,i⟩:=r.at p e;obtain⟨b,z,rfl,j,f⟩:=q;have d:=pK f c;subst d;refine⟨a,cr l k,rfl,Fj.t g j,Zb.here h r ?_⟩;congr 1;rw[tz,VR,i];simp
     |_=>exact h.elim
  |_=>exact h.elim
 |_=>exact h.elim
theorem wZ{f:List Addr}{g:Hp}{c:Lk}{J:It}(h:lI T f g c J):eB T f g c.nx J:=λl H j i ex r=>by
 have q:=h l H j i ex r;cases e:c.nx i j with
 |none=>trivial
 |some o=>
  rw[e]at q;cases o with
  |none=>exact q
  |some d=>exact⟨q.1,λx k y=>let ⟨a,b⟩:=q.2 x k y;by subst a;exact⟨Se.refl _ _,r,b⟩⟩
noncomputable def vL(s:Lk):M NX:=ret s.nx
def wl(f:Ev->M Lk):Ev->M NX:=λa=>Ld (f a) vL
theorem zu{tg a:Fa}{f:Ev->M Lk}(h:FI T X tg a f):Ky T X tg a (wl f):=by
 intro b s k H R I g;obtain⟨l,n,o,c,e,d⟩:=g;exact h b s k H R I ⟨l,n,o,c,e,d.bind λj p m J q _ r i q1 p1=>Zb.here p1 i (wZ q1)⟩
theorem LP{O n F:Fa}{Q:List Fa}{f:Scope}{a4 K py:Me}{x y z0:qa}{i:Nat}{M':List qa}{ix:List Nat}{R:Ev->M NX}{tg:D->Ev->Option Ev}{fi:Ev->M Bool}{fe:Ev->M D}
  (hN:X.N.Nodup) (hi:X.N[i]?=some y) (hx:Loc X.env.scope y)
  (hc:X.Vh=true) (L:Dp X x M' ix f) (a0:Ky T X F n R)
  (b8:∀ cl C k j ex,FG T (Vv X (x::z0::M') f cl C k j ex) F tg)
  (b1:∀ cl C k j ex,uF T (Vv X (x::z0::M') f cl C k j ex) Q fi)
  (Y:∀ cl C k j ex,FE T (Vv X (x::z0::M') f cl C k j ex) O fe)
  (hs:∀ y,Sh n X.env y=pure y:=by intro _;rfl)
  (b6:lj (.ListComp O [⟨F,n,Q,0⟩] f a4) (some (.Name y py)) K.line X.env=pure true:=by rfl)
  (hf:X.fn y=true\/X.env.scope.names.lookup y=some .local:=by first|exact .inl rfl|exact .inr rfl|assumption) :
  FS T X (.Assign [.Name y py] (.ListComp O [⟨F,n,Q,0⟩] f a4) K) (wh i (wj R ix tg fi fe)):=by
 intro G s S H D I h;obtain⟨μ,ρ,σ,hE,hr,b4⟩:=h;have hp:Zb T (XE X S) (Ia T) μ H (wj R ix tg fi fe ρ σ) (λv V=>D.nx (S.set i (some v)) V):=b4.xs hE λd a7 a6 v V _ e1 r1 q1 p1=>Zb.here (g:=nu.nx (S.set i (some v))) p1 r1 ((hE.mono e1).set i q1);rw[exec_Assign_Name_used _ _ _ _ b6];refine aa (Nv (aa ?_));refine aa (Xb (Tv rfl hs (aK X.env f (dB I L)) L.kind (λy hy e=>?_)
  ?_) (λ_ s' hq=>da (da hq)) λ_ _ e=>e)
 ·have q:=Dc.mp L.names y hy;rw[e]at q;exact eq_of_beq q
 have h1:=a0 G s S H (λJ A=>∃ nx m w,Se μ H m A/\ee T m A w/\eB T m A nx J/\Zb T (XE X S) (Ia T) m A (Ld (Wj nx w.length tg fi fe 1001 0 (iw ix ρ)) (λ_=>ret (.ref w.length)) (w++[Ob.Ca []])) (λv V=>D.nx (S.set i (some v)) V)) I
  ⟨μ,ρ,σ,hE,hr,hp.bind λnx a7 a6 J V _ e1 r1 q1 p1=>⟨nx,a6,a7,e1,r1,q1,p1⟩⟩
 refine Re h1 λv s1 h2=>Re h2 λc1 l h3=>?_;obtain⟨it,fp,tn,J,A,rfl,I2,TT,a5,f2,nx,m,w,a8,r2,so,p2⟩:=h3;refine Hc (Sm (uD L) (by intro y hy;simp at hy) (λa1 B E=>?_) L.kind);have U:=I2.VA (t':=l.toks) .nil (by simp);have W:A l.heap.objs.size=none:=I2.md.fresh (wa _);have r3:=r2.push (ob:=.Ca []) W ⟨[],Hh,gb.nil⟩;have P:Se m A (m++[l.heap.objs.size]) (ic A l.heap.objs.size (.Ca [])):=Sy W;have b7:l.heap.objs.size<(l.heap.push { cls:=.type "list",data:=.seq [].toArray }).objs.size:=by rw[Cd];exact Qb _
 have kp:∀ b o,(l.heap.push { cls:=.type "list",data:=.seq [].toArray }).get? b=some o->a1.get? b=some o:=λb o e=>E.extBut b o (ya (va e)) (ba _ e);have u:∀ b∈fp,yn X G (ic A l.heap.objs.size (.Ca [])) b/\b<(l.heap.push { cls:=.type "list",data:=.seq [].toArray }).objs.size:=λb t=>by
  obtain⟨o,e,_⟩:=TT.obj 0 _ a5 b t;have lt:=va e;exact⟨⟨by rw[Le (ya lt)];exact(f2 b t).1,(f2 b t).2⟩,Ku lt b7⟩
 refine sT hc L b8 b1 Y U u B kp TT (TT.keep 0 _ _ a5 λb t o e=>kp b o (ba _ e))
  (λμ H σ i ex r=>so μ H σ i (P.trans ex) r) ((hE.mono a8).mono P) r3 (by rw[<-r2.len];simp) (p2.mono P) (λs6 H' m6 b2 a9 b9 b3 Z b0 hq=>?_)
 have I6:=L2.Qa.Gw (s':=s6) (ch:=fp) U b3 b9 Z b0 (λb t=>⟨(u b t).1.2.2.2.1,(u b t).1.2.1,(u b t).1.2.2.2.2.1,(u b t).1.2.2.2.2.2⟩);have a3:X.env.locals<(l.heap.push { cls:=.type "list",data:=.seq ([]:List Value).toArray }).objs.size:=U.lt;have a2:∀ z c,X.env.cells.lookup z=some c->c<(l.heap.push { cls:=.type "list",data:=.seq ([]:List Value).toArray }).objs.size:=λz c e=>by
  obtain⟨v,q⟩:=U.cell z c e;exact q.lt
 refine OC (nS (v:=.ref l.heap.objs.size) I6 hN hi hx rfl (λs7 I7 ⟨a,sb,ha⟩=>?_) hf);have c0:a≠(l.heap.push { cls:=.type "list",data:=.seq ([]:List Value).toArray }).objs.size:=by
  rcases ha with rfl|ha
  ·exact ya a3
  ·exact ya (a2 _ _ ha)
 refine⟨m6,b2.sameBut sb (Te c0),λh8 b5=>?_⟩;refine⟨S.set i (some (.ref l.heap.objs.size)),H',?_,hq⟩;exact I7.turned (t':=s7.toks) (it:=(l.heap.push { cls:=.type "list",data:=.seq ([]:List Value).toArray }).objs.size) (λb o t e=>(b5.2 b t).trans e) a9 (gf a3) (.inr (Wb U.sz (wa _))) (λz c e=>ya (a2 z c e)) (λp hp=>ya (va (U.pin p hp).1))
end
noncomputable def oK:Ev->M Bool:=λ_ _=>.Sb
theorem yS{T:Tb}{X:Cx}{e:Fa}:FT T X e oK:=by
 intro a s f H Q I h;obtain⟨g,i,j,c,d,b⟩:=h;exact b.elim
section
variable{P:za}{w:Ma}
def KS(c h:Heap):Prop:=∀ b o a n,c.get? b=some o->o.data=.seq a n->h.get? b=some o
theorem KS.keeps{i h g:Heap}{d:Addr}{o:Obj}{es ep}(x:KS i h)(k:h.get? d=some o)(j:o.data=.dict es ep)(l:Fd d h g):KS i g:=λb m f n e a=>by
 have q:=x b m f n e a;have c:b≠d:=by
  rintro rfl;rw[k]at q;cases q;rw[j]at a;exact nomatch a
 exact(l.2 b c).trans q
def NT(P:za)(w:Ma)(e:Heap):Nat->Value->Int->Nat->Prop
 |0,v,x,n=>∃ k,(Ri P w).is k v=true/\x=(Ri P w).hash k/\n=1
 |d+1,v,x,n=>(∃ k,(Ri P w).is k v=true/\x=(Ri P w).hash k/\n=1)\/
  ∃ a o b m,∃ c:List (Value × Int × Nat),v=.ref a/\e.get? a=some o/\o.cls=.type "tuple"/\o.data=.seq b m/\b.toList=c.map (·.1)/\(∀ p∈c,NT P w e d p.1 p.2.1 p.2.2)/\
   x=reduceHash (Td (c.map (·.2.1)))/\n=(c.map (·.2.2)).sum+1
theorem WT{f:Heap}:∀ (d:Nat) {A:Ha} {E:Value->Shared->Prop} {s:Shared} {v:Value} {x:Int} {n:Nat} {Q:Int->Shared->Prop},NT P w f d v x n->KS f s.heap->A.units+d<cLine->Q x { s with toks:=s.toks+n }->wpAny (model P w) A (pyHash v) Q E s
 |0,A,E,s,v,x,n,Q,f,_,_,h=>by
  obtain⟨k,u,j,i⟩:=f;subst j i;exact(Ri P w).pyHash u h
 |d+1,A,E,s,v,x,n,Q,f,g,L,h=>by
  rcases f with⟨k,u,j,i⟩|⟨a,o,K,m,C,J,D,G,z,H,I,j,i⟩
  ·subst j i;exact(Ri P w).pyHash u h
  subst J j i;have B:=g _ _ _ _ D z;have l:s.TypeIs (.ref a) "tuple":=⟨o,B,G⟩
  refine aa (wpAny_cRoomFor_or (.inr (by omega)) ?_);refine aa (Ki l Dj.lookup ?_);refine aa (Ki l Dj.lookup ?_);refine aa (wpAny_callSpecialIfBoundUnlessNone?_slot l Dj (Qc Dj l F.entry_tuple_hash ?_ (F.args_tuple_hash_1 _)));show wpAny _ _ (Lh (.ref a) >>= _) _ _ s;refine aa (Lp B z ?_);refine aa ?_;rw[<-Uv];refine Ls _
   (λnh (b:Array Int) y=>∃ c left,C=c++left/\nh=left.map (·.1)/\b.toList=c.map (·.2.1)/\y={ s with toks:=s.toks+(c.map (·.2.2)).sum })
   _ ?_ ?_ _ _ ⟨[],C,rfl,H,rfl,rfl⟩
  ·rintro x nh b y ⟨c,left,rfl,r,q,rfl⟩;cases left with
   |nil=>cases r
   |cons p e=>
    cases r;refine aa (WT d (I p (by simp)) g (show A.units+1+d<cLine by omega) ?_);first
     |exact da ⟨c++[p],e,by simp,rfl,by simp[q],by simp[zm]⟩
     |exact aa (da (da ⟨c++[p],e,by simp,rfl,by simp[q],by simp[zm]⟩))
  ·rintro b y ⟨c,left,rfl,r,q,rfl⟩;cases left with
   |cons _ _=>cases r
   |nil=>
    rw[Pe]at h;show wpAny _ _ (retInt (Td b.toList)) _ _ _;rw[q];refine wpAny_ret_mkInt ?_;show wpAny _ _ (if (decide (-(2:Int) ^ 63<=Td (c.map (·.2.1))) && decide (Td (c.map (·.2.1))<2 ^ 63))=true then _ else _) Q E _;unfold reduceHash at h;by_cases t:(decide (-(2:Int) ^ 63<=Td (c.map (·.2.1))) && decide (Td (c.map (·.2.1))<2 ^ 63))=true
    ·rw[ja t];rw[ja t]at h;exact da (by simpa [zm]using h)
    ·rw[ua t];rw[ua t]at h;exact aa (nl (da (by simpa [zm]using h)))
theorem tQ{c:Heap}:∀ (d m:Nat) {A:Ha} {E:Value->Shared->Prop} {s:Shared} {v:Value} {x:Int} {n:Nat} {Q:Bool->Shared->Prop},d<=m->NT P w c d v x n->KS c s.heap->Q true s->wpAny (model P w) A (eqIsQuiet m v) Q E s
 |0,m,A,E,s,v,x,n,Q,_,c,_,h=>by
  obtain⟨k,g,C,y⟩:=c;rw[aD _ ((Ri P w).byValue _ _ g)];exact da h
 |d+1,0,_,_,_,_,_,_,_,hm,_,_,_=>by omega
 |d+1,m+1,A,E,s,v,x,n,Q,hm,c,e,h=>by
  rcases c with⟨k,g,C,y⟩|⟨a,o,j,m,K,f,D,G,q,H,I,C,y⟩
  ·rw[aD _ ((Ri P w).byValue _ _ g)];exact da h
  subst f;have z:=e _ _ _ _ D q;have t:s.TypeIs (.ref a) "tuple":=⟨o,z,G⟩
  unfold eqIsQuiet;refine aa (Ki t Ms.lookup ?_);refine aa (Ck t ky ?_);refine aa (Qh z q ?_);refine aa ?_;show wpAny _ _ (forIn j _ _) _ _ s;rw[<-Uv];refine Ls _ (λnh r l=>r.1=none/\l=s/\∀ v∈nh,∃ p∈K,p.1=v) _ ?_ ?_ _ _ ⟨rfl,rfl,λv f=>by rw[H]at f;exact Ed.mp f⟩
  ·rintro v nh r l ⟨B,rfl,b⟩;obtain⟨p,J,rfl⟩:=b _ Ua;refine aa (tQ d _ (by omega) (I p J) e ?_);exact da ⟨rfl,rfl,λu i=>b u (Ka _ i)⟩
  ·rintro ⟨L,M⟩ l ⟨B,rfl,_⟩;subst B;exact da h
theorem YS{A:Ha}{E:Value->Shared->Prop}{s:Shared}{a b:Addr}{l ob:Obj}{xs d:Array Value}{R S:Nat}{Q:Bool->Shared->Prop}(q:a≠b)(O:A.units<cLine)
  (I:s.heap.get? a=some l) (t:l.cls=.type "tuple") (y:l.data=.seq xs R) (J:s.heap.get? b=some ob) (x:ob.cls=.type "tuple") (B:ob.data=.seq d S)
  (K:(xs.toList=[]/\d.toList≠[])\/(d.toList=[]/\xs.toList≠[])\/∃ j k u v,xs.toList.head?=some u/\d.toList.head?=some v/\(Ri P w).is j u=true/\(Ri P w).is k v=true/\j≠k) (h:Q false s) :
  wpAny (model P w) A (eqBool (.ref a) (.ref b)) Q E s:=by
 have f:s.TypeIs (.ref a) "tuple":=⟨l,I,t⟩
 have g:s.TypeIs (.ref b) "tuple":=⟨ob,J,x⟩
 unfold eqBool;try with_reducible refine Ac ?_
 rw[ua (λz=>q (by have:=eq_of_beq z;injection this))];refine aa (wpAny_richCompare_same_room f g Ms
   (Qc Ms f F.entry_tuple_eq ?_ (F.args_tuple_eq_2 _ _)) O)
 show wpAny _ _ (Ou (.ref b) (.type "tuple") >>= _) _ _ s;refine aa (Ck g ky ?_);refine aa (Lp I y ?_);refine aa (Lp J B ?_);refine aa ?_;refine Ls _ (λnh r D=>r.1=none/\D=s/\nh=List.zip xs.toList d.toList) _ ?_ ?_ _ _ ⟨rfl,rfl,rfl⟩
 ·rintro ⟨u,v⟩ nh r D ⟨L,rfl,c⟩;rcases K with⟨e,_⟩|⟨e,_⟩|⟨j,k,T,U,n,o,M,N,C⟩
  ·rw[e]at c;cases c
  ·rw[e,ww]at c;cases c
  ·obtain⟨G,ex⟩:=yh.mp n;obtain⟨H,p⟩:=yh.mp o;rw[ex,p,xw]at c;cases c;refine aa ((Ri P w).eqBool M N ?_);rw[yd C];exact aa (da (da (da ⟨_,rfl,(λe=>nomatch e),Zc h⟩)))
 ·rintro ⟨V,W⟩ D ⟨L,rfl,c⟩;subst L;refine da ?_;have i:(xs.size == d.size)=false:=by
   rw[Yc,<-Eb,<-Eb];rcases K with⟨e,m⟩|⟨e,m⟩|⟨j,k,T,U,n,o,_⟩
   ·rw[e];intro z;exact m (Sf.mp z.symm)
   ·rw[e];intro z;exact m (Sf.mp z)
   ·obtain⟨G,ex⟩:=yh.mp n;obtain⟨H,p⟩:=yh.mp o;rw[ex,p,xw]at c;cases c
  show ∃ v,Fin.done (.ret (.bool (xs.size == d.size)))=.done (.ret v)/\_;rw[i];exact⟨_,rfl,(λe=>nomatch e),Zc h⟩
structure NQ(P:za)(w:Ma)(h0:Heap)(a0:Addr)(x0:Int)(n0:Nat)(t:gc):Prop where
 nt:NT P w h0 5 (.ref a0) x0 n0
 hd:∃ o v0 its m,h0.get? a0=some o/\o.cls=.type "tuple"/\o.data=.seq its m/\its.toList.head?=some v0/\(Ri P w).is t v0=true
def Ř(P:za)(w:Ma)(d:Heap)(c:Addr)(t:gc)(h:Heap):Option (List gc)->Addr->Prop
 |some b,a=>IsTupleKey (Ri P w) h b a/\b.head?≠some t
 |none,a=>a=c/\KS d h
theorem hG{y:Heap}{n:Addr}{M:Int}{J:Nat}{t:gc}(q:NQ P w y n M J t){h:Heap}{B:List gc}{a:Addr}(G:IsTupleKey (Ri P w) h B a)(H:B.head?≠some t)(k:KS y h) :
  a≠n/\∃ f xs p g e K,h.get? a=some f/\f.cls=.type "tuple"/\f.data=.seq xs p/\h.get? n=some g/\g.cls=.type "tuple"/\g.data=.seq e K/\
   ((xs.toList=[]/\e.toList≠[])\/∃ b u v,xs.toList.head?=some u/\e.toList.head?=some v/\(Ri P w).is b u=true/\(Ri P w).is t v=true/\b≠t):=by
 obtain⟨f,xs,p,s,C,x,A⟩:=G;obtain⟨g,L,e,m,D,E,i,o,F⟩:=q.hd;have c:=k _ _ _ _ D i;have d:(xs.toList=[]/\e.toList≠[])\/∃ b u v,xs.toList.head?=some u/\e.toList.head?=some v/\(Ri P w).is b u=true/\(Ri P w).is t v=true/\b≠t:=by
  generalize xs.toList=l at A;cases A with
  |nil=>exact .inl ⟨rfl,λz=>by rw[z]at o;cases o⟩
  |@cons b u I us g1 g2=>exact .inr ⟨b,u,L,rfl,o,g1,F,λz=>H (by rw[z];rfl)⟩
 refine⟨λz=>?_,f,xs,p,g,e,m,s,C,x,c,E,i,d⟩;subst z;rw[s]at c;cases c;rw[x]at i;cases i;rcases d with⟨r,j⟩|⟨b,u,v,r,j,N,O,Q⟩
 ·exact j r
 ·rw[r]at j;cases j;exact Q ((Ri P w).inj _ _ _ N O)
def zP{K:Heap}{J:Addr}{R:Int}{O:Nat}{t:gc}(q:NQ P w K J R O t):HeapKind P w (Option (List gc)) where
 is:=Ř P w K J t
 hash:=λk=>match k with|some g=>tupleKeyHash (Ri P w) g|none=>R
 draws:=λk=>match k with|some g=>g.length+1|none=>O
 room:=λA=>A.units+5<cLine
 inj:=fun {h a x y} c f=>by
  cases x with
  |none=>cases y with
   |none=>rfl
   |some g=>obtain⟨rfl,k⟩:=c;exact absurd rfl (hG q f.1 f.2 k).1
  |some S=>cases y with
   |none=>obtain⟨rfl,k⟩:=f;exact absurd rfl (hG q c.1 c.2 k).1
   |some g=>exact Ef some (c.1.inj f.1)
 keeps:=fun {h h' k a d o Z Y} x L hd M=>by
  cases k with
  |none=>exact⟨x.1,x.2.keeps L hd M⟩
  |some g=>exact⟨x.1.keeps L hd M,x.2⟩
 pyHash:=fun {A E s k a Q} N l h=>by
  cases k with
  |none=>obtain⟨rfl,B⟩:=l;exact WT 5 q.nt B N h
  |some g=>exact wpAny_pyHash_tuple (by omega) l.1 h
 eqBool:=fun {A E s x y a b Q} N c f h=>by
  cases x with
  |none=>cases y with
   |none=>
    obtain⟨i,k⟩:=c;obtain⟨j,k'⟩:=f;have e:a=b:=i.trans j.symm;subst e;unfold eqBool;try with_reducible refine Ac ?_
    show wpAny _ _ (if (cc a == cc a)=true then _ else _) Q E s;rw[ja (by simp)];exact aa (nl (da (by simpa using h)))
   |some g=>
    obtain⟨rfl,k⟩:=c;obtain⟨C,V,xs,T,W,X,U,i,j,m,n,p,r,d⟩:=hG q f.1 f.2 k;refine YS (Te C) (by omega) n p r i j m ?_ (by simpa using h);rcases d with d|⟨z,u,v,D,F,G,H,I⟩
    ·exact .inr (.inl d)
    ·exact .inr (.inr ⟨t,z,v,u,F,D,H,G,Te I⟩)
  |some S=>cases y with
   |none=>
    obtain⟨rfl,k⟩:=f;obtain⟨C,V,xs,T,W,X,U,i,j,m,n,p,r,d⟩:=hG q c.1 c.2 k;refine YS C (by omega) i j m n p r ?_ (by simpa using h);rcases d with d|⟨z,u,v,D,F,G,H,I⟩
    ·exact .inl d
    ·exact .inr (.inr ⟨z,t,u,v,D,F,G,H,I⟩)
   |some g=>exact wpAny_eqBool_tuple (by omega) c.1 f.1 (by simpa using h)
 quiet:=fun {A E s k a Q} l h=>by
  cases k with
  |none=>obtain⟨rfl,B⟩:=l;exact tQ 5 8 (by omega) q.nt B h
  |some g=>exact wpAny_eqIsQuiet_tuple l.1 h
def NV(H:Hp):Nat->V->Prop
 |0,v=>∃ k,v=kV k
 |d+1,v=>(∃ k,v=kV k)\/∃ b xs,v=.ref b/\H b=some (.ub xs)/\∀ x∈xs,NV H d x
theorem uO{H:Hp}{h:Heap}(ok:xj P w H h):∀ (d:Nat) (v:V) (u:Value),NV H d v->ie v u->∃ x n,NT P w h d u x n
 |0,v,u,⟨k,e⟩,r=>by subst e;exact⟨_,_,k,zy r,rfl,rfl⟩
 |d+1,v,u,B,r=>by
  rcases B with⟨k,e⟩|⟨b,xs,e,A,f⟩
  ·subst e;exact⟨_,_,.inl ⟨k,zy r,rfl,rfl⟩⟩
  ·subst e;cases (r);obtain⟨_,m,E,o,s,t,n,y⟩:=(ok b _ A)
   have g:∀ {xs:List V} {q:List Value},jf xs q->(∀ x∈xs,NV H d x)->∃ a:List (Value × Int × Nat),q=a.map (·.1)/\∀ p∈a,NT P w h d p.1 p.2.1 p.2.2:=by
    intro xs q r;induction r with
    |nil=>intro _;exact⟨[],rfl,λp c=>nomatch c⟩
    |cons D _ C=>
     intro f;obtain⟨a,i,j⟩:=C λx l=>f x (Ka _ l);obtain⟨x,n,z⟩:=uO ok d _ _ (f _ Ua) D;refine⟨(_,x,n)::a,by rw[i];rfl,λp c=>?_⟩;rcases Da.mp c with rfl|c
     ·exact z
     ·exact j p c
   obtain⟨a,i,j⟩:=g E f;exact⟨_,_,.inr ⟨b,o,m.toArray,n,a,rfl,s,t,y,by simpa using i,j,rfl,rfl⟩⟩
end
section
variable{T:Tb}{X:Cx}
def RV:R2:=λy x H Q=>(∃ a o,x=.ref a/\Fj H a y o/\Q (.bl o.isSome) H)\/
 ∃ a b c t d,x=.ref a/\H a=some (.dT c)/\y=.ref b/\H b=some (.ub (kV t::d))/\(∀ p∈c,p.1.head?≠some t)/\NV H 5 y/\Q (.bl false) H
theorem F4(hu:X.A.units+9<cLine):yj X (Gc .In) RV:=by
 intro g s st H y x C u Q I F E h;rcases h with h|⟨a,b,c,t,ys,rfl,U,rfl,W,Z,hv,q⟩
 ·exact CJ hu g s st H y x C u Q I F E h
 obtain rfl:u=cc a:=E;obtain rfl:C=cc b:=F;obtain⟨z,Y,xs,v,G⟩:=SU I.md U;obtain⟨x0,n0,nt⟩:=uO I.md 5 _ (.ref b) hv rfl;have D:NQ X.prog X.w s.heap b x0 n0 t:=⟨nt,by
  obtain⟨_,its,rv,o,j,S,n,T⟩:=(I.md b _ W)
  cases rv with
  |cons r1 r2=>exact⟨o,_,_,n,j,S,T,rfl,zy r1⟩⟩
 have d:∀ {c:List (List gc × V)} {xs:List (List gc × Addr × Value)},KT H c xs->(∀ p∈c,p.1.head?≠some t)->∀ x∈xs,x.1.head?≠some t:=by
  intro c xs r;induction r with
  |nil=>intro _ x d;exact nomatch d
  |cons j _ ih=>
   intro B x d;rcases Da.mp d with rfl|d
   ·rw[<-j.1];exact B _ Ua
   ·exact ih (λp l=>B p (Ka _ l)) x d
 have i:s.heap.DictOfH (zP D) a (xs.map λx=>(some x.1,x.2)):=by
  obtain⟨o,R,P,J,K,L,M,N,O⟩:=G;refine⟨o,R,P,J,K,L,?_,λx f=>?_,?_⟩
  ·rw[M,vn];rfl
  ·obtain⟨y,m,rfl⟩:=Ed.mp f;exact⟨N y m,d v Z y m⟩
  ·have:(xs.map λx=>(some x.1,x.2)).map (·.1)=(xs.map (·.1)).map some:=by rw[vn,vn];rfl
   rw[this];exact(List.pairwise_map.mpr (SF (λh z=>h (Ya z)) O))
 refine JW (knd:=zP D) (k:=none) (show X.A.units+1+5<cLine by omega) ⟨rfl,λb o its n e e'=>e⟩ Y i ?_;have hn:Nq (xs.map λx=>(some x.1,x.2)) none=none:=by
  unfold Nq;rw[Option.map_eq_none_iff,List.find?_eq_none];intro x f e;obtain⟨y,m,rfl⟩:=Ed.mp f;exact nomatch (of_decide_eq_true e)
 rw[hn];exact⟨.bl false,H,I.tok _,rfl,q⟩
def BE:Nat->D->Bool
 |0,d=>(Gm d).isSome
 |n+1,d=>(Gm d).isSome || match d with
  | .ub ds=>ds.all (BE n)
  |_=>false
theorem LU{f:List Addr}{H:Hp}:∀ {c:List D} {b:List V},gb T f H c b->∀ v∈b,∃ d∈c,Ia T f H d v
 |[],b,h,v,a=>by rw[gb]at h;subst h;exact nomatch a
 |d::c,b,h,v,a=>by
  obtain⟨k,r,rfl,g,i⟩:=h;rcases Da.mp a with rfl|a
  ·exact⟨d,Ua,g⟩
  ·obtain⟨e,j,r⟩:=LU i v a;exact⟨e,Ka _ j,r⟩
theorem kW{j:List Addr}{H:Hp}:∀ (n:Nat) {d:D} {v:V},BE n d=true->Ia T j H d v->NV H n v
 |0,d,v,h,r=>by
  obtain⟨k,e⟩:=zd.mp (h);exact⟨k,Yz r e⟩
 |n+1,d,v,h,r=>by
  rcases Bool.or_eq_true_iff.mp h with h|h
  ·obtain⟨k,e⟩:=zd.mp h;exact .inl ⟨k,Yz r e⟩
  ·cases d with
   |ub ds=>
    obtain⟨b,i,rfl,c,a⟩:=r;refine .inr ⟨b,i,rfl,c,λx g=>?_⟩;obtain⟨d,f,r⟩:=LU a x g;exact kW n (Dc.mp h d f) r
   |_=>cases h
open Classical in
def Vz(y x:D):M D:=λc=>match y,x with
 | .ub b,.ref n=>(match Dv b,c[n]? with
  |some k,some (.yf a)=>.ok (.bl (decide (k∈a))) c
  |none,some (.yf a)=>if BE 5 (.ub b)=true/\∃ d e t,b=d::e/\Gm d=some t/\∀ k∈a,k.head?≠some t then .ok (.bl false) c else .Sb
  |_,_=>.Sb)
 |_,_=>.Sb
theorem zyh:rn T RV Vz:=by
 intro E J H i y x u v Q r q p h;cases y with
 |ub e=>
  cases x with
  |ref n=>
   cases l:Dv e with
   |some k=>
    refine .inl (X9 E J H i (.ub e) (.ref n) u v Q r q p ?_);unfold bM;unfold Vz at h;dsimp only at h ⊢;rw[l]at h ⊢;cases c:i[n]? with
    |none=>rw[c]at h;exact h
    |some ob=>
     rw[c]at h;cases ob<;>exact h
   |none=>
    unfold Vz at h;dsimp only at h;rw[l]at h;cases c:i[n]? with
    |none=>rw[c]at h;exact h.elim
    |some ob=>
     rw[c]at h;cases ob with
     |yf D=>
      dsimp only at h;by_cases f:BE 5 (.ub e)=true/\∃ d j t,e=d::j/\Gm d=some t/\∀ k∈D,k.head?≠some t
      ·rw[ja f]at h;obtain⟨w,d,j,t,rfl,C,A⟩:=f;obtain⟨a,rfl,L,G,m,o⟩:=r.at p c;have F:=kW 5 w q;obtain⟨b,N,rfl,z,g⟩:=q;obtain⟨M,I,rfl,s,K⟩:=g;obtain rfl:=Yz s C;refine .inr ⟨a,b,G,t,I,rfl,m,rfl,z,λp B=>A _ (by rw[<-o];exact List.mem_map_of_mem B),F,Zb.here h r ?_⟩;rw[Ia]
      ·rw[ua f]at h;exact h.elim
     |_=>exact h.elim
  |_=>exact h.elim
 |_=>exact h.elim
end
structure EqC(K:W.Frag)(C:Addr):Prop where
 f:W.findIn K (.ref C) "__eq__" = some (some (.builtin "object.__eq__"))
 o:W.mroIn K C (.type "object")=some true
section
variable{prog:za}{w:Ma}{K:W.Frag}{A:Ha}{E:Value->Shared->Prop}{h:Heap}{g:Array Um}{d:zw}{t:Nat}{os:OsState}{x y C D:Addr}{ox oy:Obj}
end
section
variable{T:Tb}{X:Cx}
end
end L4
set_option maxHeartbeats 0
namespace L4
open PySem PySem.Spec PyProof.Rows L2
section
variable{T:Tb}{X:Cx}{P:za}{w:Ma}{K:W.Frag}{mg:qa->Option Value}{base:Heap}{ca:Nat->Addr}{tx:Tx}
theorem Ke{N Q:List qa}{sc:Scope}(a:sc.kind=.function:=by rfl)(b:sc.isCoroutine=false:=by rfl)(c:sc.isGenerator=false:=by rfl)(h:N.Nodup/\N.take Q.length=Q/\(∀ x∈Q,sc.names.lookup x=some .local\/sc.names.lookup x=some .cell)/\∀ y∈sc.names,y.2≠.free:=by decide +kernel):ra N Q sc:=⟨a,b,c,h.1,h.2.1,h.2.2.1,h.2.2.2⟩
theorem wf{k n:Nat}{i:List qa}{f:List D->M D}{x:qa}{p b:Me}{e:Fa}{a:List Fa}{g:Ev->M (List D)}(h:Ig T X.prog X.w X.mg X.base k x i f)(r:Ce n X.A)(l:FA T X (e::a) g)(j:T.K=X.K:=by rfl)(q:k<=n:=by decide)(o:Gl X x:=by exact rfl)(c:(x == ("__debug__" : qa))=false:=by decide)(m:la (e::a) X.env=(false,Ib e X.env)::la a X.env:=by rfl)(d:(Bc b (la a X.env)).any (·.1)=false:=by rfl):FE T X (.Call (.Name x p) (e::a) [] b) (Je i.length f [] g):=ztq h j (r.mono q) o l c m d
theorem fmt{pl:Io Bool}{k n:Nat}{p:Mt}{l:List qa}{m:qa}{o e:Fa}{c:List Fa}{f:Ev->M D}{i:Ev->M (List D)}{a b:Me}(h:Xh T X.prog X.w X.mg X.base k m l p)(u:Ce n X.A)(s:FE T X o f)(r:FA T X (e::c) i)(q:T.K=X.K:=by rfl)(t:k<=n:=by decide)(g:la (e::c) X.env=(false,Ib e X.env)::la c X.env:=by rfl)(d:(Bc a (la c X.env)).any (·.1)=false:=by rfl)
  (v:Ib (.Call (.Attribute o m b) (e::c) [] a) X.env=(do
   let j <-Ib o X.env
   pi b.atName
   let (f,first) <-qf [j] (mj j m pl)
   Lq a f first (Bc a (la (e::c) X.env)) (si a (ng [] X.env))):=by rfl):FE T X (.Call (.Attribute o m b) (e::c) [] a) (Df p l.length m f i):=Η q s h (u.mono t) r g d v
theorem Ur{pl:Io Bool}{k n:Nat}{e:Mt}{d:List qa}{m:qa}{o:Fa}{f:Ev->M D}{b a:Me}(h:Xh T X.prog X.w X.mg X.base k m d e)(l:Ce n X.A)(i:FE T X o f)(g:T.K=X.K:=by rfl)(j:k<=n:=by decide)
  (p:Ib (.Call (.Attribute o m a) [] [] b) X.env=(do
   let c <-Ib o X.env
   pi a.atName
   let (f,first) <-qf [c] (mj c m pl)
   Lq b f first (Bc b (la [] X.env)) (si b (ng [] X.env))):=by rfl):FE T X (.Call (.Attribute o m a) [] [] b) (Df e d.length m f Na):=V5 g i h (l.mono j) p
theorem df{a b:Fa}{d e:Ev->M D}{c:Me}(g:FE T X a d)(h:FE T X b e)(f:T.K=X.K:=by rfl)(i:DJ b:=by exact λ_ _=>rfl):FE T X (.Subscript a b c) (nb nc d e):=k6 eX (S9 f) g h i
theorem sq{k:Nat}{a b:Fa}{d e:Ev->M D}{c:Me}(h:Ce k X.A)(f:FE T X a d)(g:FE T X b e):FE T X (.Compare a [.Eq] [b] c) (nb sh d e):=Ez (gp (Fh h)) Jk f g (Xi _)
theorem Eu{a b:Fa}{d e:Ev->M D}{c:Me}(g:FE T X a d)(h:FE T X b e)(f:T.K=X.K:=by rfl):FE T X (.BinOp a .Add b c) (nb vl d e):=Du (Α f) Jk g h
theorem Mf{e:Fa}{f:qa}{g:Ev->M D}{a:Me}{b:List Nat}(h:Nk T b f)(i:FE T X e g)(c:T.K=X.K:=by rfl)(d:Oe e f X.env (Ib e X.env)=Ib e X.env:=by rfl):FE T X (.Attribute e f a) (Qd (gd b f) g):=V6 c h i d
theorem Ge{e:Fa}{f:Ev->M D}{a:Me}(b:FE T X e f):Ao T X [.Return (some e) a] (oe f):=eh (yk5 b)
theorem db{e:Fa}{a:Ev->M D}(b:FE T X e a)(c:la [e] X.env=(false,Ib e X.env)::la [] X.env:=by rfl):FA T X [e] (xa a Na):=Db b Zt c
theorem Ni{i:Nat}{x:qa}{e:Fa}{f:Ev->M D}{b a:Me}(c:X.N.Nodup)(d:FE T X e f)(h:X.N[i]?=some x:=by rfl)(k:Loc X.env.scope x:=by exact Or.inl rfl)(j:lj e (some (.Name x a)) b.line X.env=pure false:=by rfl)(g:X.fn x=true\/X.env.scope.names.lookup x=some .local:=by first|exact .inl rfl|exact .inr rfl|assumption):FS T X (.Assign [.Name x a] e b) (wh i f):=DO c h k d j g
theorem jh{i:Nat}{x:qa}{a:Me}(b:X.N.Nodup)(d:X.N[i]?=some x:=by rfl)(e:Loc X.env.scope x:=by exact Or.inl rfl)(c:X.fn x=true\/X.env.scope.names.lookup x=some .local:=by first|exact .inl rfl|exact .inr rfl|assumption):FG T X (.Name x a) (de i):=jL b d e c
theorem oi{j k:Nat}{m:qa}{a:List qa}{d:Mt}{c:Nat}{f:Addr}{b:List D->M D}(e:Dm T.K (T.ca c))(g:He T.K (T.ca c) m f)(i:Eg T P w mg base j f a b)(h:Xh T P w mg base k m a d)(l:j<=k:=by decide):Xh T P w mg base k m a ((c,b)::d):=Ũ e g i l h
theorem Bi{k n:Nat}{x:qa}{c:Stmt}{d N:List qa}{g:Ev->M Fl}(h:Nh K mg x c d)(S:ra N d (Ec c))
  (i:∀ {f:Addr} {b:Value} {A:Ha} {a:List Ih} {s:Shared} {H:Hp} {E:XK},Ce k (A.deeper (Sg x (Ec c) s.heap.objs.size f b))->Ao ⟨K,ca,tx⟩ (Wq (sm P w) P w K mg base N x (Ec c) f b A a s H E) (uj c) g) (j:N.length=n:=by rfl) :
  Ig ⟨K,ca,tx⟩ P w mg base (k+1) x d (L4.Wa λe=>L4.Vb (Gd n g e)):=j ▸ Ig.Wa (Ig.Vb (XT h S λ_ _ _ _ _ _ _=>i))
theorem Uj{k n:Nat}{C f:Addr}{x a:qa}{d:Stmt}{e N:List qa}{g:Ev->M Fl}(h:je K C x a d e f)(S:ra N e (Ec d))
  (j:∀ {c:Value} {A:Ha} {b:List Ih} {s:Shared} {H:Hp} {E:XK},Ce k (A.deeper (Sg a (Ec d) s.heap.objs.size f c))->Ao ⟨K,ca,tx⟩ (Wq (sm P w) P w K mg base N a (Ec d) f c A b s H E) (uj d) g) (l:N.length=n:=by rfl) :
  Eg ⟨K,ca,tx⟩ P w mg base (k+1) f e (L4.Wa λi=>L4.Vb (Gd n g i)):=l ▸ Eg.Wa (Eg.Vb (yO h S λ_ _ _ _ _ _=>j))
theorem Yt{k n:Nat}{C f:Addr}{x a:qa}{d:Stmt}{e N:List qa}{g:Ev->M Fl}(h:je K C x a d e f)(S:ra N e (Ec d))
  (i:∀ {c:Value} {A:Ha} {b:List Ih} {s:Shared} {H:Hp} {E:XK},Ce k (A.deeper (Sg a (Ec d) s.heap.objs.size f c))->Ao ⟨K,ca,tx⟩ (Wq (sm P w) P w K mg base N a (Ec d) f c A b s H E) (uj d) g) (j:N.length=n:=by rfl) :
  Eg ⟨K,ca,tx⟩ P w mg base (k+1) f e (L4.Wa (Gd n g)):=j ▸ Eg.Wa (yO h S λ_ _ _ _ _ _=>i)
end
end L4
namespace K58
open PySem PySem.Spec PyProof.Rows L2 L4
noncomputable def Jb(i:Nat):Stmt:=PySem.Challenge.pw_sidebook_k58_what_is_not_there.main.body.getD i (.Pass ⟨0,0,0,0⟩)
def EH(K:W.Frag):Tab:=⟨bA K "paper",458,27, "paper.<locals>.<lambda>"⟩
def tx(K:W.Frag):Tx:=⟨[EH K],dA K⟩
theorem MT(K:W.Frag):EH K∈(tx K).Wt:=(.head _)
theorem KY(K:W.Frag):∀ t∈(tx K).Wt,∃ x∈[("paper" : qa)],t.P=bA K x:=by
 intro t a;have h:t∈[EH K]:=a;simp only[Da,Nb,lg]at h;rcases h with rfl
 ·exact⟨"paper",by simp,rfl⟩
structure rc(K:PySem.W.Frag)(mg:qa->Option Value)(ca:Nat->Addr):Prop where
 yc:Nh K mg "_law_cell_at" (Jb 113) ["_law_script","_law_k"]
 Bh:Nh K mg "is_whole" (Jb 8) ["thing"]
 Ab:Nh K mg "is_between" (Jb 9) ["thing","least","most"]
 Xg:Nh K mg "is_hand" (Jb 11) ["thing"]
 qe:Nh K mg "makes_a_pot" (Jb 57) ["thing"]
 Gf:Nh K mg "checked_pots" (Jb 58) ["pots"]
 yq:je K (ca 5) "__init__" "Claim.__init__" (we (Jb 50) 0) ["self","whole"] (ca 17)
 Dd:Nh K mg "whole_of" (Jb 59) ["made"]
 Hr:je K (ca 9) "__init__" "Book.__init__" (we (Jb 62) 0) ["self","pots"] (ca 30)
 Lb:je K (ca 9) "made_of" "Book.made_of" (we (Jb 62) 14) ["self"] (ca 44)
 Ag:Nh K mg "check_span" (Jb 100) ["hand","every","pots"]
 wc:je K (ca 15) "learn" "Keeper.learn" (we (Jb 108) 2) ["self","words"] (ca 57)
 se:je K (ca 15) "hold" "Keeper.hold" (we (Jb 108) 1) ["self","account","claim","seen"] (ca 56)
 Eh:Nh K mg "are_ties" (Jb 29) ["thing"]
 Bg:Nh K mg "are_shares" (Jb 28) ["thing"]
 rg:Nh K mg "is_number" (Jb 14) ["thing"]
 cf:Nh K mg "is_stand" (Jb 30) ["thing"]
 rk:wM K mg "stand" (Jb 31) ["number","shares","ties"] [.none]
 ui:Nh K mg "first" (Jb 32) ["left","right"]
 Au:je K (ca 10) "__init__" "Account.__init__" (we (Jb 71) 0) ["self","pot","side","mine","grant","may","strikes"] (ca 45)
 sf:Nh K mg "first_account" (Jb 75) ["pot","side","left","right"]
 wt:Et K (ca 15) "__init__" "Keeper.__init__" (we (Jb 108) 0) ["self","hand","every","pots","words"] [.none] (ca 55)
 Ch:Nh K mg "words_of" (Jb 110) ["hand","words"]
 vt:Et K (ca 16) "__init__" "Hall.__init__" (we (Jb 111) 0) ["self","pots","keeps","every","words"] [.none] (ca 79)
 eg:Nh K mg "is_side" (Jb 10) ["thing"]
 Rc:je K (ca 16) "has_pot" "Hall.has_pot" (we (Jb 111) 5) ["self","pot"] (ca 84)
 Sa:je K (ca 16) "is_side_of_band" "Hall.is_side_of_band" (we (Jb 111) 6) ["self","pot","side"] (ca 85)
 Oa:je K (ca 16) "check_side_of_band" "Hall.check_side_of_band" (we (Jb 111) 7) ["self","pot","side"] (ca 86)
 Tf:Nh K mg "other_side" (Jb 17) ["side"]
 Ta:je K (ca 9) "check_pot" "Book.check_pot" (we (Jb 62) 1) ["self","pot"] (ca 31)
 zg:Nh K mg "check_side" (Jb 61) ["side"]
 qk:Nh K mg "deals" (Jb 33) ["one"]
 dg:Nh K mg "is_stand_of" (Jb 34) ["thing","coin"]
 Wg:Nh K mg "is_word" (Jb 12) ["thing"]
 ki:Nh K mg "is_pot" (Jb 16) ["thing"]
 Wd:Nh K mg "is_of_a_side" (Jb 46) ["thing"]
 zf:Nh K mg "is_thing" (Jb 47) ["thing"]
 Ci:Nh K mg "is_agreed" (Jb 60) ["pot","side","stand","agreement"]
 Ae:je K (ca 9) "may_lie" "Book.may_lie" (we (Jb 62) 5) ["self","pot","side","stand","agreement"] (ca 35)
 Hu:je K (ca 7) "__init__" "Laid.__init__" (we (Jb 52) 0) ["self","whole","side","stand","day","wait"] (ca 21)
 Pg:Et K (ca 9) "lay" "Book.lay" (we (Jb 62) 6) ["self","pot","side","stand","agreement"] [.none] (ca 36)
 vc:je K (ca 9) "all_shown" "Book.all_shown" (we (Jb 62) 13) ["self"] (ca 43)
 Yb:je K (ca 16) "band_can" "Hall.band_can" (we (Jb 111) 8) ["self","thing"] (ca 87)
 Vd:je K (ca 16) "lay" "Hall.lay" (we (Jb 111) 19) ["self","P","side","stand"] (ca 98)
 Ub:je K (ca 16) "book" "Hall.book" (we (Jb 111) 1) ["self"] (ca 80)
 Of:je K (ca 16) "road" "Hall.road" (we (Jb 111) 3) ["self"] (ca 82)
 Ad:je K (ca 6) "comes" "Held.comes" (we (Jb 51) 1) ["self","day","shown"] (ca 19)
 Qe:je K (ca 7) "waits" "Laid.waits" (we (Jb 52) 2) ["self","day"] (ca 23)
 Xd:je K (ca 7) "comes" "Laid.comes" (we (Jb 52) 3) ["self","day","shown"] (ca 24)
 Ve:je K (ca 8) "comes" "Taken.comes" (we (Jb 53) 2) ["self","day","shown"] (ca 28)
 Ze:je K (ca 9) "due_of" "Book.due_of" (we (Jb 62) 10) ["self","pot"] (ca 40)
 Tc:je K (ca 9) "coin_of" "Book.coin_of" (we (Jb 62) 11) ["self","hand"] (ca 41)
 Uc:je K (ca 16) "coin" "Hall.coin" (we (Jb 111) 4) ["self","hand"] (ca 83)
 Bb:je K (ca 16) "keeper" "Hall.keeper" (we (Jb 111) 2) ["self","hand"] (ca 81)
 Vf:Nh K mg "read_stand" (Jb 83) ["view","pot","one"]
 Tg:Nh K mg "read_pots" (Jb 84) ["view"]
 xf:Nh K mg "all_choices" (Jb 85) ["readings"]
 Hf:Nh K mg "lots_by_word" (Jb 87) ["reads"]
 Vi:Nh K mg "sum_of" (Jb 92) ["reads","by_word","fates","every"]
 Af:Nh K mg "least_paper" (Jb 93) ["reads","chosen","every"]
 Ud:Nh K mg "chosen_readings" (Jb 86) ["readings","chosen"]
 jk:ZK K mg "paper" (Jb 94) ["view"]
 ek:Nh K mg "worth" (Jb 95) ["view"]
 re:Nh K mg "stands_told" (Jb 101) ["account","claim"]
 xu:je K (ca 14) "__init__" "View.__init__" (we (Jb 79) 0) ["self","every","look","words","pots"] (ca 54)
 vd:je K (ca 15) "words" "Keeper.words" (we (Jb 108) 3) ["self"] (ca 58)
 Nd:je K (ca 15) "view_by" "Keeper.view_by" (we (Jb 108) 7) ["self","accounts"] (ca 62)
 We:je K (ca 15) "view" "Keeper.view" (we (Jb 108) 8) ["self"] (ca 63)
 Fe:je K (ca 15) "worth" "Keeper.worth" (we (Jb 108) 9) ["self"] (ca 64)
 be:je K (ca 6) "told" "Held.told" (we (Jb 51) 0) ["self"] (ca 18)
 De:je K (ca 7) "told" "Laid.told" (we (Jb 52) 1) ["self"] (ca 22)
 vf:je K (ca 8) "told" "Taken.told" (we (Jb 53) 1) ["self"] (ca 27)
 Gb:je K (ca 9) "told" "Book.told" (we (Jb 62) 8) ["self","pot"] (ca 38)
 Ee:je K (ca 15) "given" "Keeper.given" (we (Jb 108) 5) ["self"] (ca 60)
 Wc:je K (ca 15) "looked" "Keeper.looked" (we (Jb 108) 4) ["self"] (ca 59)
 Jd:je K (ca 15) "account" "Keeper.account" (we (Jb 108) 6) ["self","pot"] (ca 61)
 Wf:Nh K mg "_law_state" (Jb 114) ["_law_hall","_law_many"]
 Ye:je K (ca 16) "strike" "Hall.strike" (we (Jb 111) 20) ["self","P","side"] (ca 99)
 Be:je K (ca 9) "show" "Book.show" (we (Jb 62) 4) ["self","pot","word"] (ca 34)
 ce:je K (ca 16) "show" "Hall.show" (we (Jb 111) 18) ["self","P","W"] (ca 97)
 uf:je K (ca 9) "today" "Book.today" (we (Jb 62) 2) ["self"] (ca 32)
 Pd:je K (ca 9) "shown_for" "Book.shown_for" (we (Jb 62) 9) ["self","pot"] (ca 39)
 cg:Nh K mg "is_given_up" (Jb 103) ["account","claim"]
 Lc:je K (ca 15) "strike_all" "Keeper.strike_all" (we (Jb 108) 20) ["self","book"] (ca 75)
 Yh:Nh K mg "ties_to" (Jb 102) ["account","claim"]
 pd:je K (ca 15) "show_all" "Keeper.show_all" (we (Jb 108) 22) ["self","book"] (ca 77)
 Od:je K (ca 15) "lay_all" "Keeper.lay_all" (we (Jb 108) 23) ["self","book"] (ca 78)
 Xe:je K (ca 15) "look" "Keeper.look" (we (Jb 108) 19) ["self","book"] (ca 74)
 ae:je K (ca 16) "look" "Hall.look" (we (Jb 111) 21) ["self","hand"] (ca 100)
 Lg:je K (ca 15) "wish" "Keeper.wish" (we (Jb 108) 13) ["self","wish"] (ca 68)
 Pf:je K (ca 16) "wish" "Hall.wish" (we (Jb 111) 12) ["self","hand","wish"] (ca 91)
 Fc:je K (ca 16) "keeping_hands" "Hall.keeping_hands" (we (Jb 111) 16) ["self","pot"] (ca 95)
 Qg:Nh K mg "is_agree" (Jb 64) ["thing"]
 ug:Nh K mg "is_strike" (Jb 65) ["thing"]
 Xc:Nh K mg "has_its_parts" (Jb 66) ["letter"]
 sg:Nh K mg "is_letter" (Jb 67) ["thing"]
 Qf:je K (ca 16) "band" "Hall.band" (we (Jb 111) 17) ["self","letter"] (ca 96)
 ud:Nh K mg "_law_letter" (Jb 115) ["_law_way","_law_pot","_law_one"]
 Ue:Nh K mg "_law_door" (Jb 116) ["_law_hall","_law_way","_law_pot","_law_side","_law_one","_law_hand"]
 Hb:Nh K mg "_law_refused" (Jb 117) ["_law_hall","_law_way","_law_pot","_law_side","_law_one","_law_hand"]
 Ug:Nh K mg "_law_here" (Jb 118) ["_law_hall","_law_one","_law_begun"]
 Vq:Nh K mg "law" (Jb 119) ["_law_script"]
 Wo:mg "worth_worth" = mg "worth"
 mF:mg "all" = none
 mB:mg "bool" = none
 Fw:mg "dict" = none
 Xj:mg "enumerate" = none
 ZE:mg "int" = none
 jd:mg "isinstance" = none
 Vg:mg "len" = none
 Uk:mg "list" = none
 HF:mg "min" = none
 uk:mg "range" = none
 Pz:mg "set" = none
 Po:mg "sorted" = none
 Fz:mg "str" = none
 Ew:mg "sum" = none
 sk:mg "tuple" = none
 QE:mg "zip" = none
 gB:OM K mg "HELD" ["held"]
 yi:∃ t,mg "MOST_COIN" = some (.int 1000000000000 t)
 Il:∃ t,mg "MOST_EVERY" = some (.int 50 t)
 bn:∃ t,mg "MOST_HAND" = some (.int 3 t)
 Hk:∃ t,mg "MOST_NUMBER" = some (.int 1000000 t)
 nj:∃ t,mg "MOST_POT" = some (.int 2 t)
 Wh:∃ t,mg "MOST_SHARE" = some (.int 2000000000000 t)
 Wm:∃ t,mg "MOST_TIES" = some (.int 6 t)
 Zm:∃ t,mg "MOST_WAIT" = some (.int 100 t)
 Ym:∃ t,mg "MOST_WORD" = some (.int 59 t)
 Ct:mg "BookError" = some (.ref (ca 0))
 Oz:PySem.W.excIn K (ca 0) KM "ValueError.__new__" = true
 Hv:mg "NoStand" = some (.ref (ca 1))
 ZB:PySem.W.excIn K (ca 1) KM "ValueError.__new__" = true
 Kh:mg "NoDeed" = some (.ref (ca 2))
 li:PySem.W.excIn K (ca 2) KM "ValueError.__new__" = true
 Rn:PySem.W.exmOne K (.ref (ca 2)) (.ref (ca 2))=some true
 Xq:L4.Qw K (ca 2)
 Sk:PySem.W.kitOne K (.ref (ca 2)) (.ref (ca 0))=some true
 Cm:PySem.W.kitOne K (.ref (ca 2)) (.ref (ca 1))=some false
 ue:L2.Dm K (ca 16)
 Ds:L2.Ng K (ca 16) "pots"
 Bo:L2.Dm K (ca 14)
 Cs:L2.Ng K (ca 14) "pots"
 Uf:L2.Dm K (ca 9)
 As:L2.Ng K (ca 9) "pots"
 ot:L2.Ng K (ca 9) "day"
 xi:L2.Dm K (ca 7)
 At:L2.Ng K (ca 7) "day"
 Jl:L2.Dm K (ca 8)
 Cp:L2.Ng K (ca 8) "whole"
 Zp:L2.Ng K (ca 7) "whole"
 Pr:L2.Dm K (ca 6)
 jq:L2.Ng K (ca 6) "whole"
 gx:L2.Dm K (ca 5)
 Vo:L2.Ng K (ca 5) "whole"
 Vw:mg "Held" = some (.ref (ca 6))
 ny:L2.Mk K (ca 6) (ca 17)
 lc:L2.Dm K (ca 15)
 Km:L2.Ng K (ca 15) "claims"
 Ro:L2.Ng K (ca 9) "claims"
 gq:L2.Ng K (ca 9) "shown"
 kB:mg "Book" = some (.ref (ca 9))
 xy:L2.Mk K (ca 9) (ca 30)
 yp:L2.Ng K (ca 16) "public"
 Vn:L2.He K (ca 9) "made_of" (ca 44)
 wq:L2.Ng K (ca 16) "every"
 Wn:L2.Ng K (ca 15) "every"
 oq:L2.Ng K (ca 14) "every"
 Nn:L2.Ng K (ca 16) "keepers"
 Hl:L2.Ng K (ca 16) "under_way"
 ap:L2.Ng K (ca 16) "things"
 Uo:L2.Ng K (ca 15) "hand"
 yk:L2.Ng K (ca 15) "last_look"
 Wl:L2.Ng K (ca 14) "last_look"
 jp:L2.Ng K (ca 15) "gave"
 ko:L2.Ng K (ca 15) "known"
 aq:L2.Ng K (ca 14) "known"
 il:L2.Ng K (ca 15) "accounts"
 Qo:L2.Ng K (ca 15) "seen"
 qo:L2.Ng K (ca 15) "asked"
 zk:L2.Ng K (ca 15) "finishing"
 Sn:L2.He K (ca 15) "learn" (ca 57)
 zh:L2.Dm K (ca 13)
 zp:L2.Ng K (ca 13) "pot"
 Dh:L2.Dm K (ca 12)
 Bp:L2.Ng K (ca 12) "pot"
 ik:L2.Dm K (ca 11)
 Ot:L2.Ng K (ca 11) "pot"
 Ah:L2.Dm K (ca 10)
 No:L2.Ng K (ca 10) "pot"
 Xo:L2.He K (ca 15) "hold" (ca 56)
 An:L2.Ng K (ca 13) "side"
 Pn:L2.Ng K (ca 12) "side"
 Es:L2.Ng K (ca 11) "side"
 Ln:L2.Ng K (ca 10) "side"
 iq:L2.Ng K (ca 8) "side"
 Ir:L2.Ng K (ca 7) "side"
 io:L2.Ng K (ca 13) "mine"
 zn:L2.Ng K (ca 12) "mine"
 ms:L2.Ng K (ca 11) "mine"
 Dn:L2.Ng K (ca 10) "mine"
 Jm:L2.Ng K (ca 13) "grant"
 Mm:L2.Ng K (ca 12) "grant"
 dq:L2.Ng K (ca 11) "grant"
 Om:L2.Ng K (ca 10) "grant"
 qp:L2.Ng K (ca 13) "may"
 Fp:L2.Ng K (ca 12) "may"
 Ft:L2.Ng K (ca 11) "may"
 vp:L2.Ng K (ca 10) "may"
 Tk:L2.Ng K (ca 13) "strikes"
 Rk:L2.Ng K (ca 12) "strikes"
 Cn:L2.Ng K (ca 11) "strikes"
 Vk:L2.Ng K (ca 10) "strikes"
 RA:mg "Calm" = some (.ref (ca 11))
 Fy:L2.Mk K (ca 11) (ca 45)
 Rw:mg "Keeper" = some (.ref (ca 15))
 Jv:L2.Mk K (ca 15) (ca 55)
 KA:mg "Hall" = some (.ref (ca 16))
 Ly:L2.Mk K (ca 16) (ca 79)
 bo:L2.He K (ca 16) "has_pot" (ca 84)
 Ui:L2.He K (ca 16) "is_side_of_band" (ca 85)
 ii:L2.He K (ca 16) "check_side_of_band" (ca 86)
 Yl:L2.He K (ca 9) "check_pot" (ca 31)
 Zy:L4.InK K (ca 16)
 Er:PySem.W.kitOne K (.ref (ca 16)) (.ref (ca 6))=some false
 mv:L4.InK K (ca 15)
 Lo:PySem.W.kitOne K (.ref (ca 15)) (.ref (ca 6))=some false
 Hy:L4.InK K (ca 14)
 Rr:PySem.W.kitOne K (.ref (ca 14)) (.ref (ca 6))=some false
 wu:L4.InK K (ca 13)
 Kn:PySem.W.kitOne K (.ref (ca 13)) (.ref (ca 6))=some false
 Cu:L4.InK K (ca 12)
 Mn:PySem.W.kitOne K (.ref (ca 12)) (.ref (ca 6))=some false
 Ey:L4.InK K (ca 11)
 vr:PySem.W.kitOne K (.ref (ca 11)) (.ref (ca 6))=some false
 jz:L4.InK K (ca 9)
 Ar:PySem.W.kitOne K (.ref (ca 9)) (.ref (ca 6))=some false
 Tw:L4.InK K (ca 8)
 pq:PySem.W.kitOne K (.ref (ca 8)) (.ref (ca 6))=some false
 Ay:L4.InK K (ca 7)
 Fs:PySem.W.kitOne K (.ref (ca 7)) (.ref (ca 6))=some false
 kz:L4.InK K (ca 6)
 Kr:PySem.W.kitOne K (.ref (ca 6)) (.ref (ca 6))=some true
 Bn:L2.He K (ca 9) "may_lie" (ca 35)
 Py:mg "Claim" = some (.ref (ca 5))
 gm:PySem.W.specialIn K (.ref (ca 5)) (zo "__getattribute__")=some (some (.builtin "type.__getattribute__"))
 Ul:PySem.W.readsIn K (ca 5) (.type "type")=true
 Rl:PySem.W.findCls K (.ref (ca 5)) (.type "type") "__init__" = some (.val (.ref (ca 17)))
 Xl:PySem.W.keepIn K (.ref (ca 17))=true
 Aq:L2.Ng K (ca 7) "stand"
 Gr:L2.Ng K (ca 7) "wait"
 aB:mg "Laid" = some (.ref (ca 7))
 By:L2.Mk K (ca 7) (ca 21)
 xt:L2.He K (ca 9) "lay" (ca 36)
 dm:L2.He K (ca 9) "all_shown" (ca 43)
 Em:L2.He K (ca 16) "band_can" (ca 87)
 Nt:L2.He K (ca 16) "lay" (ca 98)
 Yr:L2.He K (ca 16) "book" (ca 80)
 Cr:L2.He K (ca 16) "road" (ca 82)
 fq:L2.He K (ca 7) "waits" (ca 23)
 lp:L2.He K (ca 8) "comes" (ca 28)
 kq:L2.He K (ca 7) "comes" (ca 24)
 cq:L2.He K (ca 6) "comes" (ca 19)
 Ep:L2.He K (ca 9) "due_of" (ca 40)
 oo:L2.He K (ca 9) "coin_of" (ca 41)
 zr:L2.He K (ca 16) "coin" (ca 83)
 ip:L2.He K (ca 16) "keeper" (ca 81)
 rB:mg "View" = some (.ref (ca 14))
 ez:L2.Mk K (ca 14) (ca 54)
 Gn:L2.He K (ca 15) "words" (ca 58)
 Pl:L2.He K (ca 15) "view_by" (ca 62)
 Zo:L2.He K (ca 15) "view" (ca 63)
 jo:L2.He K (ca 15) "worth" (ca 64)
 rq:L2.He K (ca 8) "told" (ca 27)
 ts:L2.He K (ca 7) "told" (ca 22)
 ur:L2.He K (ca 6) "told" (ca 18)
 Lr:L2.He K (ca 9) "told" (ca 38)
 Yn:L2.He K (ca 15) "given" (ca 60)
 Bm:L2.He K (ca 15) "looked" (ca 59)
 Ol:L2.He K (ca 15) "account" (ca 61)
 Yo:L2.He K (ca 16) "strike" (ca 99)
 Gs:L2.He K (ca 9) "show" (ca 34)
 Jr:L2.He K (ca 16) "show" (ca 97)
 mq:L2.He K (ca 9) "today" (ca 32)
 Zl:L2.He K (ca 9) "shown_for" (ca 39)
 Tj:L2.He K (ca 15) "strike_all" (ca 75)
 Zk:L2.He K (ca 15) "show_all" (ca 77)
 am:L2.He K (ca 15) "lay_all" (ca 78)
 To:L2.He K (ca 15) "look" (ca 74)
 js:L2.He K (ca 16) "look" (ca 100)
 So:L2.He K (ca 15) "wish" (ca 68)
 Wr:L2.He K (ca 16) "wish" (ca 91)
 Ij:L2.He K (ca 16) "keeping_hands" (ca 95)
 Xr:L2.He K (ca 16) "band" (ca 96)
 tb:Ry K ["paper"]
 P6:mg "__builtins__" = some (.ref (dA K))
 bL:∀ t∈(tx K).Wt,∀ t'∈(tx K).Wt,t'.P=t.P->t'=t
seal L2.PE L2.PS L2.Xu L2.PT L2.PW L2.PA L2.PI L2.PG
section
variable{P:za}{w:Ma}{K:W.Frag}{mg:qa->Option Value}{base:Heap}{ca:Nat->Addr}
abbrev wY:Stmt:=Jb 113
def SS:Ev->M Fl:=
 (Mb (gh (eT (nb oLt (ia 1) (Gi Ll (xa (ia 0) Na)))) (oe (nb nc (ia 0) (ia 1))) fh) (oe (eC (.int 0))))
def yc:List D->M D:=Wa λa=>Vb (Gd 2 SS a)
theorem ŷ:ra ["_law_script","_law_k"] ["_law_script","_law_k"] (Ec wY):=Ke
theorem bI(a:rc K mg ca):Ig ⟨K,ca,tx K⟩ P w mg base 1 "_law_cell_at" ["_law_script","_law_k"] yc:=
 Bi a.yc ŷ λb=>
  (Jc (rh (Ai HG cG (pa 1) (Qn Qr (Sr rfl) rfl a.Vg zb (db (pa 0))) (Xi _)) (Ge (df (pa 0) (pa 1))) ph)
  (Ge Cb))
abbrev Ĉ:Stmt:=Jb 8
def cP:Ev->M Fl:=
 (oe (Si (Qd (Vs .int) (ia 0)) (QH (Qd (Vs .bool) (ia 0)))))
def Bh:List D->M D:=Wa λa=>Vb (Gd 1 cP a)
theorem t9:ra ["thing"] ["thing"] (Ec Ĉ):=Ke
theorem V1(a:rc K mg ca):Ig ⟨K,ca,tx K⟩ P w mg base 1 "is_whole" ["thing"] Bh:=
 Bi a.Bh t9 λb=>
  (Ge (oj (Jx .int (pa 0) rfl a.jd rfl a.ZE boot_int) (Fn (VP (Jx .bool (pa 0) rfl a.jd rfl a.mB boot_bool)))))
abbrev o6:Stmt:=Jb 9
def WU:Ev->M Fl:=
 (oe (Si (Je 1 Bh [] (xa (ia 0) Na)) (pM oLe oLe (ia 1) (ia 0) (ia 2))))
def Ab:List D->M D:=Wa λa=>Vb (Gd 3 WU a)
theorem J6:ra ["thing","least","most"] ["thing","least","most"] (Ec o6):=Ke
theorem Gv(a:rc K mg ca):Ig ⟨K,ca,tx K⟩ P w mg base 2 "is_between" ["thing","least","most"] Ab:=
 Bi a.Ab J6 λb=>
  (Ge (oj (wf (V1 a) b (db (pa 0))) (Fn (ztr hU zR hU zR (pa 1) (pa 0) (pa 2)))))
abbrev zrk:Stmt:=Jb 11
def WS:Ev->M Fl:=
 (oe (Je 3 Ab [] (xa (ia 0) (xa (eC (.int 0)) (xa (eC (.int 3)) Na)))))
def Xg:List D->M D:=Wa λa=>Vb (Gd 1 WS a)
theorem eY:ra ["thing"] ["thing"] (Ec zrk):=Ke
theorem uL(a:rc K mg ca):Ig ⟨K,ca,tx K⟩ P w mg base 3 "is_hand" ["thing"] Xg:=
 Bi a.Xg eY λb=>
  (Ge (wf (Gv a) b (Db (pa 0) (Db Cb (db (mw (u:=.int 3 (a.bn).choose) rfl (a.bn).choose_spec ⟨_,rfl⟩))))))
abbrev Ŀ:Stmt:=Jb 57
def gP:Ev->M Fl:=
 (oe (Si (Qd (Vs .tuple) (ia 0)) (Si (nb sh (Gi Ll (xa (ia 0) Na)) (eC (.int 5))) (Si (Je 1 Xg [] (xa (nb nc (ia 0) (eC (.int 0))) Na)) (Si (Je 1 Xg [] (xa (nb nc (ia 0) (eC (.int 1))) Na)) (Si (nb xr (nb nc (ia 0) (eC (.int 0))) (nb nc (ia 0) (eC (.int 1)))) (Si (Je 3 Ab [] (xa (nb nc (ia 0) (eC (.int 2))) (xa (eC (.int 0)) (xa (eC (.int 1000000000000)) Na)))) (Si (Je 3 Ab [] (xa (nb nc (ia 0) (eC (.int 3))) (xa (eC (.int 0)) (xa (eC (.int 1000000000000)) Na)))) (Je 3 Ab [] (xa (nb nc (ia 0) (eC (.int 4))) (xa (eC (.int 1)) (xa (eC (.int 100)) Na))))))))))))
def qe:List D->M D:=Wa λa=>Vb (Gd 1 gP a)
theorem Z2:ra ["thing"] ["thing"] (Ec Ŀ):=Ke
theorem PY(a:rc K mg ca):Ig ⟨K,ca,tx K⟩ P w mg base 4 "makes_a_pot" ["thing"] qe:=
 Bi a.qe Z2 λb=>
  (Ge (oj (Jx .tuple (pa 0) rfl a.jd rfl a.sk ql) (oj (sq b (Qn Qr (Sr rfl) rfl a.Vg zb (db (pa 0))) Cb) (oj (wf (uL a) b (db (df (pa 0) Cb))) (oj (wf (uL a) b (db (df (pa 0) Cb))) (oj (Ez (NA (Fh b)) Jk (df (pa 0) Cb) (df (pa 0) Cb) (Xi _)) (oj (wf (Gv a) b (Db (df (pa 0) Cb) (Db Cb (db (mw (u:=.int 1000000000000 (a.yi).choose) rfl (a.yi).choose_spec ⟨_,rfl⟩))))) (oj (wf (Gv a) b (Db (df (pa 0) Cb) (Db Cb (db (mw (u:=.int 1000000000000 (a.yi).choose) rfl (a.yi).choose_spec ⟨_,rfl⟩))))) (Fn (wf (Gv a) b (Db (df (pa 0) Cb) (Db Cb (db (mw (u:=.int 100 (a.Zm).choose) rfl (a.Zm).choose_spec ⟨_,rfl⟩))))))))))))))
abbrev zew:Stmt:=Jb 58
abbrev lN:Ev->M Fl:=(gh (dw (eT (nb mJ (ia 1) (eC (.int 2)))) (Nl (eT (Je 1 qe [] (xa (ia 2) Na))))) al fh)
def GV:Ev->M Fl:=
 (Mb (Jt (aF (ia 0)) (Hn 2 (gi (de 1) (gi (de 2) Fo))) lN) (oe (Gh (Gi Yq (xa (ia 0) Na)))))
def Gf:List D->M D:=Wa λa=>Vb (Gd 3 GV a)
theorem SM:ra ["pots","number","made"] ["pots"] (Ec zew):=Ke
theorem Č(a:rc K mg ca):Ig ⟨K,ca,tx K⟩ P w mg base 5 "checked_pots" ["pots"] Gf:=
 Bi a.Gf SM λb=>
  (Jc (fw Gk rfl (AM rfl a.Xj (pa 0)) (Av rfl (ln (jh SM.nd) (ln (jh SM.nd) sv))) (eh (rh (L2.PW.pt (Ix (Ai OP JQ (pa 1) (mw (u:=.int 2 (a.nj).choose) rfl (a.nj).choose_spec ⟨_,rfl⟩) (Xi _)) (HC (jn (Yk (wf (PY a) b (db (pa 2)))))))) (eh yY) ph)))
  (Ge (rm (Qy sB (bB rfl) rfl a.Uk Ek (db (pa 0))))))
theorem Gu(a:rc K mg ca):Nk ⟨K,ca,tx K⟩ [9,14,16] "pots":=(qh a.Uf a.As (qh a.Bo a.Cs (qh a.ue a.Ds dn)))
theorem Qz(a:rc K mg ca):Nk ⟨K,ca,tx K⟩ [7,9] "day":=(qh a.xi a.At (qh a.Uf a.ot dn))
theorem jN(a:rc K mg ca):Nk ⟨K,ca,tx K⟩ [5,6,7,8] "whole":=(qh a.gx a.Vo (qh a.Pr a.jq (qh a.xi a.Zp (qh a.Jl a.Cp dn))))
abbrev W7:Stmt:=we (Jb 50) 0
def XU:Ev->M Fl:=
 (Qi [5,6,7,8] "whole" (ia 1) (ia 0))
def yq:List D->M D:=Wa (Gd 2 XU)
theorem t5:ra ["self","whole"] ["self","whole"] (Ec W7):=Ke
theorem mO(a:rc K mg ca):Eg ⟨K,ca,tx K⟩ P w mg base 1 (ca 17) ["self","whole"] yq:=
 Yt a.yq t5 λb=>
  (eh (Nj rfl (jN a) (pa 0) (pa 1)))
abbrev Â:Stmt:=Jb 59
def eI:Ev->M Fl:=
 (oe (nb vl (nb nc (ia 0) (eC (.int 2))) (nb nc (ia 0) (eC (.int 3)))))
def Dd:List D->M D:=Wa λa=>Vb (Gd 1 eI a)
theorem Q6:ra ["made"] ["made"] (Ec Â):=Ke
theorem IJ(a:rc K mg ca):Ig ⟨K,ca,tx K⟩ P w mg base 1 "whole_of" ["made"] Dd:=
 Bi a.Dd Q6 λb=>
  (Ge (Eu (df (pa 0) Cb) (df (pa 0) Cb)))
theorem Bw(a:rc K mg ca):Nk ⟨K,ca,tx K⟩ [9,15] "claims":=(qh a.Uf a.Ro (qh a.lc a.Km dn))
theorem gC(a:rc K mg ca):Nk ⟨K,ca,tx K⟩ [9] "shown":=(qh a.Uf a.gq dn)
abbrev zc7:Stmt:=we (Jb 62) 0
def LS:Ev->M Fl:=
 (Mb (Qi [9,14,16] "pots" (Je 1 Gf [] (xa (ia 1) Na)) (ia 0)) (Mb (Qi [7,9] "day" (eC (.int 0)) (ia 0)) (Mb (Qi [9,15] "claims" (wj (wl (qi (Qd (gd [9,14,16] "pots") (ia 0)))) [] (de 0) Oj (Gh (au 6 2 yq (xa (Je 1 Dd [] (xa (ia 0) Na)) Na)))) (ia 0)) (Qi [9] "shown" (wj (wl (qi (Qd (gd [9,14,16] "pots") (ia 0)))) [] (de 0) Oj Xt) (ia 0)))))
def Hr:List D->M D:=Wa (Gd 2 LS)
theorem l3:ra ["self","pots"] ["self","pots"] (Ec zc7):=Ke
theorem n6(a:rc K mg ca):Eg ⟨K,ca,tx K⟩ P w mg base 6 (ca 30) ["self","pots"] Hr:=
 Yt a.Hr l3 λb=>
  (Jc (Nj rfl (Gu a) (pa 0) (wf (Č a) b (db (pa 1))))
  (Jc (Nj rfl (Qz a) (pa 0) Cb)
  (Jc (Nj rfl (Bw a) (pa 0) (ku (x:="made") (z0:="0") (M':=[]) (ix:=[]) rfl ⟨rfl,rfl,rfl,rfl,rfl,rfl⟩ (zu (Ql rfl (Mf (Gu a) (pa 0)))) (λ_ _ _ _ _=>jh (by show List.Nodup (("made"::"0"::[]):List qa);decide +kernel)) (λ_ _ _ _ _=>Tu) (λ_ _ _ _ _=>(rm (sD (c:=6) (ps:=["self","whole"]) ⟨_,a.Vw,a.ny,mO a⟩ rfl (b.mono (by decide)) rfl (db (wf (IJ a) b (db (pa 0)))))))))
  (eh (Nj rfl (gC a) (pa 0) (ku (x:="made") (z0:="0") (M':=[]) (ix:=[]) rfl ⟨rfl,rfl,rfl,rfl,rfl,rfl⟩ (zu (Ql rfl (Mf (Gu a) (pa 0)))) (λ_ _ _ _ _=>jh (by show List.Nodup (("made"::"0"::[]):List qa);decide +kernel)) (λ_ _ _ _ _=>Tu) (λ_ _ _ _ _=>bw)))))))
theorem fA(a:rc K mg ca):Nk ⟨K,ca,tx K⟩ [16] "public":=(qh a.ue a.yp dn)
abbrev ψ:Stmt:=we (Jb 62) 14
def rN:Ev->M Fl:=
 (oe (Gh (Gi Yq (xa (Qd (gd [9,14,16] "pots") (ia 0)) Na))))
def Lb:List D->M D:=Wa λa=>Vb (Gd 1 rN a)
theorem uY:ra ["self"] ["self"] (Ec ψ):=Ke
theorem Q5(a:rc K mg ca):Eg ⟨K,ca,tx K⟩ P w mg base 1 (ca 44) ["self"] Lb:=
 Uj a.Lb uY λb=>
  (Ge (rm (Qy sB (bB rfl) rfl a.Uk Ek (db (Mf (Gu a) (pa 0))))))
theorem FP(a:rc K mg ca):Xh ⟨K,ca,tx K⟩ P w mg base 1 "made_of" ["self"] [(9,Lb)]:=(oi a.Uf a.Vn (Q5 a) Mi)
theorem gF(a:rc K mg ca):Nk ⟨K,ca,tx K⟩ [14,15,16] "every":=(qh a.Bo a.oq (qh a.lc a.Wn (qh a.ue a.wq dn)))
theorem lB(a:rc K mg ca):Nk ⟨K,ca,tx K⟩ [16] "keepers":=(qh a.ue a.Nn dn)
theorem XV(a:rc K mg ca):Nk ⟨K,ca,tx K⟩ [16] "under_way":=(qh a.ue a.Hl dn)
theorem hJ(a:rc K mg ca):Nk ⟨K,ca,tx K⟩ [16] "things":=(qh a.ue a.ap dn)
abbrev W3:Stmt:=Jb 100
abbrev iH:Ev->M Fl:=(gh (MD (eT (nb (kA false) (ia 0) (eE (ia 3) none (some (eC (.int 2)))))) (eT (nb oLt (nb nc (ia 3) (eC (.int 4))) (nb vl (ia 1) (eC (.int 1)))))) al fh)
def SO:Ev->M Fl:=
 (Mb (gh (Nl (eT (Je 3 Ab [] (xa (ia 1) (xa (eC (.int 1)) (xa (eC (.int 50)) Na)))))) al fh) (Tn (qi (ia 2)) (de 3) iH))
def Ag:List D->M D:=Wa λa=>Vb (Gd 4 SO a)
theorem ER:ra ["hand","every","pots","made"] ["hand","every","pots"] (Ec W3):=Ke
theorem V2(a:rc K mg ca):Ig ⟨K,ca,tx K⟩ P w mg base 3 "check_span" ["hand","every","pots"] Ag:=
 Bi a.Ag ER λb=>
  (Jc (rh (jn (Yk (wf (Gv a) b (Db (pa 1) (Db Cb (db (mw (u:=.int 50 (a.Il).choose) rfl (a.Il).choose_spec ⟨_,rfl⟩))))))) tm ph)
  (eh (Tq Gk rfl (Ql rfl (pa 2)) (jh ER.nd) (eh (rh (L2.PW.pt (wN (Ai LR (XP rfl false) (pa 0) (oJ rfl (pa 3) PJ (yN Cb)) rfl) (PM (Ai HG cG (df (pa 3) Cb) (Eu (pa 1) Cb) (Xi _))))) tm ph)))))
theorem M7(a:rc K mg ca):Nk ⟨K,ca,tx K⟩ [15] "hand":=(qh a.lc a.Uo dn)
theorem yF(a:rc K mg ca):Nk ⟨K,ca,tx K⟩ [14,15] "last_look":=(qh a.Bo a.Wl (qh a.lc a.yk dn))
theorem qQ(a:rc K mg ca):Nk ⟨K,ca,tx K⟩ [15] "gave":=(qh a.lc a.jp dn)
theorem xI(a:rc K mg ca):Nk ⟨K,ca,tx K⟩ [14,15] "known":=(qh a.Bo a.aq (qh a.lc a.ko dn))
theorem Uy(a:rc K mg ca):Nk ⟨K,ca,tx K⟩ [15] "accounts":=(qh a.lc a.il dn)
theorem OI(a:rc K mg ca):Nk ⟨K,ca,tx K⟩ [15] "seen":=(qh a.lc a.Qo dn)
theorem Ċ(a:rc K mg ca):Nk ⟨K,ca,tx K⟩ [15] "asked":=(qh a.lc a.qo dn)
theorem zU(a:rc K mg ca):Nk ⟨K,ca,tx K⟩ [15] "finishing":=(qh a.lc a.zk dn)
abbrev bZ:Stmt:=we (Jb 108) 2
def VM:Ev->M Fl:=
 (Tn (qi (ia 1)) (de 2) (Qx (eC (.bl true)) (Qd (gd [14,15] "known") (ia 0)) (ia 2)))
def wc:List D->M D:=Wa (Gd 3 VM)
theorem oO:ra ["self","words","word"] ["self","words"] (Ec bZ):=Ke
theorem ť(a:rc K mg ca):Eg ⟨K,ca,tx K⟩ P w mg base 1 (ca 57) ["self","words"] wc:=
 Yt a.wc oO λb=>
  (eh (Tq Gk rfl (Ql rfl (pa 1)) (jh oO.nd) (eh (gA (Fh b) qw (Mf (xI a) (pa 0)) (pa 2)))))
theorem eR(a:rc K mg ca):Xh ⟨K,ca,tx K⟩ P w mg base 1 "learn" ["self","words"] [(15,wc)]:=(oi a.lc a.Sn (ť a) Mi)
theorem sG(a:rc K mg ca):Nk ⟨K,ca,tx K⟩ [10,11,12,13] "pot":=(qh a.Ah a.No (qh a.ik a.Ot (qh a.Dh a.Bp (qh a.zh a.zp dn))))
abbrev V4:Stmt:=we (Jb 108) 1
def cR:Ev->M Fl:=
 (Mb (Qx (ia 1) (Qd (gd [15] "accounts") (ia 0)) (Qd (gd [10,11,12,13] "pot") (ia 1))) (Mb (Qx (ia 2) (Qd (gd [9,15] "claims") (ia 0)) (Qd (gd [10,11,12,13] "pot") (ia 1))) (Qx (ia 3) (Qd (gd [15] "seen") (ia 0)) (Qd (gd [10,11,12,13] "pot") (ia 1)))))
def se:List D->M D:=Wa (Gd 4 cR)
theorem f8:ra ["self","account","claim","seen"] ["self","account","claim","seen"] (Ec V4):=Ke
theorem B0(a:rc K mg ca):Eg ⟨K,ca,tx K⟩ P w mg base 1 (ca 56) ["self","account","claim","seen"] se:=
 Yt a.se f8 λb=>
  (Jc (gA (Fh b) (pa 1) (Mf (Uy a) (pa 0)) (Mf (sG a) (pa 1)))
  (Jc (gA (Fh b) (pa 2) (Mf (Bw a) (pa 0)) (Mf (sG a) (pa 1)))
  (eh (gA (Fh b) (pa 3) (Mf (OI a) (pa 0)) (Mf (sG a) (pa 1))))))
theorem Ĵ(a:rc K mg ca):Xh ⟨K,ca,tx K⟩ P w mg base 1 "hold" ["self","account","claim","seen"] [(15,se)]:=(oi a.lc a.Xo (B0 a) Mi)
abbrev dY:Stmt:=Jb 29
def wU:Ev->M Fl:=
 (Mb (gh (dw (Nl (eT (Qd (Vs .tuple) (ia 0)))) (eT (nb mJ (Gi Ll (xa (ia 0) Na)) (eC (.int 6))))) al fh) (Mb (gh (Nl (eT (Gi RB (xa (Gh (wj (wl (qi (ia 0))) [] (de 0) Oj kG)) Na)))) al fh) (oe (nb sh (Qd aC (Gh (wj (wl (qi (ia 0))) [] (de 0) Oj kG))) (Gi Ll (xa (ia 0) Na))))))
def Eh:List D->M D:=Wa λa=>Vb (Gd 1 wU a)
theorem ĝ:ra ["thing"] ["thing"] (Ec dY):=Ke
theorem F7(a:rc K mg ca):Ig ⟨K,ca,tx K⟩ P w mg base 1 "are_ties" ["thing"] Eh:=
 Bi a.Eh ĝ λb=>
  (Jc (rh (L2.PW.pt (Ix (jn (Yk (Jx .tuple (pa 0) rfl a.jd rfl a.sk ql))) (HC (Ai OP JQ (Qn Qr (Sr rfl) rfl a.Vg zb (db (pa 0))) (mw (u:=.int 6 (a.Wm).choose) rfl (a.Wm).choose_spec ⟨_,rfl⟩) (Xi _))))) tm ph)
  (Jc (rh (jn (Yk (Qn (Y9 rfl) (ξ rfl) rfl a.mF boot_all (db (rm (ku (x:="tie") (z0:="0") (M':=[]) (ix:=[]) rfl ⟨rfl,rfl,rfl,rfl,rfl,rfl⟩ (zu (Ql rfl (pa 0))) (λ_ _ _ _ _=>jh (by show List.Nodup (("tie"::"0"::[]):List qa);decide +kernel)) (λ_ _ _ _ _=>Tu) (λ_ _ _ _ _=>GR))))))) tm ph)
  (Ge (sq b (zo2 rfl rfl rfl a.Vg rfl a.Pz (rm (ku (x:="tie") (z0:="0") (M':=[]) (ix:=[]) rfl ⟨rfl,rfl,rfl,rfl,rfl,rfl⟩ (zu (Ql rfl (pa 0))) (λ_ _ _ _ _=>jh (by show List.Nodup (("tie"::"0"::[]):List qa);decide +kernel)) (λ_ _ _ _ _=>Tu) (λ_ _ _ _ _=>GR)))) (Qn Qr (Sr rfl) rfl a.Vg zb (db (pa 0)))))))
abbrev v5:Stmt:=Jb 28
def ZP:Ev->M Fl:=
 (oe (Si (Qd (Vs .tuple) (ia 0)) (Si (nb sh (Gi Ll (xa (ia 0) Na)) (eC (.int 2))) (Si (Je 3 Ab [] (xa (nb nc (ia 0) (eC (.int 0))) (xa (eC (.int 0)) (xa (eC (.int 2000000000000)) Na)))) (Je 3 Ab [] (xa (nb nc (ia 0) (eC (.int 1))) (xa (eC (.int 0)) (xa (eC (.int 2000000000000)) Na))))))))
def Bg:List D->M D:=Wa λa=>Vb (Gd 1 ZP a)
theorem Ð:ra ["thing"] ["thing"] (Ec v5):=Ke
theorem Ľ(a:rc K mg ca):Ig ⟨K,ca,tx K⟩ P w mg base 3 "are_shares" ["thing"] Bg:=
 Bi a.Bg Ð λb=>
  (Ge (oj (Jx .tuple (pa 0) rfl a.jd rfl a.sk ql) (oj (sq b (Qn Qr (Sr rfl) rfl a.Vg zb (db (pa 0))) Cb) (oj (wf (Gv a) b (Db (df (pa 0) Cb) (Db Cb (db (mw (u:=.int 2000000000000 (a.Wh).choose) rfl (a.Wh).choose_spec ⟨_,rfl⟩))))) (Fn (wf (Gv a) b (Db (df (pa 0) Cb) (Db Cb (db (mw (u:=.int 2000000000000 (a.Wh).choose) rfl (a.Wh).choose_spec ⟨_,rfl⟩))))))))))
abbrev ŀ:Stmt:=Jb 14
def dU:Ev->M Fl:=
 (oe (Je 3 Ab [] (xa (ia 0) (xa (eC (.int 0)) (xa (eC (.int 1000000)) Na)))))
def rg:List D->M D:=Wa λa=>Vb (Gd 1 dU a)
theorem Ń:ra ["thing"] ["thing"] (Ec ŀ):=Ke
theorem CP(a:rc K mg ca):Ig ⟨K,ca,tx K⟩ P w mg base 3 "is_number" ["thing"] rg:=
 Bi a.rg Ń λb=>
  (Ge (wf (Gv a) b (Db (pa 0) (Db Cb (db (mw (u:=.int 1000000 (a.Hk).choose) rfl (a.Hk).choose_spec ⟨_,rfl⟩))))))
abbrev ó:Stmt:=Jb 30
def lV:Ev->M Fl:=
 (oe (Si (Qd (Vs .tuple) (ia 0)) (Si (nb sh (Gi Ll (xa (ia 0) Na)) (eC (.int 3))) (Si (Je 1 rg [] (xa (nb nc (ia 0) (eC (.int 0))) Na)) (Si (Je 1 Bg [] (xa (nb nc (ia 0) (eC (.int 1))) Na)) (Je 1 Eh [] (xa (nb nc (ia 0) (eC (.int 2))) Na)))))))
def cf:List D->M D:=Wa λa=>Vb (Gd 1 lV a)
theorem D7:ra ["thing"] ["thing"] (Ec ó):=Ke
theorem GD(a:rc K mg ca):Ig ⟨K,ca,tx K⟩ P w mg base 4 "is_stand" ["thing"] cf:=
 Bi a.cf D7 λb=>
  (Ge (oj (Jx .tuple (pa 0) rfl a.jd rfl a.sk ql) (oj (sq b (Qn Qr (Sr rfl) rfl a.Vg zb (db (pa 0))) Cb) (oj (wf (CP a) b (db (df (pa 0) Cb))) (oj (wf (Ľ a) b (db (df (pa 0) Cb))) (Fn (wf (F7 a) b (db (df (pa 0) Cb)))))))))
abbrev BD(x q:qa)(s:Stmt)(c:List qa):Prop:=∀ (kV b d:Value) (an:Option Addr) (a ct:Value) (us:List Value),us.length=c.length->bindArgs (W.fnOf x q (En s) (uj s) (Ec s) .none kV b d an a ct) ⟨us,[]⟩=pure (c.zip us)
abbrev SA:Stmt:=Jb 31
def YQ:Ev->M Fl:=
 (Mb (wh 3 (Hj (xa (ia 0) (xa (ia 1) (xa (Nz (eT (nb Kx (ia 2) (eC .Mc))) (Hj Na) (ia 2)) Na))))) (Mb (gh (Nl (eT (Je 1 cf [] (xa (ia 3) Na)))) al fh) (oe (ia 3))))
def rk:List D->M D:=Wa λa=>Vb (Gd 4 YQ a)
theorem lO:ra ["number","shares","ties","made"] ["number","shares","ties"] (Ec SA):=Ke
theorem Î(t:Addr)(kV c h:Value)(e:Option Addr)(b ct:Value)(s:Shared)(o:Obj)(n:Nat)(a:List Value)(f:s.heap.get? t=some o)(g:o.data=.seq ([ib]:List Value).toArray n) :
  ((a++[]).length=(["number","shares","ties"]:List qa).length->xg s (W.fnOf "stand" "stand" (En SA) (uj SA) (Ec SA) (.ref t) kV c h e b ct) ⟨a,[]⟩ ((["number","shares","ties"]:List qa).zip (a++[])))/\
  ((a++[ib]).length=(["number","shares","ties"]:List qa).length->xg s (W.fnOf "stand" "stand" (En SA) (uj SA) (Ec SA) (.ref t) kV c h e b ct) ⟨a,[]⟩ ((["number","shares","ties"]:List qa).zip (a++[ib]))):=
 ⟨λd=>match a,(show a.length=3 by simpa using d)with|[_,_,_],_=>Yd rfl f g rfl rfl,λd=>match a,(show a.length=2 by simpa using d)with|[_,_],_=>Yd rfl f g rfl rfl⟩
theorem N2(a:rc K mg ca):Mw ⟨K,ca,tx K⟩ P w mg base 5 "stand" ["number","shares","ties"] [ib] rk:=
 Mw.Wa (Mw.Vb (ņ a.rk lO λ_ _ _ _ _ _ _ b=>
  (Jc (Ni lO.nd (gk (Db (pa 0) (Db (pa 1) (db (yH (Ai CH DG (pa 2) CA (Xi _)) (gk Zt) (pa 2)))))))
  (Jc (rh (jn (Yk (wf (GD a) b (db (pa 3))))) tm ph)
  (Ge (pa 3))))))
abbrev Á:Stmt:=Jb 32
def vQ:Ev->M Fl:=
 (oe (Je 3 rk [.Mc] (xa (eC (.int 0)) (xa (Hj (xa (ia 0) (xa (ia 1) Na))) Na))))
def ui:List D->M D:=Wa λa=>Vb (Gd 2 vQ a)
theorem Ű:ra ["left","right"] ["left","right"] (Ec Á):=Ke
theorem RO(a:rc K mg ca):Ig ⟨K,ca,tx K⟩ P w mg base 6 "first" ["left","right"] ui:=
 Bi a.ui Ű λb=>
  (Ge (W8 (N2 a) rfl (b.mono (by decide)) rfl vX cX (Db Cb (db (gk (Db (pa 0) (db (pa 1))))))))
theorem DC(a:rc K mg ca):Nk ⟨K,ca,tx K⟩ [7,8,10,11,12,13] "side":=(qh a.xi a.Ir (qh a.Jl a.iq (qh a.Ah a.Ln (qh a.ik a.Es (qh a.Dh a.Pn (qh a.zh a.An dn))))))
theorem l9(a:rc K mg ca):Nk ⟨K,ca,tx K⟩ [10,11,12,13] "mine":=(qh a.Ah a.Dn (qh a.ik a.ms (qh a.Dh a.zn (qh a.zh a.io dn))))
theorem G3(a:rc K mg ca):Nk ⟨K,ca,tx K⟩ [10,11,12,13] "grant":=(qh a.Ah a.Om (qh a.ik a.dq (qh a.Dh a.Mm (qh a.zh a.Jm dn))))
theorem iK(a:rc K mg ca):Nk ⟨K,ca,tx K⟩ [10,11,12,13] "may":=(qh a.Ah a.vp (qh a.ik a.Ft (qh a.Dh a.Fp (qh a.zh a.qp dn))))
theorem HQ(a:rc K mg ca):Nk ⟨K,ca,tx K⟩ [10,11,12,13] "strikes":=(qh a.Ah a.Vk (qh a.ik a.Cn (qh a.Dh a.Rk (qh a.zh a.Tk dn))))
abbrev C4:Stmt:=we (Jb 71) 0
def DP:Ev->M Fl:=
 (Mb (Qi [10,11,12,13] "pot" (ia 1) (ia 0)) (Mb (Qi [7,8,10,11,12,13] "side" (ia 2) (ia 0)) (Mb (Qi [10,11,12,13] "mine" (ia 3) (ia 0)) (Mb (Qi [10,11,12,13] "grant" (ia 4) (ia 0)) (Mb (Qi [10,11,12,13] "may" (Gh (Gi Yq (xa (ia 5) Na))) (ia 0)) (Qi [10,11,12,13] "strikes" (Gh (Gi Yq (xa (ia 6) Na))) (ia 0)))))))
def Au:List D->M D:=Wa (Gd 7 DP)
theorem E6:ra ["self","pot","side","mine","grant","may","strikes"] ["self","pot","side","mine","grant","may","strikes"] (Ec C4):=Ke
theorem I0(a:rc K mg ca):Eg ⟨K,ca,tx K⟩ P w mg base 1 (ca 45) ["self","pot","side","mine","grant","may","strikes"] Au:=
 Yt a.Au E6 λb=>
  (Jc (Nj rfl (sG a) (pa 0) (pa 1))
  (Jc (Nj rfl (DC a) (pa 0) (pa 2))
  (Jc (Nj rfl (l9 a) (pa 0) (pa 3))
  (Jc (Nj rfl (G3 a) (pa 0) (pa 4))
  (Jc (Nj rfl (iK a) (pa 0) (rm (Qy sB (bB rfl) rfl a.Uk Ek (db (pa 5)))))
  (eh (Nj rfl (HQ a) (pa 0) (rm (Qy sB (bB rfl) rfl a.Uk Ek (db (pa 6)))))))))))
abbrev δ:Stmt:=Jb 75
def oR:Ev->M Fl:=
 (Mb (wh 4 (Je 2 ui [] (xa (ia 2) (xa (ia 3) Na)))) (oe (Gh (au 11 7 Au (xa (ia 0) (xa (ia 1) (xa (ia 4) (xa (eC .Mc) (xa (Sl (xa (ia 4) Na)) (xa (Sl Na) Na))))))))))
def sf:List D->M D:=Wa λa=>Vb (Gd 5 oR a)
theorem RS:ra ["pot","side","left","right","mine"] ["pot","side","left","right"] (Ec δ):=Ke
theorem EX(a:rc K mg ca):Ig ⟨K,ca,tx K⟩ P w mg base 7 "first_account" ["pot","side","left","right"] sf:=
 Bi a.sf RS λb=>
  (Jc (Ni RS.nd (wf (RO a) b (Db (pa 2) (db (pa 3)))))
  (Ge (rm (sD (c:=11) (ps:=["self","pot","side","mine","grant","may","strikes"]) ⟨_,a.RA,a.Fy,I0 a⟩ rfl (b.mono (by decide)) rfl (Db (pa 0) (Db (pa 1) (Db (pa 4) (Db CA (Db (xq (db (pa 4))) (db (xq Zt)))))))))))
abbrev xB:Stmt:=we (Jb 108) 0
abbrev GE:Ev->M Fl:=(gh (eT (nb sh (nb nc (ia 6) (ia 7)) (ia 1))) (Co (Df [(15,se)] 4 "hold" (ia 0) (xa (Je 4 sf [] (xa (ia 5) (xa (ia 7) (xa (nb nc (ia 6) (eC (.int 2))) (xa (nb nc (ia 6) (eC (.int 3))) Na))))) (xa (eC (.gt ["held"])) (xa (eC (.Ja [] [])) Na))))) fh)
abbrev zM:Ev->M Fl:=(Tn (qi (Hj (xa (eC (.int 0)) (xa (eC (.int 1)) Na)))) (de 7) GE)
def QR:Ev->M Fl:=
 (Mb (Co (Je 3 Ag [] (xa (ia 1) (xa (ia 2) (xa (ia 3) Na))))) (Mb (Qi [15] "hand" (ia 1) (ia 0)) (Mb (Qi [14,15,16] "every" (ia 2) (ia 0)) (Mb (Qi [14,15] "last_look" (eC (.int 0)) (ia 0)) (Mb (Qi [15] "gave" (eC (.int 0)) (ia 0)) (Mb (Qi [14,15] "known" Xt (ia 0)) (Mb (Qi [15] "accounts" Xt (ia 0)) (Mb (Qi [9,15] "claims" Xt (ia 0)) (Mb (Qi [15] "seen" Xt (ia 0)) (Mb (Qi [15] "asked" Xt (ia 0)) (Mb (Qi [15] "finishing" Xt (ia 0)) (Mb (Co (Df [(15,wc)] 2 "learn" (ia 0) (xa (Nz (eT (nb Kx (ia 4) (eC .Mc))) (Sl Na) (ia 4)) Na))) (Jt (aF (ia 3)) (Hn 2 (gi (de 5) (gi (de 6) Fo))) zM)))))))))))))
def wt:List D->M D:=Wa (Gd 8 QR)
theorem rH:ra ["self","hand","every","pots","words","pot","made","side"] ["self","hand","every","pots","words"] (Ec xB):=Ke
theorem Q4(t:Addr)(kV c h:Value)(e:Option Addr)(b ct:Value)(s:Shared)(o:Obj)(n:Nat)(a:List Value)(f:s.heap.get? t=some o)(g:o.data=.seq ([ib]:List Value).toArray n) :
  ((a++[]).length=(["self","hand","every","pots","words"]:List qa).length->xg s (W.fnOf "__init__" "Keeper.__init__" (En xB) (uj xB) (Ec xB) (.ref t) kV c h e b ct) ⟨a,[]⟩ ((["self","hand","every","pots","words"]:List qa).zip (a++[])))/\
  ((a++[ib]).length=(["self","hand","every","pots","words"]:List qa).length->xg s (W.fnOf "__init__" "Keeper.__init__" (En xB) (uj xB) (Ec xB) (.ref t) kV c h e b ct) ⟨a,[]⟩ ((["self","hand","every","pots","words"]:List qa).zip (a++[ib]))):=
 ⟨λd=>match a,(show a.length=5 by simpa using d)with|[_,_,_,_,_],_=>Yd rfl f g rfl rfl,λd=>match a,(show a.length=4 by simpa using d)with|[_,_,_,_],_=>Yd rfl f g rfl rfl⟩
theorem zax(a:rc K mg ca):ou ⟨K,ca,tx K⟩ P w mg base 8 (ca 55) ["self","hand","every","pots","words"] [ib] wt:=
 ou.Wa (FM a.wt rH λ_ _ _ _ _ _ b=>
  (Jc (Rp (wf (V2 a) b (Db (pa 1) (Db (pa 2) (db (pa 3))))))
  (Jc (Nj rfl (M7 a) (pa 0) (pa 1))
  (Jc (Nj rfl (gF a) (pa 0) (pa 2))
  (Jc (Nj rfl (yF a) (pa 0) Cb)
  (Jc (Nj rfl (qQ a) (pa 0) Cb)
  (Jc (Nj rfl (xI a) (pa 0) bw)
  (Jc (Nj rfl (Uy a) (pa 0) bw)
  (Jc (Nj rfl (Bw a) (pa 0) bw)
  (Jc (Nj rfl (OI a) (pa 0) bw)
  (Jc (Nj rfl (Ċ a) (pa 0) bw)
  (Jc (Nj rfl (zU a) (pa 0) bw)
  (Jc (Rp (fmt (eR a) b (pa 0) (db (yH (Ai CH DG (pa 4) CA (Xi _)) (xq Zt) (pa 4)))))
  (eh (fw Gk rfl (AM rfl a.Xj (pa 3)) (Av rfl (ln (jh rH.nd) (ln (jh rH.nd) sv))) (eh (Tq Gk rfl (Ql rfl (gk (Db Cb (db Cb)))) (jh rH.nd) (eh (rh (Ai (gp (Fh b)) Jk (df (pa 6) (pa 7)) (pa 1) (Xi _)) (eh (Rp (fmt (Ĵ a) b (pa 0) (Db (wf (EX a) b (Db (pa 5) (Db (pa 7) (Db (df (pa 6) Cb) (db (df (pa 6) Cb)))))) (Db (JX (ss:=["held"]) rfl a.gB) (db GP)))))) ph)))))))))))))))))))
abbrev UW:Stmt:=Jb 110
def mU:Ev->M Fl:=
 (oe (Gh (wj (Xx (ia 1)) [0] (Hn 2 (gi (de 0) (gi (de 1) Fo))) (eT (nb sh (ia 1) (ia 2))) (ia 0))))
def Ch:List D->M D:=Wa λa=>Vb (Gd 2 mU a)
theorem r0:ra ["hand","words"] ["hand","words"] (Ec UW):=Ke
theorem zkl(a:rc K mg ca):Ig ⟨K,ca,tx K⟩ P w mg base 1 "words_of" ["hand","words"] Ch:=
 Bi a.Ch r0 λb=>
  (Ge (rm (ku (x:="word") (z0:="owner") (M':=["hand"]) (ix:=[0]) rfl ⟨rfl,rfl,rfl,rfl,rfl,rfl⟩ (pF (pa 1)) (λ_ _ _ _ _=>Av rfl (ln (jh (by show List.Nodup (("word"::"owner"::["hand"]):List qa);decide +kernel)) (ln (jh (by show List.Nodup (("word"::"owner"::["hand"]):List qa);decide +kernel)) sv))) (λ_ _ _ _ _=>qK (Ai (gp (Fh b)) Jk (pa 1) (pa 2) (Xi _))) (λ_ _ _ _ _=>(pa 0)))))
abbrev EB:Stmt:=we (Jb 111) 0
abbrev NP:Ev->M Fl:=(Qx (au 15 5 wt (OA [] (xa (ia 6) (xa (ia 3) (xa (Qd (gd [9,14,16] "pots") (ia 0)) (xa (Je 2 Ch [] (xa (ia 6) (xa (ia 5) Na))) Na)))))) (Qd (gd [16] "keepers") (ia 0)) (ia 6))
abbrev EI:Ev->M Fl:=(gh (eT (nb Bq (ia 8) (Qd (gd [16] "keepers") (ia 0)))) (UK (eC (.bl true)) (Qd (gd [16] "things") (ia 0)) (Hj (xa (eC (.str "word")) (xa (ia 7) Na)))) fh)
def DT:Ev->M Fl:=
 (Mb (Qi [16] "public" (au 9 2 Hr (xa (ia 1) Na)) (ia 0)) (Mb (Qi [9,14,16] "pots" (Df [(9,Lb)] 1 "made_of" (Qd (gd [16] "public") (ia 0)) Na) (ia 0)) (Mb (Qi [14,15,16] "every" (ia 3) (ia 0)) (Mb (Qi [16] "keepers" Xt (ia 0)) (Mb (Qi [16] "under_way" (Sl Na) (ia 0)) (Mb (Qi [16] "things" yV (ia 0)) (Mb (wh 5 (Nz (eT (nb Kx (ia 4) (eC .Mc))) (eC (.Ja [] [])) (ia 4))) (Mb (Tn (qi (Gh (Qd TB (ia 2)))) (de 6) NP) (Jt (Xx (ia 5)) (Hn 2 (gi (de 7) (gi (de 8) Fo))) EI)))))))))
def vt:List D->M D:=Wa (Gd 9 DT)
theorem aE:ra ["self","pots","keeps","every","words","owners","hand","word","owner"] ["self","pots","keeps","every","words"] (Ec EB):=Ke
theorem S6(t:Addr)(kV c h:Value)(e:Option Addr)(b ct:Value)(s:Shared)(o:Obj)(n:Nat)(a:List Value)(f:s.heap.get? t=some o)(g:o.data=.seq ([ib]:List Value).toArray n) :
  ((a++[]).length=(["self","pots","keeps","every","words"]:List qa).length->xg s (W.fnOf "__init__" "Hall.__init__" (En EB) (uj EB) (Ec EB) (.ref t) kV c h e b ct) ⟨a,[]⟩ ((["self","pots","keeps","every","words"]:List qa).zip (a++[])))/\
  ((a++[ib]).length=(["self","pots","keeps","every","words"]:List qa).length->xg s (W.fnOf "__init__" "Hall.__init__" (En EB) (uj EB) (Ec EB) (.ref t) kV c h e b ct) ⟨a,[]⟩ ((["self","pots","keeps","every","words"]:List qa).zip (a++[ib]))):=
 ⟨λd=>match a,(show a.length=5 by simpa using d)with|[_,_,_,_,_],_=>Yd rfl f g rfl rfl,λd=>match a,(show a.length=4 by simpa using d)with|[_,_,_,_],_=>Yd rfl f g rfl rfl⟩
theorem D6(a:rc K mg ca):ou ⟨K,ca,tx K⟩ P w mg base 10 (ca 79) ["self","pots","keeps","every","words"] [ib] vt:=
 ou.Wa (FM a.vt aE λ_ _ _ _ _ _ b=>
  (Jc (Nj rfl (fA a) (pa 0) (sD (c:=9) (ps:=["self","pots"]) ⟨_,a.kB,a.xy,n6 a⟩ rfl (b.mono (by decide)) rfl (db (pa 1))))
  (Jc (Nj rfl (Gu a) (pa 0) (Ur (FP a) b (Mf (fA a) (pa 0))))
  (Jc (Nj rfl (gF a) (pa 0) (pa 3))
  (Jc (Nj rfl (lB a) (pa 0) bw)
  (Jc (Nj rfl (XV a) (pa 0) (xq Zt))
  (Jc (Nj rfl (hJ a) (pa 0) wX)
  (Jc (Ni aE.nd (yH (Ai CH DG (pa 4) CA (Xi _)) GP (pa 4)))
  (Jc (Tq Gk rfl (Ql rfl (rm (M1 rfl rfl rfl a.Po rfl a.Pz (pa 2)))) (jh aE.nd) (eh (gA (Fh b) (sP (c:=15) (ps:=["self","hand","every","pots","words"]) a.Rw a.Jv (zax a) (.inl rfl) .nil (λ_ _=>gb.nil) rfl (b.mono (by decide)) rfl (Db (pa 6) (Db (pa 3) (Db (Mf (Gu a) (pa 0)) (db (wf (zkl a) b (Db (pa 6) (db (pa 5))))))))) (Mf (lB a) (pa 0)) (pa 6))))
  (eh (fw Gk rfl (pF (pa 5)) (Av rfl (ln (jh aE.nd) (ln (jh aE.nd) sv))) (eh (rh (Ai (DE (Fh b)) JE (pa 8) (Mf (lB a) (pa 0)) rfl) (eh (E3 (Fh b) qw (Mf (hJ a) (pa 0)) (gk (Db Ej (db (pa 7)))))) ph)))))))))))))
abbrev OX:Stmt:=Jb 10
def gM:Ev->M Fl:=
 (oe (Je 3 Ab [] (xa (ia 0) (xa (eC (.int 0)) (xa (eC (.int 1)) Na)))))
def eg:List D->M D:=Wa λa=>Vb (Gd 1 gM a)
theorem T6:ra ["thing"] ["thing"] (Ec OX):=Ke
theorem iJ(a:rc K mg ca):Ig ⟨K,ca,tx K⟩ P w mg base 3 "is_side" ["thing"] eg:=
 Bi a.eg T6 λb=>
  (Ge (wf (Gv a) b (Db (pa 0) (Db Cb (db Cb)))))
abbrev T2:Stmt:=we (Jb 111) 5
def GT:Ev->M Fl:=
 (oe (Je 3 Ab [] (xa (ia 1) (xa (eC (.int 0)) (xa (nb vC (Gi Ll (xa (Qd (gd [9,14,16] "pots") (ia 0)) Na)) (eC (.int 1))) Na)))))
def Rc:List D->M D:=Wa λa=>Vb (Gd 2 GT a)
theorem UY:ra ["self","pot"] ["self","pot"] (Ec T2):=Ke
theorem zcx(a:rc K mg ca):Eg ⟨K,ca,tx K⟩ P w mg base 3 (ca 84) ["self","pot"] Rc:=
 Uj a.Rc UY λb=>
  (Ge (wf (Gv a) b (Db (pa 1) (Db Cb (db (Du kE ME (Qn Qr (Sr rfl) rfl a.Vg zb (db (Mf (Gu a) (pa 0)))) Cb))))))
theorem vR(a:rc K mg ca):Xh ⟨K,ca,tx K⟩ P w mg base 3 "has_pot" ["self","pot"] [(16,Rc)]:=(oi a.ue a.bo (zcx a) Mi)
abbrev YW:Stmt:=we (Jb 111) 6
def xM:Ev->M Fl:=
 (oe (Si (Df [(16,Rc)] 2 "has_pot" (ia 0) (xa (ia 1) Na)) (Si (Je 1 eg [] (xa (ia 2) Na)) (nb Bq (nb nc (nb nc (Qd (gd [9,14,16] "pots") (ia 0)) (ia 1)) (ia 2)) (Qd (gd [16] "keepers") (ia 0))))))
def Sa:List D->M D:=Wa λa=>Vb (Gd 3 xM a)
theorem U5:ra ["self","pot","side"] ["self","pot","side"] (Ec YW):=Ke
theorem m8(a:rc K mg ca):Eg ⟨K,ca,tx K⟩ P w mg base 4 (ca 85) ["self","pot","side"] Sa:=
 Uj a.Sa U5 λb=>
  (Ge (oj (fmt (vR a) b (pa 0) (db (pa 1))) (oj (wf (iJ a) b (db (pa 2))) (Fn (Ez (DE (Fh b)) JE (df (df (Mf (Gu a) (pa 0)) (pa 1)) (pa 2)) (Mf (lB a) (pa 0)) rfl)))))
theorem CQ(a:rc K mg ca):Xh ⟨K,ca,tx K⟩ P w mg base 4 "is_side_of_band" ["self","pot","side"] [(16,Sa)]:=(oi a.ue a.Ui (m8 a) Mi)
abbrev zad:Stmt:=we (Jb 111) 7
def EL:Ev->M Fl:=
 (gh (Nl (eT (Df [(16,Sa)] 3 "is_side_of_band" (ia 0) (xa (ia 1) (xa (ia 2) Na))))) (Jy 2 (xa (eC (.str "this is no side of the band")) Na)) fh)
def Oa:List D->M D:=Wa λa=>Vb (Gd 3 EL a)
theorem T5:ra ["self","pot","side"] ["self","pot","side"] (Ec zad):=Ke
theorem X0(a:rc K mg ca):Eg ⟨K,ca,tx K⟩ P w mg base 5 (ca 86) ["self","pot","side"] Oa:=
 Uj a.Oa T5 λb=>
  (eh (rh (jn (Yk (fmt (CQ a) b (pa 0) (Db (pa 1) (db (pa 2)))))) (eh (zB 2 Vc rfl a.li a.Kh rfl rfl (db Ej))) ph))
theorem rV(a:rc K mg ca):Xh ⟨K,ca,tx K⟩ P w mg base 5 "check_side_of_band" ["self","pot","side"] [(16,Oa)]:=(oi a.ue a.ii (X0 a) Mi)
abbrev o8:Stmt:=Jb 17
def JP:Ev->M Fl:=
 (oe (nb vC (eC (.int 1)) (ia 0)))
def Tf:List D->M D:=Wa λa=>Vb (Gd 1 JP a)
theorem zgz:ra ["side"] ["side"] (Ec o8):=Ke
theorem WR(a:rc K mg ca):Ig ⟨K,ca,tx K⟩ P w mg base 1 "other_side" ["side"] Tf:=
 Bi a.Tf zgz λb=>
  (Ge (Du kE ME Cb (pa 0)))
abbrev N6:Stmt:=we (Jb 62) 1
def nK:Ev->M Fl:=
 (gh (Nl (eT (Je 3 Ab [] (xa (ia 1) (xa (eC (.int 0)) (xa (nb vC (Gi Ll (xa (Qd (gd [9,14,16] "pots") (ia 0)) Na)) (eC (.int 1))) Na)))))) (Jy 2 (xa (eC (.str "the book hasn't this pot")) Na)) fh)
def Ta:List D->M D:=Wa λa=>Vb (Gd 2 nK a)
theorem W9:ra ["self","pot"] ["self","pot"] (Ec N6):=Ke
theorem gZ(a:rc K mg ca):Eg ⟨K,ca,tx K⟩ P w mg base 3 (ca 31) ["self","pot"] Ta:=
 Uj a.Ta W9 λb=>
  (eh (rh (jn (Yk (wf (Gv a) b (Db (pa 1) (Db Cb (db (Du kE ME (Qn Qr (Sr rfl) rfl a.Vg zb (db (Mf (Gu a) (pa 0)))) Cb))))))) (eh (zB 2 Vc rfl a.li a.Kh rfl rfl (db Ej))) ph))
theorem rE(a:rc K mg ca):Xh ⟨K,ca,tx K⟩ P w mg base 3 "check_pot" ["self","pot"] [(9,Ta)]:=(oi a.Uf a.Yl (gZ a) Mi)
abbrev D8:Stmt:=Jb 61
def dQ:Ev->M Fl:=
 (gh (Nl (eT (Je 1 eg [] (xa (ia 0) Na)))) al fh)
def zg:List D->M D:=Wa λa=>Vb (Gd 1 dQ a)
theorem Y3:ra ["side"] ["side"] (Ec D8):=Ke
theorem ŉ(a:rc K mg ca):Ig ⟨K,ca,tx K⟩ P w mg base 4 "check_side" ["side"] zg:=
 Bi a.zg Y3 λb=>
  (eh (rh (jn (Yk (wf (iJ a) b (db (pa 0))))) tm ph))
abbrev ι:Stmt:=Jb 33
def WV:Ev->M Fl:=
 (oe (nb vl (Gi Ux (xa (nb nc (ia 0) (eC (.int 1))) Na)) (Gi Ux (xa (Gh (wj (wl (qi (nb nc (ia 0) (eC (.int 2))))) [] (de 0) Oj (nb nc (ia 0) (eC (.int 1))))) Na))))
def qk:List D->M D:=Wa λa=>Vb (Gd 1 WV a)
theorem E7:ra ["one"] ["one"] (Ec ι):=Ke
theorem W6(a:rc K mg ca):Ig ⟨K,ca,tx K⟩ P w mg base 1 "deals" ["one"] qk:=
 Bi a.qk E7 λb=>
  (Ge (Eu (Qn (sJ rfl) (UL rfl) rfl a.Ew aO (db (df (pa 0) Cb))) (Qn (sJ rfl) (UL rfl) rfl a.Ew aO (db (rm (ku (x:="tie") (z0:="0") (M':=[]) (ix:=[]) rfl ⟨rfl,rfl,rfl,rfl,rfl,rfl⟩ (zu (Ql rfl (df (pa 0) Cb))) (λ_ _ _ _ _=>jh (by show List.Nodup (("tie"::"0"::[]):List qa);decide +kernel)) (λ_ _ _ _ _=>Tu) (λ_ _ _ _ _=>(df (pa 0) Cb))))))))
abbrev v9:Stmt:=Jb 34
def OQ:Ev->M Fl:=
 (oe (Si (Je 1 cf [] (xa (ia 0) Na)) (nb sh (Je 1 qk [] (xa (ia 0) Na)) (ia 1))))
def dg:List D->M D:=Wa λa=>Vb (Gd 2 OQ a)
theorem Ī:ra ["thing","coin"] ["thing","coin"] (Ec v9):=Ke
theorem RZ(a:rc K mg ca):Ig ⟨K,ca,tx K⟩ P w mg base 5 "is_stand_of" ["thing","coin"] dg:=
 Bi a.dg Ī λb=>
  (Ge (oj (wf (GD a) b (db (pa 0))) (Fn (sq b (wf (W6 a) b (db (pa 0))) (pa 1)))))
abbrev zrm:Stmt:=Jb 12
def aW:Ev->M Fl:=
 (oe (Je 3 Ab [] (xa (ia 0) (xa (eC (.int 0)) (xa (eC (.int 59)) Na)))))
def Wg:List D->M D:=Wa λa=>Vb (Gd 1 aW a)
theorem UX:ra ["thing"] ["thing"] (Ec zrm):=Ke
theorem lJ(a:rc K mg ca):Ig ⟨K,ca,tx K⟩ P w mg base 3 "is_word" ["thing"] Wg:=
 Bi a.Wg UX λb=>
  (Ge (wf (Gv a) b (Db (pa 0) (Db Cb (db (mw (u:=.int 59 (a.Ym).choose) rfl (a.Ym).choose_spec ⟨_,rfl⟩))))))
abbrev Ť:Stmt:=Jb 16
def HU:Ev->M Fl:=
 (oe (Je 3 Ab [] (xa (ia 0) (xa (eC (.int 0)) (xa (eC (.int 2)) Na)))))
def ki:List D->M D:=Wa λa=>Vb (Gd 1 HU a)
theorem fZ:ra ["thing"] ["thing"] (Ec Ť):=Ke
theorem OS(a:rc K mg ca):Ig ⟨K,ca,tx K⟩ P w mg base 3 "is_pot" ["thing"] ki:=
 Bi a.ki fZ λb=>
  (Ge (wf (Gv a) b (Db (pa 0) (Db Cb (db (mw (u:=.int 2 (a.nj).choose) rfl (a.nj).choose_spec ⟨_,rfl⟩))))))
abbrev F1:Stmt:=Jb 46
def MJ:Ev->M Fl:=
 (oe (Si (nb sh (Gi Ll (xa (ia 0) Na)) (eC (.int 4))) (Si (Je 1 ki [] (xa (nb nc (ia 0) (eC (.int 1))) Na)) (Je 1 eg [] (xa (nb nc (ia 0) (eC (.int 2))) Na)))))
def Wd:List D->M D:=Wa λa=>Vb (Gd 1 MJ a)
theorem å:ra ["thing"] ["thing"] (Ec F1):=Ke
theorem AU(a:rc K mg ca):Ig ⟨K,ca,tx K⟩ P w mg base 4 "is_of_a_side" ["thing"] Wd:=
 Bi a.Wd å λb=>
  (Ge (oj (sq b (Qn Qr (Sr rfl) rfl a.Vg zb (db (pa 0))) Cb) (oj (wf (OS a) b (db (df (pa 0) Cb))) (Fn (wf (iJ a) b (db (df (pa 0) Cb)))))))
abbrev X1:Stmt:=Jb 47
def uJ:Ev->M Fl:=
 (Mb (gh (dw (Nl (eT (Qd (Vs .tuple) (ia 0)))) (dw (eT (nb sh (Gi Ll (xa (ia 0) Na)) (eC (.int 0)))) (Nl (eT (Qd (Vs .str) (nb nc (ia 0) (eC (.int 0)))))))) al fh) (Mb (gh (eT (nb sh (nb nc (ia 0) (eC (.int 0))) (eC (.str "word")))) (oe (Si (nb sh (Gi Ll (xa (ia 0) Na)) (eC (.int 2))) (Je 1 Wg [] (xa (nb nc (ia 0) (eC (.int 1))) Na)))) fh) (Mb (gh (eT (nb sh (nb nc (ia 0) (eC (.int 0))) (eC (.str "strike")))) (oe (Si (Je 1 Wd [] (xa (ia 0) Na)) (Je 1 rg [] (xa (nb nc (ia 0) (eC (.int 3))) Na)))) fh) (Mb (gh (eT (nb sh (nb nc (ia 0) (eC (.int 0))) (eC (.str "agree")))) (oe (Si (Je 1 Wd [] (xa (ia 0) Na)) (Je 1 cf [] (xa (nb nc (ia 0) (eC (.int 3))) Na)))) fh) (oe (eC (.bl false)))))))
def zf:List D->M D:=Wa λa=>Vb (Gd 1 uJ a)
theorem zlf:ra ["thing"] ["thing"] (Ec X1):=Ke
theorem bN(a:rc K mg ca):Ig ⟨K,ca,tx K⟩ P w mg base 5 "is_thing" ["thing"] zf:=
 Bi a.zf zlf λb=>
  (Jc (rh (L2.PW.pt (Ix (jn (Yk (Jx .tuple (pa 0) rfl a.jd rfl a.sk ql))) (Ix (Ai (gp (Fh b)) Jk (Qn Qr (Sr rfl) rfl a.Vg zb (db (pa 0))) Cb (Xi _)) (HC (jn (Yk (Jx .str (df (pa 0) Cb) rfl a.jd rfl a.Fz boot_str))))))) tm ph)
  (Jc (rh (Ai (gp (Fh b)) Jk (df (pa 0) Cb) Ej (Xi _)) (Ge (oj (sq b (Qn Qr (Sr rfl) rfl a.Vg zb (db (pa 0))) Cb) (Fn (wf (lJ a) b (db (df (pa 0) Cb)))))) ph)
  (Jc (rh (Ai (gp (Fh b)) Jk (df (pa 0) Cb) Ej (Xi _)) (Ge (oj (wf (AU a) b (db (pa 0))) (Fn (wf (CP a) b (db (df (pa 0) Cb)))))) ph)
  (Jc (rh (Ai (gp (Fh b)) Jk (df (pa 0) Cb) Ej (Xi _)) (Ge (oj (wf (AU a) b (db (pa 0))) (Fn (wf (GD a) b (db (df (pa 0) Cb)))))) ph)
  (Ge qw)))))
abbrev M0:Stmt:=Jb 60
def Ĩ:Ev->M Fl:=
 (oe (Si (Je 1 zf [] (xa (ia 3) Na)) (nb sh (ia 3) (Hj (xa (eC (.str "agree")) (xa (ia 0) (xa (Je 1 Tf [] (xa (ia 1) Na)) (xa (ia 2) Na))))))))
def Ci:List D->M D:=Wa λa=>Vb (Gd 4 Ĩ a)
theorem ķ:ra ["pot","side","stand","agreement"] ["pot","side","stand","agreement"] (Ec M0):=Ke
theorem zh5(a:rc K mg ca):Ig ⟨K,ca,tx K⟩ P w mg base 6 "is_agreed" ["pot","side","stand","agreement"] Ci:=
 Bi a.Ci ķ λb=>
  (Ge (oj (wf (bN a) b (db (pa 3))) (Fn (sq b (pa 3) (gk (Db Ej (Db (pa 0) (Db (wf (WR a) b (db (pa 1))) (db (pa 2))))))))))
abbrev zeo:Stmt:=we (Jb 62) 5
def PP:Ev->M Fl:=
 (Mb (gh (Nl (eT (Qd (bC (ut [(6,true),(7,false),(8,false),(9,false),(11,false),(12,false),(13,false),(14,false),(15,false),(16,false)])) (nb nc (Qd (gd [9,15] "claims") (ia 0)) (ia 1))))) al fh) (Mb (wh 5 (nb nc (Qd (gd [9,14,16] "pots") (ia 0)) (ia 1))) (oe (yL (nb sh (ia 3) (Je 2 ui [] (xa (nb nc (ia 5) (eC (.int 2))) (xa (nb nc (ia 5) (eC (.int 3))) Na)))) (Je 4 Ci [] (xa (ia 1) (xa (ia 2) (xa (ia 3) (xa (ia 4) Na)))))))))
def Ae:List D->M D:=Wa λa=>Vb (Gd 6 PP a)
theorem jR:ra ["self","pot","side","stand","agreement","made"] ["self","pot","side","stand","agreement"] (Ec zeo):=Ke
theorem č(a:rc K mg ca):Eg ⟨K,ca,tx K⟩ P w mg base 7 (ca 35) ["self","pot","side","stand","agreement"] Ae:=
 Uj a.Ae jR λb=>
  (Jc (rh (jn (Yk (X7 (l:=[(6,true),(7,false),(8,false),(9,false),(11,false),(12,false),(13,false),(14,false),(15,false),(16,false)]) rfl (df (Mf (Bw a) (pa 0)) (pa 1)) rfl a.jd rfl (by decide) a.Vw (Sx a.kz a.Kr (Sx a.Ay a.Fs (Sx a.Tw a.pq (Sx a.jz a.Ar (Sx a.Ey a.vr (Sx a.Cu a.Mn (Sx a.wu a.Kn (Sx a.Hy a.Rr (Sx a.mv a.Lo (Sx a.Zy a.Er yls))))))))))))) tm ph)
  (Jc (Ni jR.nd (df (Mf (Gu a) (pa 0)) (pa 1)))
  (Ge (N1 (sq b (pa 3) (wf (RO a) b (Db (df (pa 5) Cb) (db (df (pa 5) Cb))))) (Fn (wf (zh5 a) b (Db (pa 1) (Db (pa 2) (Db (pa 3) (db (pa 4)))))))))))
theorem ī(a:rc K mg ca):Xh ⟨K,ca,tx K⟩ P w mg base 7 "may_lie" ["self","pot","side","stand","agreement"] [(9,Ae)]:=(oi a.Uf a.Bn (č a) Mi)
theorem NS(a:rc K mg ca):Nk ⟨K,ca,tx K⟩ [7] "stand":=(qh a.xi a.Aq dn)
theorem DQ(a:rc K mg ca):Nk ⟨K,ca,tx K⟩ [7] "wait":=(qh a.xi a.Gr dn)
abbrev U9:Stmt:=we (Jb 52) 0
def xU:Ev->M Fl:=
 (Mb (Co (Je 2 yq [] (xa (ia 0) (xa (ia 1) Na)))) (Mb (Qi [7,8,10,11,12,13] "side" (ia 2) (ia 0)) (Mb (Qi [7] "stand" (ia 3) (ia 0)) (Mb (Qi [7,9] "day" (ia 4) (ia 0)) (Qi [7] "wait" (ia 5) (ia 0))))))
def Hu:List D->M D:=Wa (Gd 6 xU)
theorem PZ:ra ["self","whole","side","stand","day","wait"] ["self","whole","side","stand","day","wait"] (Ec U9):=Ke
theorem Ý(a:rc K mg ca):Eg ⟨K,ca,tx K⟩ P w mg base 3 (ca 21) ["self","whole","side","stand","day","wait"] Hu:=
 Yt a.Hu PZ λb=>
  (Jc (Rp (ã (c:=5) ⟨a.Py,a.gm,_,_,a.Ul,a.Rl,a.Xl,mO a⟩ rfl (b.mono (by decide)) rfl (Db (pa 0) (db (pa 1)))))
  (Jc (Nj rfl (DC a) (pa 0) (pa 2))
  (Jc (Nj rfl (NS a) (pa 0) (pa 3))
  (Jc (Nj rfl (Qz a) (pa 0) (pa 4))
  (eh (Nj rfl (DQ a) (pa 0) (pa 5)))))))
abbrev BB:Stmt:=we (Jb 62) 6
def kP:Ev->M Fl:=
 (Mb (Co (Df [(9,Ta)] 2 "check_pot" (ia 0) (xa (ia 1) Na))) (Mb (Co (Je 1 zg [] (xa (ia 2) Na))) (Mb (wh 5 (nb nc (Qd (gd [9,14,16] "pots") (ia 0)) (ia 1))) (Mb (gh (Nl (eT (Je 2 dg [] (xa (ia 3) (xa (Je 1 Dd [] (xa (ia 5) Na)) Na))))) al fh) (Mb (gh (Nl (eT (Df [(9,Ae)] 5 "may_lie" (ia 0) (xa (ia 1) (xa (ia 2) (xa (ia 3) (xa (ia 4) Na))))))) al fh) (IK (Gh (au 7 6 Hu (xa (Je 1 Dd [] (xa (ia 5) Na)) (xa (ia 2) (xa (ia 3) (xa (Qd (gd [7,9] "day") (ia 0)) (xa (nb nc (ia 5) (eC (.int 4))) Na))))))) (Qd (gd [9,15] "claims") (ia 0)) (ia 1)))))))
def Pg:List D->M D:=Wa (Gd 6 kP)
theorem iO:ra ["self","pot","side","stand","agreement","made"] ["self","pot","side","stand","agreement"] (Ec BB):=Ke
theorem B8(t:Addr)(kV c h:Value)(e:Option Addr)(b ct:Value)(s:Shared)(o:Obj)(n:Nat)(a:List Value)(f:s.heap.get? t=some o)(g:o.data=.seq ([ib]:List Value).toArray n) :
  ((a++[]).length=(["self","pot","side","stand","agreement"]:List qa).length->xg s (W.fnOf "lay" "Book.lay" (En BB) (uj BB) (Ec BB) (.ref t) kV c h e b ct) ⟨a,[]⟩ ((["self","pot","side","stand","agreement"]:List qa).zip (a++[])))/\
  ((a++[ib]).length=(["self","pot","side","stand","agreement"]:List qa).length->xg s (W.fnOf "lay" "Book.lay" (En BB) (uj BB) (Ec BB) (.ref t) kV c h e b ct) ⟨a,[]⟩ ((["self","pot","side","stand","agreement"]:List qa).zip (a++[ib]))):=
 ⟨λd=>match a,(show a.length=5 by simpa using d)with|[_,_,_,_,_],_=>Yd rfl f g rfl rfl,λd=>match a,(show a.length=4 by simpa using d)with|[_,_,_,_],_=>Yd rfl f g rfl rfl⟩
theorem o0(a:rc K mg ca):ou ⟨K,ca,tx K⟩ P w mg base 8 (ca 36) ["self","pot","side","stand","agreement"] [ib] Pg:=
 ou.Wa (FM a.Pg iO λ_ _ _ _ _ _ b=>
  (Jc (Rp (fmt (rE a) b (pa 0) (db (pa 1))))
  (Jc (Rp (wf (ŉ a) b (db (pa 2))))
  (Jc (Ni iO.nd (df (Mf (Gu a) (pa 0)) (pa 1)))
  (Jc (rh (jn (Yk (wf (RZ a) b (Db (pa 3) (db (wf (IJ a) b (db (pa 5)))))))) tm ph)
  (Jc (rh (jn (Yk (fmt (ī a) b (pa 0) (Db (pa 1) (Db (pa 2) (Db (pa 3) (db (pa 4)))))))) tm ph)
  (eh (Z3 (rm (sD (c:=7) (ps:=["self","whole","side","stand","day","wait"]) ⟨_,a.aB,a.By,Ý a⟩ rfl (b.mono (by decide)) rfl (Db (wf (IJ a) b (db (pa 5))) (Db (pa 2) (Db (pa 3) (Db (Mf (Qz a) (pa 0)) (db (df (pa 5) Cb)))))))) (Mf (Bw a) (pa 0)) (pa 1)))))))))
abbrev Υ:Stmt:=we (Jb 62) 13
abbrev QM:Ev->M Fl:=(Co (BN Hz (ia 1) (xa (ia 2) Na)))
def JO:Ev->M Fl:=
 (Mb (wh 1 Xt) (Mb (Tn (qi (Qd (gd [9] "shown") (ia 0))) (de 2) QM) (oe (Gh (Gi Wy (xa (ia 1) Na))))))
def vc:List D->M D:=Wa λa=>Vb (Gd 3 JO a)
theorem BK:ra ["self","words","shown"] ["self"] (Ec Υ):=Ke
theorem ĵ(a:rc K mg ca):Eg ⟨K,ca,tx K⟩ P w mg base 1 (ca 43) ["self"] vc:=
 Uj a.vc BK λb=>
  (Jc (Ni BK.nd bw)
  (Jc (Tq Gk rfl (Ql rfl (Mf (gC a) (pa 0))) (jh BK.nd) (eh (Rp (ü dj Dq PySem.F.type_dict_update G7 L0 (pa 1) (db (pa 2))))))
  (Ge (rm (Qn (gU rfl) (uT rfl) rfl a.Po L4.JK (db (pa 1)))))))
theorem bK(a:rc K mg ca):Xh ⟨K,ca,tx K⟩ P w mg base 1 "all_shown" ["self"] [(9,vc)]:=(oi a.Uf a.dm (ĵ a) Mi)
abbrev TZ:Stmt:=we (Jb 111) 8
def fL:Ev->M Fl:=
 (Mb (gh (eT (nb Vz (ia 1) (Qd (gd [16] "things") (ia 0)))) (oe (eC (.bl true))) fh) (Mb (gh (eT (nb sh (nb nc (ia 1) (eC (.int 0))) (eC (.str "word")))) (oe (nb (kA false) (nb nc (ia 1) (eC (.int 1))) (Df [(9,vc)] 1 "all_shown" (Qd (gd [16] "public") (ia 0)) Na))) fh) (oe (Df [(16,Sa)] 3 "is_side_of_band" (ia 0) (xa (nb nc (ia 1) (eC (.int 1))) (xa (nb nc (ia 1) (eC (.int 2))) Na))))))
def Yb:List D->M D:=Wa λa=>Vb (Gd 2 fL a)
theorem ğ:ra ["self","thing"] ["self","thing"] (Ec TZ):=Ke
theorem MX(a:rc K mg ca):Eg ⟨K,ca,tx K⟩ P w mg base 5 (ca 87) ["self","thing"] Yb:=
 Uj a.Yb ğ λb=>
  (Jc (rh (Ai (F4 (Fh b)) zyh (pa 1) (Mf (hJ a) (pa 0)) rfl) (Ge qw) ph)
  (Jc (rh (Ai (gp (Fh b)) Jk (df (pa 1) Cb) Ej (Xi _)) (Ge (Ez LR (XP rfl false) (df (pa 1) Cb) (Ur (bK a) b (Mf (fA a) (pa 0))) rfl)) ph)
  (Ge (fmt (CQ a) b (pa 0) (Db (df (pa 1) Cb) (db (df (pa 1) Cb)))))))
theorem nT(a:rc K mg ca):Xh ⟨K,ca,tx K⟩ P w mg base 5 "band_can" ["self","thing"] [(16,Yb)]:=(oi a.ue a.Em (MX a) Mi)
abbrev o9:Stmt:=we (Jb 111) 19
def ZM:Ev->M Fl:=
 (Mb (Co (Df [(16,Oa)] 3 "check_side_of_band" (ia 0) (xa (ia 1) (xa (ia 2) Na)))) (Mb (gh (Nl (eT (Je 1 cf [] (xa (ia 3) Na)))) al fh) (Mb (wh 4 (Hj (xa (eC (.str "agree")) (xa (ia 1) (xa (Je 1 Tf [] (xa (ia 2) Na)) (xa (ia 3) Na)))))) (Co (Df [(9,Pg)] 5 "lay" (Qd (gd [16] "public") (ia 0)) (xa (ia 1) (xa (ia 2) (xa (ia 3) (xa (Nz (eT (Df [(16,Yb)] 2 "band_can" (ia 0) (xa (ia 4) Na))) (ia 4) (eC .Mc)) Na)))))))))
def Vd:List D->M D:=Wa (Gd 5 ZM)
theorem BV:ra ["self","P","side","stand","agreement"] ["self","P","side","stand"] (Ec o9):=Ke
theorem zke(a:rc K mg ca):Eg ⟨K,ca,tx K⟩ P w mg base 9 (ca 98) ["self","P","side","stand"] Vd:=
 Yt a.Vd BV λb=>
  (Jc (Rp (fmt (rV a) b (pa 0) (Db (pa 1) (db (pa 2)))))
  (Jc (rh (jn (Yk (wf (GD a) b (db (pa 3))))) tm ph)
  (Jc (Ni BV.nd (gk (Db Ej (Db (pa 1) (Db (wf (WR a) b (db (pa 2))) (db (pa 3)))))))
  (eh (Rp (o1 (k:=8) (c:=9) (ps:=["self","pot","side","stand","agreement"]) rfl (Mf (fA a) (pa 0)) a.Uf a.xt (o0 a) (b.mono (by decide)) (Db (pa 1) (Db (pa 2) (Db (pa 3) (db (yH (Yk (fmt (nT a) b (pa 0) (db (pa 4)))) (pa 4) CA)))))))))))
theorem kK(a:rc K mg ca):Xh ⟨K,ca,tx K⟩ P w mg base 9 "lay" ["self","P","side","stand"] [(16,Vd)]:=(oi a.ue a.Nt (zke a) Mi)
abbrev A5:Stmt:=we (Jb 111) 1
def RJ:Ev->M Fl:=
 (oe (Qd (gd [16] "public") (ia 0)))
def Ub:List D->M D:=Wa λa=>Vb (Gd 1 RJ a)
theorem y1:ra ["self"] ["self"] (Ec A5):=Ke
theorem i7(a:rc K mg ca):Eg ⟨K,ca,tx K⟩ P w mg base 1 (ca 80) ["self"] Ub:=
 Uj a.Ub y1 λb=>
  (Ge (Mf (fA a) (pa 0)))
theorem RG(a:rc K mg ca):Xh ⟨K,ca,tx K⟩ P w mg base 1 "book" ["self"] [(16,Ub)]:=(oi a.ue a.Yr (i7 a) Mi)
abbrev D3:Stmt:=we (Jb 111) 3
def sQ:Ev->M Fl:=
 (oe (Gh (Gi Yq (xa (Qd (gd [16] "under_way") (ia 0)) Na))))
def Of:List D->M D:=Wa λa=>Vb (Gd 1 sQ a)
theorem Z7:ra ["self"] ["self"] (Ec D3):=Ke
theorem ZZ(a:rc K mg ca):Eg ⟨K,ca,tx K⟩ P w mg base 1 (ca 82) ["self"] Of:=
 Uj a.Of Z7 λb=>
  (Ge (rm (Qy sB (bB rfl) rfl a.Uk Ek (db (Mf (XV a) (pa 0))))))
theorem A2(a:rc K mg ca):Xh ⟨K,ca,tx K⟩ P w mg base 1 "road" ["self"] [(16,Of)]:=(oi a.ue a.Cr (ZZ a) Mi)
abbrev zic:Stmt:=we (Jb 51) 1
def TU:Ev->M Fl:=
 (oe (Hj (xa (eC (.int 0)) (xa (eC (.int 0)) (xa (Qd (gd [5,6,7,8] "whole") (ia 0)) Na)))))
def Ad:List D->M D:=Wa λa=>Vb (Gd 3 TU a)
theorem y3:ra ["self","day","shown"] ["self","day","shown"] (Ec zic):=Ke
theorem m5(a:rc K mg ca):Eg ⟨K,ca,tx K⟩ P w mg base 1 (ca 19) ["self","day","shown"] Ad:=
 Uj a.Ad y3 λb=>
  (Ge (gk (Db Cb (Db Cb (db (Mf (jN a) (pa 0)))))))
abbrev X5:Stmt:=we (Jb 52) 2
def wR:Ev->M Fl:=
 (oe (nb oLt (ia 1) (nb vl (Qd (gd [7,9] "day") (ia 0)) (Qd (gd [7] "wait") (ia 0)))))
def Qe:List D->M D:=Wa λa=>Vb (Gd 2 wR a)
theorem K6:ra ["self","day"] ["self","day"] (Ec X5):=Ke
theorem AX(a:rc K mg ca):Eg ⟨K,ca,tx K⟩ P w mg base 1 (ca 23) ["self","day"] Qe:=
 Uj a.Qe K6 λb=>
  (Ge (Ez HG cG (pa 1) (Eu (Mf (Qz a) (pa 0)) (Mf (DQ a) (pa 0))) (Xi _)))
theorem ň(a:rc K mg ca):Xh ⟨K,ca,tx K⟩ P w mg base 1 "waits" ["self","day"] [(7,Qe)]:=(oi a.xi a.fq (AX a) Mi)
abbrev L9:Stmt:=we (Jb 52) 3
def WO:Ev->M Fl:=
 (Mb (gh (eT (Df [(7,Qe)] 2 "waits" (ia 0) (xa (ia 1) Na))) (oe (Hj (xa (eC (.int 0)) (xa (eC (.int 0)) (xa (Qd (gd [5,6,7,8] "whole") (ia 0)) Na))))) fh) al)
def Xd:List D->M D:=Wa λa=>Vb (Gd 6 WO a)
theorem Μ:ra ["self","day","shown","due","tie","side"] ["self","day","shown"] (Ec L9):=Ke
theorem uZ(a:rc K mg ca):Eg ⟨K,ca,tx K⟩ P w mg base 2 (ca 24) ["self","day","shown"] Xd:=
 Uj a.Xd Μ λb=>
  (Jc (rh (Yk (fmt (ň a) b (pa 0) (db (pa 1)))) (Ge (gk (Db Cb (Db Cb (db (Mf (jN a) (pa 0))))))) ph)
  tm)
abbrev t6:Stmt:=we (Jb 53) 2
def xX:Ev->M Fl:=
 al
def Ve:List D->M D:=Wa λa=>Vb (Gd 4 xX a)
theorem t4:ra ["self","day","shown","shares"] ["self","day","shown"] (Ec t6):=Ke
theorem Ù(a:rc K mg ca):Eg ⟨K,ca,tx K⟩ P w mg base 1 (ca 28) ["self","day","shown"] Ve:=
 Uj a.Ve t4 λb=>
  tm
theorem ç(a:rc K mg ca):Xh ⟨K,ca,tx K⟩ P w mg base 2 "comes" ["self","day","shown"] [(6,Ad),(7,Xd),(8,Ve)]:=(oi a.Pr a.cq (m5 a) (oi a.xi a.kq (uZ a) (oi a.Jl a.lp (Ù a) Mi)))
abbrev V9:Stmt:=we (Jb 62) 10
def nQ:Ev->M Fl:=
 (Mb (Co (Df [(9,Ta)] 2 "check_pot" (ia 0) (xa (ia 1) Na))) (oe (Df [(6,Ad),(7,Xd),(8,Ve)] 3 "comes" (nb nc (Qd (gd [9,15] "claims") (ia 0)) (ia 1)) (xa (Qd (gd [7,9] "day") (ia 0)) (xa (nb nc (Qd (gd [9] "shown") (ia 0)) (ia 1)) Na)))))
def Ze:List D->M D:=Wa λa=>Vb (Gd 2 nQ a)
theorem C3:ra ["self","pot"] ["self","pot"] (Ec V9):=Ke
theorem Ŵ(a:rc K mg ca):Eg ⟨K,ca,tx K⟩ P w mg base 4 (ca 40) ["self","pot"] Ze:=
 Uj a.Ze C3 λb=>
  (Jc (Rp (fmt (rE a) b (pa 0) (db (pa 1))))
  (Ge (fmt (ç a) b (df (Mf (Bw a) (pa 0)) (pa 1)) (Db (Mf (Qz a) (pa 0)) (db (df (Mf (gC a) (pa 0)) (pa 1)))))))
theorem KZ(a:rc K mg ca):Xh ⟨K,ca,tx K⟩ P w mg base 4 "due_of" ["self","pot"] [(9,Ze)]:=(oi a.Uf a.Ep (Ŵ a) Mi)
abbrev K9:Stmt:=we (Jb 62) 11
abbrev QO:Ev->M Fl:=(gh (eT (nb sh (nb nc (ia 4) (ia 5)) (ia 1))) (wC (λa b=>a+b) 2 (nb nc (Df [(9,Ze)] 2 "due_of" (ia 0) (xa (ia 3) Na)) (ia 5))) fh)
abbrev jJ:Ev->M Fl:=(Tn (qi (Hj (xa (eC (.int 0)) (xa (eC (.int 1)) Na)))) (de 5) QO)
def YK:Ev->M Fl:=
 (Mb (gh (Nl (eT (Je 1 Xg [] (xa (ia 1) Na)))) (Jy 2 (xa (eC (.str "there is no such hand")) Na)) fh) (Mb (wh 2 (eC (.int 0))) (Mb (Jt (aF (Qd (gd [9,14,16] "pots") (ia 0))) (Hn 2 (gi (de 3) (gi (de 4) Fo))) jJ) (oe (ia 2)))))
def Tc:List D->M D:=Wa λa=>Vb (Gd 6 YK a)
theorem KC:ra ["self","hand","coin","pot","made","side"] ["self","hand"] (Ec K9):=Ke
theorem N5(a:rc K mg ca):Eg ⟨K,ca,tx K⟩ P w mg base 5 (ca 41) ["self","hand"] Tc:=
 Uj a.Tc KC λb=>
  (Jc (rh (jn (Yk (wf (uL a) b (db (pa 1))))) (eh (zB 2 Vc rfl a.li a.Kh rfl rfl (db Ej))) ph)
  (Jc (Ni KC.nd Cb)
  (Jc (fw Gk rfl (AM rfl a.Xj (Mf (Gu a) (pa 0))) (Av rfl (ln (jh KC.nd) (ln (jh KC.nd) sv))) (eh (Tq Gk rfl (Ql rfl (gk (Db Cb (db Cb)))) (jh KC.nd) (eh (rh (Ai (gp (Fh b)) Jk (df (pa 4) (pa 5)) (pa 1) (Xi _)) (eh (U1 (i:=2) AZ KC.nd rfl (Or.inl rfl) (df (fmt (KZ a) b (pa 0) (db (pa 3))) (pa 5)))) ph)))))
  (Ge (pa 2)))))
theorem IX(a:rc K mg ca):Xh ⟨K,ca,tx K⟩ P w mg base 5 "coin_of" ["self","hand"] [(9,Tc)]:=(oi a.Uf a.oo (N5 a) Mi)
abbrev w1:Stmt:=we (Jb 111) 4
def pL:Ev->M Fl:=
 (oe (Df [(9,Tc)] 2 "coin_of" (Qd (gd [16] "public") (ia 0)) (xa (ia 1) Na)))
def Uc:List D->M D:=Wa λa=>Vb (Gd 2 pL a)
theorem ś:ra ["self","hand"] ["self","hand"] (Ec w1):=Ke
theorem Ε(a:rc K mg ca):Eg ⟨K,ca,tx K⟩ P w mg base 6 (ca 83) ["self","hand"] Uc:=
 Uj a.Uc ś λb=>
  (Ge (fmt (IX a) b (Mf (fA a) (pa 0)) (db (pa 1))))
theorem qN(a:rc K mg ca):Xh ⟨K,ca,tx K⟩ P w mg base 6 "coin" ["self","hand"] [(16,Uc)]:=(oi a.ue a.zr (Ε a) Mi)
abbrev X4:Stmt:=we (Jb 111) 2
def EJ:Ev->M Fl:=
 (Mb (gh (eT (nb Bq (ia 1) (Qd (gd [16] "keepers") (ia 0)))) (Jy 2 (xa (eC (.str "this hand doesn't keep")) Na)) fh) (oe (nb pw (Qd (gd [16] "keepers") (ia 0)) (ia 1))))
def Bb:List D->M D:=Wa λa=>Vb (Gd 2 EJ a)
theorem W0:ra ["self","hand"] ["self","hand"] (Ec X4):=Ke
theorem lX(a:rc K mg ca):Eg ⟨K,ca,tx K⟩ P w mg base 1 (ca 81) ["self","hand"] Bb:=
 Uj a.Bb W0 λb=>
  (Jc (rh (Ai (DE (Fh b)) JE (pa 1) (Mf (lB a) (pa 0)) rfl) (eh (zB 2 Vc rfl a.li a.Kh rfl rfl (db Ej))) ph)
  (Ge (YB (Fh b) (Mf (lB a) (pa 0)) (pa 1) (λ_ _=>rfl))))
theorem jE(a:rc K mg ca):Xh ⟨K,ca,tx K⟩ P w mg base 1 "keeper" ["self","hand"] [(16,Bb)]:=(oi a.ue a.ip (lX a) Mi)
abbrev R6:Stmt:=Jb 83
def CS:Ev->M Fl:=
 (Mb (wh 3 (nb nc (nb nc (ia 2) (eC (.int 1))) (nb nc (ia 1) (eC (.int 0))))) (Mb (wh 4 Xt) (Mb (Tn (qi (nb nc (ia 2) (eC (.int 2)))) (de 5) al) (oe (Hj (xa (ia 3) (xa (ia 4) Na)))))))
def Vf:List D->M D:=Wa λa=>Vb (Gd 7 CS a)
theorem uI:ra ["view","pot","one","firm","lots","tie","lot"] ["view","pot","one"] (Ec R6):=Ke
theorem Ą(a:rc K mg ca):Ig ⟨K,ca,tx K⟩ P w mg base 1 "read_stand" ["view","pot","one"] Vf:=
 Bi a.Vf uI λb=>
  (Jc (Ni uI.nd (df (df (pa 2) Cb) (df (pa 1) Cb)))
  (Jc (Ni uI.nd bw)
  (Jc (Tq Gk rfl (Ql rfl (df (pa 2) Cb)) (jh uI.nd) tm)
  (Ge (gk (Db (pa 3) (db (pa 4))))))))
abbrev g9:Stmt:=Jb 84
def rO:Ev->M Fl:=
 (Mb (wh 1 (vv Na)) (Mb (Tn (qi (Qd (gd [9,14,16] "pots") (ia 0))) (de 2) (Co (uC zt (ia 1) (xa (Gh (wj (wl (qi (nb nc (ia 2) (eC (.int 1))))) [0,2] (de 0) Oj (Je 3 Vf [] (xa (ia 2) (xa (ia 3) (xa (ia 0) Na)))))) Na)))) (oe (ia 1))))
def Tg:List D->M D:=Wa λa=>Vb (Gd 3 rO a)
theorem QN:ra ["view","readings","pot"] ["view"] (Ec g9):=Ke
theorem aX(a:rc K mg ca):Ig ⟨K,ca,tx K⟩ P w mg base 2 "read_pots" ["view"] Tg:=
 Bi a.Tg QN λb=>
  (Jc (Ni QN.nd (AB Zt))
  (Jc (Tq Gk rfl (Ql rfl (Mf (Gu a) (pa 0))) (jL (i:=2) QN.nd rfl (Or.inr rfl)) (eh (Rp (JG Zg Gq Hq NJ DN (pa 1) (db (rm (ku (x:="one") (z0:="0") (M':=["view","pot"]) (ix:=[0,2]) rfl ⟨rfl,rfl,rfl,rfl,rfl,rfl⟩ (zu (Ql rfl (df (pa 2) Cb))) (λ_ _ _ _ _=>jh (by show List.Nodup (("one"::"0"::["view","pot"]):List qa);decide +kernel)) (λ_ _ _ _ _=>Tu) (λ_ _ _ _ _=>(wf (Ą a) b (Db (pa 2) (Db (pa 3) (db (pa 0)))))))))))))
  (Ge (pa 1))))
abbrev Φ:Stmt:=Jb 85
def aU:Ev->M Fl:=
 (Mb (wh 1 (Sl (xa (Sl Na) Na))) (Mb (Tn (qi (ia 0)) (de 2) (Mb (wh 3 (vv Na)) (Mb (Tn (qi (ia 1)) (de 4) (Co (uC cy (ia 3) (xa (Gh (wj (wl (Tz (Gi Ll (xa (ia 2) Na)))) [4] (de 0) Oj (nb vl (ia 2) (Sl (xa (ia 0) Na))))) Na)))) (wh 1 (ia 3))))) (oe (ia 1))))
def xf:List D->M D:=Wa λa=>Vb (Gd 5 aU a)
theorem UB:ra ["readings","choices","stands","longer","chosen"] ["readings"] (Ec Φ):=Ke
theorem XX(a:rc K mg ca):Ig ⟨K,ca,tx K⟩ P w mg base 1 "all_choices" ["readings"] xf:=
 Bi a.xf UB λb=>
  (Jc (Ni UB.nd (xq (db (xq Zt))))
  (Jc (Tq Gk rfl (Ql rfl (pa 0)) (jh UB.nd) (Jc (Ni UB.nd (AB Zt))
  (Jc (Tq Gk rfl (Ql rfl (pa 1)) (jL (i:=4) UB.nd rfl (Or.inr rfl)) (eh (Rp (JG Zg Iq Jq qS pP (pa 3) (db (rm (ku (x:="place") (z0:="0") (M':=["chosen"]) (ix:=[4]) rfl ⟨rfl,rfl,rfl,rfl,rfl,rfl⟩ (zu (vM rfl a.uk (Qn Qr (Sr rfl) rfl a.Vg zb (db (pa 2))))) (λ_ _ _ _ _=>jh (by show List.Nodup (("place"::"0"::["chosen"]):List qa);decide +kernel)) (λ_ _ _ _ _=>Tu) (λ_ _ _ _ _=>(Eu (pa 2) (xq (db (pa 0))))))))))))
  (eh (Ni UB.nd (pa 3))))))
  (Ge (pa 1))))
abbrev í:Stmt:=Jb 87
def sV:Ev->M Fl:=
 (Mb (wh 1 Xt) (Mb (Tn (qi (ia 0)) (de 2) (Jt (Xx (nb nc (ia 2) (eC (.int 1)))) (Hn 2 (gi (de 3) (gi (de 4) Fo))) al)) (oe (ia 1))))
def Hf:List D->M D:=Wa λa=>Vb (Gd 5 sV a)
theorem VE:ra ["reads","by_word","read","word","lot"] ["reads"] (Ec í):=Ke
theorem U3(a:rc K mg ca):Ig ⟨K,ca,tx K⟩ P w mg base 1 "lots_by_word" ["reads"] Hf:=
 Bi a.Hf VE λb=>
  (Jc (Ni VE.nd bw)
  (Jc (Tq Gk rfl (Ql rfl (pa 0)) (jh VE.nd) (eh (fw Gk rfl (pF (df (pa 2) Cb)) (Av rfl (ln (jh VE.nd) (ln (jh VE.nd) sv))) tm)))
  (Ge (pa 1))))
abbrev Õ:Stmt:=Jb 92
def FQ:Ev->M Fl:=
 (Mb (wh 4 (Gi Ux (xa (Gh (wj (wl (qi (ia 0))) [] (de 0) Oj (nb nc (ia 0) (eC (.int 0))))) Na))) (Mb (Jt (Xx (ia 1)) (Hn 2 (gi (de 5) (gi (de 6) Fo))) al) (oe (ia 4))))
def Vi:List D->M D:=Wa λa=>Vb (Gd 7 FQ a)
theorem mH:ra ["reads","by_word","fates","every","total","word","lots"] ["reads","by_word","fates","every"] (Ec Õ):=Ke
theorem Y2(a:rc K mg ca):Ig ⟨K,ca,tx K⟩ P w mg base 1 "sum_of" ["reads","by_word","fates","every"] Vi:=
 Bi a.Vi mH λb=>
  (Jc (Ni mH.nd (Qn (sJ rfl) (UL rfl) rfl a.Ew aO (db (rm (ku (x:="read") (z0:="0") (M':=[]) (ix:=[]) rfl ⟨rfl,rfl,rfl,rfl,rfl,rfl⟩ (zu (Ql rfl (pa 0))) (λ_ _ _ _ _=>jh (by show List.Nodup (("read"::"0"::[]):List qa);decide +kernel)) (λ_ _ _ _ _=>Tu) (λ_ _ _ _ _=>(df (pa 0) Cb)))))))
  (Jc (fw Gk rfl (pF (pa 1)) (Av rfl (ln (jh mH.nd) (ln (jh mH.nd) sv))) tm)
  (Ge (pa 4))))
abbrev j6:Stmt:=Jb 93
def pU:Ev->M Fl:=
 (Mb (wh 3 (Je 1 Hf [] (xa (ia 0) Na))) (Mb (wh 4 Xt) (Mb (Jt (Xx (ia 3)) (Hn 2 (gi (de 5) (gi (de 6) Fo))) al) (oe (Hj (xa (Je 4 Vi [] (xa (ia 0) (xa (ia 3) (xa (ia 4) (xa (ia 2) Na))))) (xa (ia 1) (xa (ia 4) Na))))))))
def Af:List D->M D:=Wa λa=>Vb (Gd 7 pU a)
theorem CF:ra ["reads","chosen","every","by_word","fates","word","lots"] ["reads","chosen","every"] (Ec j6):=Ke
theorem Š(a:rc K mg ca):Ig ⟨K,ca,tx K⟩ P w mg base 2 "least_paper" ["reads","chosen","every"] Af:=
 Bi a.Af CF λb=>
  (Jc (Ni CF.nd (wf (U3 a) b (db (pa 0))))
  (Jc (Ni CF.nd bw)
  (Jc (fw Gk rfl (pF (pa 3)) (Av rfl (ln (jh CF.nd) (ln (jh CF.nd) sv))) tm)
  (Ge (gk (Db (wf (Y2 a) b (Db (pa 0) (Db (pa 3) (Db (pa 4) (db (pa 2)))))) (Db (pa 1) (db (pa 4)))))))))
abbrev zbg:Stmt:=Jb 86
def BO:Ev->M Fl:=
 (oe (Gh (wj (XB (ia 0) (ia 1)) [] (Hn 2 (gi (de 0) (gi (de 1) Fo))) Oj (nb nc (ia 0) (ia 1)))))
def Ud:List D->M D:=Wa λa=>Vb (Gd 2 BO a)
theorem za3:ra ["readings","chosen"] ["readings","chosen"] (Ec zbg):=Ke
theorem zaz(a:rc K mg ca):Ig ⟨K,ca,tx K⟩ P w mg base 1 "chosen_readings" ["readings","chosen"] Ud:=
 Bi a.Ud za3 λb=>
  (Ge (rm (ku (x:="stands") (z0:="place") (M':=[]) (ix:=[]) rfl ⟨rfl,rfl,rfl,rfl,rfl,rfl⟩ (Ļ rfl a.QE (pa 0) (pa 1)) (λ_ _ _ _ _=>Av rfl (ln (jh (by show List.Nodup (("stands"::"place"::[]):List qa);decide +kernel)) (ln (jh (by show List.Nodup (("stands"::"place"::[]):List qa);decide +kernel)) sv))) (λ_ _ _ _ _=>Tu) (λ_ _ _ _ _=>(df (pa 0) (pa 1))))))
abbrev eZ:Stmt:=Jb 94
def oU:Ev->M Fl:=
 (Mb (wh 1 (Je 1 Tg [] (xa (ia 0) Na))) (Mb (wh 2 (Gh (wj (wl (qi (Je 1 xf [] (xa (ia 1) Na)))) [1,0] (de 0) Oj (Je 3 Af [] (xa (Je 2 Ud [] (xa (ia 2) (xa (ia 0) Na))) (xa (ia 0) (xa (Qd (gd [14,15,16] "every") (ia 3)) Na))))))) (oe (aN [] (nb nc (ia 0) (eC (.int 0))) (xa (ia 2) Na)))))
def jk:List D->M D:=Wa λa=>Vb (Gd 3 oU a)
theorem rM:ra ["view","readings","papers"] ["view"] (Ec eZ):=Ke
theorem S8(a:rc K mg ca):Ig ⟨K,ca,tx K⟩ P w mg base 3 "paper" ["view"] jk:=
 Ig.Wa (Ig.Vb (G9 a.jk rM λ_ _ _ _ _ _ b=>
  (Jc (DO (i:=1) rM.nd rfl (Or.inr rfl) (wf (aX a) b (db (pa 0))))
  (Jc (IT (LP (i:=2) rM.nd rfl (Or.inl rfl) (x:="chosen") (z0:="0") (M':=["readings","view"]) (ix:=[1,0]) rfl ⟨rfl,rfl,rfl,rfl,rfl,rfl⟩ (zu (Ql rfl (wf (XX a) b (db (pa 1))))) (λ_ _ _ _ _=>jh (by show List.Nodup (("chosen"::"0"::["readings","view"]):List qa);decide +kernel)) (λ_ _ _ _ _=>Tu) (λ_ _ _ _ _=>(wf (Š a) b (Db (wf (zaz a) b (Db (pa 2) (db (pa 0)))) (Db (pa 0) (db (Mf (gF a) (pa 3)))))))))
  (Ge (Y7 (x:="told") (M':=[]) (ix:=[]) (t:=EH K) (k:=0) (b.mono (by decide)) ⟨rfl,rfl,rfl,rfl,rfl,rfl⟩ rfl ⟨(MT K),λd c=>a.bL _ (MT K) d c,rfl,a.tb.hd _ (by decide),rfl,rfl,rfl,a.P6,a.tb.bb⟩ rfl a.HF rfl rfl rfl (λ_ _ _ _ _=>rfl) (db (pa 2)) (λ_ _ _ _ _ b=>(df (pa 0) Cb))))))))
abbrev B2:Stmt:=Jb 95
def PV:Ev->M Fl:=
 (oe (nb nc (Je 1 jk [] (xa (ia 0) Na)) (eC (.int 0))))
def ek:List D->M D:=Wa λa=>Vb (Gd 1 PV a)
theorem y0:ra ["view"] ["view"] (Ec B2):=Ke
theorem kY(a:rc K mg ca):Ig ⟨K,ca,tx K⟩ P w mg base 4 "worth" ["view"] ek:=
 Bi a.ek y0 λb=>
  (Ge (df (wf (S8 a) b (db (pa 0))) Cb))
abbrev Ž:Stmt:=Jb 101
def wJ:Ev->M Fl:=
 (Mb (gh (eT (nb sh (nb nc (ia 1) (eC (.int 0))) (eC (.str "held")))) (oe (Qd (gd [10,11,12,13] "may") (ia 0))) fh) (Mb (gh (eT (nb sh (nb nc (ia 1) (eC (.int 0))) (eC (.str "laid")))) (oe (Sl (xa (nb nc (ia 1) (eC (.int 2))) Na))) fh) al))
def re:List D->M D:=Wa λa=>Vb (Gd 2 wJ a)
theorem Ś:ra ["account","claim"] ["account","claim"] (Ec Ž):=Ke
theorem uR(a:rc K mg ca):Ig ⟨K,ca,tx K⟩ P w mg base 1 "stands_told" ["account","claim"] re:=
 Bi a.re Ś λb=>
  (Jc (rh (Ai (gp (Fh b)) Jk (df (pa 1) Cb) Ej (Xi _)) (Ge (Mf (iK a) (pa 0))) ph)
  (Jc (rh (Ai (gp (Fh b)) Jk (df (pa 1) Cb) Ej (Xi _)) (Ge (xq (db (df (pa 1) Cb)))) ph)
  tm))
abbrev zdc:Stmt:=we (Jb 79) 0
def ES:Ev->M Fl:=
 (Mb (Qi [14,15,16] "every" (ia 1) (ia 0)) (Mb (Qi [14,15] "last_look" (ia 2) (ia 0)) (Mb (Qi [14,15] "known" (Gh (Gi Yq (xa (ia 3) Na))) (ia 0)) (Qi [9,14,16] "pots" (Gh (wj (wl (qi (ia 4))) [] (de 0) Oj (Hj (xa (nb nc (ia 0) (eC (.int 0))) (xa (Gh (Gi Yq (xa (nb nc (ia 0) (eC (.int 1))) Na))) (xa (Gi Zz (xa (nb nc (ia 0) (eC (.int 2))) Na)) Na)))))) (ia 0)))))
def xu:List D->M D:=Wa (Gd 5 ES)
theorem ZX:ra ["self","every","look","words","pots"] ["self","every","look","words","pots"] (Ec zdc):=Ke
theorem xY(a:rc K mg ca):Eg ⟨K,ca,tx K⟩ P w mg base 1 (ca 54) ["self","every","look","words","pots"] xu:=
 Yt a.xu ZX λb=>
  (Jc (Nj rfl (gF a) (pa 0) (pa 1))
  (Jc (Nj rfl (yF a) (pa 0) (pa 2))
  (Jc (Nj rfl (xI a) (pa 0) (rm (Qy sB (bB rfl) rfl a.Uk Ek (db (pa 3)))))
  (eh (Nj rfl (Gu a) (pa 0) (rm (ku (x:="pot") (z0:="0") (M':=[]) (ix:=[]) rfl ⟨rfl,rfl,rfl,rfl,rfl,rfl⟩ (zu (Ql rfl (pa 4))) (λ_ _ _ _ _=>jh (by show List.Nodup (("pot"::"0"::[]):List qa);decide +kernel)) (λ_ _ _ _ _=>Tu) (λ_ _ _ _ _=>(gk (Db (df (pa 0) Cb) (Db (rm (Qy sB (bB rfl) rfl a.Uk Ek (db (df (pa 0) Cb)))) (db (Qy UU OT rfl a.Fw boot_dict (db (df (pa 0) Cb)))))))))))))))
abbrev Ď:Stmt:=we (Jb 108) 3
def DS:Ev->M Fl:=
 (oe (Gh (Gi Wy (xa (Qd (gd [14,15] "known") (ia 0)) Na))))
def vd:List D->M D:=Wa λa=>Vb (Gd 1 DS a)
theorem WX:ra ["self"] ["self"] (Ec Ď):=Ke
theorem L8(a:rc K mg ca):Eg ⟨K,ca,tx K⟩ P w mg base 1 (ca 58) ["self"] vd:=
 Uj a.vd WX λb=>
  (Ge (rm (Qn (gU rfl) (uT rfl) rfl a.Po L4.JK (db (Mf (xI a) (pa 0))))))
theorem lS(a:rc K mg ca):Xh ⟨K,ca,tx K⟩ P w mg base 1 "words" ["self"] [(15,vd)]:=(oi a.lc a.Gn (L8 a) Mi)
abbrev m4:Stmt:=we (Jb 108) 7
abbrev BL:Ev->M Fl:=(Co (uC zt (ia 2) (xa (Hj (xa (Qd (gd [7,8,10,11,12,13] "side") (ia 4)) (xa (Je 2 re [] (xa (ia 4) (xa (nb pw (Qd (gd [9,15] "claims") (ia 0)) (ia 3)) Na))) (xa (nb pw (Qd (gd [15] "seen") (ia 0)) (ia 3)) Na)))) Na)))
def MS:Ev->M Fl:=
 (Mb (wh 2 (vv Na)) (Mb (bz (ia 1) (Jt (CB (ia 1)) (Hn 2 (gi (de 3) (gi (de 4) Fo))) BL)) (oe (Gh (au 14 5 xu (xa (Qd (gd [14,15,16] "every") (ia 0)) (xa (Qd (gd [14,15] "last_look") (ia 0)) (xa (Df [(15,vd)] 1 "words" (ia 0) Na) (xa (ia 2) Na)))))))))
def Nd:List D->M D:=Wa λa=>Vb (Gd 5 MS a)
theorem HI:ra ["self","accounts","pots","pot","account"] ["self","accounts"] (Ec m4):=Ke
theorem ď(a:rc K mg ca):Eg ⟨K,ca,tx K⟩ P w mg base 3 (ca 62) ["self","accounts"] Nd:=
 Uj a.Nd HI λb=>
  (Jc (Ni HI.nd (AB Zt))
  (Jc (TD (fw Gk rfl (SG (pa 1)) (Av rfl (ln (jh HI.nd) (ln (jh HI.nd) sv))) (eh (Rp (JG Zg Gq Hq NJ DN (pa 2) (db (gk (Db (Mf (DC a) (pa 4)) (Db (wf (uR a) b (Db (pa 4) (db (YB (Fh b) (Mf (Bw a) (pa 0)) (pa 3) (λ_ _=>rfl))))) (db (YB (Fh b) (Mf (OI a) (pa 0)) (pa 3) (λ_ _=>rfl))))))))))))
  (Ge (rm (sD (c:=14) (ps:=["self","every","look","words","pots"]) ⟨_,a.rB,a.ez,xY a⟩ rfl (b.mono (by decide)) rfl (Db (Mf (gF a) (pa 0)) (Db (Mf (yF a) (pa 0)) (Db (Ur (lS a) b (pa 0)) (db (pa 2))))))))))
theorem ø(a:rc K mg ca):Xh ⟨K,ca,tx K⟩ P w mg base 3 "view_by" ["self","accounts"] [(15,Nd)]:=(oi a.lc a.Pl (ď a) Mi)
abbrev IY:Stmt:=we (Jb 108) 8
def wO:Ev->M Fl:=
 (oe (Df [(15,Nd)] 2 "view_by" (ia 0) (xa (Qd (gd [15] "accounts") (ia 0)) Na)))
def We:List D->M D:=Wa λa=>Vb (Gd 1 wO a)
theorem ze4:ra ["self"] ["self"] (Ec IY):=Ke
theorem î(a:rc K mg ca):Eg ⟨K,ca,tx K⟩ P w mg base 4 (ca 63) ["self"] We:=
 Uj a.We ze4 λb=>
  (Ge (fmt (ø a) b (pa 0) (db (Mf (Uy a) (pa 0)))))
theorem zqn(a:rc K mg ca):Xh ⟨K,ca,tx K⟩ P w mg base 4 "view" ["self"] [(15,We)]:=(oi a.lc a.Zo (î a) Mi)
abbrev B7:Stmt:=we (Jb 108) 9
def MQ:Ev->M Fl:=
 (oe (Je 1 ek [] (xa (Df [(15,We)] 1 "view" (ia 0) Na) Na)))
def Fe:List D->M D:=Wa λa=>Vb (Gd 1 MQ a)
theorem lY:ra ["self"] ["self"] (Ec B7):=Ke
theorem Z6(a:rc K mg ca):Eg ⟨K,ca,tx K⟩ P w mg base 5 (ca 64) ["self"] Fe:=
 Uj a.Fe lY λb=>
  (Ge (wf (Ig.alias (kY a) a.Wo) b (db (Ur (zqn a) b (pa 0)))))
theorem ß(a:rc K mg ca):Xh ⟨K,ca,tx K⟩ P w mg base 5 "worth" ["self"] [(15,Fe)]:=(oi a.lc a.jo (Z6 a) Mi)
abbrev v8:Stmt:=we (Jb 51) 0
def CV:Ev->M Fl:=
 (oe (Hj (xa (eC (.str "held")) Na)))
def be:List D->M D:=Wa λa=>Vb (Gd 1 CV a)
theorem RY:ra ["self"] ["self"] (Ec v8):=Ke
theorem GZ(a:rc K mg ca):Eg ⟨K,ca,tx K⟩ P w mg base 1 (ca 18) ["self"] be:=
 Uj a.be RY λb=>
  (Ge (gk (db Ej)))
abbrev ä:Stmt:=we (Jb 52) 1
def mS:Ev->M Fl:=
 (oe (Hj (xa (eC (.str "laid")) (xa (Qd (gd [7,8,10,11,12,13] "side") (ia 0)) (xa (Qd (gd [7] "stand") (ia 0)) (xa (Qd (gd [7,9] "day") (ia 0)) Na))))))
def De:List D->M D:=Wa λa=>Vb (Gd 1 mS a)
theorem JY:ra ["self"] ["self"] (Ec ä):=Ke
theorem Ζ(a:rc K mg ca):Eg ⟨K,ca,tx K⟩ P w mg base 1 (ca 22) ["self"] De:=
 Uj a.De JY λb=>
  (Ge (gk (Db Ej (Db (Mf (DC a) (pa 0)) (Db (Mf (NS a) (pa 0)) (db (Mf (Qz a) (pa 0))))))))
abbrev f9:Stmt:=we (Jb 53) 1
def l8:Ev->M Fl:=
 al
def vf:List D->M D:=Wa λa=>Vb (Gd 1 l8 a)
theorem zgs:ra ["self"] ["self"] (Ec f9):=Ke
theorem v7(a:rc K mg ca):Eg ⟨K,ca,tx K⟩ P w mg base 1 (ca 27) ["self"] vf:=
 Uj a.vf zgs λb=>
  tm
theorem k7(a:rc K mg ca):Xh ⟨K,ca,tx K⟩ P w mg base 1 "told" ["self"] [(6,be),(7,De),(8,vf)]:=(oi a.Pr a.ur (GZ a) (oi a.xi a.ts (Ζ a) (oi a.Jl a.rq (v7 a) Mi)))
abbrev tY:Stmt:=we (Jb 62) 8
def DR:Ev->M Fl:=
 (Mb (Co (Df [(9,Ta)] 2 "check_pot" (ia 0) (xa (ia 1) Na))) (oe (Df [(6,be),(7,De),(8,vf)] 1 "told" (nb nc (Qd (gd [9,15] "claims") (ia 0)) (ia 1)) Na)))
def Gb:List D->M D:=Wa λa=>Vb (Gd 2 DR a)
theorem zio:ra ["self","pot"] ["self","pot"] (Ec tY):=Ke
theorem j5(a:rc K mg ca):Eg ⟨K,ca,tx K⟩ P w mg base 4 (ca 38) ["self","pot"] Gb:=
 Uj a.Gb zio λb=>
  (Jc (Rp (fmt (rE a) b (pa 0) (db (pa 1))))
  (Ge (Ur (k7 a) b (df (Mf (Bw a) (pa 0)) (pa 1)))))
theorem oG(a:rc K mg ca):Xh ⟨K,ca,tx K⟩ P w mg base 4 "told" ["self","pot"] [(9,Gb)]:=(oi a.Uf a.Lr (j5 a) Mi)
abbrev Z5:Stmt:=we (Jb 108) 5
def oQ:Ev->M Fl:=
 (oe (Qd (gd [15] "gave") (ia 0)))
def Ee:List D->M D:=Wa λa=>Vb (Gd 1 oQ a)
theorem Ņ:ra ["self"] ["self"] (Ec Z5):=Ke
theorem g6(a:rc K mg ca):Eg ⟨K,ca,tx K⟩ P w mg base 1 (ca 60) ["self"] Ee:=
 Uj a.Ee Ņ λb=>
  (Ge (Mf (qQ a) (pa 0)))
theorem ľ(a:rc K mg ca):Xh ⟨K,ca,tx K⟩ P w mg base 1 "given" ["self"] [(15,Ee)]:=(oi a.lc a.Yn (g6 a) Mi)
abbrev zda:Stmt:=we (Jb 108) 4
def UQ:Ev->M Fl:=
 (oe (Qd (gd [14,15] "last_look") (ia 0)))
def Wc:List D->M D:=Wa λa=>Vb (Gd 1 UQ a)
theorem K2:ra ["self"] ["self"] (Ec zda):=Ke
theorem R0(a:rc K mg ca):Eg ⟨K,ca,tx K⟩ P w mg base 1 (ca 59) ["self"] Wc:=
 Uj a.Wc K2 λb=>
  (Ge (Mf (yF a) (pa 0)))
theorem OO(a:rc K mg ca):Xh ⟨K,ca,tx K⟩ P w mg base 1 "looked" ["self"] [(15,Wc)]:=(oi a.lc a.Bm (R0 a) Mi)
abbrev ñ:Stmt:=we (Jb 108) 6
def vO:Ev->M Fl:=
 (Mb (gh (eT (nb Bq (ia 1) (Qd (gd [15] "accounts") (ia 0)))) (Jy 2 (xa (eC (.str "the hand isn't in this pot")) Na)) fh) (oe (nb pw (Qd (gd [15] "accounts") (ia 0)) (ia 1))))
def Jd:List D->M D:=Wa λa=>Vb (Gd 2 vO a)
theorem qZ:ra ["self","pot"] ["self","pot"] (Ec ñ):=Ke
theorem S2(a:rc K mg ca):Eg ⟨K,ca,tx K⟩ P w mg base 1 (ca 61) ["self","pot"] Jd:=
 Uj a.Jd qZ λb=>
  (Jc (rh (Ai (DE (Fh b)) JE (pa 1) (Mf (Uy a) (pa 0)) rfl) (eh (zB 2 Vc rfl a.li a.Kh rfl rfl (db Ej))) ph)
  (Ge (YB (Fh b) (Mf (Uy a) (pa 0)) (pa 1) (λ_ _=>rfl))))
theorem ē(a:rc K mg ca):Xh ⟨K,ca,tx K⟩ P w mg base 1 "account" ["self","pot"] [(15,Jd)]:=(oi a.lc a.Ol (S2 a) Mi)
abbrev S1:Stmt:=Jb 114
def wT:Ev->M Fl:=
 (Mb (wh 2 (Sl (xa (Gh (wj (wl (Tz (eC (.int 4)))) [0] (de 0) Oj (Df [(16,Uc)] 2 "coin" (ia 2) (xa (ia 0) Na)))) (xa (Df [(16,Of)] 1 "road" (ia 0) Na) (xa (Df [(9,vc)] 1 "all_shown" (Df [(16,Ub)] 1 "book" (ia 0) Na) Na) Na))))) (Mb (wh 3 (Df [(16,Bb)] 2 "keeper" (ia 0) (xa (eC (.int 1)) Na))) (Mb (wh 2 (nb vl (ia 2) (Sl (xa (Gh (wj (wl (Tz (ia 1))) [0] (de 0) Oj (Df [(9,Gb)] 2 "told" (Df [(16,Ub)] 1 "book" (ia 2) Na) (xa (ia 0) Na)))) (xa (Df [(15,vd)] 1 "words" (ia 3) Na) (xa (Df [(15,Fe)] 1 "worth" (ia 3) Na) Na)))))) (oe (nb vl (ia 2) (Sl (xa (Qd (gd [10,11,12,13] "may") (Df [(15,Jd)] 2 "account" (ia 3) (xa (eC (.int 0)) Na))) (xa (Df [(15,Wc)] 1 "looked" (ia 3) Na) (xa (Df [(15,Ee)] 1 "given" (ia 3) Na) Na)))))))))
def Wf:List D->M D:=Wa λa=>Vb (Gd 4 wT a)
theorem jG:ra ["_law_hall","_law_many","_law_found","_law_keeper"] ["_law_hall","_law_many"] (Ec S1):=Ke
theorem OV(a:rc K mg ca):Ig ⟨K,ca,tx K⟩ P w mg base 7 "_law_state" ["_law_hall","_law_many"] Wf:=
 Bi a.Wf jG λb=>
  (Jc (Ni jG.nd (xq (Db (rm (ku (x:="_law_hand") (z0:="0") (M':=["_law_hall"]) (ix:=[0]) rfl ⟨rfl,rfl,rfl,rfl,rfl,rfl⟩ (zu (vM rfl a.uk Cb)) (λ_ _ _ _ _=>jh (by show List.Nodup (("_law_hand"::"0"::["_law_hall"]):List qa);decide +kernel)) (λ_ _ _ _ _=>Tu) (λ_ _ _ _ _=>(fmt (qN a) b (pa 2) (db (pa 0)))))) (Db (Ur (A2 a) b (pa 0)) (db (Ur (bK a) b (Ur (RG a) b (pa 0))))))))
  (Jc (Ni jG.nd (fmt (jE a) b (pa 0) (db Cb)))
  (Jc (Ni jG.nd (Eu (pa 2) (xq (Db (rm (ku (x:="_law_pot") (z0:="0") (M':=["_law_hall"]) (ix:=[0]) rfl ⟨rfl,rfl,rfl,rfl,rfl,rfl⟩ (zu (vM rfl a.uk (pa 1))) (λ_ _ _ _ _=>jh (by show List.Nodup (("_law_pot"::"0"::["_law_hall"]):List qa);decide +kernel)) (λ_ _ _ _ _=>Tu) (λ_ _ _ _ _=>(fmt (oG a) b (Ur (RG a) b (pa 2)) (db (pa 0)))))) (Db (Ur (lS a) b (pa 3)) (db (Ur (ß a) b (pa 3))))))))
  (Ge (Eu (pa 2) (xq (Db (Mf (iK a) (fmt (ē a) b (pa 3) (db Cb))) (Db (Ur (OO a) b (pa 3)) (db (Ur (ľ a) b (pa 3)))))))))))
abbrev A0:Stmt:=we (Jb 111) 20
def KU:Ev->M Fl:=
 (Mb (Co (Df [(16,Oa)] 3 "check_side_of_band" (ia 0) (xa (ia 1) (xa (ia 2) Na)))) al)
def Ye:List D->M D:=Wa (Gd 5 KU)
theorem ze1:ra ["self","P","side","claim","thing"] ["self","P","side"] (Ec A0):=Ke
theorem è(a:rc K mg ca):Eg ⟨K,ca,tx K⟩ P w mg base 6 (ca 99) ["self","P","side"] Ye:=
 Yt a.Ye ze1 λb=>
  (Jc (Rp (fmt (rV a) b (pa 0) (Db (pa 1) (db (pa 2)))))
  tm)
theorem X3(a:rc K mg ca):Xh ⟨K,ca,tx K⟩ P w mg base 6 "strike" ["self","P","side"] [(16,Ye)]:=(oi a.ue a.Yo (è a) Mi)
abbrev ÿ:Stmt:=we (Jb 62) 4
def IL:Ev->M Fl:=
 (Mb (Co (Df [(9,Ta)] 2 "check_pot" (ia 0) (xa (ia 1) Na))) (Mb (gh (Nl (eT (Je 1 Wg [] (xa (ia 2) Na)))) al fh) (gh (eT (nb Bq (ia 2) (nb nc (Qd (gd [9] "shown") (ia 0)) (ia 1)))) (Qx (Qd (gd [7,9] "day") (ia 0)) (nb nc (Qd (gd [9] "shown") (ia 0)) (ia 1)) (ia 2)) fh)))
def Be:List D->M D:=Wa (Gd 3 IL)
theorem N9:ra ["self","pot","word"] ["self","pot","word"] (Ec ÿ):=Ke
theorem BY(a:rc K mg ca):Eg ⟨K,ca,tx K⟩ P w mg base 4 (ca 34) ["self","pot","word"] Be:=
 Yt a.Be N9 λb=>
  (Jc (Rp (fmt (rE a) b (pa 0) (db (pa 1))))
  (Jc (rh (jn (Yk (wf (lJ a) b (db (pa 2))))) tm ph)
  (eh (rh (Ai (DE (Fh b)) JE (pa 2) (df (Mf (gC a) (pa 0)) (pa 1)) rfl) (eh (gA (Fh b) (Mf (Qz a) (pa 0)) (df (Mf (gC a) (pa 0)) (pa 1)) (pa 2))) ph))))
theorem zqq(a:rc K mg ca):Xh ⟨K,ca,tx K⟩ P w mg base 4 "show" ["self","pot","word"] [(9,Be)]:=(oi a.Uf a.Gs (BY a) Mi)
abbrev Ģ:Stmt:=we (Jb 111) 18
def IM:Ev->M Fl:=
 (Mb (gh (Nl (eT (Df [(16,Yb)] 2 "band_can" (ia 0) (xa (Hj (xa (eC (.str "word")) (xa (ia 2) Na))) Na)))) al fh) (Co (Df [(9,Be)] 3 "show" (Qd (gd [16] "public") (ia 0)) (xa (ia 1) (xa (ia 2) Na)))))
def ce:List D->M D:=Wa (Gd 3 IM)
theorem U7:ra ["self","P","W"] ["self","P","W"] (Ec Ģ):=Ke
theorem x9(a:rc K mg ca):Eg ⟨K,ca,tx K⟩ P w mg base 6 (ca 97) ["self","P","W"] ce:=
 Yt a.ce U7 λb=>
  (Jc (rh (jn (Yk (fmt (nT a) b (pa 0) (db (gk (Db Ej (db (pa 2)))))))) tm ph)
  (eh (Rp (fmt (zqq a) b (Mf (fA a) (pa 0)) (Db (pa 1) (db (pa 2)))))))
theorem EQ(a:rc K mg ca):Xh ⟨K,ca,tx K⟩ P w mg base 6 "show" ["self","P","W"] [(16,ce)]:=(oi a.ue a.Jr (x9 a) Mi)
abbrev zZ:Stmt:=we (Jb 62) 2
def aR:Ev->M Fl:=
 (oe (Qd (gd [7,9] "day") (ia 0)))
def uf:List D->M D:=Wa λa=>Vb (Gd 1 aR a)
theorem DZ:ra ["self"] ["self"] (Ec zZ):=Ke
theorem zfx(a:rc K mg ca):Eg ⟨K,ca,tx K⟩ P w mg base 1 (ca 32) ["self"] uf:=
 Uj a.uf DZ λb=>
  (Ge (Mf (Qz a) (pa 0)))
theorem ô(a:rc K mg ca):Xh ⟨K,ca,tx K⟩ P w mg base 1 "today" ["self"] [(9,uf)]:=(oi a.Uf a.mq (zfx a) Mi)
abbrev zb6:Stmt:=we (Jb 62) 9
def BP:Ev->M Fl:=
 (Mb (Co (Df [(9,Ta)] 2 "check_pot" (ia 0) (xa (ia 1) Na))) (oe (Gi Zz (xa (nb nc (Qd (gd [9] "shown") (ia 0)) (ia 1)) Na))))
def Pd:List D->M D:=Wa λa=>Vb (Gd 2 BP a)
theorem O7:ra ["self","pot"] ["self","pot"] (Ec zb6):=Ke
theorem iZ(a:rc K mg ca):Eg ⟨K,ca,tx K⟩ P w mg base 4 (ca 39) ["self","pot"] Pd:=
 Uj a.Pd O7 λb=>
  (Jc (Rp (fmt (rE a) b (pa 0) (db (pa 1))))
  (Ge (Qy UU OT rfl a.Fw boot_dict (db (df (Mf (gC a) (pa 0)) (pa 1))))))
theorem P7(a:rc K mg ca):Xh ⟨K,ca,tx K⟩ P w mg base 4 "shown_for" ["self","pot"] [(9,Pd)]:=(oi a.Uf a.Zl (iZ a) Mi)
abbrev NY:Stmt:=Jb 103
def FV:Ev->M Fl:=
 (oe (Si (nb sh (nb nc (ia 1) (eC (.int 0))) (eC (.str "laid"))) (Si (nb xr (nb nc (ia 1) (eC (.int 1))) (Qd (gd [7,8,10,11,12,13] "side") (ia 0))) (nb (IH false) (nb nc (nb nc (ia 1) (eC (.int 2))) (eC (.int 0))) (Qd (gd [10,11,12,13] "strikes") (ia 0))))))
def cg:List D->M D:=Wa λa=>Vb (Gd 2 FV a)
theorem E9:ra ["account","claim"] ["account","claim"] (Ec NY):=Ke
theorem zeg(a:rc K mg ca):Ig ⟨K,ca,tx K⟩ P w mg base 1 "is_given_up" ["account","claim"] cg:=
 Bi a.cg E9 λb=>
  (Ge (oj (sq b (df (pa 1) Cb) Ej) (oj (Ez (NA (Fh b)) Jk (df (pa 1) Cb) (Mf (DC a) (pa 0)) (Xi _)) (Fn (Ez (Β rfl (Fh b)) Jk (df (df (pa 1) Cb) Cb) (Mf (HQ a) (pa 0)) rfl)))))
abbrev yZ:Stmt:=we (Jb 108) 20
abbrev VT:Ev->M Fl:=(Mb (wh 6 (nb pw (Qd (gd [9,15] "claims") (ia 0)) (ia 4))) (gh (MD (eT (Je 2 cg [] (xa (ia 5) (xa (ia 6) Na)))) oK) al fh))
def gW:Ev->M Fl:=
 (Mb (wh 2 (vv Na)) (Mb (wh 3 (Gh (wj (wl (qi (Df [(9,Lb)] 1 "made_of" (ia 1) Na))) [] (de 0) Oj (nb nc (ia 0) (eC (.int 4)))))) (Mb (bz (Qd (gd [15] "accounts") (ia 0)) (Jt (CB (Qd (gd [15] "accounts") (ia 0))) (Hn 2 (gi (de 4) (gi (de 5) Fo))) VT)) (oe (ia 2)))))
def Lc:List D->M D:=Wa λa=>Vb (Gd 7 gW a)
theorem LC:ra ["self","book","deeds","waits","pot","account","claim"] ["self","book"] (Ec yZ):=Ke
theorem sX(a:rc K mg ca):Eg ⟨K,ca,tx K⟩ P w mg base 2 (ca 75) ["self","book"] Lc:=
 Uj a.Lc LC λb=>
  (Jc (Ni LC.nd (AB Zt))
  (Jc (IT (LP (i:=3) LC.nd rfl (Or.inl rfl) (x:="made") (z0:="0") (M':=[]) (ix:=[]) rfl ⟨rfl,rfl,rfl,rfl,rfl,rfl⟩ (zu (Ql rfl (Ur (FP a) b (pa 1)))) (λ_ _ _ _ _=>jh (by show List.Nodup (("made"::"0"::[]):List qa);decide +kernel)) (λ_ _ _ _ _=>Tu) (λ_ _ _ _ _=>(df (pa 0) Cb))))
  (Jc (TD (fw Gk rfl (SG (Mf (Uy a) (pa 0))) (Av rfl (ln (jh LC.nd) (ln (jh LC.nd) sv))) (Jc (Ni LC.nd (YB (Fh b) (Mf (Bw a) (pa 0)) (pa 4) (λ_ _=>rfl)))
  (eh (rh (L2.PW.pt (wN (Yk (wf (zeg a) b (Db (pa 5) (db (pa 6))))) (PM yS))) tm ph)))))
  (Ge (pa 2)))))
theorem Ě(a:rc K mg ca):Xh ⟨K,ca,tx K⟩ P w mg base 2 "strike_all" ["self","book"] [(15,Lc)]:=(oi a.lc a.Tj (sX a) Mi)
abbrev V7:Stmt:=Jb 102
def bP:Ev->M Fl:=
 (Mb (wh 2 (vv Na)) (Mb (Tn (qi (Je 2 re [] (xa (ia 0) (xa (ia 1) Na)))) (de 3) (Co (uC cy (ia 2) (xa (Gh (wj (wl (qi (nb nc (ia 3) (eC (.int 2))))) [0] (de 0) (eT (nb xr (nb nc (ia 0) (eC (.int 0))) (Qd (gd [7,8,10,11,12,13] "side") (ia 2)))) (ia 0))) Na)))) (oe (ia 2))))
def Yh:List D->M D:=Wa λa=>Vb (Gd 4 bP a)
theorem mM:ra ["account","claim","ties","one"] ["account","claim"] (Ec V7):=Ke
theorem ę(a:rc K mg ca):Ig ⟨K,ca,tx K⟩ P w mg base 2 "ties_to" ["account","claim"] Yh:=
 Bi a.Yh mM λb=>
  (Jc (Ni mM.nd (AB Zt))
  (Jc (Tq Gk rfl (Ql rfl (wf (uR a) b (Db (pa 0) (db (pa 1))))) (jh mM.nd) (eh (Rp (JG Zg Iq Jq qS pP (pa 2) (db (rm (ku (x:="tie") (z0:="0") (M':=["account"]) (ix:=[0]) rfl ⟨rfl,rfl,rfl,rfl,rfl,rfl⟩ (zu (Ql rfl (df (pa 3) Cb))) (λ_ _ _ _ _=>jh (by show List.Nodup (("tie"::"0"::["account"]):List qa);decide +kernel)) (λ_ _ _ _ _=>qK (Ai (NA (Fh b)) Jk (df (pa 0) Cb) (Mf (DC a) (pa 2)) (Xi _))) (λ_ _ _ _ _=>(pa 0)))))))))
  (Ge (pa 2))))
abbrev Κ:Stmt:=we (Jb 108) 22
abbrev IS:Ev->M Fl:=(Tn (qi (Je 2 Yh [] (xa (ia 4) (xa (nb pw (Qd (gd [9,15] "claims") (ia 0)) (ia 3)) Na)))) (de 5) al)
def US:Ev->M Fl:=
 (Mb (wh 2 (vv Na)) (Mb (bz (Qd (gd [15] "accounts") (ia 0)) (Jt (CB (Qd (gd [15] "accounts") (ia 0))) (Hn 2 (gi (de 3) (gi (de 4) Fo))) IS)) (oe (ia 2))))
def pd:List D->M D:=Wa λa=>Vb (Gd 6 US a)
theorem xF:ra ["self","book","deeds","pot","account","tie"] ["self","book"] (Ec Κ):=Ke
theorem E8(a:rc K mg ca):Eg ⟨K,ca,tx K⟩ P w mg base 3 (ca 77) ["self","book"] pd:=
 Uj a.pd xF λb=>
  (Jc (Ni xF.nd (AB Zt))
  (Jc (TD (fw Gk rfl (SG (Mf (Uy a) (pa 0))) (Av rfl (ln (jh xF.nd) (ln (jh xF.nd) sv))) (eh (Tq Gk rfl (Ql rfl (wf (ę a) b (Db (pa 4) (db (YB (Fh b) (Mf (Bw a) (pa 0)) (pa 3) (λ_ _=>rfl)))))) (jh xF.nd) tm))))
  (Ge (pa 2))))
theorem Ŕ(a:rc K mg ca):Xh ⟨K,ca,tx K⟩ P w mg base 3 "show_all" ["self","book"] [(15,pd)]:=(oi a.lc a.Zk (E8 a) Mi)
abbrev zb9:Stmt:=we (Jb 108) 23
abbrev jS:Ev->M Fl:=(gh (MD (eT (nb BC (ia 3) (Qd (gd [15] "finishing") (ia 0)))) oK) al fh)
def rP:Ev->M Fl:=
 (Mb (wh 2 (vv Na)) (Mb (bz (Qd (gd [15] "accounts") (ia 0)) (Jt (CB (Qd (gd [15] "accounts") (ia 0))) (Hn 2 (gi (de 3) (gi (de 4) Fo))) jS)) (oe (ia 2))))
def Od:List D->M D:=Wa λa=>Vb (Gd 5 rP a)
theorem dH:ra ["self","book","deeds","pot","account"] ["self","book"] (Ec zb9):=Ke
theorem l0(a:rc K mg ca):Eg ⟨K,ca,tx K⟩ P w mg base 1 (ca 78) ["self","book"] Od:=
 Uj a.Od dH λb=>
  (Jc (Ni dH.nd (AB Zt))
  (Jc (TD (fw Gk rfl (SG (Mf (Uy a) (pa 0))) (Av rfl (ln (jh dH.nd) (ln (jh dH.nd) sv))) (eh (rh (L2.PW.pt (wN (Ai (CJ (Fh b)) hV (pa 3) (Mf (zU a) (pa 0)) rfl) (PM yS))) tm ph))))
  (Ge (pa 2))))
theorem M5(a:rc K mg ca):Xh ⟨K,ca,tx K⟩ P w mg base 1 "lay_all" ["self","book"] [(15,Od)]:=(oi a.lc a.am (l0 a) Mi)
abbrev K4:Stmt:=we (Jb 108) 19
abbrev KL:Ev->M Fl:=(Mb (Qx (Df [(9,Gb)] 2 "told" (ia 1) (xa (ia 2) Na)) (Qd (gd [9,15] "claims") (ia 0)) (ia 2)) (Qx (Df [(9,Pd)] 2 "shown_for" (ia 1) (xa (ia 2) Na)) (Qd (gd [15] "seen") (ia 0)) (ia 2)))
def UP:Ev->M Fl:=
 (Mb (Qi [14,15] "last_look" (Df [(9,uf)] 1 "today" (ia 1) Na) (ia 0)) (Mb (bz (Qd (gd [15] "accounts") (ia 0)) (Jt (UM (Qd (gd [15] "accounts") (ia 0))) (de 2) KL)) (Mb (Co (Df [(15,wc)] 2 "learn" (ia 0) (xa (Df [(9,vc)] 1 "all_shown" (ia 1) Na) Na))) (oe (nb vl (nb vl (Df [(15,Lc)] 2 "strike_all" (ia 0) (xa (ia 1) Na)) (Df [(15,pd)] 2 "show_all" (ia 0) (xa (ia 1) Na))) (Df [(15,Od)] 2 "lay_all" (ia 0) (xa (ia 1) Na)))))))
def Xe:List D->M D:=Wa (Gd 3 UP)
theorem zO:ra ["self","book","pot"] ["self","book"] (Ec K4):=Ke
theorem f7(a:rc K mg ca):Eg ⟨K,ca,tx K⟩ P w mg base 5 (ca 74) ["self","book"] Xe:=
 Yt a.Xe zO λb=>
  (Jc (Nj rfl (yF a) (pa 0) (Ur (ô a) b (pa 1)))
  (Jc (TD (fw Gk rfl (Ġ (Mf (Uy a) (pa 0))) (jh zO.nd) (Jc (gA (Fh b) (fmt (oG a) b (pa 1) (db (pa 2))) (Mf (Bw a) (pa 0)) (pa 2))
  (eh (gA (Fh b) (fmt (P7 a) b (pa 1) (db (pa 2))) (Mf (OI a) (pa 0)) (pa 2))))))
  (Jc (Rp (fmt (eR a) b (pa 0) (db (Ur (bK a) b (pa 1)))))
  (Ge (Eu (Eu (fmt (Ě a) b (pa 0) (db (pa 1))) (fmt (Ŕ a) b (pa 0) (db (pa 1)))) (fmt (M5 a) b (pa 0) (db (pa 1))))))))
theorem zqs(a:rc K mg ca):Xh ⟨K,ca,tx K⟩ P w mg base 5 "look" ["self","book"] [(15,Xe)]:=(oi a.lc a.To (f7 a) Mi)
abbrev Q3:Stmt:=we (Jb 111) 21
def HN:Ev->M Fl:=
 (oe (Df [(15,Xe)] 2 "look" (Df [(16,Bb)] 2 "keeper" (ia 0) (xa (ia 1) Na)) (xa (Qd (gd [16] "public") (ia 0)) Na)))
def ae:List D->M D:=Wa (Gd 2 HN)
theorem ŋ:ra ["self","hand"] ["self","hand"] (Ec Q3):=Ke
theorem gX(a:rc K mg ca):Eg ⟨K,ca,tx K⟩ P w mg base 6 (ca 100) ["self","hand"] ae:=
 Yt a.ae ŋ λb=>
  (Ge (fmt (zqs a) b (fmt (jE a) b (pa 0) (db (pa 1))) (db (Mf (fA a) (pa 0)))))
theorem eQ(a:rc K mg ca):Xh ⟨K,ca,tx K⟩ P w mg base 6 "look" ["self","hand"] [(16,ae)]:=(oi a.ue a.js (gX a) Mi)
abbrev Ĺ:Stmt:=we (Jb 108) 13
def vZ:Ev->M Fl:=
 al
def Lg:List D->M D:=Wa (Gd 4 vZ)
theorem M8:ra ["self","wish","account","one"] ["self","wish"] (Ec Ĺ):=Ke
theorem zec(a:rc K mg ca):Eg ⟨K,ca,tx K⟩ P w mg base 1 (ca 68) ["self","wish"] Lg:=
 Yt a.Lg M8 λb=>
  tm
theorem â(a:rc K mg ca):Xh ⟨K,ca,tx K⟩ P w mg base 1 "wish" ["self","wish"] [(15,Lg)]:=(oi a.lc a.So (zec a) Mi)
abbrev zk0:Stmt:=we (Jb 111) 12
def oP:Ev->M Fl:=
 (Mb (wh 3 (Df [(15,Lg)] 2 "wish" (Df [(16,Bb)] 2 "keeper" (ia 0) (xa (ia 1) Na)) (xa (ia 2) Na))) al)
def Pf:List D->M D:=Wa (Gd 4 oP)
theorem eV:ra ["self","hand","wish","told"] ["self","hand","wish"] (Ec zk0):=Ke
theorem jX(a:rc K mg ca):Eg ⟨K,ca,tx K⟩ P w mg base 2 (ca 91) ["self","hand","wish"] Pf:=
 Yt a.Pf eV λb=>
  (Jc (Ni eV.nd (fmt (â a) b (fmt (jE a) b (pa 0) (db (pa 1))) (db (pa 2))))
  tm)
theorem G6(a:rc K mg ca):Xh ⟨K,ca,tx K⟩ P w mg base 2 "wish" ["self","hand","wish"] [(16,Pf)]:=(oi a.ue a.Wr (jX a) Mi)
abbrev TW:Stmt:=we (Jb 111) 16
def zV:Ev->M Fl:=
 (Mb (gh (Nl (eT (Df [(16,Rc)] 2 "has_pot" (ia 0) (xa (ia 1) Na)))) (oe (Sl Na)) fh) (oe (Gh (wj (wl (qi (eE (nb nc (Qd (gd [9,14,16] "pots") (ia 0)) (ia 1)) none (some (eC (.int 2)))))) [0] (de 0) (eT (nb BC (ia 0) (Qd (gd [16] "keepers") (ia 2)))) (ia 0)))))
def Fc:List D->M D:=Wa λa=>Vb (Gd 2 zV a)
theorem Ñ:ra ["self","pot"] ["self","pot"] (Ec TW):=Ke
theorem F3(a:rc K mg ca):Eg ⟨K,ca,tx K⟩ P w mg base 4 (ca 95) ["self","pot"] Fc:=
 Uj a.Fc Ñ λb=>
  (Jc (rh (jn (Yk (fmt (vR a) b (pa 0) (db (pa 1))))) (Ge (xq Zt)) ph)
  (Ge (rm (ku (x:="hand") (z0:="0") (M':=["self"]) (ix:=[0]) rfl ⟨rfl,rfl,rfl,rfl,rfl,rfl⟩ (zu (Ql rfl (oJ rfl (df (Mf (Gu a) (pa 0)) (pa 1)) PJ (yN Cb)))) (λ_ _ _ _ _=>jh (by show List.Nodup (("hand"::"0"::["self"]):List qa);decide +kernel)) (λ_ _ _ _ _=>qK (Ai (CJ (Fh b)) hV (pa 0) (Mf (lB a) (pa 2)) rfl)) (λ_ _ _ _ _=>(pa 0))))))
theorem pY(a:rc K mg ca):Xh ⟨K,ca,tx K⟩ P w mg base 4 "keeping_hands" ["self","pot"] [(16,Fc)]:=(oi a.ue a.Ij (F3 a) Mi)
abbrev Ğ:Stmt:=Jb 64
def XS:Ev->M Fl:=
 (oe (Si (Je 1 zf [] (xa (ia 0) Na)) (nb sh (nb nc (ia 0) (eC (.int 0))) (eC (.str "agree")))))
def Qg:List D->M D:=Wa λa=>Vb (Gd 1 XS a)
theorem TY:ra ["thing"] ["thing"] (Ec Ğ):=Ke
theorem AT(a:rc K mg ca):Ig ⟨K,ca,tx K⟩ P w mg base 6 "is_agree" ["thing"] Qg:=
 Bi a.Qg TY λb=>
  (Ge (oj (wf (bN a) b (db (pa 0))) (Fn (sq b (df (pa 0) Cb) Ej))))
abbrev sZ:Stmt:=Jb 65
def JS:Ev->M Fl:=
 (oe (Si (Je 1 zf [] (xa (ia 0) Na)) (nb sh (nb nc (ia 0) (eC (.int 0))) (eC (.str "strike")))))
def ug:List D->M D:=Wa λa=>Vb (Gd 1 JS a)
theorem M3:ra ["thing"] ["thing"] (Ec sZ):=Ke
theorem dP(a:rc K mg ca):Ig ⟨K,ca,tx K⟩ P w mg base 6 "is_strike" ["thing"] ug:=
 Bi a.ug M3 λb=>
  (Ge (oj (wf (bN a) b (db (pa 0))) (Fn (sq b (df (pa 0) Cb) Ej))))
abbrev T1:Stmt:=Jb 66
def MC:Ev->M Fl:=
 (Mb (gh (eT (nb sh (nb nc (ia 0) (eC (.int 0))) (eC (.str "offer")))) (oe (Si (nb sh (Gi Ll (xa (ia 0) Na)) (eC (.int 3))) (Je 1 Qg [] (xa (nb nc (ia 0) (eC (.int 2))) Na)))) fh) (Mb (gh (eT (nb sh (nb nc (ia 0) (eC (.int 0))) (eC (.str "accept")))) (oe (Si (nb sh (Gi Ll (xa (ia 0) Na)) (eC (.int 4))) (Si (Je 1 Qg [] (xa (nb nc (ia 0) (eC (.int 2))) Na)) (Je 1 ug [] (xa (nb nc (ia 0) (eC (.int 3))) Na))))) fh) (Mb (gh (eT (nb sh (nb nc (ia 0) (eC (.int 0))) (eC (.str "struck")))) (oe (Si (nb sh (Gi Ll (xa (ia 0) Na)) (eC (.int 3))) (Je 1 ug [] (xa (nb nc (ia 0) (eC (.int 2))) Na)))) fh) (Mb (gh (eT (nb sh (nb nc (ia 0) (eC (.int 0))) (eC (.str "ask")))) (oe (Si (nb sh (Gi Ll (xa (ia 0) Na)) (eC (.int 4))) (Je 1 cf [] (xa (Hj (xa (eC (.int 0)) (xa (nb nc (ia 0) (eC (.int 2))) (xa (nb nc (ia 0) (eC (.int 3))) Na)))) Na)))) fh) (Mb (gh (eT (nb sh (nb nc (ia 0) (eC (.int 0))) (eC (.str "word")))) (oe (Si (nb sh (Gi Ll (xa (ia 0) Na)) (eC (.int 3))) (Je 1 Wg [] (xa (nb nc (ia 0) (eC (.int 2))) Na)))) fh) (oe (eC (.bl false))))))))
def Xc:List D->M D:=Wa λa=>Vb (Gd 1 MC a)
theorem zci:ra ["letter"] ["letter"] (Ec T1):=Ke
theorem ų(b:rc K mg ca):Ig ⟨K,ca,tx K⟩ P w mg base 7 "has_its_parts" ["letter"] Xc:=
 Bi b.Xc zci λa=>
  (Jc (rh (Ai (gp (Fh a)) Jk (df (pa 0) Cb) Ej (Xi _)) (Ge (oj (sq a (Qn Qr (Sr rfl) rfl b.Vg zb (db (pa 0))) Cb) (Fn (wf (AT b) a (db (df (pa 0) Cb)))))) ph)
  (Jc (rh (Ai (gp (Fh a)) Jk (df (pa 0) Cb) Ej (Xi _)) (Ge (oj (sq a (Qn Qr (Sr rfl) rfl b.Vg zb (db (pa 0))) Cb) (oj (wf (AT b) a (db (df (pa 0) Cb))) (Fn (wf (dP b) a (db (df (pa 0) Cb))))))) ph)
  (Jc (rh (Ai (gp (Fh a)) Jk (df (pa 0) Cb) Ej (Xi _)) (Ge (oj (sq a (Qn Qr (Sr rfl) rfl b.Vg zb (db (pa 0))) Cb) (Fn (wf (dP b) a (db (df (pa 0) Cb)))))) ph)
  (Jc (rh (Ai (gp (Fh a)) Jk (df (pa 0) Cb) Ej (Xi _)) (Ge (oj (sq a (Qn Qr (Sr rfl) rfl b.Vg zb (db (pa 0))) Cb) (Fn (wf (GD b) a (db (gk (Db Cb (Db (df (pa 0) Cb) (db (df (pa 0) Cb)))))))))) ph)
  (Jc (rh (Ai (gp (Fh a)) Jk (df (pa 0) Cb) Ej (Xi _)) (Ge (oj (sq a (Qn Qr (Sr rfl) rfl b.Vg zb (db (pa 0))) Cb) (Fn (wf (lJ b) a (db (df (pa 0) Cb)))))) ph)
  (Ge qw))))))
abbrev ŕ:Stmt:=Jb 67
def aS:Ev->M Fl:=
 (Mb (gh (dw (Nl (eT (Qd (Vs .tuple) (ia 0)))) (dw (eT (nb oLt (Gi Ll (xa (ia 0) Na)) (eC (.int 3)))) (Nl (eT (Qd (Vs .str) (nb nc (ia 0) (eC (.int 0)))))))) (oe (eC (.bl false))) fh) (oe (Si (Je 1 ki [] (xa (nb nc (ia 0) (eC (.int 1))) Na)) (Je 1 Xc [] (xa (ia 0) Na)))))
def sg:List D->M D:=Wa λa=>Vb (Gd 1 aS a)
theorem A6:ra ["thing"] ["thing"] (Ec ŕ):=Ke
theorem O3(a:rc K mg ca):Ig ⟨K,ca,tx K⟩ P w mg base 8 "is_letter" ["thing"] sg:=
 Bi a.sg A6 λb=>
  (Jc (rh (L2.PW.pt (Ix (jn (Yk (Jx .tuple (pa 0) rfl a.jd rfl a.sk ql))) (Ix (Ai HG cG (Qn Qr (Sr rfl) rfl a.Vg zb (db (pa 0))) Cb (Xi _)) (HC (jn (Yk (Jx .str (df (pa 0) Cb) rfl a.jd rfl a.Fz boot_str))))))) (Ge qw) ph)
  (Ge (oj (wf (OS a) b (db (df (pa 0) Cb))) (Fn (wf (ų a) b (db (pa 0)))))))
abbrev n4:Stmt:=we (Jb 111) 17
def eP:Ev->M Fl:=
 (Mb (gh (Nl (eT (Je 1 sg [] (xa (ia 1) Na)))) (Jy 2 (xa (eC (.str "this is no letter")) Na)) fh) (Mb (wh 2 (Df [(16,Fc)] 2 "keeping_hands" (ia 0) (xa (nb nc (ia 1) (eC (.int 1))) Na))) (Mb (gh (eT (nb xr (Gi Ll (xa (ia 2) Na)) (eC (.int 1)))) (Jy 2 (xa (eC (.str "the band and a keeping hand don't share this pot")) Na)) fh) al)))
def Qf:List D->M D:=Wa (Gd 3 eP)
theorem PU:ra ["self","letter","keeping"] ["self","letter"] (Ec n4):=Ke
theorem uX(a:rc K mg ca):Eg ⟨K,ca,tx K⟩ P w mg base 9 (ca 96) ["self","letter"] Qf:=
 Yt a.Qf PU λb=>
  (Jc (rh (jn (Yk (wf (O3 a) b (db (pa 1))))) (eh (zB 2 Vc rfl a.li a.Kh rfl rfl (db Ej))) ph)
  (Jc (Ni PU.nd (fmt (pY a) b (pa 0) (db (df (pa 1) Cb))))
  (Jc (rh (Ai (NA (Fh b)) Jk (Qn Qr (Sr rfl) rfl a.Vg zb (db (pa 2))) Cb (Xi _)) (eh (zB 2 Vc rfl a.li a.Kh rfl rfl (db Ej))) ph)
  tm)))
theorem ĩ(a:rc K mg ca):Xh ⟨K,ca,tx K⟩ P w mg base 9 "band" ["self","letter"] [(16,Qf)]:=(oi a.ue a.Xr (uX a) Mi)
abbrev zgh:Stmt:=Jb 115
def RQ:Ev->M Fl:=
 (Mb (wh 3 (Hj (xa (eC (.str "strike")) (xa (ia 1) (xa (eC (.int 0)) (xa (eC (.int 0)) Na)))))) (Mb (wh 4 (Hj (xa (eC (.str "agree")) (xa (ia 1) (xa (eC (.int 0)) (xa (ia 2) Na)))))) (Mb (wh 5 (Sl (xa (Hj (xa (eC (.str "offer")) (xa (ia 1) (xa (ia 4) Na)))) (xa (Hj (xa (eC (.str "accept")) (xa (ia 1) (xa (ia 4) (xa (ia 3) Na))))) (xa (Hj (xa (eC (.str "struck")) (xa (ia 1) (xa (ia 3) Na)))) Na))))) (oe (nb nc (nb vl (ia 5) (Sl (xa (Hj (xa (eC (.str "ask")) (xa (ia 1) (xa (nb nc (ia 2) (eC (.int 1))) (xa (nb nc (ia 2) (eC (.int 2))) Na))))) (xa (Hj (xa (eC (.str "word")) (xa (ia 1) (xa (eC (.int 5)) Na)))) Na)))) (ia 0))))))
def ud:List D->M D:=Wa λa=>Vb (Gd 6 RQ a)
theorem vI:ra ["_law_way","_law_pot","_law_one","_law_strike","_law_agree","_law_some"] ["_law_way","_law_pot","_law_one"] (Ec zgh):=Ke
theorem O1(a:rc K mg ca):Ig ⟨K,ca,tx K⟩ P w mg base 1 "_law_letter" ["_law_way","_law_pot","_law_one"] ud:=
 Bi a.ud vI λb=>
  (Jc (Ni vI.nd (gk (Db Ej (Db (pa 1) (Db Cb (db Cb))))))
  (Jc (Ni vI.nd (gk (Db Ej (Db (pa 1) (Db Cb (db (pa 2)))))))
  (Jc (Ni vI.nd (xq (Db (gk (Db Ej (Db (pa 1) (db (pa 4))))) (Db (gk (Db Ej (Db (pa 1) (Db (pa 4) (db (pa 3)))))) (db (gk (Db Ej (Db (pa 1) (db (pa 3))))))))))
  (Ge (df (Eu (pa 5) (xq (Db (gk (Db Ej (Db (pa 1) (Db (df (pa 2) Cb) (db (df (pa 2) Cb)))))) (db (gk (Db Ej (Db (pa 1) (db Cb)))))))) (pa 0))))))
abbrev G5:Stmt:=Jb 116
def iC:Ev->M Fl:=
 (Mb (gh (eT (nb sh (ia 1) (eC (.int 0)))) (oe (Df [(16,Uc)] 2 "coin" (ia 0) (xa (ia 5) Na))) fh) (Mb (gh (eT (nb sh (ia 1) (eC (.int 1)))) (oe (Df [(16,Vd)] 4 "lay" (ia 0) (xa (ia 2) (xa (ia 3) (xa (ia 4) Na))))) fh) (Mb (gh (eT (nb sh (ia 1) (eC (.int 2)))) (oe (Df [(16,Ye)] 3 "strike" (ia 0) (xa (ia 2) (xa (ia 3) Na)))) fh) (Mb (gh (eT (nb sh (ia 1) (eC (.int 3)))) (oe (Df [(16,ce)] 3 "show" (ia 0) (xa (ia 2) (xa (eC (.int 5)) Na)))) fh) (Mb (gh (eT (nb sh (ia 1) (eC (.int 4)))) (oe (Df [(16,Bb)] 2 "keeper" (ia 0) (xa (ia 5) Na))) fh) (Mb (gh (eT (nb sh (ia 1) (eC (.int 5)))) (oe (Df [(16,ae)] 2 "look" (ia 0) (xa (ia 5) Na))) fh) (Mb (gh (eT (nb sh (ia 1) (eC (.int 6)))) (oe (Df [(16,Pf)] 3 "wish" (ia 0) (xa (ia 5) (xa (Hj (xa (eC (.str "give")) (xa (eC (.int 0)) (xa (eC (.int 1)) Na)))) Na)))) fh) (oe (Df [(16,Qf)] 2 "band" (ia 0) (xa (Je 3 ud [] (xa (nb vC (ia 1) (eC (.int 7))) (xa (ia 2) (xa (ia 4) Na)))) Na))))))))))
def Ue:List D->M D:=Wa λa=>Vb (Gd 6 iC a)
theorem Ü:ra ["_law_hall","_law_way","_law_pot","_law_side","_law_one","_law_hand"] ["_law_hall","_law_way","_law_pot","_law_side","_law_one","_law_hand"] (Ec G5):=Ke
theorem A1(b:rc K mg ca):Ig ⟨K,ca,tx K⟩ P w mg base 10 "_law_door" ["_law_hall","_law_way","_law_pot","_law_side","_law_one","_law_hand"] Ue:=
 Bi b.Ue Ü λa=>
  (Jc (rh (Ai (gp (Fh a)) Jk (pa 1) Cb (Xi _)) (Ge (fmt (qN b) a (pa 0) (db (pa 5)))) ph)
  (Jc (rh (Ai (gp (Fh a)) Jk (pa 1) Cb (Xi _)) (Ge (fmt (kK b) a (pa 0) (Db (pa 2) (Db (pa 3) (db (pa 4)))))) ph)
  (Jc (rh (Ai (gp (Fh a)) Jk (pa 1) Cb (Xi _)) (Ge (fmt (X3 b) a (pa 0) (Db (pa 2) (db (pa 3))))) ph)
  (Jc (rh (Ai (gp (Fh a)) Jk (pa 1) Cb (Xi _)) (Ge (fmt (EQ b) a (pa 0) (Db (pa 2) (db Cb)))) ph)
  (Jc (rh (Ai (gp (Fh a)) Jk (pa 1) Cb (Xi _)) (Ge (fmt (jE b) a (pa 0) (db (pa 5)))) ph)
  (Jc (rh (Ai (gp (Fh a)) Jk (pa 1) Cb (Xi _)) (Ge (fmt (eQ b) a (pa 0) (db (pa 5)))) ph)
  (Jc (rh (Ai (gp (Fh a)) Jk (pa 1) Cb (Xi _)) (Ge (fmt (G6 b) a (pa 0) (Db (pa 5) (db (gk (Db Ej (Db Cb (db Cb)))))))) ph)
  (Ge (fmt (ĩ b) a (pa 0) (db (wf (O1 b) a (Db (Du kE ME (pa 1) Cb) (Db (pa 2) (db (pa 4)))))))))))))))
abbrev zev:Stmt:=Jb 117
def dW:Ev->M Fl:=
 (Mb (wh 6 (eC (.bl false))) (Mb (NN (Co (Je 6 Ue [] (xa (ia 0) (xa (ia 1) (xa (ia 2) (xa (ia 3) (xa (ia 4) (xa (ia 5) Na)))))))) (⟨(ut [(2,true)]),some 7,(wh 6 (Si (Qd (qA (ut [(2,true)])) (ia 7)) (QH (Qd (qA (ut [(2,false)])) (ia 7)))))⟩::[])) (oe (ia 6))))
def Hb:List D->M D:=Wa λa=>Vb (Gd 8 dW a)
theorem aI:ra ["_law_hall","_law_way","_law_pot","_law_side","_law_one","_law_hand","_law_good","e"] ["_law_hall","_law_way","_law_pot","_law_side","_law_one","_law_hand"] (Ec zev):=Ke
theorem zD(a:rc K mg ca):Ig ⟨K,ca,tx K⟩ P w mg base 11 "_law_refused" ["_law_hall","_law_way","_law_pot","_law_side","_law_one","_law_hand"] Hb:=
 Bi a.Hb aI λc=>
  (Jc (Ni aI.nd qw)
  (Jc (rX rfl rfl (λ_ _ b=>(eh (Rp (wf (A1 a) c (Db (pa 0) (Db (pa 1) (Db (pa 2) (Db (pa 3) (Db (pa 4) (db (pa 5))))))))))) (.ax (i:=7) rfl (by decide) (.inl a.Kh) (œ (i9 a.Rn yln)) aI.nd rfl rfl (λ_=>(eh (Ni aI.nd (oj (AS (t:=ut [(2,true)]) (pa 7) rfl a.jd rfl (by decide) (.own a.Ct) (CO (cU a.Xq a.Sk bS))) (Fn (VP (AS (t:=ut [(2,false)]) (pa 7) rfl a.jd rfl (by decide) (.own a.Hv) (CO (cU a.Xq a.Cm bS))))))))) .nil))
  (Ge (pa 6))))
abbrev R4:Stmt:=Jb 118
def yQ:Ev->M Fl:=
 (Mb (gh (dw (eT (nb xr (Df [(16,Uc)] 2 "coin" (ia 0) (xa (eC (.int 3)) Na)) (eC (.int 0)))) (dw (eT (nb xr (Df [(15,Wc)] 1 "looked" (Df [(16,Bb)] 2 "keeper" (ia 0) (xa (eC (.int 1)) Na)) Na) (eC (.int 0)))) (dw (eT (nb xr (Df [(16,ae)] 2 "look" (ia 0) (xa (eC (.int 1)) Na)) (Sl Na))) (eT (nb AK (Df [(16,ce)] 3 "show" (ia 0) (xa (eC (.int 0)) (xa (eC (.int 5)) Na))) (eC .Mc)))))) (oe (eC (.bl false))) fh) (Mb (gh (eT (ia 2)) (oe (nb sh (Df [(9,Gb)] 2 "told" (Df [(16,Ub)] 1 "book" (ia 0) Na) (xa (eC (.int 0)) Na)) (Hj (xa (eC (.str "laid")) (xa (eC (.int 0)) (xa (ia 1) (xa (eC (.int 0)) Na))))))) fh) (oe (Si (nb Kx (Df [(16,Vd)] 4 "lay" (ia 0) (xa (eC (.int 0)) (xa (eC (.int 0)) (xa (ia 1) Na)))) (eC .Mc)) (nb sh (Df [(9,Gb)] 2 "told" (Df [(16,Ub)] 1 "book" (ia 0) Na) (xa (eC (.int 0)) Na)) (Hj (xa (eC (.str "laid")) (xa (eC (.int 0)) (xa (ia 1) (xa (eC (.int 0)) Na))))))))))
def Ug:List D->M D:=Wa (Gd 3 yQ)
theorem zi0:ra ["_law_hall","_law_one","_law_begun"] ["_law_hall","_law_one","_law_begun"] (Ec R4):=Ke
theorem Ι(b:rc K mg ca):Ig ⟨K,ca,tx K⟩ P w mg base 10 "_law_here" ["_law_hall","_law_one","_law_begun"] Ug:=
 Ig.Wa (XT b.Ug zi0 λ_ _ _ _ _ _ _ a=>
  (Jc (rh (L2.PW.pt (Ix (Ai (NA (Fh a)) Jk (fmt (qN b) a (pa 0) (db Cb)) Cb (Xi _)) (Ix (Ai (NA (Fh a)) Jk (Ur (OO b) a (fmt (jE b) a (pa 0) (db Cb))) Cb (Xi _)) (Ix (Ai (NA (Fh a)) Jk (fmt (eQ b) a (pa 0) (db Cb)) (xq Zt) (Xi _)) (HC (Ai lZ ë (fmt (EQ b) a (pa 0) (Db Cb (db Cb))) CA (Xi _))))))) (Ge qw) ph)
  (Jc (rh (Yk (pa 2)) (Ge (sq a (fmt (oG b) a (Ur (RG b) a (pa 0)) (db Cb)) (gk (Db Ej (Db Cb (Db (pa 1) (db Cb))))))) ph)
  (Ge (oj (Ez CH DG (fmt (kK b) a (pa 0) (Db Cb (Db Cb (db (pa 1))))) CA (Xi _)) (Fn (sq a (fmt (oG b) a (Ur (RG b) a (pa 0)) (db Cb)) (gk (Db Ej (Db Cb (Db (pa 1) (db Cb))))))))))))
abbrev F9:Stmt:=Jb 119
abbrev jO:Ev->M Fl:=(gh (Nl (eT (Je 6 Hb [] (xa (ia 4) (xa (ia 10) (xa (ia 9) (xa (eC (.int 0)) (xa (ia 5) (xa (eC (.int 0)) Na))))))))) (oe (eC (.bl false))) fh)
abbrev WJ:Ev->M Fl:=(Tn (AE (eC (.int 1)) (eC (.int 4))) (de 10) jO)
abbrev lW:Ev->M Fl:=(gh (Nl (eT (Je 6 Hb [] (xa (ia 4) (xa (ia 10) (xa (eC (.int 0)) (xa (eC (.int 0)) (xa (ia 5) (xa (ia 12) Na))))))))) (oe (eC (.bl false))) fh)
abbrev eL:Ev->M Fl:=(Tn (qi (Sl (xa (eC (.int 0)) (xa (eC (.int 4)) (xa (eC (.int 5)) (xa (eC (.int 6)) Na)))))) (de 10) lW)
abbrev L6:Ev->M Fl:=(gh (dw (Nl (eT (Je 6 Hb [] (xa (ia 4) (xa (eC (.int 1)) (xa (eC (.int 0)) (xa (ia 11) (xa (ia 5) (xa (eC (.int 0)) Na))))))))) (Nl (eT (Je 6 Hb [] (xa (ia 4) (xa (eC (.int 2)) (xa (nb vC (ia 2) (eC (.int 1))) (xa (ia 11) (xa (ia 5) (xa (eC (.int 0)) Na)))))))))) (oe (eC (.bl false))) fh)
abbrev u1:Ev->M Fl:=(wh 1 (Je 2 yc [] (xa (ia 0) (xa (eC (.int 0)) Na))))
abbrev u2:Ev->M Fl:=(wh 2 (nb vl (eC (.int 1)) (nb qB (ia 1) (eC (.int 2)))))
abbrev u3:Ev->M Fl:=(wh 3 (Hj (xa (nb vl (eC (.int 1)) (nb qB (Je 2 yc [] (xa (ia 0) (xa (eC (.int 1)) Na))) (nb Ox (eC (.int 10)) (eC (.int 12))))) (xa (nb qB (Je 2 yc [] (xa (ia 0) (xa (eC (.int 2)) Na))) (nb Ox (eC (.int 10)) (eC (.int 12)))) Na))))
abbrev u4:Ev->M Fl:=(wh 4 (au 16 5 vt (OA [] (xa (eE (Sl (xa (nb vl (nb vl (Hj (xa (eC (.int 0)) (xa (eC (.int 1)) Na))) (ia 3)) (Hj (xa (eC (.int 20)) Na))) (xa (Hj (xa (eC (.int 2)) (xa (eC (.int 3)) (xa (eC (.int 4)) (xa (eC (.int 5)) (xa (eC (.int 6)) Na)))))) Na))) none (some (ia 2))) (xa (Sl (xa (eC (.int 1)) Na)) (xa (eC (.int 9)) (xa (Gh (iF [.inl 5,.inl 6] (xa (eC (.int 0)) (xa (eC (.int 1)) Na)))) Na)))))))
abbrev u5:Ev->M Fl:=(wh 5 (Hj (xa (eC (.int 0)) (xa (ia 3) (xa (Hj Na) Na)))))
abbrev u6:Ev->M Fl:=(wh 6 (nb sh (nb qB (nb EK (ia 1) (eC (.int 2))) (eC (.int 2))) (eC (.int 1))))
abbrev u7:Ev->M Fl:=(gh (eT (ia 6)) (Co (Df [(16,Vd)] 4 "lay" (ia 4) (xa (eC (.int 0)) (xa (eC (.int 0)) (xa (ia 5) Na))))) fh)
abbrev u8:Ev->M Fl:=(wh 7 (Je 2 Wf [] (xa (ia 4) (xa (ia 2) Na))))
abbrev u9:Ev->M Fl:=(wh 8 (nb vl (eC (.int 8)) (nb qB (Je 2 yc [] (xa (ia 0) (xa (eC (.int 3)) Na))) (nb Ox (eC (.int 10)) (eC (.int 20))))))
abbrev cF:Ev->M Fl:=(Tn (qi (Sl (xa (Qd Uz (eC (.int 1))) (xa (ia 2) (xa (eC (.int 7)) (xa (ia 8) Na)))))) (de 9) WJ)
abbrev cE:Ev->M Fl:=(Tn (qi (Sl (xa (eC (.int 2)) (xa (Qd Uz (eC (.int 1))) (xa (ia 8) Na))))) (de 11) L6)
abbrev pE:Ev->M Fl:=(Tn (AE (eC (.int 7)) (eC (.int 12))) (de 10) (Tn (AE (ia 2) (eC (.int 3))) (de 9) (gh (Nl (eT (Je 6 Hb [] (xa (ia 4) (xa (ia 10) (xa (ia 9) (xa (eC (.int 0)) (xa (ia 5) (xa (eC (.int 0)) Na))))))))) (oe (eC (.bl false))) fh)))
abbrev sF:Ev->M Fl:=(Tn (qi (Sl (xa (Qd Uz (eC (.int 1))) (xa (eC (.int 4)) (xa (ia 8) Na))))) (de 12) eL)
abbrev AH:Ev->M Fl:=(oe (Si (nb sh (Je 2 Wf [] (xa (ia 4) (xa (ia 2) Na))) (ia 7)) (Je 3 Ug [] (xa (ia 4) (xa (ia 5) (xa (ia 6) Na))))))
def ZR:Ev->M Fl:=
 (Mb u1 (Mb u2 (Mb u3 (Mb u4 (Mb u5 (Mb u6 (Mb u7 (Mb u8 (Mb u9 (Mb cF (Mb cE (Mb pE (Mb sF AH)))))))))))))
def Vq:List D->M D:=Gd 13 ZR
theorem bu:ra ["_law_script","_law_cell","_law_many","_law_coins","_law_hall","_law_one","_law_begun","_law_before","_law_far","_law_pot","_law_way","_law_side","_law_hand"] ["_law_script"] (Ec F9):=Ke
theorem U8(a:rc K mg ca):NM ⟨K,ca,tx K⟩ P w mg 12 "law" ["_law_script"] Vq:=
 XW a.Vq bu λ_ _ _ _ _ _ _ _ b=>
  (Jc (Ni bu.nd (wf (bI a) b (Db (pa 0) (db Cb))))
  (Jc (Ni bu.nd (Eu Cb (Du nD ZD (pa 1) Cb)))
  (Jc (Ni bu.nd (gk (Db (Eu Cb (Du nD ZD (wf (bI a) b (Db (pa 0) (db Cb))) (Du xL tN Cb Cb))) (db (Du nD ZD (wf (bI a) b (Db (pa 0) (db Cb))) (Du xL tN Cb Cb))))))
  (Jc (Ni bu.nd (sP (c:=16) (ps:=["self","pots","keeps","every","words"]) a.KA a.Ly (D6 a) (.inl rfl) .nil (λ_ _=>gb.nil) rfl (b.mono (by decide)) rfl (Db (oJ rfl (xq (Db (Eu (Eu (gk (Db Cb (db Cb))) (pa 3)) (gk (db Cb))) (db (gk (Db Cb (Db Cb (Db Cb (Db Cb (db Cb))))))))) PJ (yN (pa 2))) (Db (xq (db Cb)) (Db Cb (db (rm (D9 (gz.cons (kk:=.inl 5) Cb Cb (gz.cons (kk:=.inl 6) Cb Cb gz.nil)) rfl rfl (List.cons_ne_nil _ _) (iv rfl)))))))))
  (Jc (Ni bu.nd (gk (Db Cb (Db (pa 3) (db (gk Zt))))))
  (Jc (Ni bu.nd (sq b (Du nD ZD (Du RX L1 (pa 1) Cb) Cb) Cb))
  (Jc (rh (Yk (pa 6)) (eh (Rp (fmt (kK a) b (pa 4) (Db Cb (Db Cb (db (pa 5))))))) ph)
  (Jc (Ni bu.nd (wf (OV a) b (Db (pa 4) (db (pa 2)))))
  (Jc (Ni bu.nd (Eu Cb (Du nD ZD (wf (bI a) b (Db (pa 0) (db Cb))) (Du xL tN Cb Cb))))
  (Jc (Tq Gk rfl (Ql rfl (xq (Db (cL qL iL Cb) (Db (pa 2) (Db Cb (db (pa 8))))))) (jh bu.nd) (eh (Tq Gk rfl (GJ rfl a.uk Cb Cb) (jh bu.nd) (eh (rh (jn (Yk (wf (zD a) b (Db (pa 4) (Db (pa 10) (Db (pa 9) (Db Cb (Db (pa 5) (db Cb))))))))) (Ge qw) ph)))))
  (Jc (Tq Gk rfl (Ql rfl (xq (Db Cb (Db (cL qL iL Cb) (db (pa 8)))))) (jh bu.nd) (eh (rh (L2.PW.pt (Ix (jn (Yk (wf (zD a) b (Db (pa 4) (Db Cb (Db Cb (Db (pa 11) (Db (pa 5) (db Cb))))))))) (HC (jn (Yk (wf (zD a) b (Db (pa 4) (Db Cb (Db (Du kE ME (pa 2) Cb) (Db (pa 11) (Db (pa 5) (db Cb)))))))))))) (Ge qw) ph)))
  (Jc (Tq Gk rfl (GJ rfl a.uk Cb Cb) (jh bu.nd) (eh (Tq Gk rfl (GJ rfl a.uk (pa 2) Cb) (jh bu.nd) (eh (rh (jn (Yk (wf (zD a) b (Db (pa 4) (Db (pa 10) (Db (pa 9) (Db Cb (Db (pa 5) (db Cb))))))))) (Ge qw) ph)))))
  (Jc (Tq Gk rfl (Ql rfl (xq (Db (cL qL iL Cb) (Db Cb (db (pa 8)))))) (jh bu.nd) (eh (Tq Gk rfl (Ql rfl (xq (Db Cb (Db Cb (Db Cb (db Cb)))))) (jh bu.nd) (eh (rh (jn (Yk (wf (zD a) b (Db (pa 4) (Db (pa 10) (Db Cb (Db Cb (Db (pa 5) (db (pa 12)))))))))) (Ge qw) ph)))))
  (Ge (oj (sq b (wf (OV a) b (Db (pa 4) (db (pa 2)))) (pa 7)) (Fn (wf (Ι a) b (Db (pa 4) (Db (pa 5) (db (pa 6)))))))))))))))))))))
end
end K58
namespace K58
open PySem L2 L4
set_option maxHeartbeats 4000000
section
variable{α:Type}{xs:List α}{σ:xb}{fi:Ev->M Bool}{fe:Ev->M D}{tg:D->Ev->Option Ev}{nx:NX}{nh:Ev}
theorem IN(O:Option D->Prop)(v a:α->D)(b:α->Option D)(p:α->Bool)(y:α->D)(w:∀ i j,i<=xs.length->nx i (σ++j)=some ((xs[i]?).map v))(z:∀ x o c,O c->tg (v x) (o::c::nh)=some (some (a x)::b x::nh)/\O (b x))
  (h:∀ x∈xs,∀ j,fi (some (a x)::b x::nh) (σ++j)=.ok (p x) (σ++j)/\(p x=true->fe (some (a x)::b x::nh) (σ++j)=.ok (y x) (σ++j))) (E:xs.length<=1000) :
  ∀ (k i:Nat) (o c:Option D) (f:List D),O c->xs.length<k+i->i<=xs.length->f.length<=i->
   Wj nx σ.length tg fi fe k i (o::c::nh) (σ++[.Ca f])=.ok () (σ++[.Ca (f++((xs.drop i).filter p).map y)]):=by
 intro k;induction k with
 |zero=>intro i o c f _ t n;omega
 |succ k r=>
  intro i o c f u t n F;unfold Wj;rw[w i _ n];cases e:xs[i]? with
  |none=>
   have l:xs.length<=i:=bc.mp e;rw[iu l];simp
  |some d=>
   obtain⟨l,m⟩:=na.mp e;have q:xs.drop i=d::xs.drop (i+1):=by rw[<-m];exact Oi l
   obtain⟨A,B⟩:=h d (by rw[<-m];exact Bj l) [.Ca f];obtain⟨C,s⟩:=z d o c u;simp only[Kj,C];rw[cn,jD A,ge];by_cases g:p d=true
   ·rw[g,ja rfl,cn,jD (B g),ge,cn,OJ (by omega),ge,r (i+1) _ _ (f++[y d]) s (by omega) (by omega) (by simp;omega),q,Aj,ja g];simp
   ·rw[ua g,r (i+1) _ _ f s (by omega) (by omega) (by omega),q,Aj,ua g]
end
theorem Jw{σ:xb}{xs:List D}(h:Ik xs=true):uh σ (.ok (.ref σ.length) (σ++[.Ca xs]))=.ok (.Ca xs) σ:=by
 have:=wS (σ:=σ) (j:=[]) (j':=[]) h;simpa using this
theorem YV{b:Ev->M Lk}{s:Lk}{ix:List Nat}{fi:Ev->M Bool}{f:Ev->M D}{ds:List D}{c:Ev}{a:xb}(y:D->D)(p:D->Bool)(r:b c a=.ok s a)(q:∀ i j,s.nx i (a++j)=some ds[i]?)(n:ds.length<=1000)
  (e:∀ d∈ds,∀ j,fi (some d::none::(ix.map λi=>(c[i]?).getD none)) (a++j)=.ok (p d) (a++j)/\(p d=true->f (some d::none::(ix.map λi=>(c[i]?).getD none)) (a++j)=.ok (y d) (a++j))) (l:∀ d∈ds,p d=true->cl (y d)=true) :
  Gh (wj (wl b) ix (de 0) fi f) c a=.ok (.Ca ((ds.filter p).map y)) a:=by
 show uh a (Ld (Ld (b c) vL) (zF (de 0) fi f (iw ix c)) a)=_;rw[cn,cn,r,ge];show uh a (Ld (Wj s.nx a.length (de 0) fi f 1001 0 (none::none::(ix.map λi=>(c[i]?).getD none))) _ (a++[.Ca []]))=_;rw[cn,IN (λo=>o=none) (λd=>d) (λd=>d) (λ_=>none) p y (λi j _=>by rw[q];cases ds[i]?<;>rfl) (λx o u h=>by subst h;exact⟨rfl,rfl⟩) e n 1001 0 none none [] rfl (by omega) (by omega) (by simp),ge];refine Eq.trans (Ef (uh a) ?_) (Jw (xs:=(ds.filter p).map y) (OL λd m=>by obtain⟨x,t,rfl⟩:=Ed.mp m;obtain⟨g,k⟩:=Vp.mp t;exact l x g k));simp
theorem iz{b:Ev->M Lk}{s:Lk}{ix:List Nat}{g:Ev->M D}{ds:List D}{f:Ev}{a:xb}(y:D->D)(m:b f a=.ok s a)(l:∀ i j,s.nx i (a++j)=some ds[i]?)(k:ds.length<=1000)
  (c:∀ d∈ds,∀ j,g (some d::none::(ix.map λi=>(f[i]?).getD none)) (a++j)=.ok (y d) (a++j)) (h:∀ d∈ds,cl (y d)=true) :
  Gh (wj (wl b) ix (de 0) Oj g) f a=.ok (.Ca (ds.map y)) a:=by
 have:=YV (p:=λ_=>true) y (ix:=ix) (fi:=Oj) m l k (λd e j=>⟨rfl,λ_=>c d e j⟩) (λd e _=>h d e);rw[show List.filter (λ_=>true) ds=ds from List.filter_eq_self.mpr λ_ _=>rfl]at this;exact this
noncomputable def Sc:D->Bool
 | .int _=>true
 | .Mc=>true
 | .bl _=>true
 | .str _=>true
 |_=>false
noncomputable def bd(d:D)(a b:Int):Bool:=match d with
 | .int i=>decide (a<=i) && decide (i<=b)
 |_=>false
theorem æ(x:qa)(a:xb):Vs .int (.str x) a=.ok (.bl false) a:=nr rfl
theorem mX{d:D}(h:Sc d=true)(a:xb):Bh [d] a=.ok (.bl (match d with | .int _=>true|_=>false)) a:=by
 unfold Bh cP;cases d with
 |int i=>simp
 |Mc=>simp
 |bl b=>simp
 |str x=>simp[æ]
 |_=>cases h
theorem pC{d:D}(h:Sc d=true)(a b:Int)(c:xb):Ab [d,.int a,.int b] c=.ok (.bl (bd d a b)) c:=by
 have w:=λc=>mX h c;unfold Ab WU;cases d with
 |int i=>cases e:decide (a<=i)<;>simp[bd,e,w]
 |Mc=>simp[bd,w]
 |bl b=>simp[bd,w]
 |str x=>simp[bd,w]
 |_=>cases h
theorem QG{d:D}(h:Sc d=true)(a:xb):Xg [d] a=.ok (.bl (bd d 0 3)) a:=by
 have w:=λa=>pC h 0 3 a;unfold Xg WS;generalize bd d 0 3=b at *;simp[w]
noncomputable def pB(a b:D):Bool:=match a,b with
 | .int i,.int j=>!(i == j)
 |_,_=>true
def bH(a b c d e:D):Bool:=bd a 0 3 && (bd b 0 3 && (pB a b && (bd c 0 1000000000000 && (bd d 0 1000000000000 && bd e 1 100))))
theorem pV{d:D}{a b:Int}(h:bd d a b=true):∃ i,d=.int i/\a<=i/\i<=b:=by
 cases d with
 |int i=>simp[bd]at h;exact⟨i,rfl,h.1,h.2⟩
 |_=>simp[bd]at h
theorem WH(a b c d e:D)(r:List D)(f:xb):nc (.ub (a::b::c::d::e::r)) (.int 4) f=.ok e f:=sE (show tq _ ((4:Nat):Int)=_ from Wv rfl)
theorem pZ{a b:D}(d:bd a 0 3=true)(e:bd b 0 3=true)(c:xb):xr a b c=.ok (.bl (pB a b)) c/\sh a b c=.ok (.bl (!pB a b)) c:=by
 obtain⟨i,rfl,_⟩:=pV d;obtain⟨j,rfl,_⟩:=pV e;simp[pB]
theorem JT{a b c d e:D}(m:Sc a=true)(n:Sc b=true)(o:Sc c=true)(p:Sc d=true)(q:Sc e=true)(f:xb):qe [.ub [a,b,c,d,e]] f=.ok (.bl (bH a b c d e)) f:=by
 have g:=λf=>QG m f;have i:=λf=>QG n f;have j:=λf=>pC o 0 1000000000000 f;have k:=λf=>pC p 0 1000000000000 f;have l:=λf=>pC q 1 100 f;have h:bd a 0 3=true->bd b 0 3=true->∀ f,xr a b f=.ok (.bl (pB a b)) f:=λx y f=>(pZ x y f).1;have r:=λf=>WH a b c d e [] f;unfold qe gP bH;generalize bd a 0 3=s at *;generalize bd b 0 3=t at *;generalize bd c 0 1000000000000=u at *;generalize bd d 0 1000000000000=v at *;generalize bd e 1 100=z at *;generalize pB a b=w at *;cases s
 ·simp[g]
 ·cases t
  ·simp[g,i]
  ·have h:=h rfl rfl;cases w
   ·simp[g,i,h]
   ·cases u
    ·simp[g,i,h,j]
    ·cases v
     ·simp[g,i,h,j,k]
     ·simp[g,i,h,j,k,r,l]
@[simp] theorem yjx(f:Ev->M D)(c b:PF)(a:Ev)(d:xb):eE f c b a d=(f a d).bind (XM (JA c a) (JA b a)):=nr rfl
@[simp] theorem ygz(b a:M (Option Int))(x:D)(c:xb):XM b a x c=(b c).bind (lK x a):=nr rfl
@[simp] theorem yg0(x:D)(a:M (Option Int))(b:Option Int)(c:xb):lK x a b c=(a c).bind (zA x b):=nr rfl
@[simp] theorem yap(b:Ev)(a:xb):JA none b a=.ok none a:=nr rfl
@[simp] theorem yaq(f:Ev->M D)(a:Ev)(b:xb):JA (some f) a b=(f a b).bind UH:=nr rfl
@[simp] theorem ye8(i:Int)(a:xb):UH (.int i) a=.ok (some i) a:=nr rfl
@[simp] theorem fR(xs:List D)(b a:Option Int)(c:xb):zA (.ub xs) b a c=.ok (.ub (Cy xs b a)) c:=nr rfl
@[simp] theorem ysk(a:D)(r:List D)(b:xb):nc (.Ca (a::r)) (.int 0) b=.ok a b:=yE (show tq _ ((0:Nat):Int)=_ from Wv rfl)
@[simp] theorem ysl(a b:D)(r:List D)(c:xb):nc (.Ca (a::b::r)) (.int 1) c=.ok b c:=yE (show tq _ ((1:Nat):Int)=_ from Wv rfl)
@[simp] theorem ysm(a b c:D)(r:List D)(d:xb):nc (.Ca (a::b::c::r)) (.int 2) d=.ok c d:=yE (show tq _ ((2:Nat):Int)=_ from Wv rfl)
@[simp] theorem ysn(a b c d:D)(r:List D)(e:xb):nc (.Ca (a::b::c::d::r)) (.int 3) e=.ok d e:=yE (show tq _ ((3:Nat):Int)=_ from Wv rfl)
@[simp] theorem yso(a b c d e:D)(r:List D)(f:xb):nc (.Ca (a::b::c::d::e::r)) (.int 4) f=.ok e f:=yE (show tq _ ((4:Nat):Int)=_ from Wv rfl)
theorem Yu{nx:NX}{tg:D->Ev->Option Ev}{body:Ev->M Fl}{k i:Nat}{b ρ1:Ev}{a:xb}{d:D}(h:nx i a=some (some d))(c:tg d b=some ρ1):Tp nx tg body (k+1) i b a=(body ρ1 a).bind (Rx (Tp nx tg body k (i+1))):=by
 rw[Tp];simp only[h,c];rfl
theorem Dw{nx:NX}{tg:D->Ev->Option Ev}{body:Ev->M Fl}{k i:Nat}{b:Ev}{a:xb}(h:nx i a=some none):Tp nx tg body (k+1) i b a=.ok (.nx b) a:=by
 rw[Tp];simp only[h]
@[simp] theorem Ţ(f:Ev->M D)(a:Ev)(b:xb):aF f a b=(f a b).bind Kz:=nr rfl
@[simp] theorem BJ(b:Ev->M NX)(tg:D->Ev->Option Ev)(a:Ev->M Fl)(c:Ev)(d:xb):Jt b tg a c d=Xm c (cC tg a c) (b c d):=yr ..
theorem ă{xs:List D}{x:D}{a:xb}(b:Im a x=some xs)(h:Ik xs=true):uh a (Yq [x] a)=.ok (.Ca xs) a:=by
 have e:Yq [x] a=.ok (.ref a.length) (a++[.Ca xs]):=by unfold Yq;simp only[b];rfl
 rw[e];have:=wS (σ:=a) (j:=[]) (j':=[]) h;simpa using this
theorem vB:cl (.Ja [] [])=true:=by simp[cl]
section
variable{σ:xb}{x:D}{xs:List D}
theorem zK(h:Mh σ x=some xs):Kz x σ=.ok (nv x) σ:=by unfold Kz;rw[h]
theorem Vy{i:Nat}{d:D}(h:Mh σ x=some xs)(a:xs[i]?=some d):nv x i σ=some (some (.ub [.int i,d])):=by unfold nv;rw[h];simp only[a]
theorem JC(h:Mh σ x=some xs):nv x xs.length σ=some none:=by unfold nv;rw[h];simp
end
theorem Dz{xs:List D}(h:Ik xs=true)(a:xb):uh a (Yq [.Ca xs] a)=.ok (.Ca xs) a:=ă (i5 xs) h
theorem bt{i a b:Int}(h:a<=i/\i<=b)(c:xb):Ab [.int i,.int a,.int b] c=.ok (.bl true) c:=by
 rw[pC (d:=.int i) rfl];simp[bd,h]
theorem bf{i a b:Int}(h:¬ (a<=i/\i<=b))(c:xb):Ab [.int i,.int a,.int b] c=.ok (.bl false) c:=by
 rw[pC (d:=.int i) rfl,show bd (.int i) a b=false by simp[bd];omega]
theorem NH{s:Int}(h:s=0\/s=1)(c:xb):eg [.int s] c=.ok (.bl true) c:=by
 have b:=bt (i:=s) (a:=0) (b:=1) (by omega) c;unfold eg gM;simp[b]
theorem w5{s:Int}(h:s≠0/\s≠1)(c:xb):eg [.int s] c=.ok (.bl false) c:=by
 have b:=bf (i:=s) (a:=0) (b:=1) (by omega) c;unfold eg gM;simp[b]
theorem MU(c:xb):Wg [.int 5] c=.ok (.bl true) c:=by
 have b:=bt (i:=5) (a:=0) (b:=59) (by omega) c;unfold Wg aW;simp[b]
theorem KP(c:xb):rg [.int 0] c=.ok (.bl true) c:=by
 have b:=bt (i:=0) (a:=0) (b:=1000000) (by omega) c;unfold rg dU;simp[b]
theorem gL{p:Int}(h:0<=p/\p<=2)(a:xb):ki [.int p] a=.ok (.bl true) a:=by
 have b:=bt h a;unfold ki HU;simp[b]
theorem ŵ(s:Int)(a:xb):Tf [.int s] a=.ok (.int (1 - s)) a:=by
 unfold Tf JP;simp
noncomputable def Md(u v:Int):D:=.ub [.int 0,.ub [.int u,.int v],.ub []]
theorem qu(u v:Int):cl (Md u v)=true:=by unfold Md;simp
theorem rR{src:Ev->M Lk}{ix:List Nat}{fe:Ev->M D}{ρ:Ev}{σ:xb}(a:src ρ σ=.ok (.seq []) σ):Gh (wj (wl src) ix (de 0) Oj fe) ρ σ=.ok (.Ca []) σ:=
 iz (ds:=[]) (λd=>d) a (λ_ _=>rfl) (by simp) (λ_ h=>by cases h) (λ_ h=>by cases h)
theorem Χ(a:xb):Eh [.ub []] a=.ok (.bl true) a:=by
 have l:=rR (ix:=[]) (fe:=kG) (src:=qi (ia 0)) (ρ:=[some (.ub [])]) (σ:=a) (by simp);have b:=zhr (σ:=a) (l:=[]) (by simp);have b:aC (.Ca []) a=.ok (.int 0) a:=b;have c:RB [.Ca []] a=.ok (.bl true) a:=A7 (σ:=a) (f:=λ_:D=>true) (l:=[]);unfold Eh wU;simp[l,b,c,-Uu]
structure Pu(u v:Int):Prop where
 u:1<=u/\u<=1000000000000
 v:0<=v/\v<=1000000000000
section
variable{u v:Int}(h:Pu u v)(σ:xb)
include h
theorem fE:cf [Md u v] σ=.ok (.bl true) σ:=by
 have c:=KP σ;have d:Bg [.ub [.int u,.int v]] σ=.ok (.bl true) σ:=by
  have w:=bt (i:=u) (a:=0) (b:=2000000000000) (by have:=h.u;omega) σ;have f:=bt (i:=v) (a:=0) (b:=2000000000000) (by have:=h.v;omega) σ;unfold Bg ZP;simp[w,f]
 have e:=Χ σ;unfold Md cf lV;simp[c,d,e]
theorem IR:ui [.int u,.int v] σ=.ok (Md u v) σ:=by
 have a:=fE h σ;have b:rk [.int 0,.ub [.int u,.int v],.Mc] σ=.ok (Md u v) σ:=by
  unfold Md at a ⊢;unfold rk YQ;simp[a]
 have c:=qu u v;unfold ui vQ;simp[b,c]
theorem GX:dg [Md u v,.int (u+v)] σ=.ok (.bl true) σ:=by
 have b:=fE h σ;have d:∀ σ,nc (Md u v) (.int 2) σ=.ok (.ub []) σ:=λσ=>by simp[Md]
 have c:∀ σ,nc (Md u v) (.int 1) σ=.ok (.ub [.int u,.int v]) σ:=λσ=>by simp[Md]
 have l:=rR (ix:=[]) (fe:=nb nc (ia 0) (eC (.int 1))) (src:=qi (nb nc (ia 0) (eC (.int 2)))) (ρ:=[some (Md u v)]) (σ:=σ) (by simp[d]);have f:Ux [.ub [.int u,.int v]] σ=.ok (.int (u+v)) σ:=by simp[Ux,Vu]
 have e:Ux [.Ca []] σ=.ok (.int 0) σ:=rfl;have a:qk [Md u v] σ=.ok (.int (u+v)) σ:=by
  unfold qk WV;generalize Md u v=X at *;simp[c,l,f,e,-Uu]
 unfold dg OQ;generalize Md u v=X at *;simp[b,a]
end
def LD(u v:Int):D:=.obj 7 ["whole","side","stand","day","wait"] [.int (u+v),.int 0,Md u v,.int 0,.int 20]
noncomputable def HD(w:Int):D:=.obj 6 ["whole"] [.int w]
theorem TV(c:Nat)(b:[5,6,7,8].contains c=true)(w:D)(a:xb):yq [.ref a.length,w] (a++[.jc c []])=.ok .Mc (a++[.jc c [("whole",w)]]):=by
 unfold yq XU;have:=VH (ρ:=[some (.ref a.length),some w]) (σ:=a) (cs:=[5,6,7,8]) (f:="whole") (d:=w) (c:=c) (fs:=[]) b (by simp);simp[this,Xk]
theorem t8(w s S d t:D)(a:xb):Hu [.ref a.length,w,s,S,d,t] (a++[.jc 7 []])=.ok .Mc (a++[.jc 7 [("whole",w),("side",s),("stand",S),("day",d),("wait",t)]]):=by
 have c:=TV 7 rfl w a;have e:=λ(b:List Nat) (h:b.contains 7=true) (f:qa) (v:D) (g:List (qa × D)) (i:g.length<1000)=>VH (ρ:=[some (.ref a.length),some w,some s,some S,some d,some t]) (σ:=a) (cs:=b) (f:=f) (d:=v) (c:=7) (fs:=g) h i;have p1:Xk "side" s [("whole",w)]=([("whole",w),("side",s)]:List (qa × D)):=rfl;have p2:Xk "stand" S [("whole",w),("side",s)]=([("whole",w),("side",s),("stand",S)]:List (qa × D)):=rfl;have p3:Xk "day" d [("whole",w),("side",s),("stand",S)]=([("whole",w),("side",s),("stand",S),("day",d)]:List (qa × D)):=rfl;have p4:Xk "wait" t [("whole",w),("side",s),("stand",S),("day",d)]=([("whole",w),("side",s),("stand",S),("day",d),("wait",t)]:List (qa × D)):=rfl;unfold Hu xU;simp[c,e,p1,p2,p3,p4]
section
variable(u v:Int)(σ:xb)
theorem Y8:uh σ (Uq 7 6 Hu [.int (u+v),.int 0,Md u v,.int 0,.int 20] σ)=.ok (LD u v) σ:=by
 rw[yU,t8,iB,mI (by simp[qu])];rfl
theorem r6(w:Int):uh σ (Uq 6 2 yq [.int w] σ)=.ok (HD w) σ:=by
 rw[fM,TV 6 rfl,iB,mI (by simp)];rfl
theorem Dy:Qp σ (LD u v)=some (7,([("whole",.int (u+v)),("side",.int 0),("stand",Md u v),("day",.int 0),("wait",.int 20)]:List (qa × D))):=mC rfl
theorem ID(w:Int):Qp σ (HD w)=some (6,([("whole",.int w)]:List (qa × D))):=mC rfl
theorem LZ(s:D):Xd [LD u v,.int 0,s] σ=.ok (.ub [.int 0,.int 0,.int (u+v)]) σ:=by
 have b:∀ σ,gd [5,6,7,8] "whole" (LD u v) σ=.ok (.int (u+v)) σ:=λσ=>jl (Dy u v σ) rfl rfl;have c:∀ σ,gd [7,9] "day" (LD u v) σ=.ok (.int 0) σ:=λσ=>jl (Dy u v σ) rfl rfl;have d:∀ σ,gd [7] "wait" (LD u v) σ=.ok (.int 20) σ:=λσ=>jl (Dy u v σ) rfl rfl;have e:∀ σ,Qe [LD u v,.int 0] σ=.ok (.bl true) σ:=λσ=>by
  unfold Qe wR;generalize LD u v=L at *;simp[c,d]
 have m:∀ a σ,qm [(7,Qe)] 2 "waits" a (LD u v) σ=(a σ).bind (Do 2 Qe (LD u v)):=λa σ=>Lv (Dy u v σ) rfl rfl;unfold Xd WO;generalize LD u v=L at *;simp[b,m,e]
theorem VO(w:Int)(y s:D):Ad [HD w,y,s] σ=.ok (.ub [.int 0,.int 0,.int w]) σ:=by
 have h:∀ σ,gd [5,6,7,8] "whole" (HD w) σ=.ok (.int w) σ:=λσ=>jl (ID σ w) rfl rfl;unfold Ad TU;generalize HD w=O at *;simp[h]
def Ss(u v:Int):D:=.ub [.str "laid",.int 0,Md u v,.int 0]
noncomputable def on:D:=.ub [.str "held"]
theorem ũ:De [LD u v] σ=.ok (Ss u v) σ:=by
 have a:∀ σ,gd [7,8,10,11,12,13] "side" (LD u v) σ=.ok (.int 0) σ:=λσ=>jl (Dy u v σ) rfl rfl;have b:∀ σ,gd [7,9] "day" (LD u v) σ=.ok (.int 0) σ:=λσ=>jl (Dy u v σ) rfl rfl;have c:∀ σ,gd [7] "stand" (LD u v) σ=.ok (Md u v) σ:=λσ=>jl (Dy u v σ) rfl rfl;have d:=qu u v;unfold De mS Ss;generalize LD u v=L,Md u v=X at *;simp[a,b,c,d]
theorem dR(x:D):be [x] σ=.ok on σ:=by unfold be CV on;simp
def cD(u v:Int)(g:Bool):D:=if g then LD u v else HD (u+v)
def tD(u v:Int)(g:Bool):D:=if g then Ss u v else on
theorem i0(g:Bool)(a:M (List D))(b:a σ=.ok [] σ):qm [(6,be),(7,De),(8,vf)] 1 "told" a (cD u v g) σ=.ok (tD u v g) σ:=by
 cases g with
 |false=>show qm _ _ _ _ (HD (u+v)) _=.ok on σ;rw[Lv (fn:=be) (ID ..) rfl rfl,b,ge,zE,dR]
 |true=>show qm _ _ _ _ (LD u v) _=.ok (Ss u v) σ;rw[Lv (fn:=De) (Dy ..) rfl rfl,b,ge,zE,ũ]
theorem y8(w:Int)(a:M (List D))(b:a σ=.ok [] σ):qm [(6,be),(7,De),(8,vf)] 1 "told" a (HD w) σ=.ok on σ:=by
 rw[Lv (fn:=be) (ID ..) rfl rfl,b,ge,zE,dR]
theorem zzw(g:Bool){s:D}(a:M (List D))(b:a σ=.ok [.int 0,s] σ):qm [(6,Ad),(7,Xd),(8,Ve)] 3 "comes" a (cD u v g) σ=.ok (.ub [.int 0,.int 0,.int (u+v)]) σ:=by
 cases g with
 |false=>show qm _ _ _ _ (HD (u+v)) _=_;rw[Lv (fn:=Ad) (ID ..) rfl rfl,b,ge,OK,VO]
 |true=>show qm _ _ _ _ (LD u v) _=_;rw[Lv (fn:=Xd) (Dy ..) rfl rfl,b,ge,OK,LZ]
theorem þ(w:Int){s:D}(a:M (List D))(b:a σ=.ok [.int 0,s] σ):qm [(6,Ad),(7,Xd),(8,Ve)] 3 "comes" a (HD w) σ=.ok (.ub [.int 0,.int 0,.int w]) σ:=by
 rw[Lv (fn:=Ad) (ID ..) rfl rfl,b,ge,OK,VO]
theorem LJ(g:Bool):cl (tD u v g)=true:=by cases g<;>simp[tD,Ss,on,qu]
end
abbrev Kv:=List (gc × D)
noncomputable def BA(l:List (Int × Int)):Kv:=l.map λp=>(.inl p.1,.int p.2)
noncomputable def pD(u v:Int):D:=.ub [.int 0,.int 1,.int u,.int v,.int 20]
noncomputable def qD:D:=.ub [.int 2,.int 3,.int 4,.int 5,.int 6]
noncomputable def two(m:Nat)(a b:D):List D:=if m=2 then [a,b]else [a]
def PL(m:Nat)(u v:Int):D:=.Ca (two m (pD u v) qD)
theorem p0(u v:Int)(a:xb):nc (pD u v) (.int 0) a=.ok (.int 0) a:=by unfold pD;simp
theorem p1(u v:Int)(a:xb):nc (pD u v) (.int 1) a=.ok (.int 1) a:=by unfold pD;simp
theorem p2(u v:Int)(a:xb):nc (pD u v) (.int 2) a=.ok (.int u) a:=by unfold pD;simp
theorem p3(u v:Int)(a:xb):nc (pD u v) (.int 3) a=.ok (.int v) a:=by unfold pD;simp
theorem p4(u v:Int)(a:xb):nc (pD u v) (.int 4) a=.ok (.int 20) a:=WH ..
theorem q0(a:xb):nc qD (.int 0) a=.ok (.int 2) a:=by unfold qD;simp
theorem q1(a:xb):nc qD (.int 1) a=.ok (.int 3) a:=by unfold qD;simp
theorem gE{m:Nat}{a b:D}(c:cl a=true)(d:cl b=true):Ik (two m a b)=true:=by unfold two;split<;>simp[c,d]
theorem uH(u v:Int):cl (pD u v)=true:=by unfold pD;simp
theorem EG:cl qD=true:=by unfold qD;simp
theorem zN(m:Nat)(u v:Int):cl (PL m u v)=true:=by
 have:=gE (m:=m) (uH u v) EG;unfold PL;simp[this]
def acc(u v:Int):D:=.obj 11 ["pot","side","mine","grant","may","strikes"] [.int 0,.int 1,Md u v,.Mc,.Ca [Md u v],.Ca []]
def ji(m:Nat)(u v:Int):List (qa × D):=[("public",.ref 1),("pots",PL m u v),("every",.int 9),("keepers",.ref (4+m)),("under_way",.Ca []),("things",.ref (5+m))]
def qG(m:Nat)(u v:Int):List (qa × D):=[("pots",PL m u v),("day",.int 0),("claims",.ref 2),("shown",.ref 3)]
noncomputable def RE(m:Nat):List (qa × D):=[("hand",.int 1),("every",.int 9),("last_look",.int 0),("gave",.int 0),("known",.ref (7+m)),("accounts",.ref (8+m)),("claims",.ref (9+m)),("seen",.ref (10+m)),("asked",.ref (11+m)),("finishing",.ref (12+m))]
noncomputable def tg(w:Int):List gc:=[.inr "word",.inl w]
structure HS(m:Nat)(u v:Int)(g:Bool)(s:List (Int × Int))(kc:D)(ao:Ob)(σ:xb):Prop where
 h0:σ[0]?=some (.jc 16 (ji m u v))
 h1:σ[1]?=some (.jc 9 (qG m u v))
 h2:σ[2]?=some (.Ca (two m (cD u v g) (HD 9)))
 h3:σ[3]?=some (.Ca (two m (.ref 4) (.ref 5)))
 h4:σ[4]?=some (.Ja (BA s))
 h5:m=2->σ[5]?=some (.Ja [])
 k0:σ[4+m]?=some (.Ja [(.inl 1,.ref (6+m))])
 t0:σ[5+m]?=some (.yf [tg 5])
 kp:σ[6+m]?=some (.jc 15 (RE m))
 kn:σ[7+m]?=some (.Ja [(.inl 6,.bl true)])
 ka:σ[8+m]?=some ao
 kl:σ[9+m]?=some (.Ja [(.inl 0,kc)])
 ke:σ[10+m]?=some (.Ja [(.inl 0,.Ja [] [])])
 kf:σ[12+m]?=some (.Ja [])
theorem Dr{a j:xb}{n:Nat}{o:Ob}(h:a[n]?=some o):(a++j)[n]?=some o:=by
 obtain⟨b,c⟩:=na.mp h;rw[Za b,h]
theorem Mg{a:xb}{i n:Nat}{o x:Ob}(b:i≠n)(h:a[n]?=some o):(a.set i x)[n]?=some o:=by rw[Pk b];exact h
theorem YD{a:xb}{n:Nat}{o x:Ob}(h:a[n]?=some o):(a.set n x)[n]?=some x:=Pj (na.mp h).1
theorem yes{a:xb}{n:Nat}{xs:List D}{i:Nat}{d:D}(h:a[n]?=some (.Ca xs))(b:xs[i]?=some d):nc (.ref n) (.int i) a=.ok d a:=by
 have l:ti a n=some xs:=by unfold ti;rw[h]
 simp[nc,Im,l,Wv b]
theorem xp{b:xb}{n c:Nat}{a:List (qa × D)}(h:b[n]?=some (.jc c a)):Qp b (.ref n)=some (c,a):=by unfold Qp;simp[h]
theorem CM{m:Nat}(b:m=1\/m=2)(u v:Int)(a:xb):Ll [PL m u v] a=.ok (.int m) a:=by
 rcases b with rfl|rfl<;>exact AO _
section
variable{m:Nat}{u v:Int}{g:Bool}{s:List (Int × Int)}{kc:D}{ao:Ob}{σ:xb}(h:HS m u v g s kc ao σ)
include h
theorem HS.app(j:xb):HS m u v g s kc ao (σ++j):=⟨Dr h.h0,Dr h.h1,Dr h.h2,Dr h.h3,Dr h.h4,λe=>Dr (h.h5 e),Dr h.k0,Dr h.t0,Dr h.kp,Dr h.kn,Dr h.ka,Dr h.kl,Dr h.ke,Dr h.kf⟩
theorem EE:gd [9,14,16] "pots" (.ref 1) σ=.ok (PL m u v) σ:=jl (xp h.h1) rfl rfl
theorem zI:gd [7,9] "day" (.ref 1) σ=.ok (.int 0) σ:=jl (xp h.h1) rfl rfl
theorem GK:gd [9,15] "claims" (.ref 1) σ=.ok (.ref 2) σ:=jl (xp h.h1) rfl rfl
theorem zH:gd [9] "shown" (.ref 1) σ=.ok (.ref 3) σ:=jl (xp h.h1) rfl rfl
theorem lq{x:qa}(k:Nat)(a:List D->M D)(b:M (List D))(c:(qG m u v).lookup x=none):qm [(9,a)] k x b (.ref 1) σ=(b σ).bind (Do k a (.ref 1)):=Lv (xp h.h1) rfl c
theorem Lz:gd [16] "public" (.ref 0) σ=.ok (.ref 1) σ:=jl (xp h.h0) rfl rfl
theorem VU:gd [9,14,16] "pots" (.ref 0) σ=.ok (PL m u v) σ:=jl (xp h.h0) rfl rfl
theorem dM:gd [16] "keepers" (.ref 0) σ=.ok (.ref (4+m)) σ:=jl (xp h.h0) rfl rfl
theorem ys9:gd [16] "under_way" (.ref 0) σ=.ok (.Ca []) σ:=jl (xp h.h0) rfl rfl
theorem IP:gd [16] "things" (.ref 0) σ=.ok (.ref (5+m)) σ:=jl (xp h.h0) rfl rfl
theorem Zj{x:qa}(k:Nat)(a:List D->M D)(b:M (List D))(c:(ji m u v).lookup x=none):qm [(16,a)] k x b (.ref 0) σ=(b σ).bind (Do k a (.ref 0)):=Lv (xp h.h0) rfl c
theorem Ň:gd [14,15,16] "every" (.ref (6+m)) σ=.ok (.int 9) σ:=jl (xp h.kp) rfl rfl
theorem JR:gd [14,15] "last_look" (.ref (6+m)) σ=.ok (.int 0) σ:=jl (xp h.kp) rfl rfl
theorem v6:gd [15] "gave" (.ref (6+m)) σ=.ok (.int 0) σ:=jl (xp h.kp) rfl rfl
theorem k9:gd [14,15] "known" (.ref (6+m)) σ=.ok (.ref (7+m)) σ:=jl (xp h.kp) rfl rfl
theorem kM:gd [15] "accounts" (.ref (6+m)) σ=.ok (.ref (8+m)) σ:=jl (xp h.kp) rfl rfl
theorem CI:gd [9,15] "claims" (.ref (6+m)) σ=.ok (.ref (9+m)) σ:=jl (xp h.kp) rfl rfl
theorem iV:gd [15] "seen" (.ref (6+m)) σ=.ok (.ref (10+m)) σ:=jl (xp h.kp) rfl rfl
theorem mY:gd [15] "finishing" (.ref (6+m)) σ=.ok (.ref (12+m)) σ:=jl (xp h.kp) rfl rfl
theorem Su{x:qa}(k:Nat)(a:List D->M D)(b:M (List D))(c:(RE m).lookup x=none):qm [(15,a)] k x b (.ref (6+m)) σ=(b σ).bind (Do k a (.ref (6+m))):=Lv (xp h.kp) rfl c
end
section
variable{m:Nat}(hm:m=1\/m=2){u v:Int}{g:Bool}{s:List (Int × Int)}{kc:D}{ao:Ob}{σ:xb}(h:HS m u v g s kc ao σ)
include hm h
theorem η:uf [.ref 1] σ=.ok (.int 0) σ:=by
 have h:=zI h;unfold uf aR;simp[h]
theorem ydn:Lb [.ref 1] σ=.ok (PL m u v) σ:=by
 have h:=EE h;have a:∀ σ,uh σ (Yq [PL m u v] σ)=.ok (PL m u v) σ:=λσ=>Dz (gE (uH u v) EG) σ;have b:=zN m u v;unfold Lb rN;generalize PL m u v=L at *;simp[h,a,b]
theorem SE{i:Int}(c:0<=i/\i<m):Ta [.ref 1,.int i] σ=.ok .Mc σ:=by
 have h:=EE h;have l:=λσ=>CM hm u v σ;have b:=λσ=>bt (i:=i) (a:=0) (b:=m - 1) (by omega) σ;unfold Ta nK;generalize PL m u v=L at *;simp[h,l,b]
theorem Ú{i:Int}(c:¬ (0<=i/\i<m)):Ta [.ref 1,.int i] σ=.ex ⟨2⟩ σ:=by
 have h:=EE h;have l:=λσ=>CM hm u v σ;have b:=λσ=>bf (i:=i) (a:=0) (b:=m - 1) (by omega) σ;unfold Ta nK;generalize PL m u v=L at *;simp[h,l,b]
theorem kN{i:Nat}(o:i<m):Gb [.ref 1,.int i] σ=.ok (if i=0 then tD u v g else on) σ:=by
 have c:=SE hm h (i:=i) (by omega);have n:=λa=>lq h (x:="check_pot") 2 Ta a rfl;have b:=GK h;have k:(∃ d,nc (.ref 2) (.int i) σ=.ok d σ/\∀ a,a σ=.ok [] σ->qm [(6,be),(7,De),(8,vf)] 1 "told" a d σ=.ok (if i=0 then tD u v g else on) σ):=by
  by_cases e:i=0
  ·subst e;exact⟨_,yes h.h2 (by rcases hm with rfl|rfl<;>rfl),λa f=>i0 u v σ g a f⟩
  ·obtain⟨rfl,rfl⟩:i=1/\m=2:=by omega
   exact⟨HD 9,yes h.h2 rfl,λa f=>y8 σ 9 a f⟩
 obtain⟨d,l,t⟩:=k;have t:=t (Na [some (.ref 1),some (.int i)]) rfl;have j:cl (if i=0 then tD u v g else on)=true:=by split;exact LJ u v g;rfl
 unfold Gb DR;generalize (if i=0 then tD u v g else on)=T at *;simp[c,n,b,l,t,j]
theorem WW(d:s=[]):Pd [.ref 1,.int 0] σ=.ok (.Ja [] []) σ:=by
 subst d;have c:=SE hm h (i:=0) (by omega);have f:=λb=>lq h (x:="check_pot") 2 Ta b rfl;have g:=zH h;have e:nc (.ref 3) (.int 0) σ=.ok (.ref 4) σ:=yes (i:=0) h.h3 (by rcases hm with rfl|rfl<;>rfl);have o:Zz [.ref 4] σ=.ok (.Ja [] []) σ:=by
  have a:Yi σ (.ref 4)=some []:=by unfold Yi;simp[h.h4,BA]
  unfold Zz;simp only[a];rfl
 unfold Pd BP;simp[c,f,g,e,o,vB]
end
@[simp] theorem zxn(f c b:Ev->M D)(a:Ev)(d:xb):Qx f c b a d=Xm a (VJ a c b) (f a d):=yr ..
@[simp] theorem ζ(c b:Ev->M D)(d:D)(a:Ev)(e:xb):VJ a c b d e=Xm a (FK a b d) (c a e):=yr ..
@[simp] theorem X2(b:Ev->M D)(d x:D)(a:Ev)(c:xb):FK a b d x c=Xm a (Qu a d x) (b a c):=yr ..
theorem Cz{ρ:Ev}{a:xb}{d:D}{n:Nat}{w:Int}{kvs:Kv}(h:a[n]?=some (.Ja kvs))(b:kvs.length<1000):Qu ρ d (.ref n) (.int w) a=.ok (.nx ρ) (a.set n (.Ja (VB kvs (.inl w) d))):=by
 unfold Qu;simp only[Gm,h];rw[ja (show kvs.length<zi from b)]
theorem zx3{ρ:Ev}{a:xb}{d:D}{n i:Nat}{xs:List D}(h:a[n]?=some (.Ca xs))(b:i<xs.length):xC ρ d (.ref n) (.int i) a=.ok (.nx ρ) (a.set n (.Ca (xs.set i d))):=by
 unfold xC LN;have l:ti a n=some xs:=by unfold ti;rw[h]
 have e:Xv xs.length (i:Int)=some i:=by unfold Xv;rw[ja (by omega),ja (by omega)];simp
 simp only[l,e]
theorem rK{tg:D->Ev->Option Ev}{body:Ev->M Fl}{n k i:Nat}{b ρ1:Ev}{a:xb}{xs:List D}{d:D}(h:ti a n=some xs)(c:xs[i]?=some d)(e:tg d b=some ρ1):Bv tg body n (k+1) i b a=(body ρ1 a).bind (Rx (Bv tg body n k (i+1))):=by
 rw[Bv];simp only[h,c,e];rfl
theorem xQ{tg:D->Ev->Option Ev}{body:Ev->M Fl}{n k i:Nat}{b:Ev}{a:xb}{xs:List D}(h:ti a n=some xs)(c:xs[i]?=none):Bv tg body n (k+1) i b a=.ok (.nx b) a:=by
 rw[Bv];simp only[h,c]
@[simp] theorem pX(b:Ev)(a:xb):Xt b a=.ok (.ref a.length) (a++[.Ja []]):=nr rfl
@[simp] theorem zov(o:D->List D->M D)(f:Ev->M D)(b:Ev->M (List D))(a:Ev)(c:xb):BN o f b a c=(f a c).bind (ND o (b a)):=nr rfl
theorem yP(b:xb)(a:Kv):Yi (b++[.Ja a]) (.ref b.length)=some a:=by unfold Yi;simp
theorem P9{c:xb}{kvs b:Kv}{j:Nat}(e:c[j]?=some (.Ja b))(h:kvs.length+b.length<=1000):Hz (.ref c.length) [.ref j] (c++[.Ja kvs])=.ok .Mc (c++[.Ja (QA kvs b)]):=by
 have d:=(na.mp e).1;have f:(c++[Ob.Ja kvs])[c.length]?=some (.Ja kvs):=by simp
 have g:Yi (c++[.Ja kvs]) (.ref j)=some b:=by unfold Yi;dsimp only;rw[Za d,e]
 unfold Hz;simp only[f,g];have a:(apart c.length (.ref j) && decide (kvs.length+b.length<=zi))=true:=by
  unfold apart;simp only[Ea,Kc];exact⟨by simp;omega,h⟩
 rw[ja a,eG]
theorem rQ{σ:xb}{x:D}{kvs:Kv}{vs:List Int}(c:Mh σ x=none)(a:Yi σ x=some kvs)(b:DB kvs=some vs)(d:vs.length<64):uh σ (Wy [x] σ)=.ok (.Ca ((Us vs).map D.int)) σ:=by
 have o:Wy [x] σ=.ok (.ref σ.length) (σ++[.Ca ((Us vs).map D.int)]):=by
  unfold Wy;simp only[c];unfold MH;simp only[a,b];rw[ja d];rfl
 rw[o];exact Jw (by simp)
section
variable{m:Nat}(hm:m=1\/m=2){u v:Int}{g:Bool}{s:List (Int × Int)}{kc:D}{ao:Ob}{σ:xb}(h:HS m u v g s kc ao σ)
include hm h
theorem GS(q:s=[]):vc [.ref 1] σ=.ok (.Ca []) σ:=by
 subst q;have t:=zH (h.app [.Ja []]);have g:∀ n,n=4\/(n=5/\m=2)->QM [some (.ref 1),some (.ref σ.length),some (.ref n)] (σ++[.Ja []])=.ok (.nx [some (.ref 1),some (.ref σ.length),some (.ref n)]) (σ++[.Ja []]):=λn p=>by
  have l:σ[n]?=some (.Ja []):=by
   rcases p with rfl|⟨rfl,e⟩
   ·exact h.h4
   ·exact h.h5 e
  have o:=P9 (kvs:=[]) l (by simp);have o:Hz (.ref σ.length) [.ref n] (σ++[.Ja []])=.ok .Mc (σ++[.Ja []]):=o;have r:∀ b,ND Hz b (.ref σ.length) (σ++[.Ja []])=(b (σ++[.Ja []])).bind (Hz (.ref σ.length)):=λb=>by
   unfold ND;rw[yP];rfl
  simp[r,o]
 have a:ti (σ++[.Ja []]) 3=some (two m (.ref 4) (.ref 5)):=by unfold ti;rw[Dr h.h3]
 have c:∃ x,Bv (de 2) QM 3 1001 0 [some (.ref 1),some (.ref σ.length),none] (σ++[.Ja []])=.ok (.nx [some (.ref 1),some (.ref σ.length),x]) (σ++[.Ja []]):=by
  rcases hm with rfl|rfl
  ·exact⟨some (.ref 4),by rw[rK (k:=1000) (d:=.ref 4) (ρ1:=[some (.ref 1),some (.ref σ.length),some (.ref 4)]) a rfl rfl,g 4 (.inl rfl),ge,gn,xQ (k:=999) a rfl]⟩
  ·exact⟨some (.ref 5),by rw[rK (k:=1000) (d:=.ref 4) (ρ1:=[some (.ref 1),some (.ref σ.length),some (.ref 4)]) a rfl rfl,g 4 (.inl rfl),ge,gn,rK (k:=999) (d:=.ref 5) (ρ1:=[some (.ref 1),some (.ref σ.length),some (.ref 5)]) a rfl rfl,g 5 (.inr ⟨rfl,rfl⟩),ge,gn,xQ (k:=998) a rfl]⟩
 obtain⟨x,c⟩:=c;have u:sw (.ref 3) (σ++[.Ja []])=.ok (.Bt 3) (σ++[.Ja []]):=by unfold sw;simp[a]
 have j:∀ (tg:D->Ev->Option Ev) (body:Ev->M Fl) (i:Ev) (n:Nat),BG tg body i (.Bt n)=Bv tg body n 1001 0 i:=λ_ _ _ _=>rfl;have f:=rQ (σ:=σ++[.Ja []]) (x:=.ref σ.length) (by unfold Mh ti;simp) (yP σ []) rfl (by simp);have f:uh (σ++[.Ja []]) (Wy [.ref σ.length] (σ++[.Ja []]))=.ok (.Ca []) (σ++[.Ja []]):=by simpa [Us]using f
 have fz:uh σ (.ok (.Ca []) (σ++[.Ja []]))=.ok (.Ca []) σ:=by
  unfold uh;dsimp only;rw[ja (by simp)];simp[fz,bp]
 unfold vc JO;simp[t,u,j,c,f,fz]
theorem yjo{i:Nat}(r:i<m):Ze [.ref 1,.int i] σ=.ok (.ub [.int 0,.int 0,.int (if i=0 then u+v else 9)]) σ:=by
 have c:=SE hm h (i:=i) (by omega);have p:=λa=>lq h (x:="check_pot") 2 Ta a rfl;have b:=GK h;have f:=zI h;have k:=zH h;have q:nc (.ref 3) (.int i) σ=.ok (.ref (4+i)) σ:=yes h.h3 (by
  by_cases e:i=0
  ·subst e;rcases hm with rfl|rfl<;>rfl
  ·obtain⟨rfl,rfl⟩:i=1/\m=2:=by omega
   rfl)
 have n:(∃ d,nc (.ref 2) (.int i) σ=.ok d σ/\∀ a,a σ=.ok [.int 0,.ref (4+i)] σ->qm [(6,Ad),(7,Xd),(8,Ve)] 3 "comes" a d σ=.ok (.ub [.int 0,.int 0,.int (if i=0 then u+v else 9)]) σ):=by
  by_cases e:i=0
  ·subst e;exact⟨_,yes h.h2 (by rcases hm with rfl|rfl<;>rfl),λa j=>zzw u v σ g a j⟩
  ·obtain⟨rfl,rfl⟩:i=1/\m=2:=by omega
   exact⟨HD 9,yes h.h2 rfl,λa j=>þ σ 9 a j⟩
 obtain⟨d,o,t⟩:=n;have t:=t ((xa (Qd (gd [7,9] "day") (ia 0)) (xa (nb nc (Qd (gd [9] "shown") (ia 0)) (ia 1)) Na)) [some (.ref 1),some (.int i)]) (by simp[f,k,q]);have l:cl (.ub [.int 0,.int 0,.int (if i=0 then u+v else 9)])=true:=by simp
 unfold Ze nQ;generalize (if i=0 then u+v else (9:Int))=T at *;rw[zq,oD,lz];show uh σ (bq (Mb _ _ [some (.ref 1),some (.int i)] σ))=_;rw[ai];simp only[oN,jF,ar,fx,ge,p,Iz,nA,Hx,lA,BS,c,nk,qM,Zh];rw[zY,jF];simp only[E5,gG,ar,fx,ge,b,ė,o,t,nk,D4,P5];exact O9 l
theorem bW{P:D}{w k z q:Int}{i:Nat}(r:i<m)(s:k=0\/k=1)(l:nc P (.int k) σ=.ok (.int z) σ):QO [some (.ref 1),some (.int w),some (.int 0),some (.int i),some P,some (.int k)] σ=.ok (.nx [some (.ref 1),some (.int w),some (.int 0),some (.int i),some P,some (.int k)]) σ:=by
 have t:=λp=>lq h (x:="due_of") 2 Ze p rfl;have n:=yjo hm h r;have j:∀ T,nc (.ub [.int 0,.int 0,T]) (.int k) σ=.ok (.int 0) σ:=λT=>by rcases s with rfl|rfl<;>simp
 have y:∀ (o:Int->Int->Int) (f:Ev->M D) (x0 a c d g:Option D) (x:D),wC o 2 f [x0,a,some x,c,d,g] σ=Xm [x0,a,some x,c,d,g] (II o 2 [x0,a,some x,c,d,g] x) (f [x0,a,some x,c,d,g] σ):=λ_ _ _ _ _ _ _ _=>yf8 rfl;generalize (if i=0 then u+v else (9:Int))=T at *;have j:=j (.int T);generalize D.ub [.int 0,.int 0,.int T]=R at *;by_cases e:z=w
 ·have b:(z == w)=true:=by simpa using e
  simp[l,b,t,n,j,y]
 ·have b:(z == w)=false:=by simpa using e
  simp[l,b]
theorem ħ{w:Int}(A:0<=w/\w<=3):Tc [.ref 1,.int w] σ=.ok (.int 0) σ:=by
 have y:=EE h;have c:∀ σ,Mh σ (PL m u v)=some (two m (pD u v) qD):=λσ=>rfl;have s:∀ σ,Kz (PL m u v) σ=.ok (nv (PL m u v)) σ:=λσ=>zK (c σ);have g:=QG (d:=.int w) rfl σ;rw[show bd (.int w) 0 3=true by simp[bd];omega]at g;have e:∀ (i:Nat) (P:D) (o p:Int) (n:Option D),i<m->nc P (.int 0) σ=.ok (.int o) σ->nc P (.int 1) σ=.ok (.int p) σ->jJ [some (.ref 1),some (.int w),some (.int 0),some (.int i),some P,n] σ=.ok (.nx [some (.ref 1),some (.int w),some (.int 0),some (.int i),some P,some (.int 1)]) σ:=λi P o p n j a b=>by
  have a:=bW hm h (w:=w) (q:=0) j (.inl rfl) a;have b:=bW hm h (w:=w) (q:=0) j (.inr rfl) b;show Tn _ _ _ _ _=_;rw[Nx];simp only[nM,JU,Iz,yM,ge,nA,Hx,lA,yT,QU,nk,Dx];rw[Ny];simp only[Sd,ze];rw[a,ge,gn,Ny];simp only[Sd,ze];rw[b,ge,gn,jC]
 have l:=λx=>e 0 (pD u v) _ _ x (by omega) (p0 u v σ) (p1 u v σ);have f:∃ a b,Tp (nv (PL m u v)) (Hn 2 (gi (de 3) (gi (de 4) Fo))) jJ 1001 0 [some (.ref 1),some (.int w),some (.int 0),none,none,none] σ=.ok (.nx [some (.ref 1),some (.int w),some (.int 0),a,b,some (.int 1)]) σ:=by
  rcases hm with rfl|rfl
  ·refine⟨some (.int (0:Nat)),some (pD u v),?_⟩;rw[Yu (k:=1000) (Vy (c _) (i:=0) rfl) (ρ1:=[some (.ref 1),some (.int w),some (.int 0),some (.int (0:Nat)),some (pD u v),none]) (nr rfl),l,ge,gn];exact Dw (k:=999) (JC (c _))
  ·have z:=λx=>e 1 qD _ _ x (by omega) (q0 σ) (q1 σ);refine⟨some (.int (1:Nat)),some qD,?_⟩;rw[Yu (k:=1000) (Vy (c _) (i:=0) rfl) (ρ1:=[some (.ref 1),some (.int w),some (.int 0),some (.int (0:Nat)),some (pD u v),none]) (nr rfl),l,ge,gn,Yu (k:=999) (Vy (c _) (i:=1) rfl) (ρ1:=[some (.ref 1),some (.int w),some (.int 0),some (.int (1:Nat)),some qD,some (.int 1)]) (nr rfl),z,ge,gn];exact Dw (k:=998) (JC (c _))
 obtain⟨a,b,f⟩:=f;have t:∀ (tg:D->Ev->Option Ev) (body:Ev->M Fl) (r:Ev) (nx:NX),cC tg body r nx=Tp nx tg body 1001 0 r:=λ_ _ _ _=>rfl;unfold Tc YK;generalize PL m u v=L at *;simp[g,y,s,t,f]
theorem VZ{w:Int}(b:¬ (0<=w/\w<=3)):Tc [.ref 1,.int w] σ=.ex ⟨2⟩ σ:=by
 have a:=QG (d:=.int w) rfl σ;rw[show bd (.int w) 0 3=false by simp[bd];omega]at a;unfold Tc YK;simp[a]
end
theorem XO{σ:xb}{ys zs:List D}(h:ys.length+zs.length<=1000):cy (.ref σ.length) [.Ca zs] (σ++[.Ca ys])=.ok .Mc (σ++[.Ca (ys++zs)]):=by
 have e:Mh (σ++[Ob.Ca ys]) (.Ca zs)=some zs:=rfl;unfold cy;simp only[ZU,e];rw[ja (show _<=zi from h),eG]
theorem ZQ(A:Kv)(a:xb):Wu A A.length a=some none:=by unfold Wu;simp
theorem Ë{i j:Nat}{ρ:Ev}{σ:xb}{xs ys:List D}(c:ia i ρ σ=.ok (.Ca xs) σ)(d:ia j ρ σ=.ok (.Ca ys) σ):XB (ia i) (ia j) ρ σ=.ok (fN (.Ca xs) (.Ca ys)) σ:=by
 have a:Mh σ (.Ca xs)=some xs:=rfl;have b:Mh σ (.Ca ys)=some ys:=rfl;unfold XB;rw[cn,c,ge];unfold DU;rw[cn,d,ge];unfold XJ;simp only[a,b]
@[simp] theorem ztb(d:List Nat)(b:Ev->M D)(c:Ev->M (List D))(a:Ev)(e:xb):aN d b c a e=(c a e).bind (zC b (d.map λi=>(a[i]?).getD none)):=nr rfl
theorem LK{f:Ev->M D}{a:Ev->M NX}{nx:NX}{n:Nat}{b ρ2:Ev}{d c σ2:xb}{A A':Kv}{tg:D->Ev->Option Ev}{body:Ev->M Fl}(i:f b d=.ok (.ref n) d)(g:d[n]?=some (.Ja A))(h:a b d=.ok nx c)(j:Tp nx tg body 1001 0 b c=.ok (.nx ρ2) σ2)(e:σ2[n]?=some (.ag A')):bz f (Jt a tg body) b d=.ok (.nx ρ2) (σ2.set n (.Ja A')):=by
 show MG PK (f b) (Jt a tg body b) d=_;unfold MG;rw[i];dsimp only;rw[g];rw[BJ,h,nk];show NE PK _ (Tp nx tg body 1001 0 b c)=_;rw[j];unfold NE;simp only[e];rfl
theorem WQ{f:Ev->M D}{n:Nat}{b:Ev}{a:xb}{A:Kv}(c:f b a=.ok (.ref n) a)(g:a[n]?=some (.Ja A)):CB f b a=.ok (Wu A) (a.set n (.ag A)):=by
 show Ld (f b) wG a=_;rw[cn,c,ge];unfold wG;simp only[g]
theorem eH{a:xb}{r:Nat}{o:Ob}(h:a[r]?=some o):a.set r o=a:=by
 obtain⟨b,c⟩:=na.mp h;rw[<-c];exact List.set_getElem_self b
theorem dG(c:Nat)(g:List D->M D)(a b d e:D)(f:xb):Uq c 5 g [a,b,d,e] f=Oy f.length (g [.ref f.length,a,b,d,e] (f++[.jc c []])):=wI rfl
def P1(u v:Int):D:=.ub [.int 1,.Ca [Md u v],.Ja [] []]
def VW(u v:Int):D:=.obj 14 ["every","last_look","known","pots"] [.int 9,.int 0,.Ca [.int 6],.Ca [P1 u v]]
noncomputable def R1(v:Int):D:=.ub [.int v,.Ja [] []]
noncomputable def B1(v:Int):D:=.ub [.int v,.Ca [.int 0],.Ja [] []]
theorem ZH(v:Int):cl (R1 v)=true:=by simp[R1,vB]
theorem ġ(v:Int):cl (B1 v)=true:=by simp[B1,vB]
section
variable(u v:Int)(σ:xb)
theorem Ã:uh σ (.ok (.ref σ.length) (σ++[.Ja []]))=.ok (.Ja [] []) σ:=by
 unfold uh;dsimp only;rw[ja (by simp)];simp[fz,bp]
theorem FX:gd [9,14,16] "pots" (VW u v) σ=.ok (.Ca [P1 u v]) σ:=jl (mC rfl) rfl rfl
theorem F6:gd [14,15,16] "every" (VW u v) σ=.ok (.int 9) σ:=jl (mC rfl) rfl rfl
theorem İ:Vf [VW u v,P1 u v,Md u v] σ=.ok (R1 v) σ:=by
 have a:∀ σ,nc (Md u v) (.int 1) σ=.ok (.ub [.int u,.int v]) σ:=λσ=>by simp[Md]
 have b:∀ σ,nc (Md u v) (.int 2) σ=.ok (.ub []) σ:=λσ=>by simp[Md]
 have c:∀ σ,nc (P1 u v) (.int 0) σ=.ok (.int 1) σ:=λσ=>by simp[P1]
 have fz:uh σ (.ok (.ub [.int v,.ref σ.length]) (σ++[.Ja []]))=.ok (R1 v) σ:=by
  unfold uh R1;dsimp only;rw[ja (by simp)];simp[fz,bp]
 unfold Vf CS;generalize VW u v=V,P1 u v=P,Md u v=X at *;simp[a,b,c,fz]
theorem Ş:Tg [VW u v] σ=.ok (.Ca [.Ca [R1 v]]) σ:=by
 have i:=λσ=>FX u v σ;have h:∀ σ,nc (P1 u v) (.int 1) σ=.ok (.Ca [Md u v]) σ:=λσ=>by simp[P1]
 have c:=λσ=>İ u v σ;have l:∀ (x:Option D) (a:xb),Gh (wj (wl (qi (nb nc (ia 2) (eC (.int 1))))) [0,2] (de 0) Oj (Je 3 Vf [] (xa (ia 2) (xa (ia 3) (xa (ia 0) Na))))) [some (VW u v),x,some (P1 u v)] a=.ok (.Ca [R1 v]) a:=λx a=>by
  refine iz (s:=.seq [Md u v]) (ds:=[Md u v]) (λ_=>R1 v) (by simp[h]) (λ_ _=>rfl) (by simp) (λd g j=>?_) (λ_ _=>ZH v);rw[qc.mp g];have c:=c (a++j);generalize VW u v=V,P1 u v=P,Md u v=X at *;simp[c]
 have f:=OJ (σ:=σ) (xs:=[]) (d:=.Ca [R1 v]) (by simp);have e:∀ b,Yy zt b (.ref σ.length) (σ++[.Ca []])=(b (σ++[.Ca []])).bind (zt (.ref σ.length)):=λb=>lG (xs:=[]) (by unfold Mh ti;simp);have fz:=Jw (σ:=σ) (xs:=[.Ca [R1 v]]) (by simp[ZH]);unfold Tg rO;generalize VW u v=V,P1 u v=P,R1 v=R at *;simp[i,l,e,f,fz,-Uu]
theorem zlr(R:D):xf [.Ca [.Ca [R]]] σ=.ok (.Ca [.Ca [.int 0]]) σ:=by
 have o:∀ a,cA (.int 1) a=.ok (.seq [.int 0]) a:=λa=>by rw[YL (by omega) (by omega)];rfl
 have l:∀ (b:Ev) (a:xb),b[2]?=some (some (.Ca [R]))->b[4]?=some (some (.Ca []))->Gh (wj (wl (Tz (Gi Ll (xa (ia 2) Na)))) [4] (de 0) Oj (nb vl (ia 2) (Sl (xa (ia 0) Na)))) b a=.ok (.Ca [.Ca [.int 0]]) a:=λb a g h=>by
  have f:ia 2 b a=.ok (.Ca [R]) a:=by unfold ia;rw[g]
  have m:Ll [.Ca [R]] a=.ok (.int 1) a:=AO _;refine iz (s:=.seq [.int 0]) (ds:=[.int 0]) (λ_=>.Ca [.int 0]) (by simp[f,m,o]) (λ_ _=>rfl) (by simp) (λd i j=>?_) (λ_ _=>by simp);rw[qc.mp i,yb,Qj,h];have e:∀ a,vl (.Ca []) (.Ca [.int 0]) a=.ok (.Ca [.int 0]) a:=λa=>AF (by simp[zi]);simp[e]
 have ex:=XO (σ:=σ) (ys:=[]) (zs:=[.Ca [.int 0]]) (by simp);have n:∀ c,Yy cy c (.ref σ.length) (σ++[.Ca []])=(c (σ++[.Ca []])).bind (cy (.ref σ.length)):=λc=>lG (xs:=[]) (by unfold Mh ti;simp);have fz:=Jw (σ:=σ) (xs:=[.Ca [.int 0]]) (by simp);have k:=l [some (.Ca [.Ca [R]]),some (.Ca [.Ca []]),some (.Ca [R]),some (.ref σ.length),some (.Ca [])] (σ++[.Ca []]) rfl rfl;unfold xf aU;simp[k,n,ex,fz,-Uu]
theorem Ŷ:Ud [.Ca [.Ca [R1 v]],.Ca [.int 0]] σ=.ok (.Ca [R1 v]) σ:=by
 have d:=Ë (i:=0) (j:=1) (ρ:=[some (.Ca [.Ca [R1 v]]),some (.Ca [.int 0])]) (σ:=σ) (xs:=[.Ca [R1 v]]) (ys:=[.int 0]) rfl rfl;have l:Gh (wj (XB (ia 0) (ia 1)) [] (Hn 2 (gi (de 0) (gi (de 1) Fo))) Oj (nb nc (ia 0) (ia 1))) [some (.Ca [.Ca [R1 v]]),some (.Ca [.int 0])] σ=.ok (.Ca [R1 v]) σ:=by
  show uh σ (Ld (XB (ia 0) (ia 1) _) (zF _ Oj (nb nc (ia 0) (ia 1)) (iw [] _)) σ)=_;rw[cn,d,ge];show uh σ (Ld (Wj _ σ.length _ Oj (nb nc (ia 0) (ia 1)) 1001 0 [none,none]) _ (σ++[.Ca []]))=_;rw[cn,IN (α:=D × D) (xs:=[(.Ca [R1 v],.int 0)]) (λ_=>True) (λx=>.ub [x.1,x.2]) (λx=>x.1) (λx=>some x.2) (λ_=>true) (λ_=>R1 v) (λi j b=>by rcases i with _|_|i<;>first|rfl|(simp at b)) (λx o e _=>⟨rfl,trivial⟩) (λx c j=>⟨rfl,λ_=>by rw[qc.mp c];simp⟩) (by simp) 1001 0 none none [] trivial (by simp) (by simp) (by simp),ge];exact Jw (by simp[ZH])
 have a:=ZH v;unfold Ud BO;generalize R1 v=R at *;simp[l,a,-Uu]
theorem Ĭ:Af [.Ca [R1 v],.Ca [.int 0],.int 9] σ=.ok (B1 v) σ:=by
 have o:∀ σ,nc (R1 v) (.int 1) σ=.ok (.Ja [] []) σ:=λσ=>by simp[R1]
 have i:∀ σ,nc (R1 v) (.int 0) σ=.ok (.int v) σ:=λσ=>by simp[R1]
 have g:∀ (tg:D->Ev->Option Ev) (a:Ev->M Fl) (c:Ev) (nx:NX),cC tg a c nx=Tp nx tg a 1001 0 c:=λ_ _ _ _=>rfl;have e:∀ (tg:D->Ev->Option Ev) (a:Ev->M Fl) (c:Ev) (b:xb),Tp (Wu []) tg a 1001 0 c b=.ok (.nx c) b:=λtg a c b=>Dw (k:=1000) rfl;have h:∀ b,UE (.Ja [] []) b=.ok (Wu []) b:=λb=>rfl;have m:∀ (f:Ev->M D) (c:Ev) (b:xb),Xx f c b=(f c b).bind UE:=λf c b=>cn ..;have p:∀ σ,Hf [.Ca [R1 v]] σ=.ok (.Ja [] []) σ:=λσ=>by
  have fz:=Ã σ;unfold Hf sV;generalize R1 v=R at *;simp[o,m,h,g,e,fz]
 have t:∀ (x:D) σ,Vi [.Ca [R1 v],.Ja [] [],x,.int 9] σ=.ok (.int v) σ:=λx σ=>by
  have l:∀ r,Gh (wj (wl (qi (ia 0))) [] (de 0) Oj (nb nc (ia 0) (eC (.int 0)))) (some (.Ca [R1 v])::r) σ=.ok (.Ca [.int v]) σ:=λr=>by
   refine iz (s:=.seq [R1 v]) (ds:=[R1 v]) (λ_=>.int v) (by simp) (λ_ _=>rfl) (by simp) (λd n j=>?_) (λ_ _=>by simp);rw[qc.mp n];have i:=i (σ++j);generalize R1 v=R at *;simp[i]
  have q:Ux [.Ca [.int v]] σ=.ok (.int v) σ:=by simp[Ux,Vu]
  unfold Vi FQ;generalize R1 v=R at *;simp[l,q,m,h,g,e,-Uu]
 have fz:uh σ (.ok (.ub [.int v,.Ca [.int 0],.ref σ.length]) (σ++[.Ja []]))=.ok (B1 v) σ:=by
  unfold uh B1;dsimp only;rw[ja (by simp)];simp[fz,bp]
 unfold Af pU;generalize R1 v=R at *;simp[p,t,m,h,g,e,fz]
theorem U6:ek [VW u v] σ=.ok (.int v) σ:=by
 have q:=λσ=>Ş u v σ;have f:=λσ=>zlr σ (R1 v);have g:=λσ=>Ŷ v σ;have n:=λσ=>Ĭ v σ;have r:=λσ=>F6 u v σ;have e:=ġ v;have b:∀ σ,nc (B1 v) (.int 0) σ=.ok (.int v) σ:=λσ=>by simp[B1]
 have l:∀ (a:Ev),a[1]?=some (some (.Ca [.Ca [R1 v]]))->a[0]?=some (some (VW u v))->Gh (wj (wl (qi (Je 1 xf [] (xa (ia 1) Na)))) [1,0] (de 0) Oj (Je 3 Af [] (xa (Je 2 Ud [] (xa (ia 2) (xa (ia 0) Na))) (xa (ia 0) (xa (Qd (gd [14,15,16] "every") (ia 3)) Na))))) a σ=.ok (.Ca [B1 v]) σ:=λa c i=>by
  have h:ia 1 a σ=.ok (.Ca [.Ca [R1 v]]) σ:=by unfold ia;rw[c]
  refine iz (s:=.seq [.Ca [.int 0]]) (ds:=[.Ca [.int 0]]) (λ_=>B1 v) (by simp[h,f]) (λ_ _=>rfl) (by simp) (λd k j=>?_) (λ_ _=>e);rw[qc.mp k,yb,yb,Qj,c,i];generalize VW u v=V,R1 v=R,B1 v=B at *;simp[g,r,n]
 have p:jk [VW u v] σ=.ok (B1 v) σ:=by
  have o:∀ a:Ev,zC (nb nc (ia 0) (eC (.int 0))) a [.Ca [B1 v]] σ=.ok (B1 v) σ:=λa=>by
   unfold zC;dsimp only;have:nb nc (ia 0) (eC (.int 0)) (some (B1 v)::a) σ=.ok (.int v) σ:=by simp[b]
   rw[cn,jD this,ge];rfl
  have m:=l [some (VW u v),some (.Ca [.Ca [R1 v]]),none] rfl rfl;unfold jk oU;generalize VW u v=V,R1 v=R,B1 v=B at *;simp[q,m,o,e,-Uu]
 unfold ek PV;generalize VW u v=V,B1 v=B at *;simp[p,b]
end
def aV(u v:Int):Kv:=[(.inl 0,acc u v)]
theorem YU(u v:Int):cl (acc u v)=true:=by unfold acc;simp[qu]
section
variable(u v:Int)(σ:xb)
theorem wH:Qp σ (acc u v)=some (11,([("pot",.int 0),("side",.int 1),("mine",Md u v),("grant",.Mc),("may",.Ca [Md u v]),("strikes",.Ca [])]:List (qa × D))):=mC rfl
theorem xR:gd [7,8,10,11,12,13] "side" (acc u v) σ=.ok (.int 1) σ:=jl (wH u v σ) rfl rfl
theorem KJ:gd [10,11,12,13] "may" (acc u v) σ=.ok (.Ca [Md u v]) σ:=jl (wH u v σ) rfl rfl
theorem BX:gd [10,11,12,13] "strikes" (acc u v) σ=.ok (.Ca []) σ:=jl (wH u v σ) rfl rfl
theorem qY:re [acc u v,.gt ["held"]] σ=.ok (.Ca [Md u v]) σ:=by
 have m:=λσ=>KJ u v σ;have c:∀ σ,nc (.gt ["held"]) (.int 0) σ=.ok (.str "held") σ:=λσ=>nr rfl;have b:(("held" : qa) == "held")=true:=by decide
 have a:=qu u v;unfold re wJ;generalize acc u v=A,Md u v=X at *;simp[c,m,a,b]
theorem X6(g:Bool):re [acc u v,tD u v g] σ=.ok (.Ca [Md u v]) σ:=by
 have m:=λσ=>KJ u v σ;have a:=qu u v;have c:(("held" : qa) == "held")=true:=by decide
 have d:(("laid" : qa) == "held")=false:=by decide
 have f:(("laid" : qa) == "laid")=true:=by decide
 have b:∀ σ,nc (tD u v g) (.int 0) σ=.ok (.str (if g then "laid" else "held")) σ:=λσ=>by cases g<;>simp[tD,Ss,on]
 have h:g=true->∀ σ,nc (tD u v g) (.int 2) σ=.ok (Md u v) σ:=λe σ=>by subst e;simp[tD,Ss]
 unfold re wJ;generalize acc u v=A,Md u v=X,tD u v g=T at *;cases g with
 |false=>simp[b,m,a,c]
 |true=>simp[b,h,a,d,f]
end
section
variable{m:Nat}(hm:m=1\/m=2){u v:Int}{g:Bool}{s:List (Int × Int)}{kc:D}{ao:Ob}{σ:xb}(h:HS m u v g s kc ao σ)
include hm h
theorem HS.put(o:Ob):HS m u v g s kc o (σ.set (8+m) o):=⟨Mg (by omega) h.h0,Mg (by omega) h.h1,Mg (by omega) h.h2,Mg (by omega) h.h3,Mg (by omega) h.h4,λe=>Mg (by omega) (h.h5 e),Mg (by omega) h.k0,Mg (by omega) h.t0,Mg (by omega) h.kp,Mg (by omega) h.kn,YD h.ka,Mg (by omega) h.kl,Mg (by omega) h.ke,Mg (by omega) h.kf⟩
theorem uS:vd [.ref (6+m)] σ=.ok (.Ca [.int 6]) σ:=by
 have b:=k9 h;have a:=rQ (σ:=σ) (x:=.ref (7+m)) (kvs:=[(.inl 6,.bl true)]) (vs:=[6]) (by unfold Mh ti;simp[h.kn]) (by unfold Yi;simp[h.kn]) rfl (by simp);have a:uh σ (Wy [.ref (7+m)] σ)=.ok (.Ca [.int 6]) σ:=by simpa [Us]using a
 unfold vd DS;simp[b,a]
theorem VQ:Wc [.ref (6+m)] σ=.ok (.int 0) σ:=by
 have a:=JR h;unfold Wc UQ;simp[a]
theorem g5:Ee [.ref (6+m)] σ=.ok (.int 0) σ:=by
 have a:=v6 h;unfold Ee oQ;simp[a]
theorem EC{n:Nat}{d:D}{i:Int}(b:σ[n]?=some (.Ja [(.inl i,d)])):pw (.ref n) (.int i) σ=.ok d σ:=by
 have a:Yi σ (.ref n)=some [(.inl i,d)]:=by unfold Yi;simp[b]
 unfold pw;simp[Gm,a,gw]
end
theorem l5(u v:Int)(e:xb){n:Nat}(x:ti e n=some [P1 u v]):xu [.ref e.length,.int 9,.int 0,.Ca [.int 6],.ref n] (e++[.jc 14 []])=.ok .Mc (e++[.jc 14 [("every",.int 9),("last_look",.int 0),("known",.Ca [.int 6]),("pots",.Ca [P1 u v])]]):=by
 have E:=λ(l:List Nat) (t:l.contains 14=true) (f:qa) (w:D) (g:List (qa × D)) (z:g.length<1000)=>VH (ρ:=[some (.ref e.length),some (.int 9),some (.int 0),some (.Ca [.int 6]),some (.ref n)]) (σ:=e) (cs:=l) (f:=f) (d:=w) (c:=14) (fs:=g) t z;have m:∀ j,ti (e++j) n=some [P1 u v]:=λj=>by
  unfold ti;rw[Dr (ET x)]
 have q:∀ g,uh (e++[.jc 14 g]) (Yq [.Ca [.int 6]] (e++[.jc 14 g]))=.ok (.Ca [.int 6]) (e++[.jc 14 g]):=λg=>Dz (by simp) _;have A:∀ g,Gh (wj (wl (qi (ia 4))) [] (de 0) Oj (Hj (xa (nb nc (ia 0) (eC (.int 0))) (xa (Gh (Gi Yq (xa (nb nc (ia 0) (eC (.int 1))) Na))) (xa (Gi Zz (xa (nb nc (ia 0) (eC (.int 2))) Na)) Na))))) [some (.ref e.length),some (.int 9),some (.int 0),some (.Ca [.int 6]),some (.ref n)] (e++[.jc 14 g])=.ok (.Ca [P1 u v]) (e++[.jc 14 g]):=λg=>by
  have B:sw (.ref n) (e++[.jc 14 g])=.ok (.Bt n) (e++[.jc 14 g]):=by unfold sw;simp[m]
  refine iz (s:=.Bt n) (ds:=[P1 u v]) (λ_=>P1 u v) (by simp[B]) (λi j=>by
   show (ti (e++[.jc 14 g]++j) n).map _=_;rw[List.append_assoc,m];rfl) (by simp) (λd y j=>?_) (λ_ _=>by unfold P1;simp[qu,vB])
  rw[qc.mp y];have p:=λh=>Dz (xs:=[Md u v]) (by simp[qu]) h;have o:∀ h,Zz [.Ja [] []] h=.ok (.Ja [] []) h:=λh=>nr rfl;unfold P1;generalize Md u v=X at *;simp[p,o]
 have p1:Xk "every" (.int 9) ([]:List (qa × D))=([("every",.int 9)]:List (qa × D)):=rfl;have p2:∀ a b:D,Xk "last_look" b ([("every",a)]:List (qa × D))=([("every",a),("last_look",b)]:List (qa × D)):=λ_ _=>rfl;have p3:∀ a b c:D,Xk "known" c ([("every",a),("last_look",b)]:List (qa × D))=([("every",a),("last_look",b),("known",c)]:List (qa × D)):=λ_ _ _=>rfl;have p4:∀ a b c d:D,Xk "pots" d ([("every",a),("last_look",b),("known",c)]:List (qa × D))=([("every",a),("last_look",b),("known",c),("pots",d)]:List (qa × D)):=λ_ _ _ _=>rfl;have r:∀ k e,Gh (Gi Yq (xa (ia 3) Na)) k e=uh e (Gi Yq (xa (ia 3) Na) k e):=λ_ _=>rfl;unfold xu ES;generalize P1 u v=P at *;simp[E,p1,p2,p3,p4,q,A,r,-Uu]
section
variable{m:Nat}(hm:m=1\/m=2){u v:Int}{g:Bool}{s:List (Int × Int)}{σ:xb}(h:HS m u v g s (.gt ["held"]) (.Ja (aV u v)) σ)
include hm h
theorem ò:Nd [.ref (6+m),.ref (8+m)] σ=.ok (VW u v) σ:=by
 have q:8+m<σ.length:=(na.mp h.ka).1;obtain⟨a,b⟩:∃ a,a=σ.set (8+m) (.ag (aV u v)):=⟨_,rfl⟩
 have o:HS m u v g s (.gt ["held"]) (.ag (aV u v)) a:=by rw[b];exact h.put hm _
 have G:a.length=σ.length:=by rw[b,Xp]
 have c:=o.app [.Ca []];have B:=CI c;have E:=iV c;have y:=EC hm c c.kl;have z:=EC hm c c.ke;have K:=λσ=>xR u v σ;have M:=λσ=>qY u v σ;have f:=OJ (σ:=a) (xs:=[]) (d:=P1 u v) (by simp);have l:∀ e,Yy zt e (.ref a.length) (a++[.Ca []])=(e (a++[.Ca []])).bind (zt (.ref a.length)):=λe=>lG (xs:=[]) (by unfold Mh ti;simp);rw[G]at f l;have bd:BL [some (.ref (6+m)),some (.ref (8+m)),some (.ref σ.length),some (.int 0),some (acc u v)] (a++[.Ca []])=.ok (.nx [some (.ref (6+m)),some (.ref (8+m)),some (.ref σ.length),some (.int 0),some (acc u v)]) (a++[.Ca [P1 u v]]):=by
  have f:zt (.ref σ.length) [.ub [.int 1,.Ca [Md u v],.Ja [] []]] (a++[.Ca []])=.ok .Mc (a++[.Ca [P1 u v]]):=f;generalize a++[.Ca [P1 u v]]=O at *;generalize a++[Ob.Ca []]=N at *;generalize acc u v=A,Md u v=X at *;simp[B,E,y,z,K,M,l,f]
 have L:(σ++[Ob.Ca []]).set (8+m) (.ag (aV u v))=a++[.Ca []]:=by rw[b,jv _ _ q]
 have J:(a++[Ob.Ca [P1 u v]]).set (8+m) (.Ja (aV u v))=σ++[.Ca [P1 u v]]:=by
  rw[b,jv _ _ (by rw[Xp];exact q),bD,eH h.ka]
 have p:ia 1 [some (.ref (6+m)),some (.ref (8+m)),some (.ref σ.length),none,none] (σ++[.Ca []])=.ok (.ref (8+m)) (σ++[.Ca []]):=by simp
 have r:=WQ p (Dr (j:=[.Ca []]) h.ka);rw[L]at r;have t:=LK (A':=aV u v) (tg:=Hn 2 (gi (de 3) (gi (de 4) Fo))) (body:=BL) (ρ2:=[some (.ref (6+m)),some (.ref (8+m)),some (.ref σ.length),some (.int 0),some (acc u v)]) (σ2:=a++[.Ca [P1 u v]]) p (Dr (j:=[.Ca []]) h.ka) r (by
  rw[Yu (k:=1000) (d:=.ub [.int 0,acc u v]) rfl (ρ1:=[some (.ref (6+m)),some (.ref (8+m)),some (.ref σ.length),some (.int 0),some (acc u v)]) rfl,bd,ge,gn];exact Dw (k:=999) (ZQ (aV u v) _)) (Dr o.ka)
 rw[J]at t;have i:=h.app [.Ca [P1 u v]];have C:=Ň i;have D:=JR i;have F:=uS hm i;have I:=λe=>Su i (x:="words") 1 vd e rfl;have H:uh (σ++[.Ca [P1 u v]]) (Uq 14 5 xu [.int 9,.int 0,.Ca [.int 6],.ref σ.length] (σ++[.Ca [P1 u v]]))=.ok (VW u v) (σ++[.Ca [P1 u v]]):=by
  rw[dG,l5 u v (σ++[Ob.Ca [P1 u v]]) (n:=σ.length) (show ti (σ++[Ob.Ca [P1 u v]]) σ.length=some [P1 u v] by unfold ti;simp),iB,mI (by unfold P1;simp[qu,vB])];rfl
 have P:cl (VW u v)=true:=by unfold VW P1;simp[qu,vB]
 have fz:uh σ (.ok (VW u v) (σ++[.Ca [P1 u v]]))=.ok (VW u v) σ:=by
  unfold uh;dsimp only;rw[ja (by simp)];unfold VW P1 Md;simp[fz,bp]
 have w:wh 2 (vv Na) [some (.ref (6+m)),some (.ref (8+m)),none,none,none] σ=.ok (.nx [some (.ref (6+m)),some (.ref (8+m)),some (.ref σ.length),none,none]) (σ++[.Ca []]):=by simp
 unfold Nd MS;rw[zq,oD,lz];show uh σ (bq (Mb _ _ [some (.ref (6+m)),some (.ref (8+m)),none,none,none] σ))=_;rw[ai,w,ge,Zh,ai,t,ge,Zh];generalize σ++[.Ca [P1 u v]]=N at *;generalize VW u v=V at *;simp[C,D,F,I,H,fz,-dG]
theorem į:Fe [.ref (6+m)] σ=.ok (.int v) σ:=by
 have f:=ò hm h;have c:=kM h;have d:=λa=>Su h (x:="view_by") 2 Nd a rfl;have e:=λa=>Su h (x:="view") 1 We a rfl;have b:cl (VW u v)=true:=by unfold VW P1;simp[qu,vB]
 have w:=U6 u v σ;have g:We [.ref (6+m)] σ=.ok (VW u v) σ:=by
  unfold We wO;generalize VW u v=V at *;simp[f,c,d,b]
 unfold Fe MQ;generalize VW u v=V at *;simp[e,g,w]
theorem F2:Jd [.ref (6+m),.int 0] σ=.ok (acc u v) σ:=by
 have d:=kM h;have a:Yi σ (.ref (8+m))=some (aV u v):=by unfold Yi;simp[h.ka]
 have i:Bq (.int 0) (.ref (8+m)) σ=.ok (.bl false) σ:=by unfold Bq;simp only[Gm,a];rfl
 have b:pw (.ref (8+m)) (.int 0) σ=.ok (acc u v) σ:=EC hm h h.ka;have c:=YU u v;unfold Jd vO;generalize acc u v=A at *;simp[d,i,b,c]
end
theorem CU{m:Nat}{a b d:D}(h:d∈two m a b):d=a\/d=b:=by
 unfold two at h;split at h
 ·simpa using h
 ·exact .inl (by simpa using h)
section
variable(u v:Int)(g:Bool)(σ:xb)
theorem g7:nc (tD u v g) (.int 0) σ=.ok (.str (if g then "laid" else "held")) σ:=by cases g<;>simp[tD,Ss,on]
theorem y9:cg [acc u v,tD u v g] σ=.ok (.bl false) σ:=by
 have a:=λσ=>g7 u v g σ;have b:(("held" : qa) == "laid")=false:=by decide
 have c:(("laid" : qa) == "laid")=true:=by decide
 have j:g=true->∀ σ,nc (tD u v g) (.int 1) σ=.ok (.int 0) σ:=λe σ=>by subst e;simp[tD,Ss]
 have k:g=true->∀ σ,nc (tD u v g) (.int 2) σ=.ok (Md u v) σ:=λe σ=>by subst e;simp[tD,Ss]
 have l:∀ σ,nc (Md u v) (.int 0) σ=.ok (.int 0) σ:=λσ=>by simp[Md]
 have h:=λσ=>xR u v σ;have i:=λσ=>BX u v σ;have d:∀ σ,IH false (.int 0) (.Ca []) σ=.ok (.bl false) σ:=λσ=>rfl;have f:∀ σ,xr (.int 0) (.int 1) σ=.ok (.bl true) σ:=λσ=>by simp
 unfold cg FV;generalize acc u v=A,Md u v=X,tD u v g=T at *;cases g with
 |false=>simp[a,b]
 |true=>simp[a,j,k,l,c,h,i,d,f]
theorem zr4:Yh [acc u v,tD u v g] σ=.ok (.Ca []) σ:=by
 have k:=λσ=>X6 u v σ g;have m:∀ σ,nc (Md u v) (.int 2) σ=.ok (.ub []) σ:=λσ=>by simp[Md]
 have l:∀ (b:Ev) (a:xb),b[3]?=some (some (Md u v))->Gh (wj (wl (qi (nb nc (ia 3) (eC (.int 2))))) [0] (de 0) (eT (nb xr (nb nc (ia 0) (eC (.int 0))) (Qd (gd [7,8,10,11,12,13] "side") (ia 2)))) (ia 0)) b a=.ok (.Ca []) a:=λb a f=>by
  have e:ia 3 b a=.ok (Md u v) a:=by unfold ia;rw[f]
  exact YV (ds:=[]) (λd=>d) (λ_=>true) (s:=.seq []) (by simp[e,m]) (λ_ _=>rfl) (by simp) (λ_ h=>by cases h) (λ_ h=>by cases h)
 have ex:=XO (σ:=σ) (ys:=[]) (zs:=[]) (by simp);have j:∀ c,Yy cy c (.ref σ.length) (σ++[.Ca []])=(c (σ++[.Ca []])).bind (cy (.ref σ.length)):=λc=>lG (xs:=[]) (by unfold Mh ti;simp);have fz:=Jw (σ:=σ) (xs:=[]) rfl;have i:=l [some (acc u v),some (tD u v g),some (.ref σ.length),some (Md u v)] (σ++[.Ca []]) rfl;unfold Yh bP;generalize acc u v=A,Md u v=X,tD u v g=T at *;simp[k,i,j,ex,fz,-Uu]
end
section
variable{m:Nat}(hm:m=1\/m=2){u v:Int}{g:Bool}{s:List (Int × Int)}{kc:D}{σ:xb}(h:HS m u v g s kc (.Ja (aV u v)) σ)
include hm h
theorem zS(r:Ev):Qd (gd [15] "accounts") (ia 0) (some (.ref (6+m))::r) σ=.ok (.ref (8+m)) σ:=by
 have:=kM h;simp[this]
theorem ZJ{tg:D->Ev->Option Ev}{body:Ev->M Fl}{r ρ1 ρ2:Ev}{x:Ob}(j:tg (.ub [.int 0,acc u v]) (some (.ref (6+m))::r)=some ρ1)(i:∀ a,HS m u v g s kc (.ag (aV u v)) a->body ρ1 a=.ok (.nx ρ2) a):bz (Qd (gd [15] "accounts") (ia 0)) (Jt (CB (Qd (gd [15] "accounts") (ia 0))) tg body) (some (.ref (6+m))::r) (σ++[x])=.ok (.nx ρ2) (σ++[x]):=by
 have b:=h.app [x];have c:=b.put hm (.ag (aV u v));have e:=zS hm b r;have f:=LK (A':=aV u v) (tg:=tg) (body:=body) (ρ2:=ρ2) (σ2:=(σ++[x]).set (8+m) (.ag (aV u v))) e b.ka (WQ e b.ka) (by
  rw[Yu (k:=1000) (d:=.ub [.int 0,acc u v]) rfl j,i _ c,ge,gn];exact Dw (k:=999) (ZQ (aV u v) _)) c.ka
 rw[bD,eH b.ka]at f;exact f
theorem rZ:wc [.ref (6+m),.Ca []] σ=.ok .Mc σ:=by
 unfold wc VM;simp
theorem HS.cla(d:D):HS m u v g s d (.Ja (aV u v)) (σ.set (9+m) (.Ja [(.inl 0,d)])):=⟨Mg (by omega) h.h0,Mg (by omega) h.h1,Mg (by omega) h.h2,Mg (by omega) h.h3,Mg (by omega) h.h4,λe=>Mg (by omega) (h.h5 e),Mg (by omega) h.k0,Mg (by omega) h.t0,Mg (by omega) h.kp,Mg (by omega) h.kn,Mg (by omega) h.ka,YD h.kl,Mg (by omega) h.ke,Mg (by omega) h.kf⟩
end
section
variable{m:Nat}(hm:m=1\/m=2){u v:Int}{g:Bool}{s:List (Int × Int)}{σ:xb}(h:HS m u v g s (tD u v g) (.Ja (aV u v)) σ)
include hm h
theorem n9:Lc [.ref (6+m),.ref 1] σ=.ok (.Ca []) σ:=by
 have f:=h.app [.Ca []];have q:=ydn hm f;have t:=λl=>lq f (x:="made_of") 1 Lb l rfl;have c:∃ W,Gh (wj (wl (qi (Df [(9,Lb)] 1 "made_of" (ia 1) Na))) [] (de 0) Oj (nb nc (ia 0) (eC (.int 4)))) [some (.ref (6+m)),some (.ref 1),some (.ref σ.length),none,none,none,none] (σ++[.Ca []])=.ok W (σ++[.Ca []]):=by
  refine⟨_,iz (s:=.seq (two m (pD u v) qD)) (ds:=two m (pD u v) qD) (λd=>match d with | .ub [_,_,_,_,x]=>x|_=>.Mc) (by
   have w:∀ σ,sw (PL m u v) σ=.ok (.seq (two m (pD u v) qD)) σ:=λσ=>RH _;generalize PL m u v=L at *;simp[q,t,w]) (λ_ _=>rfl) (by unfold two;split<;>simp) (λd b j=>?_) (λd b=>?_)⟩
  ·rcases CU b with rfl|rfl
   ·simp[pD,WH]
   ·simp[qD,WH]
  ·rcases CU b with rfl|rfl<;>rfl
 obtain⟨W,c⟩:=c;have y:=ZJ hm h (x:=.Ca []) (tg:=Hn 2 (gi (de 4) (gi (de 5) Fo))) (body:=VT) (r:=[some (.ref 1),some (.ref σ.length),some W,none,none,none]) (ρ1:=[some (.ref (6+m)),some (.ref 1),some (.ref σ.length),some W,some (.int 0),some (acc u v),none]) (ρ2:=[some (.ref (6+m)),some (.ref 1),some (.ref σ.length),some W,some (.int 0),some (acc u v),some (tD u v g)]) rfl λe a=>by
  have p:=CI a;have n:=EC hm a a.kl;have o:=y9 u v g e;generalize acc u v=A,tD u v g=T at *;simp[p,n,o]
 have fz:=Jw (σ:=σ) (xs:=[]) rfl;have i:wh 2 (vv Na) [some (.ref (6+m)),some (.ref 1),none,none,none,none,none] σ=.ok (.nx [some (.ref (6+m)),some (.ref 1),some (.ref σ.length),none,none,none,none]) (σ++[.Ca []]):=by simp
 have k:wh 3 (Gh (wj (wl (qi (Df [(9,Lb)] 1 "made_of" (ia 1) Na))) [] (de 0) Oj (nb nc (ia 0) (eC (.int 4))))) [some (.ref (6+m)),some (.ref 1),some (.ref σ.length),none,none,none,none] (σ++[.Ca []])=.ok (.nx [some (.ref (6+m)),some (.ref 1),some (.ref σ.length),some W,none,none,none]) (σ++[.Ca []]):=by
  simp[c,-Uu]
 unfold Lc gW;rw[zq,oD,lz];show uh σ (bq (Mb _ _ [some (.ref (6+m)),some (.ref 1),none,none,none,none,none] σ))=_;rw[ai,i,ge,Zh,ai,k,ge,Zh,ai,y,ge,Zh];simp[fz]
theorem m7:pd [.ref (6+m),.ref 1] σ=.ok (.Ca []) σ:=by
 have f:=ZJ hm h (x:=.Ca []) (tg:=Hn 2 (gi (de 3) (gi (de 4) Fo))) (body:=IS) (r:=[some (.ref 1),some (.ref σ.length),none,none,none]) (ρ1:=[some (.ref (6+m)),some (.ref 1),some (.ref σ.length),some (.int 0),some (acc u v),none]) (ρ2:=[some (.ref (6+m)),some (.ref 1),some (.ref σ.length),some (.int 0),some (acc u v),none]) rfl λb a=>by
  have e:=CI a;have d:=EC hm a a.kl;have i:=zr4 u v g b;generalize acc u v=A,tD u v g=T at *;simp[e,d,i]
 have fz:=Jw (σ:=σ) (xs:=[]) rfl;have c:wh 2 (vv Na) [some (.ref (6+m)),some (.ref 1),none,none,none,none] σ=.ok (.nx [some (.ref (6+m)),some (.ref 1),some (.ref σ.length),none,none,none]) (σ++[.Ca []]):=by simp
 unfold pd US;rw[zq,oD,lz];show uh σ (bq (Mb _ _ [some (.ref (6+m)),some (.ref 1),none,none,none,none] σ))=_;rw[ai,c,ge,Zh,ai,f,ge,Zh];simp[fz]
theorem yda:Od [.ref (6+m),.ref 1] σ=.ok (.Ca []) σ:=by
 have g:=ZJ hm h (x:=.Ca []) (tg:=Hn 2 (gi (de 3) (gi (de 4) Fo))) (body:=jS) (r:=[some (.ref 1),some (.ref σ.length),none,none]) (ρ1:=[some (.ref (6+m)),some (.ref 1),some (.ref σ.length),some (.int 0),some (acc u v)]) (ρ2:=[some (.ref (6+m)),some (.ref 1),some (.ref σ.length),some (.int 0),some (acc u v)]) rfl λa b=>by
  have f:=mY b;have e:BC (.int 0) (.ref (12+m)) a=.ok (.bl false) a:=by
   have d:Yi a (.ref (12+m))=some []:=by unfold Yi;simp[b.kf]
   unfold BC;simp only[Gm,d];rfl
  generalize acc u v=A at *;simp[f,e]
 have fz:=Jw (σ:=σ) (xs:=[]) rfl;have c:wh 2 (vv Na) [some (.ref (6+m)),some (.ref 1),none,none,none] σ=.ok (.nx [some (.ref (6+m)),some (.ref 1),some (.ref σ.length),none,none]) (σ++[.Ca []]):=by simp
 unfold Od rP;rw[zq,oD,lz];show uh σ (bq (Mb _ _ [some (.ref (6+m)),some (.ref 1),none,none,none] σ))=_;rw[ai,c,ge,Zh,ai,g,ge,Zh];simp[fz]
end
theorem rJ{a:xb}{n c:Nat}{b:List (qa × D)}(h:a[n]?=some (.jc c b)){cs:List Nat}(i:cs.contains c=true)(j:b.length<1000)(g:Ev)(f:qa)(d:D):Zv g cs f d (.ref n) a=.ok (.nx g) (a.set n (.jc c (Xk f d b))):=by
 have e:iA cs f d (.ref n) a=.ok () (a.set n (.jc c (Xk f d b))):=by
  unfold iA;simp only[h];rw[ja (by rw[i];simpa using j)]
 unfold Zv;rw[e]
theorem TJ{a:xb}{n:Nat}{o:Ob}(h:a[n]?=some o):uh a (.ok (.ref n) a)=.ok (.ref n) a:=by
 have b:=(na.mp h).1;unfold uh;dsimp only;rw[ja zj];have:fz a.length a 6 (.ref n)=some (.ref n):=by
  unfold fz;rw[ua (by simp)];dsimp only;rw[ja b]
 rw[this]
section
variable{m:Nat}(hm:m=1\/m=2){u v:Int}{g:Bool}{s:List (Int × Int)}{kc:D}{ao:Ob}{σ:xb}(h:HS m u v g s kc ao σ)
include hm h
theorem HS.bR(d:D):HS m u v g s d ao (σ.set (9+m) (.Ja [(.inl 0,d)])):=⟨Mg (by omega) h.h0,Mg (by omega) h.h1,Mg (by omega) h.h2,Mg (by omega) h.h3,Mg (by omega) h.h4,λe=>Mg (by omega) (h.h5 e),Mg (by omega) h.k0,Mg (by omega) h.t0,Mg (by omega) h.kp,Mg (by omega) h.kn,Mg (by omega) h.ka,YD h.kl,Mg (by omega) h.ke,Mg (by omega) h.kf⟩
theorem ź(l:s=[]):KL [some (.ref (6+m)),some (.ref 1),some (.int 0)] σ=.ok (.nx [some (.ref (6+m)),some (.ref 1),some (.int 0)]) (σ.set (9+m) (.Ja [(.inl 0,tD u v g)])):=by
 have c:=kN hm h (i:=0) (by omega);rw[ja rfl]at c;have c:Gb [.ref 1,.int 0] σ=.ok (tD u v g) σ:=c;have p:=λe=>lq h (x:="told") 2 Gb e rfl;have kc:=CI h;have j:=λa=>Cz (ρ:=a) (d:=tD u v g) (w:=0) h.kl (by simp);have j:∀ a,Qu a (tD u v g) (.ref (9+m)) (.int 0) σ=.ok (.nx a) (σ.set (9+m) (.Ja [(.inl 0,tD u v g)])):=j;have b:=h.bR hm (tD u v g);generalize σ.set (9+m) (.Ja [(.inl 0,tD u v g)])=k at *;have q:=WW hm b l;have o:=λe=>lq b (x:="shown_for") 2 Pd e rfl;have n:=iV b;have f:=λa=>Cz (ρ:=a) (d:=.Ja [] []) (w:=0) b.ke (by simp);have f:∀ a,Qu a (.Ja [] []) (.ref (10+m)) (.int 0) k=.ok (.nx a) k:=λa=>(f a).trans (by
  show Nm.ok _ (k.set (10+m) (.Ja [(.inl 0,.Ja [] [])]))=_;rw[eH b.ke])
 generalize tD u v g=T at *;simp[c,p,kc,j,q,o,n,f]
theorem NL:Bb [.ref 0,.int 1] σ=.ok (.ref (6+m)) σ:=by
 have d:=dM h;have a:Yi σ (.ref (4+m))=some [(.inl 1,.ref (6+m))]:=by unfold Yi;simp[h.k0]
 have i:Bq (.int 1) (.ref (4+m)) σ=.ok (.bl false) σ:=by unfold Bq;simp only[Gm,a];rfl
 have c:pw (.ref (4+m)) (.int 1) σ=.ok (.ref (6+m)) σ:=EC hm h h.k0;have b:=TJ h.kp;unfold Bb EJ;simp[d,i,c,b]
theorem lU{w:Int}(b:w≠1):Bq (.int w) (.ref (4+m)) σ=.ok (.bl true) σ:=by
 have a:Yi σ (.ref (4+m))=some [(.inl 1,.ref (6+m))]:=by unfold Yi;simp[h.k0]
 have:¬ (Sum.inl 1:gc)=Sum.inl w:=λz=>b (Qt z).symm;unfold Bq;simp[Gm,a,gw,this]
theorem AN{w:Int}(a:w≠1):Bb [.ref 0,.int w] σ=.ex ⟨2⟩ σ:=by
 have b:=dM h;have i:=lU hm h a;unfold Bb EJ;simp[b,i]
theorem EM(p:Int):Rc [.ref 0,.int p] σ=.ok (.bl (decide (0<=p/\p<m))) σ:=by
 have a:=VU h;have l:=λσ=>CM hm u v σ;have b:Ab [.int p,.int 0,.int (m - 1)] σ=.ok (.bl (decide (0<=p/\p<m))) σ:=by
  by_cases e:0<=p/\p<m
  ·rw[ci e];exact bt (by omega) σ
  ·rw[yd e];exact bf (by omega) σ
 unfold Rc GT;generalize PL m u v=L at *;generalize decide (0<=p/\p<m)=B at *;simp[a,l,b]
theorem HZ{p w:Int}(f:¬ (0<=p/\p<m)\/(w≠0/\w≠1)):Sa [.ref 0,.int p,.int w] σ=.ok (.bl false) σ:=by
 have a:=EM hm h p;have b:=λc=>Zj h (x:="has_pot") 2 Rc c rfl;unfold Sa xM;by_cases e:0<=p/\p<m
 ·rw[ci e]at a;have d:=w5 (s:=w) (by omega) σ;simp[a,b,d]
 ·rw[yd e]at a;simp[a,b]
theorem YP(w:Int)(a:w=0\/w=1):Sa [.ref 0,.int 0,.int w] σ=.ok (.bl (decide (w=0))) σ:=by
 have b:=EM hm h 0;rw[ci (by omega)]at b;have j:=λd=>Zj h (x:="has_pot") 2 Rc d rfl;have l:=NH a σ;have e:=VU h;have i:=dM h;have g:nc (PL m u v) (.int 0) σ=.ok (pD u v) σ:=by rcases hm with rfl|rfl<;>rfl
 have f:nc (pD u v) (.int w) σ=.ok (.int w) σ:=by
  rcases a with rfl|rfl
  ·exact p0 u v σ
  ·exact p1 u v σ
 have k:Bq (.int w) (.ref (4+m)) σ=.ok (.bl (decide (w=0))) σ:=by
  rcases a with rfl|rfl
  ·exact lU hm h (by omega)
  ·have c:Yi σ (.ref (4+m))=some [(.inl 1,.ref (6+m))]:=by unfold Yi;simp[h.k0]
   unfold Bq;simp only[Gm,c];rfl
 unfold Sa xM;generalize PL m u v=L,pD u v=P,decide (w=0)=B at *;simp[b,j,l,e,i,g,f,k]
theorem BQ{p w:Int}(c:¬ (0<=p/\p<m)\/(w≠0/\w≠1)):Oa [.ref 0,.int p,.int w] σ=.ex ⟨2⟩ σ:=by
 have a:=HZ hm h c;have d:=λb=>Zj h (x:="is_side_of_band") 3 Sa b rfl;unfold Oa EL;simp[a,d]
theorem K0{p w:Int}(X:D)(c:¬ (0<=p/\p<m)\/(w≠0/\w≠1)):Vd [.ref 0,.int p,.int w,X] σ=.ex ⟨2⟩ σ:=by
 have a:=BQ hm h c;have d:=λb=>Zj h (x:="check_side_of_band") 3 Oa b rfl;unfold Vd ZM;simp[a,d]
theorem WZ{p w:Int}(c:¬ (0<=p/\p<m)\/(w≠0/\w≠1)):Ye [.ref 0,.int p,.int w] σ=.ex ⟨2⟩ σ:=by
 have a:=BQ hm h c;have d:=λb=>Zj h (x:="check_side_of_band") 3 Oa b rfl;unfold Ye KU;simp[a,d]
theorem QQ:Yb [.ref 0,.ub [.str "word",.int 5]] σ=.ok (.bl true) σ:=by
 have a:=IP h;have o:Vz (.ub [.str "word",.int 5]) (.ref (5+m)) σ=.ok (.bl true) σ:=by
  have kd:Dv [.str "word",.int 5]=some (tg 5):=rfl;unfold Vz;simp[kd,h.t0]
 unfold Yb fL;simp[a,o]
theorem J0:Yb [.ref 0,.ub [.str "agree",.int 0,.int 1,Md u v]] σ=.ok (.bl false) σ:=by
 have e:=IP h;have a:=YP hm h 1 (.inr rfl);have f:=λc=>Zj h (x:="is_side_of_band") 3 Sa c rfl;have b:(("agree" : qa) == "word")=false:=by decide
 have o:Vz (.ub [.str "agree",.int 0,.int 1,Md u v]) (.ref (5+m)) σ=.ok (.bl false) σ:=by
  have kd:Dv [.str "agree",.int 0,.int 1,Md u v]=none:=rfl;unfold Vz;simp only[kd,h.t0];rw[ja ⟨by simp[BE,Gm,Md],.str "agree",[.int 0,.int 1,Md u v],.inr "agree",rfl,rfl,λk d=>by
   rw[qc.mp d];intro z;have z:=rA (Ya z);exact absurd z (by decide)⟩]
 unfold Yb fL;generalize Md u v=X at *;simp[e,o,b,a,f]
theorem bX{p:Int}(d:¬ (0<=p/\p<m)):ce [.ref 0,.int p,.int 5] σ=.ex ⟨2⟩ σ:=by
 have c:=QQ hm h;have e:=λa=>Zj h (x:="band_can") 2 Yb a rfl;have i:=Lz h;have g:=λa=>lq h (x:="show") 3 Be a rfl;have b:=Ú hm h d;have f:=λa=>lq h (x:="check_pot") 2 Ta a rfl;have j:Be [.ref 1,.int p,.int 5] σ=.ex ⟨2⟩ σ:=by
  unfold Be IL;simp[b,f]
 unfold ce IM;simp[c,e,i,g,j]
theorem Ο(p:s=[]):∃ f,ce [.ref 0,.int 0,.int 5] σ=.ok .Mc f/\HS m u v g [(5,0)] kc ao f:=by
 subst p;have c:=QQ hm h;have r:=λa=>Zj h (x:="band_can") 2 Yb a rfl;have A:=Lz h;have y:=λa=>lq h (x:="show") 3 Be a rfl;have n:=SE hm h (i:=0) (by omega);have t:=λa=>lq h (x:="check_pot") 2 Ta a rfl;have k:=zH h;have j:=zI h;have q:nc (.ref 3) (.int 0) σ=.ok (.ref 4) σ:=yes (i:=0) h.h3 (by rcases hm with rfl|rfl<;>rfl);have C:=MU σ;have z:Bq (.int 5) (.ref 4) σ=.ok (.bl true) σ:=by
  have o:Yi σ (.ref 4)=some []:=by unfold Yi;simp[h.h4,BA]
  unfold Bq;simp only[Gm,o];rfl
 have l:=λb=>Cz (ρ:=b) (d:=.int 0) (w:=5) h.h4 (by simp[BA]);have l:∀ b,Qu b (.int 0) (.ref 4) (.int 5) σ=.ok (.nx b) (σ.set 4 (.Ja (BA [(5,0)]))):=l;refine⟨σ.set 4 (.Ja (BA [(5,0)])),?_,⟨Mg (by omega) h.h0,Mg (by omega) h.h1,Mg (by omega) h.h2,Mg (by omega) h.h3,YD h.h4,λe=>Mg (by omega) (h.h5 e),Mg (by omega) h.k0,Mg (by omega) h.t0,Mg (by omega) h.kp,Mg (by omega) h.kn,Mg (by omega) h.ka,Mg (by omega) h.kl,Mg (by omega) h.ke,Mg (by omega) h.kf⟩⟩;generalize σ.set 4 (.Ja (BA [(5,0)]))=D at *;have B:Be [.ref 1,.int 0,.int 5] σ=.ok .Mc D:=by
  unfold Be IL;simp[n,t,C,k,j,q,z,l]
 unfold ce IM;simp[c,r,A,y,B]
end
section
variable{m:Nat}(hm:m=1\/m=2){u v:Int}(P:Pu u v){s:List (Int × Int)}{kc:D}{ao:Ob}{σ:xb}(h:HS m u v false s kc ao σ)
include hm P h
theorem CT:∃ f,Vd [.ref 0,.int 0,.int 0,Md u v] σ=.ok .Mc f/\HS m u v true s kc ao f:=by
 have a:=YP hm h 0 (.inl rfl);have I:=λb=>Zj h (x:="is_side_of_band") 3 Sa b rfl;have y:Oa [.ref 0,.int 0,.int 0] σ=.ok .Mc σ:=by
  unfold Oa EL;simp[a,I]
 have J:=λb=>Zj h (x:="check_side_of_band") 3 Oa b rfl;have T:=λσ=>fE P σ;have O:=λσ=>ŵ 0 σ;have t:=J0 hm h;have l:=λb=>Zj h (x:="band_can") 2 Yb b rfl;have Q:=Lz h;have M:=λb=>lq h (x:="lay") 5 Pg b rfl;have w:=SE hm h (i:=0) (by omega);have K:=λb=>lq h (x:="check_pot") 2 Ta b rfl;have R:∀ σ,zg [.int 0] σ=.ok .Mc σ:=λσ=>by
  have:=NH (.inl rfl:(0:Int)=0\/(0:Int)=1) σ;unfold zg dQ;simp[this]
 have p:=EE h;have q:∀ σ,nc (PL m u v) (.int 0) σ=.ok (pD u v) σ:=λσ=>by rcases hm with rfl|rfl<;>rfl
 have U:∀ σ,Dd [pD u v] σ=.ok (.int (u+v)) σ:=λσ=>by unfold Dd eI pD;simp
 have S:=λσ=>GX P σ;have C:∀ σ,ui [.int u,.int v] σ=.ok (Md u v) σ:=λσ=>IR P σ;have D:=λσ=>p2 u v σ;have E:=λσ=>p3 u v σ;have F:=λσ=>p4 u v σ;have o:=GK h;have bd:=zI h;have z:nc (.ref 2) (.int 0) σ=.ok (HD (u+v)) σ:=yes (i:=0) h.h2 (by rcases hm with rfl|rfl<;>rfl);have j:∀ σ,bC (ut [(6,true),(7,false),(8,false),(9,false),(11,false),(12,false),(13,false),(14,false),(15,false),(16,false)]) (HD (u+v)) σ=.ok (.bl true) σ:=λσ=>x8 (mC rfl) rfl;have B:∀ σ,sh (Md u v) (Md u v) σ=.ok (.bl true) σ:=λσ=>WL (by simp[pl,Md]);have k:Ae [.ref 1,.int 0,.int 0,Md u v,.Mc] σ=.ok (.bl true) σ:=by
  unfold Ae PP;generalize HD (u+v)=H,Md u v=X,PL m u v=L,pD u v=r at *;simp[o,z,j,p,q,D,E,C,B]
 have N:=λb=>lq h (x:="may_lie") 5 Ae b rfl;have n:=λσ=>Y8 u v σ;have g:=λc=>zx3 (ρ:=c) (d:=LD u v) (i:=0) h.h2 (by unfold two;split<;>simp);have A:(two m (cD u v false) (HD 9)).set 0 (LD u v)=two m (cD u v true) (HD 9):=by rcases hm with rfl|rfl<;>rfl
 rw[A]at g;have g:∀ c,xC c (LD u v) (.ref 2) (.int 0) σ=.ok (.nx c) (σ.set 2 (.Ca (two m (cD u v true) (HD 9)))):=g;refine⟨σ.set 2 (.Ca (two m (cD u v true) (HD 9))),?_,⟨Mg (by omega) h.h0,Mg (by omega) h.h1,YD h.h2,Mg (by omega) h.h3,Mg (by omega) h.h4,λe=>Mg (by omega) (h.h5 e),Mg (by omega) h.k0,Mg (by omega) h.t0,Mg (by omega) h.kp,Mg (by omega) h.kn,Mg (by omega) h.ka,Mg (by omega) h.kl,Mg (by omega) h.ke,Mg (by omega) h.kf⟩⟩;generalize σ.set 2 (.Ca (two m (cD u v true) (HD 9)))=V at *;have G:Pg [.ref 1,.int 0,.int 0,Md u v,.Mc] σ=.ok .Mc V:=by
  unfold Pg kP;generalize LD u v=Y,Md u v=X,PL m u v=L,pD u v=r,u+v=W at *;simp[w,K,R,p,q,U,S,k,N,bd,F,n,o,g,-yU]
 unfold Vd ZM;generalize Md u v=X at *;simp[y,J,T,O,t,l,Q,M,G]
end
section
variable{m:Nat}(hm:m=1\/m=2){u v:Int}{g:Bool}{kc:D}{σ:xb}(h:HS m u v g [] kc (.Ja (aV u v)) σ)
include hm h
theorem á:∃ e,ae [.ref 0,.int 1] σ=.ok (.Ca []) e/\HS m u v g [] (tD u v g) (.Ja (aV u v)) e:=by
 have K:=η hm h;have E:=λa=>lq h (x:="today") 1 uf a rfl;have o:=λc=>rJ h.kp (cs:=[14,15]) rfl (by simp[RE]) c "last_look" (.int 0);have o:∀ c,Zv c [14,15] "last_look" (.int 0) (.ref (6+m)) σ=.ok (.nx c) σ:=λc=>(o c).trans (by
  show Nm.ok _ (σ.set (6+m) (.jc 15 (RE m)))=_;rw[eH h.kp])
 have q:=h.put hm (.ag (aV u v));have A:=ź hm q rfl;have p:=q.bR hm (tD u v g);have r:=zS hm h [some (.ref 1),none];have J:UM (Qd (gd [15] "accounts") (ia 0)) [some (.ref (6+m)),some (.ref 1),none] σ=.ok (oE (aV u v)) (σ.set (8+m) (.ag (aV u v))):=by
  show Ld _ WG _=_;rw[cn,r,ge];unfold WG;simp only[h.ka]
 have L:=LK (A':=aV u v) (tg:=de 2) (body:=KL) (ρ2:=[some (.ref (6+m)),some (.ref 1),some (.int 0)]) r h.ka J (by
  rw[Yu (k:=1000) (d:=.int 0) rfl (ρ1:=[some (.ref (6+m)),some (.ref 1),some (.int 0)]) rfl,A,ge,gn];exact Dw (k:=999) rfl) p.ka
 have b:=p.put hm (.Ja (aV u v));generalize ((σ.set (8+m) (.ag (aV u v))).set (9+m) (.Ja [(.inl 0,tD u v g)])).set (8+m) (.Ja (aV u v))=f at *;refine⟨f,?_,b⟩;have t:=GS hm b rfl;have i:=λa=>lq b (x:="all_shown") 1 vc a rfl;have y:=rZ hm b;have l:=λa=>Su b (x:="learn") 2 wc a rfl;have G:=n9 hm b;have H:=m7 hm b;have I:=yda hm b;have B:=λa=>Su b (x:="strike_all") 2 Lc a rfl;have C:=λa=>Su b (x:="show_all") 2 pd a rfl;have D:=λa=>Su b (x:="lay_all") 2 Od a rfl;have s:vl (.Ca []) (.Ca []) f=.ok (.Ca []) f:=AF (by simp[zi]);have z:Xe [.ref (6+m),.ref 1] σ=.ok (.Ca []) f:=by
  unfold Xe UP;rw[zq,lz];show bq (Mb _ _ [some (.ref (6+m)),some (.ref 1),none] σ)=_;rw[ai];simp only[az,jF,fx,ar,ge,E,Hx,zE,K,nk,Xy,o,Zh];rw[ai,L,ge,Zh];simp[t,i,y,l,G,H,I,B,C,D,s]
 have w:=NL hm h;have j:=λa=>Zj h (x:="keeper") 2 Bb a rfl;have F:=Lz h;have n:=λa=>Su h (x:="look") 2 Xe a rfl;unfold ae HN;simp[w,j,F,n,z]
end
def AG(p u v:Int):D:=.ub [.str "agree",.int p,.int 0,Md u v]
noncomputable def SK(p:Int):D:=.ub [.str "strike",.int p,.int 0,.int 0]
def LT(p u v:Int):Nat->D
 |0=>.ub [.str "offer",.int p,AG p u v]
 |1=>.ub [.str "accept",.int p,AG p u v,SK p]
 |2=>.ub [.str "struck",.int p,SK p]
 |3=>.ub [.str "ask",.int p,.ub [.int u,.int v],.ub []]
 |_=>.ub [.str "word",.int p,.int 5]
theorem j4:(("agree" : qa) == "word")=false:=by decide
theorem Ĥ:(("agree" : qa) == "strike")=false:=by decide
theorem W2:(("strike" : qa) == "word")=false:=by decide
theorem PX:(("accept" : qa) == "offer")=false:=by decide
theorem ļ:(("struck" : qa) == "offer")=false:=by decide
theorem Δ:(("struck" : qa) == "accept")=false:=by decide
theorem à:(("ask" : qa) == "offer")=false:=by decide
theorem JZ:(("ask" : qa) == "accept")=false:=by decide
theorem G2:(("ask" : qa) == "struck")=false:=by decide
theorem ĥ:(("word" : qa) == "offer")=false:=by decide
theorem Ų:(("word" : qa) == "accept")=false:=by decide
theorem YZ:(("word" : qa) == "struck")=false:=by decide
theorem Ó:(("word" : qa) == "ask")=false:=by decide
section
variable{p u v:Int}(hp:0<=p/\p<=2)(P:Pu u v)(σ:xb)
include hp P
theorem yqi:Qg [AG p u v] σ=.ok (.bl true) σ:=by
 have a:=λσ=>fE P σ;have b:=λσ=>NH (.inl rfl:(0:Int)=0\/(0:Int)=1) σ;have c:=λσ=>gL hp σ;have d:∀ X σ,Wd [.ub [.str "agree",.int p,.int 0,X]] σ=.ok (.bl true) σ:=λX σ=>by
  unfold Wd MJ;simp[b,c]
 have t:zf [.ub [.str "agree",.int p,.int 0,Md u v]] σ=.ok (.bl true) σ:=by
  unfold zf uJ;generalize Md u v=X at *;simp[a,d,j4,Ĥ]
 unfold Qg XS AG;generalize Md u v=X at *;simp[t]
theorem Y6:ug [SK p] σ=.ok (.bl true) σ:=by
 have a:=λσ=>KP σ;have b:=λσ=>NH (.inl rfl:(0:Int)=0\/(0:Int)=1) σ;have c:=λσ=>gL hp σ;have d:∀ X σ,Wd [.ub [.str "strike",.int p,.int 0,X]] σ=.ok (.bl true) σ:=λX σ=>by
  unfold Wd MJ;simp[b,c]
 have t:zf [.ub [.str "strike",.int p,.int 0,.int 0]] σ=.ok (.bl true) σ:=by
  unfold zf uJ;simp[a,d,W2]
 unfold ug JS SK;simp[t]
theorem FZ(k:Nat):sg [LT p u v k] σ=.ok (.bl true) σ:=by
 have a:=λσ=>yqi hp P σ;have b:=λσ=>Y6 hp P σ;have c:∀ σ,cf [.ub [.int 0,.ub [.int u,.int v],.ub []]] σ=.ok (.bl true) σ:=λσ=>fE P σ;have w:=λσ=>MU σ;have f:=λσ=>gL hp σ;have d:∀ (x:qa) (r:List D),Xc [.ub (.str x::.int p::r)] σ=.ok (.bl true) σ->0<r.length->sg [.ub (.str x::.int p::r)] σ=.ok (.bl true) σ:=λx r e i=>by
  have g:Ll [.ub (.str x::.int p::r)] σ=.ok (.int (r.length+2)) σ:=by rw[aZ];simp;omega
  have h:decide ((r.length:Int)+2<3)=false:=by simp;omega
  unfold sg aS;simp[f,e,g,h]
 match k with
 |0=>
  refine d _ _ ?_ (by simp);unfold Xc MC;generalize AG p u v=A at *;simp[a]
 |1=>
  refine d _ _ ?_ (by simp);unfold Xc MC;generalize AG p u v=A,SK p=B at *;simp[a,b,PX]
 |2=>
  refine d _ _ ?_ (by simp);unfold Xc MC;generalize SK p=B at *;simp[b,ļ,Δ]
 |3=>
  refine d _ _ ?_ (by simp);unfold Xc MC;simp[c,à,JZ,G2]
 |n+4=>
  refine d _ _ ?_ (by simp);unfold Xc MC;simp[w,ĥ,Ų,YZ,Ó]
theorem jY{k:Nat}(j:k<=4):ud [.int k,.int p,Md u v] σ=.ok (LT p u v k) σ:=by
 have h:∀ σ,nc (Md u v) (.int 1) σ=.ok (.ub [.int u,.int v]) σ:=λσ=>by simp[Md]
 have i:∀ σ,nc (Md u v) (.int 2) σ=.ok (.ub []) σ:=λσ=>by simp[Md]
 have g:=qu u v;have f:∀ a b c d e:D,vl (.Ca [a,b,c]) (.Ca [d,e]) σ=.ok (.Ca [a,b,c,d,e]) σ:=λa b c d e=>AF (by simp[zi]);unfold ud RQ
 match k,j with
 |0,_=>unfold LT AG;generalize Md u v=X at *;simp[h,i,f,g]
 |1,_=>unfold LT AG SK;generalize Md u v=X at *;simp[h,i,f,g]
 |2,_=>unfold LT SK;generalize Md u v=X at *;simp[h,i,f,g]
 |3,_=>unfold LT;generalize Md u v=X at *;simp[h,i,f,g]
 |4,_=>unfold LT;generalize Md u v=X at *;simp[h,i,f,g]
end
theorem ĉ(p u v:Int)(k:Nat)(a:xb):nc (LT p u v k) (.int 1) a=.ok (.int p) a:=by
 match k with
 |0=>simp[LT]
 |1=>simp[LT]
 |2=>simp[LT]
 |3=>simp[LT]
 |n+4=>simp[LT]
section
variable{m:Nat}(hm:m=1\/m=2){u v:Int}(P:Pu u v){g:Bool}{s:List (Int × Int)}{kc:D}{ao:Ob}{σ:xb}(h:HS m u v g s kc ao σ)
include hm P h
theorem zzq{p:Int}(i:m<=p/\p<=2)(k:Nat):Qf [.ref 0,LT p u v k] σ=.ex ⟨2⟩ σ:=by
 have e:=FZ (p:=p) (by omega) P σ k;have c:=λσ=>ĉ p u v k σ;have b:=EM hm h p;rw[yd (by omega)]at b;have f:=λa=>Zj h (x:="has_pot") 2 Rc a rfl;have d:Fc [.ref 0,.int p] σ=.ok (.Ca []) σ:=by
  unfold Fc zV;simp[b,f]
 have g:=λa=>Zj h (x:="keeping_hands") 2 Fc a rfl;unfold Qf eP;generalize LT p u v k=X at *;simp[e,c,d,g]
theorem SR{w:Int}(b:0<=w/\w<=3):Uc [.ref 0,.int w] σ=.ok (.int 0) σ:=by
 have c:=ħ hm h b;have e:=Lz h;have d:=λa=>lq h (x:="coin_of") 2 Tc a rfl;unfold Uc pL;simp[c,e,d]
theorem R7{w:Int}(b:¬ (0<=w/\w<=3)):Uc [.ref 0,.int w] σ=.ex ⟨2⟩ σ:=by
 have c:=VZ hm h b;have e:=Lz h;have d:=λa=>lq h (x:="coin_of") 2 Tc a rfl;unfold Uc pL;simp[c,e,d]
theorem g8{w:Int}(b:w≠1):ae [.ref 0,.int w] σ=.ex ⟨2⟩ σ:=by
 have c:=AN hm h b;have d:=λa=>Zj h (x:="keeper") 2 Bb a rfl;unfold ae HN;simp[c,d]
theorem ŧ{w:Int}(b:w≠1)(X:D):Pf [.ref 0,.int w,X] σ=.ex ⟨2⟩ σ:=by
 have c:=AN hm h b;have d:=λa=>Zj h (x:="keeper") 2 Bb a rfl;unfold Pf oP;simp[c,d]
theorem dE{y p w z:Int}(b:Ue [.ref 0,.int y,.int p,.int w,Md u v,.int z] σ=.ex ⟨2⟩ σ):Hb [.ref 0,.int y,.int p,.int w,Md u v,.int z] σ=.ok (.bl true) σ:=by
 have c:∀ g a σ,Wx a ⟨2⟩ [⟨ut [(2,true)],some 7,g⟩] σ=hit ⟨ut [(2,true)],some 7,g⟩ a ⟨2⟩ σ:=λg a σ=>EY rfl;have d:∀ σ,qA (ut [(2,true)]) (.Vr 2) σ=.ok (.bl true) σ:=λσ=>oV rfl;have e:∀ σ,qA (ut [(2,false)]) (.Vr 2) σ=.ok (.bl false) σ:=λσ=>oV rfl;unfold Hb dW;generalize Md u v=X at *;simp[b,c,d,e]
end
@[simp] theorem yd4{e:xb}(d:List D->M D)(x a b c:D):Do 4 d x [a,b,c] e=d [x,a,b,c] e:=bE rfl
section
variable{m:Nat}(hm:m=1\/m=2){u v:Int}(P:Pu u v){g:Bool}{s:List (Int × Int)}{kc:D}{ao:Ob}{σ:xb}(h:HS m u v g s kc ao σ)
include hm P h
theorem mT{p w z:Int}(c:¬ (0<=p/\p<m)\/(w≠0/\w≠1)):Hb [.ref 0,.int 1,.int p,.int w,Md u v,.int z] σ=.ok (.bl true) σ:=by
 refine dE hm P h ?_;have a:=K0 hm h (Md u v) c;have d:=λb=>Zj h (x:="lay") 4 Vd b rfl;unfold Ue iC;generalize Md u v=X at *;simp[a,d]
theorem uU{p w z:Int}(c:¬ (0<=p/\p<m)\/(w≠0/\w≠1)):Hb [.ref 0,.int 2,.int p,.int w,Md u v,.int z] σ=.ok (.bl true) σ:=by
 refine dE hm P h ?_;have a:=WZ hm h c;have d:=λb=>Zj h (x:="strike") 3 Ye b rfl;unfold Ue iC;generalize Md u v=X at *;simp[a,d]
theorem yX{p w z:Int}(c:¬ (0<=p/\p<m)):Hb [.ref 0,.int 3,.int p,.int w,Md u v,.int z] σ=.ok (.bl true) σ:=by
 refine dE hm P h ?_;have a:=bX hm h c;have d:=λb=>Zj h (x:="show") 3 ce b rfl;unfold Ue iC;generalize Md u v=X at *;simp[a,d]
theorem G4{p w z:Int}(e:m<=p/\p<=2){k:Nat}(c:k<=4):Hb [.ref 0,.int (7+k),.int p,.int w,Md u v,.int z] σ=.ok (.bl true) σ:=by
 refine dE hm P h ?_;have a:=zzq hm P h e k;have l:=jY (p:=p) (by omega) P σ c;have b:=λd=>Zj h (x:="band") 2 Qf d rfl;unfold Ue iC;generalize Md u v=X,LT p u v k=Y at *
 match k,c with
 |0,_=>
  have l:ud [.int 0,.int p,X] σ=.ok Y σ:=l;simp[a,l,b]
 |1,_=>
  have l:ud [.int 1,.int p,X] σ=.ok Y σ:=l;simp[a,l,b]
 |2,_=>
  have l:ud [.int 2,.int p,X] σ=.ok Y σ:=l;simp[a,l,b]
 |3,_=>
  have l:ud [.int 3,.int p,X] σ=.ok Y σ:=l;simp[a,l,b]
 |4,_=>
  have l:ud [.int 4,.int p,X] σ=.ok Y σ:=l;simp[a,l,b]
theorem ĭ{y p w z:Int}(f:y=0\/y=4\/y=5\/y=6)(g:¬ (0<=z/\z<=3)):Hb [.ref 0,.int y,.int p,.int w,Md u v,.int z] σ=.ok (.bl true) σ:=by
 refine dE hm P h ?_;have a:=R7 hm P h g;have b:=AN hm h (w:=z) (by omega);have c:=g8 hm P h (w:=z) (by omega);have d:=λX=>ŧ hm P h (w:=z) (by omega) X;have i:=λe=>Zj h (x:="coin") 2 Uc e rfl;have j:=λe=>Zj h (x:="keeper") 2 Bb e rfl;have k:=λe=>Zj h (x:="look") 2 ae e rfl;have l:=λe=>Zj h (x:="wish") 3 Pf e rfl;unfold Ue iC;generalize Md u v=X at *;rcases f with rfl|rfl|rfl|rfl
 ·simp[a,i]
 ·simp[b,j]
 ·simp[c,k]
 ·simp[d,l]
end
def Vx(m:Nat)(u v:Int)(g:Bool):D:=.Ca [.Ca [.int 0,.int 0,.int 0,.int 0],.Ca [],.Ca [],.Ca (two m (tD u v g) on),.Ca [.int 6],.int v,.Ca [Md u v],.int 0,.int 0]
theorem gR(u v:Int)(g:Bool):pl 6 (tD u v g)=true:=by cases g<;>simp[pl,tD,Ss,on,Md]
section
variable{m:Nat}(hm:m=1\/m=2){u v:Int}(P:Pu u v){g:Bool}{σ:xb}(h:HS m u v g [] (.gt ["held"]) (.Ja (aV u v)) σ)
include hm P h
theorem LY:Wf [.ref 0,.int m] σ=.ok (Vx m u v g) σ:=by
 have K:∀ l,cA (.int 4) l=.ok (.seq [.int 0,.int 1,.int 2,.int 3]) l:=λl=>by rw[YL (by omega) (by omega)];rfl
 have L:∀ l,cA (.int m) l=.ok (.seq ((List.range m).map λ(i:Nat)=>.int i)) l:=λl=>by rw[YL (by omega) (by omega)];rfl
 have l1:∀ r,Gh (wj (wl (Tz (eC (.int 4)))) [0] (de 0) Oj (Df [(16,Uc)] 2 "coin" (ia 2) (xa (ia 0) Na))) (some (.ref 0)::r) σ=.ok (.Ca [.int 0,.int 0,.int 0,.int 0]) σ:=λr=>by
  refine iz (s:=.seq [.int 0,.int 1,.int 2,.int 3]) (ds:=[.int 0,.int 1,.int 2,.int 3]) (λ_=>.int 0) (by simp[K]) (λ_ _=>rfl) (by simp) (λd n j=>?_) (λ_ _=>rfl);obtain⟨w,Y,rfl⟩:∃ w:Int,(0<=w/\w<=3)/\d=.int w:=by
   simp only[Da,Nb,lg]at n;rcases n with rfl|rfl|rfl|rfl
   ·exact⟨0,by omega,rfl⟩
   ·exact⟨1,by omega,rfl⟩
   ·exact⟨2,by omega,rfl⟩
   ·exact⟨3,by omega,rfl⟩
  have c:=SR hm P (h.app j) Y;have E:=λk=>Zj (h.app j) (x:="coin") 2 Uc k rfl;simp[c,E]
 have bk:∀ j,Ub [.ref 0] (σ++j)=.ok (.ref 1) (σ++j):=λj=>by
  have pb:=Lz (h.app j);have S:=TJ (h.app j).h1;unfold Ub RJ;simp[pb,S]
 have q:=λj k=>Zj (h.app j) (x:="book") 1 Ub k rfl;have l2:∀ a r,Gh (wj (wl (Tz (ia 1))) [0] (de 0) Oj (Df [(9,Gb)] 2 "told" (Df [(16,Ub)] 1 "book" (ia 2) Na) (xa (ia 0) Na))) (some (.ref 0)::some (.int m)::a::r) σ=.ok (.Ca (two m (tD u v g) on)) σ:=λa r=>by
  have e:((List.range m).map λ(i:Nat)=>D.int i).map (λd=>match d with | .int i=>if i=0 then tD u v g else on|_=>on)=two m (tD u v g) on:=by rcases hm with rfl|rfl<;>rfl
  rw[<-e];refine iz (s:=.seq ((List.range m).map λ(i:Nat)=>.int i)) (ds:=(List.range m).map λ(i:Nat)=>.int i) (λd=>match d with | .int i=>if i=0 then tD u v g else on|_=>on) (by simp[L]) (λ_ _=>rfl) (by simp;omega) (λd n j=>?_) (λd n=>by
   obtain⟨i,_,rfl⟩:=Ed.mp n;dsimp only;split
   ·exact LJ u v g
   ·rfl)
  obtain⟨i,t,rfl⟩:=Ed.mp n;have t:=Rf.mp t;have c:=kN hm (h.app j) t;have E:=λk=>lq (h.app j) (x:="told") 2 Gb k rfl;have e:(if (i:Int)=0 then tD u v g else on)=if i=0 then tD u v g else on:=by
   by_cases e:i=0
   ·simp[e]
   ·rw[ua e,ua (by omega)]
  dsimp only;rw[e];have bk:=bk j;have q:=q j;generalize (if i=0 then tD u v g else on)=T at *;simp[c,E,bk,q]
 have o:=bk [];have p:=q [];rw[Pe]at o p;have rd:Of [.ref 0] σ=.ok (.Ca []) σ:=by
  have lw:=ys9 h;have R:=λl=>Dz (xs:=[]) rfl l;unfold Of sQ;simp[lw,R]
 have mr:=λk=>Zj h (x:="road") 1 Of k rfl;have Q:=GS hm h rfl;have C:=λk=>lq h (x:="all_shown") 1 vc k rfl;have Z:=NL hm h;have G:=λk=>Zj h (x:="keeper") 2 Bb k rfl;have kw:=uS hm h;have H:=λk=>Su h (x:="words") 1 vd k rfl;have wo:=į hm h;have J:=λk=>Su h (x:="worth") 1 Fe k rfl;have O:=F2 hm h;have B:=λk=>Su h (x:="account") 2 Jd k rfl;have my:=KJ u v σ;have lo:=VQ hm h;have I:=λk=>Su h (x:="looked") 1 Wc k rfl;have U:=g5 hm h;have F:=λk=>Su h (x:="given") 1 Ee k rfl;have M:∀ a b c d e f:D,vl (.Ca [a,b,c]) (.Ca [d,e,f]) σ=.ok (.Ca [a,b,c,d,e,f]) σ:=λa b c d e f=>AF (by simp[zi]);have N:∀ a b c d e f x y z:D,vl (.Ca [a,b,c,d,e,f]) (.Ca [x,y,z]) σ=.ok (.Ca [a,b,c,d,e,f,x,y,z]) σ:=λa b c d e f x y z=>AF (by simp[zi]);have V:Ik (two m (tD u v g) on)=true:=gE (LJ u v g) rfl;have W:=qu u v;unfold Wf wT Vx;generalize two m (tD u v g) on=TT,Md u v=X,acc u v=A at *;simp[l1,l2,o,p,rd,mr,Q,C,Z,G,kw,H,wo,J,O,B,my,lo,I,U,F,M,N,V,W,-Uu]
theorem yci:∃ s,Ug [.ref 0,Md u v,.bl g] σ=.ok (.bl true) s:=by
 have y:=SR hm P h (w:=3) (by omega);have e:=λa=>Zj h (x:="coin") 2 Uc a rfl;have E:=NL hm h;have f:=λa=>Zj h (x:="keeper") 2 Bb a rfl;have G:=VQ hm h;have k:=λa=>Su h (x:="looked") 1 Wc a rfl;obtain⟨n,F,B⟩:=á hm h;have j:=λa=>Zj h (x:="look") 2 ae a rfl;obtain⟨c,J,o⟩:=Ο hm B rfl;have l:=λa=>Zj B (x:="show") 3 ce a rfl;have I:xr (.Ca []) (.Ca []) n=.ok (.bl false) n:=ű (by simp[pl]);have H:∀ σ,xr (.int 0) (.int 0) σ=.ok (.bl false) σ:=λσ=>by simp
 have bk:∀ {g:Bool} {σ:xb},HS m u v g [(5,0)] (tD u v g) (.Ja (aV u v)) σ\/HS m u v g [(5,0)] (tD u v false) (.Ja (aV u v)) σ->(∀ a,qm [(16,Ub)] 1 "book" a (.ref 0) σ=(a σ).bind (Do 1 Ub (.ref 0)))/\Ub [.ref 0] σ=.ok (.ref 1) σ/\Gb [.ref 1,.int 0] σ=.ok (tD u v g) σ/\∀ a,qm [(9,Gb)] 2 "told" a (.ref 1) σ=(a σ).bind (Do 2 Gb (.ref 1)):=fun {g σ} M=>by
  have A:∀ {C:D},HS m u v g [(5,0)] C (.Ja (aV u v)) σ->_:=fun {C} h=>(⟨λa=>Zj h (x:="book") 1 Ub a rfl,by
   have O:=Lz h;have K:=TJ h.h1;unfold Ub RJ;simp[O,K],kN hm h (i:=0) (by omega),λa=>lq h (x:="told") 2 Gb a rfl⟩:(∀ a,qm [(16,Ub)] 1 "book" a (.ref 0) σ=(a σ).bind (Do 1 Ub (.ref 0)))/\Ub [.ref 0] σ=.ok (.ref 1) σ/\Gb [.ref 1,.int 0] σ=.ok (tD u v g) σ/\∀ a,qm [(9,Gb)] 2 "told" a (.ref 1) σ=(a σ).bind (Do 2 Gb (.ref 1)))
  rcases M with h|h
  ·exact A h
  ·exact A h
 have z:∀ σ,sh (Ss u v) (.ub [.str "laid",.int 0,Md u v,.int 0]) σ=.ok (.bl true) σ:=λσ=>WL (by simp[pl,Ss,Md]);unfold Ug yQ;cases g with
 |true=>
  obtain⟨p,b,t,r⟩:=bk (.inl o);refine⟨c,?_⟩;have t:Gb [.ref 1,.int 0] c=.ok (Ss u v) c:=t;generalize Ss u v=T,Md u v=X at *;simp[y,e,E,f,G,k,F,j,J,l,H,I,p,b,t,r,z]
 |false=>
  obtain⟨d,N,L⟩:=CT hm P o;have q:=λa=>Zj o (x:="lay") 4 Vd a rfl;obtain⟨p,b,t,r⟩:=bk (.inr L);refine⟨d,?_⟩;have t:Gb [.ref 1,.int 0] d=.ok (Ss u v) d:=t;generalize Ss u v=T,Md u v=X at *;simp[y,e,E,f,G,k,F,j,J,l,H,I,N,q,p,b,t,r,z]
end
theorem BF{a L:xb}(i:Nat):(a++L)[a.length+i]?=L[i]?:=by
 rw[mf (by omega),show a.length+i - a.length=i by omega]
theorem SD{a L:xb}:(a++L)[a.length]?=L[0]?:=BF 0
theorem WE{a L:xb}(i:Nat)(x:Ob):(a++L).set (a.length+i) x=a++L.set i x:=by
 rw[vk _ _ (by omega),show a.length+i - a.length=i by omega]
theorem T7{a L:xb}(x:Ob):(a++L).set a.length x=a++L.set 0 x:=WE 0 x
section
variable{σ0:xb}
theorem nR{b:Ev}{r:xb}{cs:List Nat}{f:qa}{d:D}{a:List (qa × D)}(h:cs.contains 15=true)(c:Nat.ble (a.length+1) 1000=true):Zv b cs f d (.ref σ0.length) (σ0++.jc 15 a::r)=.ok (.nx b) (σ0++.jc 15 (Xk f d a)::r):=by
 have e:iA cs f d (.ref σ0.length) (σ0++.jc 15 a::r)=.ok () (σ0++.jc 15 (Xk f d a)::r):=by
  have:(σ0++Ob.jc 15 a::r)[σ0.length]?=some (.jc 15 a):=SD;unfold iA;simp only[this];rw[ja (by rw[h];simpa using (show a.length<1000 from iv c)),T7];rfl
 unfold Zv;rw[e]
theorem IC{c:List Nat}{f:qa}{b:List (qa × D)}{r:Ev}{a:xb}{k:Nat}(g:c.contains 15=true)(h:Nat.ble (b.length+1) 1000=true)(i:a.length+1=k):Qi c f Xt (ia 0) (some (.ref σ0.length)::r) (σ0++.jc 15 b::a)=.ok (.nx (some (.ref σ0.length)::r)) (σ0++.jc 15 (Xk f (.ref (σ0.length+k)) b)::(a++[.Ja []])):=by
 rw[az,pX,nk,Xy,ar,nk];have e:(σ0++Ob.jc 15 b::a).length=σ0.length+k:=by rw[ye,Cc];omega
 have d:(σ0++Ob.jc 15 b::a)++[.Ja []]=σ0++.jc 15 b::(a++[.Ja []]):=by simp
 rw[e,d];exact nR g h
theorem iI{c:List Nat}{f:qa}{a:List (qa × D)}{e:Ev->M D}{d:D}{b:xb}{r:Ev}(g:c.contains 15=true)(h:Nat.ble (a.length+1) 1000=true)(i:e (some (.ref σ0.length)::r) (σ0++.jc 15 a::b)=.ok d (σ0++.jc 15 a::b)):Qi c f e (ia 0) (some (.ref σ0.length)::r) (σ0++.jc 15 a::b)=.ok (.nx (some (.ref σ0.length)::r)) (σ0++.jc 15 (Xk f d a)::b):=by
 rw[az,i,nk,Xy,ar,nk,nR g h]
end
theorem w9(c:Nat)(i:List D->M D)(a b d e f g:D)(h:xb):Uq c 7 i [a,b,d,e,f,g] h=Oy h.length (i [.ref h.length,a,b,d,e,f,g] (h++[.jc c []])):=wI rfl
theorem Å(p s m:D)(y:List D)(k:Ik y=true)(a:xb):Au [.ref a.length,p,s,m,.Mc,.Ca y,.Ca []] (a++[.jc 11 []])=.ok .Mc (a++[.jc 11 [("pot",p),("side",s),("mine",m),("grant",.Mc),("may",.Ca y),("strikes",.Ca [])]]):=by
 have e:=λ(g:List Nat) (i:g.contains 11=true) (f:qa) (v:D) (b:List (qa × D)) (j:b.length<1000)=>VH (ρ:=[some (.ref a.length),some p,some s,some m,some .Mc,some (.Ca y),some (.Ca [])]) (σ:=a) (cs:=g) (f:=f) (d:=v) (c:=11) (fs:=b) i j;have p0:Xk "pot" p []=([("pot",p)]:List (qa × D)):=rfl;have p1:Xk "side" s [("pot",p)]=([("pot",p),("side",s)]:List (qa × D)):=rfl;have p2:Xk "mine" m [("pot",p),("side",s)]=([("pot",p),("side",s),("mine",m)]:List (qa × D)):=rfl;have p3:Xk "grant" .Mc [("pot",p),("side",s),("mine",m)]=([("pot",p),("side",s),("mine",m),("grant",.Mc)]:List (qa × D)):=rfl;have p4:Xk "may" (.Ca y) [("pot",p),("side",s),("mine",m),("grant",.Mc)]=([("pot",p),("side",s),("mine",m),("grant",.Mc),("may",.Ca y)]:List (qa × D)):=rfl;have l:Xk "strikes" (.Ca []) [("pot",p),("side",s),("mine",m),("grant",.Mc),("may",.Ca y)]=([("pot",p),("side",s),("mine",m),("grant",.Mc),("may",.Ca y),("strikes",.Ca [])]:List (qa × D)):=rfl;have h:=λa=>Dz k a;have fz:=λa=>Dz (xs:=[]) rfl a;unfold Au DP;simp[e,p0,p1,p2,p3,p4,l,h,fz]
theorem rC{a:List D}{n k i:Nat}{j:Ev->M D}{nh:Ev}{c f g:xb}{o:Option D}{d y:D}(m:a[i]?=some d)(h:j (some d::none::nh) c=.ok y f)(l:zt (.ref n) [y] f=.ok .Mc g) :
  Wj (Lk.seq a).nx n (de 0) Oj j (k+1) i (o::none::nh) c=Wj (Lk.seq a).nx n (de 0) Oj j k (i+1) (some d::none::nh) g:=by
 rw[Wj];have e:(Lk.seq a).nx i c=some (some d):=by show some a[i]?=_;rw[m]
 have t:de 0 d (o::none::nh)=some (some d::none::nh):=rfl;have b:Oj (some d::none::nh) c=.ok true c:=rfl;simp only[e,t];rw[cn,jD b,ge,ja rfl,cn,jD h,ge,cn,l,ge]
theorem CG{a:List D}{n k i:Nat}{c:Ev->M D}{f:Ev}{b:xb}(d:a[i]?=none):Wj (Lk.seq a).nx n (de 0) Oj c (k+1) i f b=.ok () b:=by
 rw[Wj];have e:(Lk.seq a).nx i b=some none:=by show some a[i]?=_;rw[d]
 simp only[e]
theorem aT{b:Ev->M Lk}{s:Lk}{ix:List Nat}{fi:Ev->M Bool}{fe:Ev->M D}{c:Ev}{a τ:xb}(e:b c a=.ok s a)(d:Wj s.nx a.length (de 0) fi fe 1001 0 (none::none::(ix.map λi=>(c[i]?).getD none)) (a++[.Ca []])=.ok () τ):wj (wl b) ix (de 0) fi fe c a=.ok (.ref a.length) τ:=by
 show Ld (Ld (b c) vL) (zF (de 0) fi fe (iw ix c)) a=_;rw[cn,cn,e,ge];show Ld (Wj s.nx a.length (de 0) fi fe 1001 0 (none::none::(ix.map λi=>(c[i]?).getD none))) _ (a++[.Ca []])=_;rw[cn,d];rfl
section
variable{u v:Int}(P:Pu u v)(σ:xb)
include P
theorem ε:sf [.int 0,.int 1,.int u,.int v] σ=.ok (acc u v) σ:=by
 have b:=λσ=>IR P σ;have a:=qu u v;have d:uh σ (Uq 11 7 Au [.int 0,.int 1,Md u v,.Mc,.Ca [Md u v],.Ca []] σ)=.ok (acc u v) σ:=by
  rw[w9,Å _ _ _ _ (by simp[a]),iB,mI (by simp[a])];rfl
 have c:=YU u v;unfold sf oR;generalize acc u v=A,Md u v=X at *;simp[b,d,c]
end
theorem đ{m:Nat}(j:m=1\/m=2)(u v:Int)(c:xb):Ag [.int 1,.int 9,PL m u v] c=.ok .Mc c:=by
 have b:=λc=>bt (i:=9) (a:=1) (b:=50) (by omega) c;have o:∀ c,zA (pD u v) none (some 2) c=.ok (.ub (([0,1]:List Int).map D.int)) c:=λc=>by unfold pD;rw[fR];rfl
 have p:∀ c,zA qD none (some 2) c=.ok (.ub (([2,3]:List Int).map D.int)) c:=λc=>by unfold qD;rw[fR];rfl
 have k:∀ c,kA false (.int 1) (.ub (([0,1]:List Int).map D.int)) c=.ok (.bl true) c:=λc=>YT (neg:=false) (ws:=[0,1]) rfl;have l:∀ c,kA false (.int 1) (.ub (([2,3]:List Int).map D.int)) c=.ok (.bl false) c:=λc=>YT (neg:=false) (ws:=[2,3]) rfl;have n:=λc=>p4 u v c;have e:∀ L,iH [some (.int 1),some (.int 9),L,some (pD u v)] c=.ok (.nx [some (.int 1),some (.int 9),L,some (pD u v)]) c:=λL=>by
  generalize ([0,1]:List Int).map D.int=f,pD u v=g at *;simp[o,k,n]
 have h:∀ L,iH [some (.int 1),some (.int 9),L,some qD] c=.ok (.nx [some (.int 1),some (.int 9),L,some qD]) c:=λL=>by
  generalize ([2,3]:List Int).map D.int=f,qD=g at *;simp[p,l]
 have q:∀ c,sw (PL m u v) c=.ok (.seq (two m (pD u v) qD)) c:=λc=>RH _;have d:∃ x,br (de 3) iH (two m (pD u v) qD) [some (.int 1),some (.int 9),some (PL m u v),none] c=.ok (.nx [some (.int 1),some (.int 9),some (PL m u v),x]) c:=by
  rcases j with rfl|rfl
  ·refine⟨some (pD u v),?_⟩;show br _ _ [pD u v] _ _=_;rw[Ny];simp only[Sd,ze];rw[e,ge,gn,jC]
  ·refine⟨some qD,?_⟩;show br _ _ [pD u v,qD] _ _=_;rw[Ny];simp only[Sd,ze];rw[e,ge,gn,Ny];simp only[Sd,ze];rw[h,ge,gn,jC]
 obtain⟨x,d⟩:=d;unfold Ag SO;generalize two m (pD u v) qD=TT,PL m u v=L at *;simp[b,q,d]
noncomputable def xl(b:Nat):List (qa × D):=[("hand",.int 1),("every",.int 9),("last_look",.int 0),("gave",.int 0),("known",.ref (b+1)),("accounts",.ref (b+2)),("claims",.ref (b+3)),("seen",.ref (b+4)),("asked",.ref (b+5)),("finishing",.ref (b+6))]
theorem nF{a:xb}{n c:Nat}{b:List (qa × D)}(h:a[n]?=some (.jc c b)){cs:List Nat}{f:qa}{d:D}(e:cs.contains c=true)(g:b.lookup f=some d):gd cs f (.ref n) a=.ok d a:=jl (xp h) e g
theorem Q7{m:Nat}(H:m=1\/m=2){u v:Int}(P:Pu u v)(c:xb):Uq 15 5 wt [.int 1,.int 9,PL m u v,.Ca [.int 6]] c=.ok (.ref c.length) (c++.jc 15 (xl c.length)::.Ja [(.inl 6,.bl true)]::.Ja (aV u v)::.Ja [(.inl 0,.gt ["held"])]::.Ja [(.inl 0,.Ja [] [])]::.Ja []::.Ja []::[]):=by
 have sp:=đ H u v (c++[.jc 15 []]);have q:=λh=>ε P h;have s:∀ K,se [.ref c.length,acc u v,.gt ["held"],.Ja [] []] (c++.jc 15 (xl c.length)::.Ja K::.Ja []::.Ja []::.Ja []::.Ja []::.Ja []::[])=.ok .Mc (c++.jc 15 (xl c.length)::.Ja K::.Ja (aV u v)::.Ja [(.inl 0,.gt ["held"])]::.Ja [(.inl 0,.Ja [] [])]::.Ja []::.Ja []::[]):=λK=>by
  have r:∀ (A B C E F G:Ob) (f:qa) (p:List Nat) (d:D),p.contains 15=true->(xl c.length).lookup f=some d->gd p f (.ref c.length) (c++.jc 15 (xl c.length)::A::B::C::E::F::G::[])=.ok d (c++.jc 15 (xl c.length)::A::B::C::E::F::G::[]):=λA B C E F G f p d V X=>nF (SD (L:=.jc 15 (xl c.length)::A::B::C::E::F::G::[])) V X;have N:∀ h,gd [10,11,12,13] "pot" (acc u v) h=.ok (.int 0) h:=λh=>jl (wH u v h) rfl rfl;have s2:∀ (e:Ev) (K A C E F G:Ob) (d:D),Qu e d (.ref (c.length+2)) (.int 0) (c++A::K::.Ja []::C::E::F::G::[])=.ok (.nx e) (c++A::K::.Ja [(.inl 0,d)]::C::E::F::G::[]):=λe K A C E F G d=>by
   rw[Cz (kvs:=[]) (BF 2) (by simp),WE 2];rfl
  have s3:∀ (e:Ev) (K A C E F G:Ob) (d:D),Qu e d (.ref (c.length+3)) (.int 0) (c++A::K::C::.Ja []::E::F::G::[])=.ok (.nx e) (c++A::K::C::.Ja [(.inl 0,d)]::E::F::G::[]):=λe K A C E F G d=>by
   rw[Cz (kvs:=[]) (BF 3) (by simp),WE 3];rfl
  have s4:∀ (e:Ev) (K A C E F G:Ob) (d:D),Qu e d (.ref (c.length+4)) (.int 0) (c++A::K::C::E::.Ja []::F::G::[])=.ok (.nx e) (c++A::K::C::E::.Ja [(.inl 0,d)]::F::G::[]):=λe K A C E F G d=>by
   rw[Cz (kvs:=[]) (BF 4) (by simp),WE 4];rfl
  have S:=λA B C E F G=>r A B C E F G "accounts" [15] _ rfl rfl;have T:=λA B C E F G=>r A B C E F G "claims" [9,15] _ rfl rfl;have U:=λA B C E F G=>r A B C E F G "seen" [15] _ rfl rfl;unfold se cR aV;generalize xl c.length=FS,acc u v=A at *;simp[N,S,T,U,s2,s3,s4]
 have le:wc [.ref c.length,.Ca [.int 6]] (c++.jc 15 (xl c.length)::.Ja []::.Ja []::.Ja []::.Ja []::.Ja []::.Ja []::[])=.ok .Mc (c++.jc 15 (xl c.length)::.Ja [(.inl 6,.bl true)]::.Ja []::.Ja []::.Ja []::.Ja []::.Ja []::[]):=by
  have g:gd [14,15] "known" (.ref c.length) (c++.jc 15 (xl c.length)::.Ja []::.Ja []::.Ja []::.Ja []::.Ja []::.Ja []::[])=.ok (.ref (c.length+1)) (c++.jc 15 (xl c.length)::.Ja []::.Ja []::.Ja []::.Ja []::.Ja []::.Ja []::[]):=nF SD rfl rfl;have s1:∀ e,Qu e (.bl true) (.ref (c.length+1)) (.int 6) (c++.jc 15 (xl c.length)::.Ja []::.Ja []::.Ja []::.Ja []::.Ja []::.Ja []::[])=.ok (.nx e) (c++.jc 15 (xl c.length)::.Ja [(.inl 6,.bl true)]::.Ja []::.Ja []::.Ja []::.Ja []::.Ja []::[]):=λe=>by
   rw[Cz (kvs:=[]) (BF 1) (by simp),WE 1];rfl
  unfold wc VM;generalize c++Ob.jc 15 (xl c.length)::.Ja [(.inl 6,.bl true)]::.Ja []::.Ja []::.Ja []::.Ja []::.Ja []::[]=Z at *;generalize c++Ob.jc 15 (xl c.length)::.Ja []::.Ja []::.Ja []::.Ja []::.Ja []::.Ja []::[]=Y at *;simp[g,s1]
 have ml:∀ l,qm [(15,wc)] 2 "learn" l (.ref c.length) (c++.jc 15 (xl c.length)::.Ja []::.Ja []::.Ja []::.Ja []::.Ja []::.Ja []::[])=(l (c++.jc 15 (xl c.length)::.Ja []::.Ja []::.Ja []::.Ja []::.Ja []::.Ja []::[])).bind (Do 2 wc (.ref c.length)):=λl=>Lv (xp SD) rfl rfl;have s:=s [(.inl 6,.bl true)];have mh:∀ l,qm [(15,se)] 4 "hold" l (.ref c.length) (c++.jc 15 (xl c.length)::.Ja [(.inl 6,.bl true)]::.Ja []::.Ja []::.Ja []::.Ja []::.Ja []::[])=(l (c++.jc 15 (xl c.length)::.Ja [(.inl 6,.bl true)]::.Ja []::.Ja []::.Ja []::.Ja []::.Ja []::[])).bind (Do 4 se (.ref c.length)):=λl=>Lv (xp SD) rfl rfl;generalize hW:c++Ob.jc 15 (xl c.length)::.Ja [(.inl 6,.bl true)]::.Ja (aV u v)::.Ja [(.inl 0,.gt ["held"])]::.Ja [(.inl 0,.Ja [] [])]::.Ja []::.Ja []::[]=W at *;generalize hZ:c++Ob.jc 15 (xl c.length)::.Ja [(.inl 6,.bl true)]::.Ja []::.Ja []::.Ja []::.Ja []::.Ja []::[]=Z at *;have y:∀ (i z:Int) (Q:D) (k:Int) (A B C:Option D) (j:xb),nc Q (.int k) j=.ok (.int z) j->z≠1->GE [some (.ref c.length),some (.int 1),A,B,C,some (.int i),some Q,some (.int k)] j=.ok (.nx [some (.ref c.length),some (.int 1),A,B,C,some (.int i),some Q,some (.int k)]) j:=λi z Q k A B C j hi hz=>by
  have b:(z == 1)=false:=by simp[hz]
  simp[hi,b]
 have sy:∀ (A B C:Option D),GE [some (.ref c.length),some (.int 1),A,B,C,some (.int 0),some (pD u v),some (.int 1)] Z=.ok (.nx [some (.ref c.length),some (.int 1),A,B,C,some (.int 0),some (pD u v),some (.int 1)]) W:=λA B C=>by
  have j1:=p1 u v Z;have j2:=p2 u v Z;have j3:=p3 u v Z;have q:=q Z;generalize pD u v=Q,acc u v=AC at *;simp[j1,j2,j3,q,mh,s]
 have J:∀ (i:Int) (Q:D) (A B C x:Option D) (j n:xb),GE [some (.ref c.length),some (.int 1),A,B,C,some (.int i),some Q,some (.int 0)] j=.ok (.nx [some (.ref c.length),some (.int 1),A,B,C,some (.int i),some Q,some (.int 0)]) j->GE [some (.ref c.length),some (.int 1),A,B,C,some (.int i),some Q,some (.int 1)] j=.ok (.nx [some (.ref c.length),some (.int 1),A,B,C,some (.int i),some Q,some (.int 1)]) n->zM [some (.ref c.length),some (.int 1),A,B,C,some (.int i),some Q,x] j=.ok (.nx [some (.ref c.length),some (.int 1),A,B,C,some (.int i),some Q,some (.int 1)]) n:=λi Q A B C x j n a b=>by
  show Tn _ _ _ _ _=_;rw[Nx];simp only[nM,JU,Iz,yM,ge,nA,Hx,lA,yT,QU,nk,Dx];rw[Ny];simp only[Sd,ze];rw[a,ge,gn,Ny];simp only[Sd,ze];rw[b,ge,gn,jC]
 have o:∀ h,Mh h (PL m u v)=some (two m (pD u v) qD):=λh=>rfl;have O:∀ h,Kz (PL m u v) h=.ok (nv (PL m u v)) h:=λh=>zK (o h);have I:=λA B C x=>J 0 (pD u v) A B C x Z W (y 0 0 _ 0 A B C Z (p0 u v Z) (by omega)) (sy A B C);have qq:=λA B C x=>J 1 qD A B C x W W (y 1 2 _ 0 A B C W (q0 W) (by omega)) (y 1 3 _ 1 A B C W (q1 W) (by omega));have w:∃ a b,Tp (nv (PL m u v)) (Hn 2 (gi (de 5) (gi (de 6) Fo))) zM 1001 0 [some (.ref c.length),some (.int 1),some (.int 9),some (PL m u v),some (.Ca [.int 6]),none,none,none] Z=.ok (.nx [some (.ref c.length),some (.int 1),some (.int 9),some (PL m u v),some (.Ca [.int 6]),a,b,some (.int 1)]) W:=by
  rcases H with rfl|rfl
  ·refine⟨some (.int 0),some (pD u v),?_⟩;rw[Yu (k:=1000) (Vy (o _) (i:=0) rfl) (ρ1:=[some (.ref c.length),some (.int 1),some (.int 9),some (PL 1 u v),some (.Ca [.int 6]),some (.int 0),some (pD u v),none]) rfl,I,ge,gn];exact Dw (k:=999) (JC (o _))
  ·refine⟨some (.int 1),some qD,?_⟩;rw[Yu (k:=1000) (Vy (o _) (i:=0) rfl) (ρ1:=[some (.ref c.length),some (.int 1),some (.int 9),some (PL 2 u v),some (.Ca [.int 6]),some (.int 0),some (pD u v),none]) rfl,I,ge,gn,Yu (k:=999) (Vy (o _) (i:=1) rfl) (ρ1:=[some (.ref c.length),some (.int 1),some (.int 9),some (PL 2 u v),some (.Ca [.int 6]),some (.int 1),some qD,some (.int 1)]) rfl,qq,ge,gn];exact Dw (k:=998) (JC (o _))
 obtain⟨a,b,w⟩:=w;have R:∀ (tg:D->Ev->Option Ev) (body:Ev->M Fl) (e:Ev) (nx:NX),cC tg body e nx=Tp nx tg body 1001 0 e:=λ_ _ _ _=>rfl;have t:wt [.ref c.length,.int 1,.int 9,PL m u v,.Ca [.int 6]] (c++[.jc 15 []])=.ok .Mc W:=by
  unfold wt QR;rw[zq,lz];show bq (Mb _ _ [some (.ref c.length),some (.int 1),some (.int 9),some (PL m u v),some (.Ca [.int 6]),none,none,none] (c++[.jc 15 []]))=_;generalize PL m u v=L at *;rw[ai];simp -implicitDefEqProofs only[oN,nJ,Iz,fx,ar,ge,nA,Hx,lA,A8,sp,nk,qM,Zh];rw[ai,iI (d:=.int 1) rfl rfl (by simp),ge,Zh];rw[ai,iI (d:=.int 9) rfl rfl (by simp),ge,Zh];rw[ai,iI (d:=.int 0) rfl rfl (by simp),ge,Zh];rw[ai,iI (d:=.int 0) rfl rfl (by simp),ge,Zh];rw[ai,IC (k:=1) rfl rfl rfl,ge,Zh];rw[ai,IC (k:=2) rfl rfl rfl,ge,Zh];rw[ai,IC (k:=3) rfl rfl rfl,ge,Zh];rw[ai,IC (k:=4) rfl rfl rfl,ge,Zh];rw[ai,IC (k:=5) rfl rfl rfl,ge,Zh];rw[ai,IC (k:=6) rfl rfl rfl,ge,Zh];show bq (Mb _ _ [some (.ref c.length),some (.int 1),some (.int 9),some L,some (.Ca [.int 6]),none,none,none] (c++Ob.jc 15 (xl c.length)::.Ja []::.Ja []::.Ja []::.Ja []::.Ja []::.Ja []::[]))=_;generalize c++Ob.jc 15 (xl c.length)::.Ja []::.Ja []::.Ja []::.Ja []::.Ja []::.Ja []::[]=Y at *;rw[ai];have z1:Nz (eT (nb Kx (ia 4) (eC .Mc))) (Sl Na) (ia 4) [some (.ref c.length),some (.int 1),some (.int 9),some L,some (.Ca [.int 6]),none,none,none] Y=.ok (.Ca [.int 6]) Y:=by simp
  simp -implicitDefEqProofs only[oN,jF,ar,ge,ml,Iz,z1,nA,Hx,lA,BS,le,nk,qM,Zh];rw[BJ];simp -implicitDefEqProofs only[Ţ,fx,ar,ge,O,nk,R];rw[w,LM]
 rw[dG,t,iB]
theorem z8{u v:Int}(P:Pu u v)(f:xb):qe [pD u v] f=.ok (.bl true) f:=by
 have g:=P.u;have h:=P.v;have a:=JT (a:=.int 0) (b:=.int 1) (c:=.int u) (d:=.int v) (e:=.int 20) rfl rfl rfl rfl rfl f;have e:bH (.int 0) (.int 1) (.int u) (.int v) (.int 20)=true:=by
  simp[bH,bd,pB];refine⟨⟨?_,?_⟩,?_,?_⟩<;>omega
 rw[e]at a;exact a
theorem Ω(f:xb):qe [qD] f=.ok (.bl true) f:=JT (a:=.int 2) (b:=.int 3) (c:=.int 4) (d:=.int 5) (e:=.int 6) rfl rfl rfl rfl rfl f
theorem zlq{m:Nat}(e:m=1\/m=2){u v:Int}(P:Pu u v)(c:xb):Gf [PL m u v] c=.ok (PL m u v) c:=by
 have d:∀ c,Mh c (PL m u v)=some (two m (pD u v) qD):=λc=>rfl;have h:∀ {r L:D},(∀ c,qe [r] c=.ok (.bl true) c)->∀ (i:Nat),i<=2->lN [some L,some (.int i),some r] c=.ok (.nx [some L,some (.int i),some r]) c:=fun {r L} e i s=>by
  have b:decide ((i:Int) > 2)=false:=by simp;omega
  simp[e,b]
 have g:=h (L:=PL m u v) (λc=>z8 P c) 0 (by omega);have q:=h (L:=PL m u v) Ω 1 (by omega);have f:∃ a b,Tp (nv (PL m u v)) (Hn 2 (gi (de 1) (gi (de 2) Fo))) lN 1001 0 [some (PL m u v),none,none] c=.ok (.nx [some (PL m u v),a,b]) c:=by
  rcases e with rfl|rfl
  ·refine⟨some (.int (0:Nat)),some (pD u v),?_⟩;rw[Yu (k:=1000) (Vy (d c) (i:=0) rfl) (ρ1:=[some (PL 1 u v),some (.int (0:Nat)),some (pD u v)]) (nr rfl),g,ge,gn];exact Dw (k:=999) (JC (d c))
  ·refine⟨some (.int (1:Nat)),some qD,?_⟩;rw[Yu (k:=1000) (Vy (d c) (i:=0) rfl) (ρ1:=[some (PL 2 u v),some (.int (0:Nat)),some (pD u v)]) (nr rfl),g,ge,gn,Yu (k:=999) (Vy (d c) (i:=1) rfl) (ρ1:=[some (PL 2 u v),some (.int (1:Nat)),some qD]) (nr rfl),q,ge,gn];exact Dw (k:=998) (JC (d c))
 obtain⟨a,b,f⟩:=f;have l:∀ c,Kz (PL m u v) c=.ok (nv (PL m u v)) c:=λc=>zK (d c);have n:∀ (tg:D->Ev->Option Ev) (body:Ev->M Fl) (j:Ev) (nx:NX),cC tg body j nx=Tp nx tg body 1001 0 j:=λ_ _ _ _=>rfl;have o:uh c (Yq [PL m u v] c)=.ok (PL m u v) c:=Dz (gE (uH u v) EG) c;have p:=zN m u v;unfold Gf GV;generalize PL m u v=L at *;simp[l,n,f,o,p,-B9]
def SB(m:Nat)(u v:Int)(h:List (qa × D))(r:xb):xb:=.jc 16 h::.jc 9 (qG m u v)::.Ca (two m (HD (u+v)) (HD 9))::.Ca (two m (.ref 4) (.ref 5))::(List.replicate m (.Ja [])++r)
theorem QI(b:Ev)(c:List Nat)(f:qa)(d:D)(a:List (qa × D))(h:List (qa × D))(r:xb)(e:c.contains 9=true)(g:a.length<1000):Zv b c f d (.ref 1) (.jc 16 h::.jc 9 a::r)=.ok (.nx b) (.jc 16 h::.jc 9 (Xk f d a)::r):=rJ rfl e g b f d
theorem ū{m:Nat}(f:m=1\/m=2){u v:Int}(P:Pu u v):Uq 9 2 Hr [PL m u v] [.jc 16 []]=.ok (.ref 1) (SB m u v [] []):=by
 have n:=λa=>zlq f P a;have l:∀ a,Dd [pD u v] a=.ok (.int (u+v)) a:=λa=>by unfold Dd eI pD;simp
 have t:∀ a,Dd [qD] a=.ok (.int 9) a:=λa=>by unfold Dd eI qD;simp
 have c:∀ (Q:D) (w:Int) (a:xb),(∀ a,Dd [Q] a=.ok (.int w) a)->Gh (au 6 2 yq (xa (Je 1 Dd [] (xa (ia 0) Na)) Na)) [some Q,none] a=.ok (HD w) a:=λQ w a q=>by
  have o:=r6 a w;generalize HD w=O at *;simp[q,o,-fM]
 have s:∀ a,sw (PL m u v) a=.ok (.seq (two m (pD u v) qD)) a:=λa=>RH _;have j:∀ (b:List (qa × D)) (r:xb),b.lookup ("pots" : qa)=some (PL m u v)->qi (Qd (gd [9,14,16] "pots") (ia 0)) [some (.ref 1),some (PL m u v)] (.jc 16 []::.jc 9 b::r)=.ok (.seq (two m (pD u v) qD)) (.jc 16 []::.jc 9 b::r):=λb r p=>by
  have g:gd [9,14,16] "pots" (.ref 1) (.jc 16 []::.jc 9 b::r)=.ok (PL m u v) (.jc 16 []::.jc 9 b::r):=nF (show (Ob.jc 16 []::Ob.jc 9 b::r)[1]?=_ from rfl) rfl p;generalize PL m u v=L at *;simp[g,s]
 have e:=aT (ix:=[]) (fi:=Oj) (fe:=Gh (au 6 2 yq (xa (Je 1 Dd [] (xa (ia 0) Na)) Na))) (τ:=[.jc 16 [],.jc 9 [("pots",PL m u v),("day",.int 0)],.Ca (two m (HD (u+v)) (HD 9))]) (j [("pots",PL m u v),("day",.int 0)] [] rfl) (by
  rcases f with rfl|rfl
  ·exact(rC (k:=1000) (d:=pD u v) rfl (c _ _ _ l) rfl).trans (CG (k:=999) rfl)
  ·exact((rC (k:=1000) (d:=pD u v) rfl (c _ _ _ l) rfl).trans (rC (k:=999) (d:=qD) rfl (c _ _ _ t) rfl)).trans (CG (k:=998) rfl))
 have i:=aT (ix:=[]) (fi:=Oj) (fe:=Xt) (τ:=.jc 16 []::.jc 9 [("pots",PL m u v),("day",.int 0),("claims",.ref 2)]::.Ca (two m (HD (u+v)) (HD 9))::.Ca (two m (.ref 4) (.ref 5))::List.replicate m (.Ja [])) (j [("pots",PL m u v),("day",.int 0),("claims",.ref 2)] [.Ca (two m (HD (u+v)) (HD 9))] rfl) (by
  rcases f with rfl|rfl
  ·exact(rC (k:=1000) (d:=pD u v) rfl rfl rfl).trans (CG (k:=999) rfl)
  ·exact((rC (k:=1000) (d:=pD u v) rfl rfl rfl).trans (rC (k:=999) (d:=qD) rfl rfl rfl)).trans (CG (k:=998) rfl))
 rw[fM];have h:Hr [.ref 1,PL m u v] [.jc 16 [],.jc 9 []]=.ok .Mc (SB m u v [] []):=by
  unfold Hr LS;rw[zq,lz];show bq (Mb _ _ [some (.ref 1),some (PL m u v)] [.jc 16 [],.jc 9 []])=_;rw[ai];simp only[az,nJ,Iz,fx,ar,ge,nA,Hx,lA,Ő,n,nk,Xy];rw[QI _ _ _ _ _ _ _ rfl (by decide),ge,Zh,ai];simp only[az,yM,ar,nk,Xy];rw[QI _ _ _ _ _ _ _ rfl (by exact(show (1:Nat)<1000 by decide)),ge,Zh,ai,az];show bq ((Xm _ _ (wj _ _ _ _ _ [some (.ref 1),some (PL m u v)] [.jc 16 [],.jc 9 [("pots",PL m u v),("day",.int 0)]])).bind _)=_;rw[e,nk,Xy,ar,nk];rw[QI _ _ _ _ _ _ _ rfl (by simp),ge,Zh,az];show bq (Xm _ _ (wj _ _ _ _ _ [some (.ref 1),some (PL m u v)] [.jc 16 [],.jc 9 [("pots",PL m u v),("day",.int 0),("claims",.ref 2)],.Ca (two m (HD (u+v)) (HD 9))]))=_;rw[i,nk,Xy,ar,nk];rw[QI _ _ _ _ _ _ _ rfl (by simp),LM];unfold SB;rw[Pe];rfl
 show Oy 1 (Hr [.ref 1,PL m u v] [.jc 16 [],.jc 9 []])=_;rw[h,iB]
section
variable{m:Nat}{u v:Int}{h:List (qa × D)}{r:xb}
theorem QK:(SB m u v h r).length=4+m+r.length:=by simp[SB];omega
theorem XG(i:Nat):(SB m u v h r)[4+m+i]?=r[i]?:=by
 unfold SB;rw[show 4+m+i=(m+i)+1+1+1+1 by omega];simp only[List.getElem?_cons_succ];rw[mf (by simp)];simp
theorem aM(j:xb):SB m u v h r++j=SB m u v h (r++j):=by unfold SB;simp
theorem nV(i:Nat)(x:Ob):(SB m u v h r).set (4+m+i) x=SB m u v h (r.set i x):=by
 unfold SB;rw[show 4+m+i=(m+i)+1+1+1+1 by omega];simp only[Sd];rw[vk _ _ (by simp)];simp
theorem kR{b:List Nat}{f:qa}{d:D}(c:b.contains 16=true)(e:h.length<1000)(a:Ev):Zv a b f d (.ref 0) (SB m u v h r)=.ok (.nx a) (SB m u v (Xk f d h) r):=rJ rfl c e a f d
theorem lD{a:List Nat}{f:qa}{d:D}(b:a.contains 16=true)(c:h.lookup f=some d):gd a f (.ref 0) (SB m u v h r)=.ok d (SB m u v h r):=nF (show (SB m u v h r)[0]?=_ from rfl) b c
end
@[simp] theorem zxp(f c b:Ev->M D)(a:Ev)(d:xb):UK f c b a d=Xm a (HK a c b) (f a d):=yr ..
@[simp] theorem zx4(c b:Ev->M D)(d:D)(a:Ev)(e:xb):HK a c b d e=Xm a (AJ a b) (c a e):=yr ..
@[simp] theorem zx5(b:Ev->M D)(x:D)(a:Ev)(c:xb):AJ a b x c=Xm a (eF a x) (b a c):=yr ..
theorem vV(a:List D)(b:Ev->M (List D))(c:Ev)(d:xb):OA a b c d=(b c d).bind (OH a):=nr rfl
theorem FR(a b:List D)(c:xb):OH a b c=.ok (b++a) c:=nr rfl
theorem OE{m:Nat}{u v:Int}{h:List (qa × D)}{r r':xb}{e:Ev}{cs:List Nat}{f:qa}{a:Ev->M D}{d:D}(b:cs.contains 16=true)(c:h.length<1000)(g:a (some (.ref 0)::e) (SB m u v h r)=.ok d (SB m u v h r')):Qi cs f a (ia 0) (some (.ref 0)::e) (SB m u v h r)=.ok (.nx (some (.ref 0)::e)) (SB m u v (Xk f d h) r'):=by
 rw[az,g,nk,Xy,ar,nk,kR b c]
noncomputable def OW:D:=.Ja [.inl 5,.inl 6] [.int 0,.int 1]
theorem yv0(a:xb):uh a (TB (.Ca [.int 1]) a)=.ok (.Ca [.int 1]) a:=by
 have e:TB (.Ca [.int 1]) a=.ok (.ref a.length) (a++[.Ca [.int 1]]):=by
  have s:Us (Zq [1])=[1]:=mD (HA [1]) (yI [1]) (by simp);unfold TB;rw[show Mh a (.Ca [.int 1])=some (([1]:List Int).map D.int)from rfl];simp only[kj,oW];rw[ja (by decide),s];rfl
 rw[e];exact Jw (by simp)
theorem UT(f:Ev->M D)(b:Ev)(a:xb)(h:f b a=.ok OW a):Xx f b a=.ok (Wu [(.inl 5,.int 0),(.inl 6,.int 1)]) a:=by
 show Ld (f b) UE a=_;rw[cn,h,ge];rfl
theorem M6(a:xb):Ch [.int 1,OW] a=.ok (.Ca [.int 6]) a:=by
 have l:Gh (wj (Xx (ia 1)) [0] (Hn 2 (gi (de 0) (gi (de 1) Fo))) (eT (nb sh (ia 1) (ia 2))) (ia 0)) [some (.int 1),some OW] a=.ok (.Ca [.int 6]) a:=by
  show uh a (Ld (Xx (ia 1) _) (zF _ _ (ia 0) (iw [0] _)) a)=_;rw[cn,UT (ia 1) _ a (by simp),ge];show uh a (Ld (Wj _ a.length _ (eT (nb sh (ia 1) (ia 2))) (ia 0) 1001 0 [none,none,some (.int 1)]) _ (a++[.Ca []]))=_;rw[cn,IN (α:=Int × Int) (xs:=[(5,0),(6,1)]) (λ_=>True) (λx=>.ub [.int x.1,.int x.2]) (λx=>.int x.1) (λx=>some (.int x.2)) (λx=>x.2 == 1) (λx=>.int x.1) (λi j b=>by rcases i with _|_|_|i<;>first|rfl|(simp at b)) (λx o d _=>⟨rfl,trivial⟩) (λx c j=>⟨by simp,λ_=>by simp⟩) (by simp) 1001 0 none none [] trivial (by simp) (by simp) (by simp),ge];exact Jw (by simp)
 unfold Ch mU;generalize OW=O at *;simp[l,-Uu]
theorem EZ{m:Nat}{u v:Int}{h:List (qa × D)}{r:xb}:Lb [.ref 1] (SB m u v h r)=.ok (PL m u v) (SB m u v h r):=by
 have g:gd [9,14,16] "pots" (.ref 1) (SB m u v h r)=.ok (PL m u v) (SB m u v h r):=nF (show (SB m u v h r)[1]?=_ from rfl) rfl rfl;have b:∀ a,uh a (Yq [PL m u v] a)=.ok (PL m u v) a:=λa=>Dz (gE (uH u v) EG) a;have c:=zN m u v;unfold Lb rN;generalize PL m u v=L,SB m u v h r=Y at *;simp[g,b,c]
def RK(m:Nat)(u v:Int)(T:List (List gc)):xb:=.Ja [(.inl 1,.ref (6+m))]::.yf T::.jc 15 (xl (6+m))::.Ja [(.inl 6,.bl true)]::.Ja (aV u v)::.Ja [(.inl 0,.gt ["held"])]::.Ja [(.inl 0,.Ja [] [])]::.Ja []::.Ja []::[]
theorem ysa{m:Nat}(b:m=1\/m=2)(u v:Int):HS m u v false [] (.gt ["held"]) (.Ja (aV u v)) (SB m u v (ji m u v) (RK m u v [tg 5])):=by
 have e:xl (6+m)=RE m:=by rcases b with rfl|rfl<;>rfl
 have a:∀ (i n:Nat) (o:Ob),n=4+m+i->(RK m u v [tg 5])[i]?=some o->(SB m u v (ji m u v) (RK m u v [tg 5]))[n]?=some o:=λi n o c d=>by rw[c,XG];exact d
 exact⟨rfl,rfl,rfl,rfl,by rcases b with rfl|rfl<;>rfl,λz=>by subst z;rfl,a 0 _ _ rfl rfl,a 1 _ _ (by omega) rfl,a 2 _ _ (by omega) (by rw[<-e];rfl),a 3 _ _ (by omega) rfl,a 4 _ _ (by omega) rfl,a 5 _ _ (by omega) rfl,a 6 _ _ (by omega) rfl,a 8 _ _ (by omega) rfl⟩
theorem xZ{m:Nat}(J:m=1\/m=2){u v:Int}(P:Pu u v):Uq 16 5 vt [PL m u v,.Ca [.int 1],.int 9,OW] []=.ok (.ref 0) (SB m u v (ji m u v) (RK m u v [tg 5])):=by
 have bk:=ū J P;have M:(SB m u v (ji m u v) [.Ja [],.yf []]).length=6+m:=by rw[QK];simp;omega
 have n:=Q7 J P (SB m u v (ji m u v) [.Ja [],.yf []]);rw[M,aM]at n;have S:∀ F G,NP [some (.ref 0),some (PL m u v),some (.Ca [.int 1]),some (.int 9),some OW,some OW,some (.int 1),F,G] (SB m u v (ji m u v) [.Ja [],.yf []])=.ok (.nx [some (.ref 0),some (PL m u v),some (.Ca [.int 1]),some (.int 9),some OW,some OW,some (.int 1),F,G]) (SB m u v (ji m u v) (RK m u v [])):=λF G=>by
  have Z:=M6 (SB m u v (ji m u v) [.Ja [],.yf []]);have pl:gd [9,14,16] "pots" (.ref 0) (SB m u v (ji m u v) [.Ja [],.yf []])=.ok (PL m u v) (SB m u v (ji m u v) [.Ja [],.yf []]):=lD rfl rfl;have j:∀ r,gd [16] "keepers" (.ref 0) (SB m u v (ji m u v) r)=.ok (.ref (4+m)) (SB m u v (ji m u v) r):=λr=>lD rfl rfl;have l:∀ c r,Qu c (.ref (6+m)) (.ref (4+m)) (.int 1) (SB m u v (ji m u v) (.Ja []::r))=.ok (.nx c) (SB m u v (ji m u v) (.Ja [(.inl 1,.ref (6+m))]::r)):=λc r=>by
   rw[Cz (kvs:=[]) (XG 0) (by simp),show 4+m=4+m+0 from rfl,nV];rfl
  have j:=j (.Ja []::.yf []::.jc 15 (xl (6+m))::.Ja [(.inl 6,.bl true)]::.Ja (aV u v)::.Ja [(.inl 0,.gt ["held"])]::.Ja [(.inl 0,.Ja [] [])]::.Ja []::.Ja []::[]);have l:∀ c,Qu c (.ref (6+m)) (.ref (4+m)) (.int 1) (SB m u v (ji m u v) (.Ja []::.yf []::.jc 15 (xl (6+m))::.Ja [(.inl 6,.bl true)]::.Ja (aV u v)::.Ja [(.inl 0,.gt ["held"])]::.Ja [(.inl 0,.Ja [] [])]::.Ja []::.Ja []::[]))=.ok (.nx c) (SB m u v (ji m u v) (RK m u v [])):=λc=>l c _;have n:Uq 15 5 wt [.int 1,.int 9,PL m u v,.Ca [.int 6]] (SB m u v (ji m u v) [.Ja [],.yf []])=.ok (.ref (6+m)) (SB m u v (ji m u v) (.Ja []::.yf []::.jc 15 (xl (6+m))::.Ja [(.inl 6,.bl true)]::.Ja (aV u v)::.Ja [(.inl 0,.gt ["held"])]::.Ja [(.inl 0,.Ja [] [])]::.Ja []::.Ja []::[])):=n;generalize SB m u v (ji m u v) (RK m u v [])=N at *;generalize SB m u v (ji m u v) (Ob.Ja []::.yf []::.jc 15 (xl (6+m))::.Ja [(.inl 6,.bl true)]::.Ja (aV u v)::.Ja [(.inl 0,.gt ["held"])]::.Ja [(.inl 0,.Ja [] [])]::.Ja []::.Ja []::[])=Y1 at *;generalize SB m u v (ji m u v) [.Ja [],.yf []]=Y at *;generalize PL m u v=L,OW=O at *;simp only[zxn,jP,vV,Iz,fx,ar,ge,nA,gG,pl,nJ,Hx,lA,mZ,Z,FR,Pe,n,nk,ζ,j,X2,l]
 have K:∀ (T:List (List gc)) (w o:Int) (f:List (List gc)),((o≠1/\T=[]/\w=5/\f=[tg 5])\/(o=1/\f=T))->∀ x y A B C E,EI [some (.ref 0),x,y,A,B,C,E,some (.int w),some (.int o)] (SB m u v (ji m u v) (RK m u v T))=.ok (.nx [some (.ref 0),x,y,A,B,C,E,some (.int w),some (.int o)]) (SB m u v (ji m u v) (RK m u v f)):=λT w o f U x y A B C E=>by
  have j:gd [16] "keepers" (.ref 0) (SB m u v (ji m u v) (RK m u v T))=.ok (.ref (4+m)) (SB m u v (ji m u v) (RK m u v T)):=lD rfl rfl;have X:gd [16] "things" (.ref 0) (SB m u v (ji m u v) (RK m u v T))=.ok (.ref (5+m)) (SB m u v (ji m u v) (RK m u v T)):=lD rfl rfl;have I:Yi (SB m u v (ji m u v) (RK m u v T)) (.ref (4+m))=some [(.inl 1,.ref (6+m))]:=by
   unfold Yi;dsimp only;rw[show 4+m=4+m+0 from rfl,XG];rfl
  rcases U with⟨p,rfl,rfl,rfl⟩|⟨rfl,rfl⟩
  ·have t:Bq (.int o) (.ref (4+m)) (SB m u v (ji m u v) (RK m u v []))=.ok (.bl true) (SB m u v (ji m u v) (RK m u v [])):=by
    have:¬ (Sum.inl 1:gc)=Sum.inl o:=λz=>p (Qt z).symm;unfold Bq;simp[Gm,I,gw,this]
   have l:∀ c,eF c (.ref (5+m)) (.ub [.str "word",.int 5]) (SB m u v (ji m u v) (RK m u v []))=.ok (.nx c) (SB m u v (ji m u v) (RK m u v [tg 5])):=λc=>by
    have g:(SB m u v (ji m u v) (RK m u v []))[5+m]?=some (.yf []):=by rw[show 5+m=4+m+1 by omega,XG];rfl
    have e:=nV (m:=m) (u:=u) (v:=v) (h:=ji m u v) (r:=RK m u v []) 1 (.yf [tg 5]);rw[show 4+m+1=5+m by omega]at e;have kd:Dv [.str "word",.int 5]=some (tg 5):=rfl;unfold eF;simp only[kd,g];rw[ja (show ([]:List (List gc)).length<zi by decide),show IG [] (tg 5)=[tg 5] by simp[IG],e];rfl
   generalize SB m u v (ji m u v) (RK m u v [tg 5])=N at *;generalize SB m u v (ji m u v) (RK m u v [])=Y at *;simp[j,X,t,l]
  ·have t:Bq (.int 1) (.ref (4+m)) (SB m u v (ji m u v) (RK m u v f))=.ok (.bl false) (SB m u v (ji m u v) (RK m u v f)):=by
    unfold Bq;simp only[Gm,I];rfl
   generalize SB m u v (ji m u v) (RK m u v f)=Y at *;simp[j,t]
 have s:∃ a b,Tp (Wu [(.inl 5,.int 0),(.inl 6,.int 1)]) (Hn 2 (gi (de 7) (gi (de 8) Fo))) EI 1001 0 [some (.ref 0),some (PL m u v),some (.Ca [.int 1]),some (.int 9),some OW,some OW,some (.int 1),none,none] (SB m u v (ji m u v) (RK m u v []))=.ok (.nx [some (.ref 0),some (PL m u v),some (.Ca [.int 1]),some (.int 9),some OW,some OW,some (.int 1),a,b]) (SB m u v (ji m u v) (RK m u v [tg 5])):=by
  refine⟨some (.int 6),some (.int 1),?_⟩;rw[Yu (k:=1000) (d:=.ub [.int 5,.int 0]) rfl (ρ1:=[some (.ref 0),some (PL m u v),some (.Ca [.int 1]),some (.int 9),some OW,some OW,some (.int 1),some (.int 5),some (.int 0)]) rfl,K [] 5 0 [tg 5] (.inl ⟨by omega,rfl,rfl,rfl⟩),ge,gn];rw[Yu (k:=999) (d:=.ub [.int 6,.int 1]) rfl (ρ1:=[some (.ref 0),some (PL m u v),some (.Ca [.int 1]),some (.int 9),some OW,some OW,some (.int 1),some (.int 6),some (.int 1)]) rfl,K [tg 5] 6 1 [tg 5] (.inr ⟨rfl,rfl⟩),ge,gn];exact Dw (k:=998) rfl
 obtain⟨a,b,s⟩:=s;rw[dG];have q:vt [.ref 0,PL m u v,.Ca [.int 1],.int 9,OW] [.jc 16 []]=.ok .Mc (SB m u v (ji m u v) (RK m u v [tg 5])):=by
  unfold vt DT;rw[zq,lz];show bq (Mb _ _ [some (.ref 0),some (PL m u v),some (.Ca [.int 1]),some (.int 9),some OW,none,none,none,none] [.jc 16 []])=_;have Q:∀ r,au 9 2 Hr (xa (ia 1) Na) (some (.ref 0)::some (PL m u v)::r) [.jc 16 []]=.ok (.ref 1) (SB m u v [] []):=λr=>by
   generalize PL m u v=L at *;simp only[jP,Iz,fx,ar,ge,nA,Hx,lA];exact bk
  rw[ai,az,Q,nk,Xy,ar,nk,kR rfl (by decide),ge,Zh];show bq (Mb _ _ [some (.ref 0),some (PL m u v),some (.Ca [.int 1]),some (.int 9),some OW,none,none,none,none] (SB m u v [("public",.ref 1)] []))=_;rw[ai,OE (d:=PL m u v) (r':=[]) rfl (by exact(show (1:Nat)<1000 by decide)) (by
   have R:gd [16] "public" (.ref 0) (SB m u v [("public",.ref 1)] [])=.ok (.ref 1) (SB m u v [("public",.ref 1)] []):=lD rfl rfl;have V:Lb [.ref 1] (SB m u v [("public",.ref 1)] [])=.ok (PL m u v) (SB m u v [("public",.ref 1)] []):=EZ;have W:∀ g,qm [(9,Lb)] 1 "made_of" g (.ref 1) (SB m u v [("public",.ref 1)] [])=(g (SB m u v [("public",.ref 1)] [])).bind (Do 1 Lb (.ref 1)):=λg=>Lv (show Qp (SB m u v [("public",.ref 1)] []) (.ref 1)=some (9,qG m u v)from rfl) rfl rfl;simp only[jF,gG,ar,ge,R,W,Hx,zE,V]),ge,Zh]
  rw[ai,OE (d:=.int 9) (r':=[]) rfl (by exact(show (2:Nat)<1000 by decide)) (by simp only[fx,ar]),ge,Zh];rw[ai,OE (d:=.ref (4+m)) (r':=[.Ja []]) rfl (by exact(show (3:Nat)<1000 by decide)) (by
   show Nm.ok (D.ref (SB m u v _ []).length) (SB m u v _ []++[Ob.Ja []])=_;rw[QK,aM];rfl),ge,Zh]
  rw[ai,OE (d:=.Ca []) (r':=[.Ja []]) rfl (by exact(show (4:Nat)<1000 by decide)) (by simp),ge,Zh];rw[ai,OE (d:=.ref (5+m)) (r':=[.Ja [],.yf []]) rfl (by exact(show (5:Nat)<1000 by decide)) (by
   show Nm.ok (D.ref (SB m u v _ [.Ja []]).length) (SB m u v _ [.Ja []]++[Ob.yf []])=_;rw[QK,aM,show 4+m+[Ob.Ja []].length=5+m by simp;omega];rfl),ge,Zh]
  show bq (Mb _ _ [some (.ref 0),some (PL m u v),some (.Ca [.int 1]),some (.int 9),some OW,none,none,none,none] (SB m u v (ji m u v) [.Ja [],.yf []]))=_;have p:∀ Y,Nz (eT (nb Kx (ia 4) (eC .Mc))) (eC (.Ja [] [])) (ia 4) [some (.ref 0),some (PL m u v),some (.Ca [.int 1]),some (.int 9),some OW,none,none,none,none] Y=.ok OW Y:=λY=>by
   have i:∀ H,Kx OW .Mc H=.ok (.bl false) H:=λH=>nr rfl;generalize PL m u v=L,OW=O at *;simp[i]
  rw[ai,B6,p,nk,Æ,ge,Zh];show bq (Mb _ _ [some (.ref 0),some (PL m u v),some (.Ca [.int 1]),some (.int 9),some OW,some OW,none,none,none] (SB m u v (ji m u v) [.Ja [],.yf []]))=_;rw[ai,Nx,nM,Uu,gG];simp only[fx,ar,ge,yv0,RH,nk,Dx];rw[Ny];simp only[Sd,ze];rw[S,ge,gn,jC,ge,Zh,BJ,UT (ia 5) _ _ (by simp only[fx,ar]),nk];show bq (Tp _ _ EI 1001 0 _ _)=_;rw[s,LM]
 show Oy 0 (vt [.ref 0,PL m u v,.Ca [.int 1],.int 9,OW] [.jc 16 []])=_;rw[q,iB]
theorem eA{k:Nat}{body:Ev->M Fl}{σ:xb}(I:Ev->Prop):∀ (c:List D),(∀ d∈c,∀ b,I b->∃ a,body (b.set k (some d)) σ=.ok (.nx a) σ/\I a)->∀ b,I b->∃ a,br (de k) body c b σ=.ok (.nx a) σ/\I a
 |[],_,b,h=>⟨b,jC _ _,h⟩
 |d::c,g,b,h=>by
  obtain⟨e,i,l⟩:=g d (Ua ..) b h;obtain⟨f,j,m⟩:=eA I c (λx n=>g x (Ka _ n)) e l;exact⟨f,by rw[Ny,i,ge,gn,j],m⟩
theorem MM{f g:Ev->M D}{ρ:Ev}{σ:xb}{i j:Int}(a:f ρ σ=.ok (.int i) σ)(b:g ρ σ=.ok (.int j) σ)(d:0<=i/\i<=100)(e:0<=j/\j<=100):AE f g ρ σ=.ok (.seq ((List.range (j - i).toNat).map λ(n:Nat)=>.int (i+n))) σ:=by
 have c:fF (.int i) (.int j) σ=.ok (.seq ((List.range (j - i).toNat).map λ(n:Nat)=>.int (i+n))) σ:=by
  unfold fF;dsimp only;rw[ja (by simp only[Mx,zq,Ea,Kc];omega)];rfl
 show Ld (f ρ) (gT (g ρ)) σ=_;rw[cn,a,ge];show Ld (g ρ) (fF (.int i)) σ=_;rw[cn,b,ge,c]
section
variable{m:Nat}(hm:m=1\/m=2){u v:Int}(P:Pu u v){g:Bool}{s:List (Int × Int)}{kc:D}{ao:Ob}{σ:xb}(h:HS m u v g s kc ao σ){a b c d:Option D}{f:Int}(hf:8<=f)
abbrev lE(m:Nat)(u v:Int)(a b c d:Option D)(g:Bool)(f:Int)(x y z w:Option D):Ev:=[a,b,some (.int m),c,some (.ref 0),some (Md u v),some (.bl g),d,some (.int f),x,y,z,w]
def IE(m:Nat)(u v:Int)(a b c d:Option D)(g:Bool)(f:Int)(e:Ev):Prop:=∃ x y z w,e=lE m u v a b c d g f x y z w
include hm P h hf
theorem v10{o:Ev}(l:IE m u v a b c d g f o):∃ q,cF o σ=.ok (.nx q) σ/\IE m u v a b c d g f q:=by
 obtain⟨x,y,z,w,rfl⟩:=l;have E:qi (Sl (xa (Qd Uz (eC (.int 1))) (xa (ia 2) (xa (eC (.int 7)) (xa (ia 8) Na))))) (lE m u v a b c d g f x y z w) σ=.ok (.seq [.int (-1),.int m,.int 7,.int f]) σ:=by simp
 unfold cF;rw[Nx,E,nk,Dx];refine eA (IE m u v a b c d g f) _ (λe r o l=>?_) _ ⟨_,_,_,_,rfl⟩;obtain⟨x,y,z,w,rfl⟩:=l;obtain⟨p,rfl,s⟩:∃ p:Int,e=.int p/\¬ (0<=p/\p<m):=by
  simp only[Da,Nb,lg]at r;rcases r with rfl|rfl|rfl|rfl<;>exact⟨_,rfl,by omega⟩
 have C:=MM (f:=eC (.int 1)) (g:=eC (.int 4)) (ρ:=lE m u v a b c d g f (some (.int p)) y z w) (σ:=σ) (i:=1) (j:=4) (by simp) (by simp) (by omega) (by omega);show ∃ q,WJ (lE m u v a b c d g f (some (.int p)) y z w) σ=_/\_;unfold WJ;rw[Nx,C,nk,Dx];obtain⟨F,A,B⟩:=eA (k:=10) (body:=jO) (σ:=σ) (λo=>∃ y z w,o=lE m u v a b c d g f (some (.int p)) y z w) ((List.range ((4:Int) - 1).toNat).map λ(n:Nat)=>.int (1+n)) (λe r o l=>by
  obtain⟨y,z,w,rfl⟩:=l;obtain⟨n,t,rfl⟩:=Ed.mp r;have t:=Rf.mp t;have D:Hb [.ref 0,.int (1+n),.int p,.int 0,Md u v,.int 0] σ=.ok (.bl true) σ:=by
   obtain rfl|rfl|rfl:n=0\/n=1\/n=2:=by omega
   ·exact mT hm P h (.inl s)
   ·exact uU hm P h (.inl s)
   ·exact yX hm P h s
  refine⟨lE m u v a b c d g f (some (.int p)) (some (.int (1+n))) z w,?_,_,_,_,rfl⟩;simp[D]) _ ⟨y,z,w,rfl⟩
 obtain⟨H,I,G,rfl⟩:=B;exact⟨_,A,_,_,_,_,rfl⟩
theorem v11{k:Ev}(i:IE m u v a b c d g f k):∃ j,cE k σ=.ok (.nx j) σ/\IE m u v a b c d g f j:=by
 obtain⟨x,y,z,w,rfl⟩:=i;have r:qi (Sl (xa (eC (.int 2)) (xa (Qd Uz (eC (.int 1))) (xa (ia 8) Na)))) (lE m u v a b c d g f x y z w) σ=.ok (.seq [.int 2,.int (-1),.int f]) σ:=by simp
 unfold cE;rw[Nx,r,nk,Dx];refine eA (IE m u v a b c d g f) _ (λe l k i=>?_) _ ⟨_,_,_,_,rfl⟩;obtain⟨x,y,z,w,rfl⟩:=i;obtain⟨p,rfl,n⟩:∃ p:Int,e=.int p/\(p≠0/\p≠1):=by
  simp only[Da,Nb,lg]at l;rcases l with rfl|rfl|rfl<;>exact⟨_,rfl,by omega⟩
 have o:=mT hm P h (p:=0) (z:=0) (.inr n);have q:=uU hm P h (p:=m - 1) (z:=0) (.inr n);refine⟨lE m u v a b c d g f x y (some (.int p)) w,?_,_,_,_,_,rfl⟩;simp[o,q]
theorem r8{o:Ev}(l:IE m u v a b c d g f o):∃ q,pE o σ=.ok (.nx q) σ/\IE m u v a b c d g f q:=by
 obtain⟨x,y,z,w,rfl⟩:=l;have C:=MM (f:=eC (.int 7)) (g:=eC (.int 12)) (ρ:=lE m u v a b c d g f x y z w) (σ:=σ) (i:=7) (j:=12) (by simp) (by simp) (by omega) (by omega);unfold pE;rw[Nx,C,nk,Dx];refine eA (IE m u v a b c d g f) _ (λe r o l=>?_) _ ⟨_,_,_,_,rfl⟩;obtain⟨x,y,z,w,rfl⟩:=l;obtain⟨k,s,rfl⟩:=Ed.mp r;have s:=Rf.mp s;have D:=MM (f:=ia 2) (g:=eC (.int 3)) (ρ:=lE m u v a b c d g f x (some (.int (7+k))) z w) (σ:=σ) (i:=m) (j:=3) (by simp) (by simp) (by omega) (by omega);show ∃ q,Tn _ _ _ (lE m u v a b c d g f x (some (.int (7+k))) z w) σ=_/\_;rw[Nx,D,nk,Dx];obtain⟨F,A,B⟩:=eA (k:=9) (body:=(gh (Nl (eT (Je 6 Hb [] (xa (ia 4) (xa (ia 10) (xa (ia 9) (xa (eC (.int 0)) (xa (ia 5) (xa (eC (.int 0)) Na))))))))) (oe (eC (.bl false))) fh)) (σ:=σ) (λo=>∃ x z w,o=lE m u v a b c d g f x (some (.int (7+k))) z w) ((List.range ((3:Int) - m).toNat).map λ(n:Nat)=>.int (m+n)) (λe r o l=>by
  obtain⟨x,z,w,rfl⟩:=l;obtain⟨n,t,rfl⟩:=Ed.mp r;have t:=Rf.mp t;have E:=G4 hm P h (p:=m+n) (w:=0) (z:=0) (by omega) (k:=k) (by omega);refine⟨lE m u v a b c d g f (some (.int (m+n))) (some (.int (7+k))) z w,?_,_,_,_,rfl⟩;simp[E]) _ ⟨x,z,w,rfl⟩
 obtain⟨H,I,G,rfl⟩:=B;exact⟨_,A,_,_,_,_,rfl⟩
theorem X8{l:Ev}(i:IE m u v a b c d g f l):∃ j,sF l σ=.ok (.nx j) σ/\IE m u v a b c d g f j:=by
 obtain⟨x,y,z,w,rfl⟩:=i;have C:qi (Sl (xa (Qd Uz (eC (.int 1))) (xa (eC (.int 4)) (xa (ia 8) Na)))) (lE m u v a b c d g f x y z w) σ=.ok (.seq [.int (-1),.int 4,.int f]) σ:=by simp
 unfold sF;rw[Nx,C,nk,Dx];refine eA (IE m u v a b c d g f) _ (λe o l i=>?_) _ ⟨_,_,_,_,rfl⟩;obtain⟨x,y,z,w,rfl⟩:=i;obtain⟨p,rfl,t⟩:∃ p:Int,e=.int p/\¬ (0<=p/\p<=3):=by
  simp only[Da,Nb,lg]at o;rcases o with rfl|rfl|rfl<;>exact⟨_,rfl,by omega⟩
 have A:qi (Sl (xa (eC (.int 0)) (xa (eC (.int 4)) (xa (eC (.int 5)) (xa (eC (.int 6)) Na))))) (lE m u v a b c d g f x y z (some (.int p))) σ=.ok (.seq [.int 0,.int 4,.int 5,.int 6]) σ:=by simp
 show ∃ j,eL (lE m u v a b c d g f x y z (some (.int p))) σ=_/\_;unfold eL;rw[Nx,A,nk,Dx];obtain⟨D,q,r⟩:=eA (k:=10) (body:=lW) (σ:=σ) (λl=>∃ x y z,l=lE m u v a b c d g f x y z (some (.int p))) [.int 0,.int 4,.int 5,.int 6] (λe o l i=>by
  obtain⟨x,y,z,rfl⟩:=i;obtain⟨n,rfl,s⟩:∃ n:Int,e=.int n/\(n=0\/n=4\/n=5\/n=6):=by
   simp only[Da,Nb,lg]at o;rcases o with rfl|rfl|rfl|rfl<;>exact⟨_,rfl,by omega⟩
  have B:=ĭ hm P h (p:=0) (w:=0) s t;refine⟨lE m u v a b c d g f x (some (.int n)) z (some (.int p)),?_,_,_,_,rfl⟩;simp[B]) _ ⟨x,y,z,rfl⟩
 obtain⟨F,G,E,rfl⟩:=r;exact⟨_,q,_,_,_,_,rfl⟩
end
noncomputable def Yx(a:List Int)(k:Nat):Int:=a.getD k 0
theorem cH(a:List Int)(k:Int)(c:0<=k)(b:xb):yc [.Uh a,.int k] b=.ok (.int (Yx a k.toNat)) b:=by
 unfold yc SS Yx;by_cases h:k<a.length
 ·simp[h,Į c h]
 ·have e:a.length<=k.toNat:=by omega
  simp[h,wk e]
theorem kX(b:Ev)(a:xb):Gh (iF [.inl 5,.inl 6] (xa (eC (.int 0)) (xa (eC (.int 1)) Na))) b a=.ok OW a:=by
 have h:(xa (eC (.int 0)) (xa (eC (.int 1)) Na)) b (a++[.Ja []])=.ok [.int 0,.int 1] (a++[.Ja []]):=by simp
 have d:iF [.inl 5,.inl 6] (xa (eC (.int 0)) (xa (eC (.int 1)) Na)) b a=.ok (.ref a.length) (a++[.Ja [(.inl 5,.int 0),(.inl 6,.int 1)]]):=by
  show Ld (xa (eC (.int 0)) (xa (eC (.int 1)) Na) b) (XH a.length [.inl 5,.inl 6]) (a++[.Ja []])=_;rw[cn,h,ge];unfold XH;have:(a++[Ob.Ja []])[a.length]?=some (.Ja []):=by simp
  simp only[this];rw[ja (by decide),eG];rfl
 rw[Uu,d];unfold uh;dsimp only;rw[ja (by simp)];have f:fz a.length (a++[.Ja [(.inl 5,.int 0),(.inl 6,.int 1)]]) 6 (.ref a.length)=some OW:=by
  unfold fz;rw[ua (by simp[cl])];dsimp only;rw[ua (by omega)];have:(a++[Ob.Ja [((.inl 5:gc),D.int 0),(.inl 6,.int 1)]])[a.length]?=some (.Ja [(.inl 5,.int 0),(.inl 6,.int 1)]):=by simp
  rw[this];dsimp only;have c:bp (fz a.length (a++[.Ja [(.inl 5,.int 0),(.inl 6,.int 1)]]) 5) [D.int 0,.int 1]=some [.int 0,.int 1]:=by
   unfold bp fz;rfl
  show (bp (fz a.length (a++[.Ja [(.inl 5,.int 0),(.inl 6,.int 1)]]) 5) [D.int 0,.int 1]).map _=_;rw[c];rfl
 rw[f]
theorem xad(a:xb):Ox (.int 10) (.int 20) a=.ok (.int 100000000000000000000) a:=xD (by simp[Bz])
theorem Ow(i:List Int)(a0:i.length<=63):∃ j,Vq [.Uh i] []=.ok (.bl true) j:=by
 have M:∀ j,yc [.Uh i,.int 0] j=.ok (.int (Yx i 0)) j:=cH i 0 (by omega);have N:∀ j,yc [.Uh i,.int 1] j=.ok (.int (Yx i 1)) j:=cH i 1 (by omega);have Q:∀ j,yc [.Uh i,.int 2] j=.ok (.int (Yx i 2)) j:=cH i 2 (by omega);have R:∀ j,yc [.Uh i,.int 3] j=.ok (.int (Yx i 3)) j:=cH i 3 (by omega);generalize Yx i 0=C at *;generalize Yx i 1=G at *;generalize Yx i 2=H at *;generalize Yx i 3=I at *;obtain⟨m,l,W⟩:∃ m:Nat,(m=1\/m=2)/\1+C % 2=(m:Int):=⟨(1+C % 2).toNat,by omega,by omega⟩
 obtain⟨u,X⟩:∃ u,1+G % 1000000000000=u:=⟨_,rfl⟩
 obtain⟨v,Y⟩:∃ v,H % 1000000000000=v:=⟨_,rfl⟩
 obtain⟨f,T⟩:∃ f,8+I % 100000000000000000000=f:=⟨_,rfl⟩
 have P:Pu u v:=⟨by omega,by omega⟩
 have o:8<=f:=by omega
 obtain⟨g,U⟩:∃ g,(C / 2 % 2 == 1)=g:=⟨_,rfl⟩
 have s1:u1 [some (.Uh i),none,none,none,none,none,none,none,none,none,none,none,none] []=.ok (.nx [some (.Uh i),some (.int C),none,none,none,none,none,none,none,none,none,none,none]) []:=by simp[M]
 have s2:u2 [some (.Uh i),some (.int C),none,none,none,none,none,none,none,none,none,none,none] []=.ok (.nx [some (.Uh i),some (.int C),some (.int m),none,none,none,none,none,none,none,none,none,none]) []:=by simp[W]
 have s3:u3 [some (.Uh i),some (.int C),some (.int m),none,none,none,none,none,none,none,none,none,none] []=.ok (.nx [some (.Uh i),some (.int C),some (.int m),some (.ub [.int u,.int v]),none,none,none,none,none,none,none,none,none]) []:=by simp[N,Q,X,Y]
 have mk:=xZ l P;have q:=ysa l u v;generalize SB m u v (ji m u v) (RK m u v [tg 5])=k at *;have s4:u4 [some (.Uh i),some (.int C),some (.int m),some (.ub [.int u,.int v]),none,none,none,none,none,none,none,none,none] []=.ok (.nx [some (.Uh i),some (.int C),some (.int m),some (.ub [.int u,.int v]),some (.ref 0),none,none,none,none,none,none,none,none]) k:=by
  have J:∀ a b c d:D,vl (.ub [a,b]) (.ub [c,d]) []=.ok (.ub [a,b,c,d]) []:=λa b c d=>EU (by simp[zi]);have K:∀ a b c d e:D,vl (.ub [a,b,c,d]) (.ub [e]) []=.ok (.ub [a,b,c,d,e]) []:=λa b c d e=>EU (by simp[zi]);have sl:zA (.Ca [pD u v,qD]) none (some m) []=.ok (PL m u v) []:=by rcases l with rfl|rfl<;>rfl
  have ow:=kX [some (.Uh i),some (.int C),some (.int m),some (.ub [.int u,.int v]),none,none,none,none,none,none,none,none,none] [];have V:D.Ca [.ub [.int 0,.int 1,.int u,.int v,.int 20],.ub [.int 2,.int 3,.int 4,.int 5,.int 6]]=.Ca [pD u v,qD]:=rfl;have pk:∀ j,UH (.int m) j=.ok (some (m:Int)) j:=λj=>rfl;unfold u4;generalize Gh (iF [.inl 5,.inl 6] (xa (eC (.int 0)) (xa (eC (.int 1)) Na)))=fo at *;generalize PL m u v=L,OW=O,D.Ca [pD u v,qD]=LL at *;simp[J,K,V,pk,sl,ow,mk,vV,FR]
 have s5:u5 [some (.Uh i),some (.int C),some (.int m),some (.ub [.int u,.int v]),some (.ref 0),none,none,none,none,none,none,none,none] k=.ok (.nx [some (.Uh i),some (.int C),some (.int m),some (.ub [.int u,.int v]),some (.ref 0),some (Md u v),none,none,none,none,none,none,none]) k:=by
  unfold Md;simp
 have s6:u6 [some (.Uh i),some (.int C),some (.int m),some (.ub [.int u,.int v]),some (.ref 0),some (Md u v),none,none,none,none,none,none,none] k=.ok (.nx [some (.Uh i),some (.int C),some (.int m),some (.ub [.int u,.int v]),some (.ref 0),some (Md u v),some (.bl g),none,none,none,none,none,none]) k:=by simp[U]
 obtain⟨j,s7,h⟩:∃ j,u7 [some (.Uh i),some (.int C),some (.int m),some (.ub [.int u,.int v]),some (.ref 0),some (Md u v),some (.bl g),none,none,none,none,none,none] k=.ok (.nx [some (.Uh i),some (.int C),some (.int m),some (.ub [.int u,.int v]),some (.ref 0),some (Md u v),some (.bl g),none,none,none,none,none,none]) j/\HS m u v g [] (.gt ["held"]) (.Ja (aV u v)) j:=by
  cases g with
  |false=>exact⟨k,by simp,q⟩
  |true=>
   obtain⟨j,e,h⟩:=CT l P q;have ma:=λZ=>Zj q (x:="lay") 4 Vd Z rfl;exact⟨j,by simp[ma,e],h⟩
 have F:=LY l P h;have s8:u8 [some (.Uh i),some (.int C),some (.int m),some (.ub [.int u,.int v]),some (.ref 0),some (Md u v),some (.bl g),none,none,none,none,none,none] j=.ok (.nx [some (.Uh i),some (.int C),some (.int m),some (.ub [.int u,.int v]),some (.ref 0),some (Md u v),some (.bl g),some (Vx m u v g),none,none,none,none,none]) j:=by simp[F]
 have s9:u9 [some (.Uh i),some (.int C),some (.int m),some (.ub [.int u,.int v]),some (.ref 0),some (Md u v),some (.bl g),some (Vx m u v g),none,none,none,none,none] j=.ok (.nx (lE m u v (some (.Uh i)) (some (.int C)) (some (.ub [.int u,.int v])) (some (Vx m u v g)) g f none none none none)) j:=by simp[R,xad,T]
 obtain⟨ρ1,r,i1⟩:=v10 l P h o (a:=some (.Uh i)) (b:=some (.int C)) (c:=some (.ub [.int u,.int v])) (d:=some (Vx m u v g)) ⟨none,none,none,none,rfl⟩;obtain⟨ρ2,s,i2⟩:=v11 l P h o i1;obtain⟨a3,t,i3⟩:=r8 l P h o i2;obtain⟨E,A,i4⟩:=X8 l P h o i3;obtain⟨n,hr⟩:=yci l P h;have B:AH E j=.ok (.rt (.bl true)) n:=by
  obtain⟨x,y,z,w,rfl⟩:=i4;have e:sh (Vx m u v g) (Vx m u v g) j=.ok (.bl true) j:=WL (by
   have:=gR u v g;have:=gR u v false;unfold Vx two;split<;>cases g<;>simp[pl,tD,Ss,on,Md])
  generalize Vx m u v g=S at *;simp[F,e,hr]
 have p:(Mb u1 (Mb u2 (Mb u3 (Mb u4 (Mb u5 (Mb u6 (Mb u7 (Mb u8 (Mb u9 (Mb cF (Mb cE (Mb pE (Mb sF AH))))))))))))) [some (.Uh i),none,none,none,none,none,none,none,none,none,none,none,none] []=.ok (.rt (.bl true)) n:=by
  rw[ai,s1,ge,Zh,ai,s2,ge,Zh,ai,s3,ge,Zh,ai,s4,ge,Zh,ai,s5,ge,Zh,ai,s6,ge,Zh,ai,s7,ge,Zh,ai,s8,ge,Zh,ai,s9,ge,Zh,ai,r,ge,Zh,ai,s,ge,Zh,ai,t,ge,Zh,ai,A,ge,Zh,B]
 refine⟨n,?_⟩;unfold Vq ZR;generalize (Mb u1 (Mb u2 (Mb u3 (Mb u4 (Mb u5 (Mb u6 (Mb u7 (Mb u8 (Mb u9 (Mb cF (Mb cE (Mb pE (Mb sF AH)))))))))))))=AR at *;simp[p]
end K58
end
open PySem PySem.W PyProof.Rows
set_option maxRecDepth 100000 in
set_option maxHeartbeats 0 in
theorem PySem.Challenge.cw_sidebook_k58_what_is_not_there_holds : PySem.Challenge.rw_sidebook_k58_what_is_not_there.Holds := by
 w_on;refine hd ?_
 k_fill
 refine L4.Ĳ (l:=PySem.Challenge.rw_sidebook_k58_what_is_not_there) (k:=12) (x:="_law_script") (fn:=K58.Vq) ["paper"] rfl rfl ⟨rfl,by decide,by decide⟩ (λw h Y=>km2_in Y) ?hK ?hrec ?F K58.Ow;case hK=>intro w;kernel_rfl
 case hrec=>kernel_rfl
 case F=>
  intro w mg h KX G TT
  refine' (have q0:nsIn (L2.Zf KX) mainGlobals "BookError" = some (some (.ref ?C0)):=?p0;have q2:nsIn (L2.Zf KX) mainGlobals "NoStand" = some (some (.ref ?C1)):=?p2;have q4:nsIn (L2.Zf KX) mainGlobals "NoDeed" = some (some (.ref ?C2)):=?p4;have q10:nsIn (L2.Zf KX) mainGlobals "Claim" = some (some (.ref ?C5)):=?p10;have q11:nsIn (L2.Zf KX) mainGlobals "Held" = some (some (.ref ?C6)):=?p11;have q12:nsIn (L2.Zf KX) mainGlobals "Laid" = some (some (.ref ?C7)):=?fP;have q13:nsIn (L2.Zf KX) mainGlobals "Taken" = some (some (.ref ?C8)):=?p13;have q14:nsIn (L2.Zf KX) mainGlobals "Book" = some (some (.ref ?C9)):=?p14;have q15:nsIn (L2.Zf KX) mainGlobals "Account" = some (some (.ref ?C10)):=?p15;have q16:nsIn (L2.Zf KX) mainGlobals "Calm" = some (some (.ref ?C11)):=?p16;?_);(case p0|p2|p4|p10|p11|fP|p13|p14|p15|p16=>dsimp only[L2.Zf];first|k_is|k_exc|rfl)
  refine' (have q17:nsIn (L2.Zf KX) mainGlobals "Offered" = some (some (.ref ?C12)):=?p17;have q18:nsIn (L2.Zf KX) mainGlobals "Waiting" = some (some (.ref ?C13)):=?p18;have q19:nsIn (L2.Zf KX) mainGlobals "View" = some (some (.ref ?C14)):=?p19;have q20:nsIn (L2.Zf KX) mainGlobals "Keeper" = some (some (.ref ?C15)):=?p20;have q21:nsIn (L2.Zf KX) mainGlobals "Hall" = some (some (.ref ?C16)):=?p21;have q22:findIn (L2.Zf KX) (.ref ?C5) "__init__" = some (some (.ref ?C17)):=?p22;have q24:findIn (L2.Zf KX) (.ref ?C9) "__init__" = some (some (.ref ?C30)):=?p24;have q26:findIn (L2.Zf KX) (.ref ?C9) "made_of" = some (some (.ref ?C44)):=?p26;have q28:findIn (L2.Zf KX) (.ref ?C15) "learn" = some (some (.ref ?C57)):=?p28;have q30:findIn (L2.Zf KX) (.ref ?C15) "hold" = some (some (.ref ?C56)):=?p30;?_);(case p17|p18|p19|p20|p21|p22|p24|p26|p28|p30=>dsimp only[L2.Zf];first|k_is|k_exc|rfl)
  refine' (have q32:findIn (L2.Zf KX) (.ref ?C10) "__init__" = some (some (.ref ?C45)):=?p32;have q34:findIn (L2.Zf KX) (.ref ?C15) "__init__" = some (some (.ref ?C55)):=?p34;have q36:findIn (L2.Zf KX) (.ref ?C16) "__init__" = some (some (.ref ?C79)):=?p36;have q38:findIn (L2.Zf KX) (.ref ?C16) "has_pot" = some (some (.ref ?C84)):=?p38;have q40:findIn (L2.Zf KX) (.ref ?C16) "is_side_of_band" = some (some (.ref ?C85)):=?AV;have q42:findIn (L2.Zf KX) (.ref ?C16) "check_side_of_band" = some (some (.ref ?C86)):=?p42;have q44:findIn (L2.Zf KX) (.ref ?C9) "check_pot" = some (some (.ref ?C31)):=?p44;have q46:findIn (L2.Zf KX) (.ref ?C9) "may_lie" = some (some (.ref ?C35)):=?p46;have q48:findIn (L2.Zf KX) (.ref ?C7) "__init__" = some (some (.ref ?C21)):=?p48;have q50:findIn (L2.Zf KX) (.ref ?C9) "lay" = some (some (.ref ?C36)):=?p50;?_);(case p32|p34|p36|p38|AV|p42|p44|p46|p48|p50=>dsimp only[L2.Zf];first|k_is|k_exc|rfl)
  refine' (have q52:findIn (L2.Zf KX) (.ref ?C9) "all_shown" = some (some (.ref ?C43)):=?p52;have q54:findIn (L2.Zf KX) (.ref ?C16) "band_can" = some (some (.ref ?C87)):=?p54;have q56:findIn (L2.Zf KX) (.ref ?C16) "lay" = some (some (.ref ?C98)):=?p56;have q58:findIn (L2.Zf KX) (.ref ?C16) "book" = some (some (.ref ?C80)):=?p58;have q60:findIn (L2.Zf KX) (.ref ?C16) "road" = some (some (.ref ?C82)):=?p60;have q62:findIn (L2.Zf KX) (.ref ?C6) "comes" = some (some (.ref ?C19)):=?p62;have q64:findIn (L2.Zf KX) (.ref ?C7) "waits" = some (some (.ref ?C23)):=?p64;have q66:findIn (L2.Zf KX) (.ref ?C7) "comes" = some (some (.ref ?C24)):=?p66;have q68:findIn (L2.Zf KX) (.ref ?C8) "comes" = some (some (.ref ?C28)):=?p68;have q70:findIn (L2.Zf KX) (.ref ?C9) "due_of" = some (some (.ref ?C40)):=?p70;?_);(case p52|p54|p56|p58|p60|p62|p64|p66|p68|p70=>dsimp only[L2.Zf];first|k_is|k_exc|rfl)
  refine' (have q72:findIn (L2.Zf KX) (.ref ?C9) "coin_of" = some (some (.ref ?C41)):=?p72;have q74:findIn (L2.Zf KX) (.ref ?C16) "coin" = some (some (.ref ?C83)):=?p74;have q76:findIn (L2.Zf KX) (.ref ?C16) "keeper" = some (some (.ref ?C81)):=?p76;have q78:findIn (L2.Zf KX) (.ref ?C14) "__init__" = some (some (.ref ?C54)):=?p78;have q80:findIn (L2.Zf KX) (.ref ?C15) "words" = some (some (.ref ?C58)):=?p80;have q82:findIn (L2.Zf KX) (.ref ?C15) "view_by" = some (some (.ref ?C62)):=?p82;have q84:findIn (L2.Zf KX) (.ref ?C15) "view" = some (some (.ref ?C63)):=?p84;have q86:findIn (L2.Zf KX) (.ref ?C15) "worth" = some (some (.ref ?C64)):=?p86;have q88:findIn (L2.Zf KX) (.ref ?C6) "told" = some (some (.ref ?C18)):=?p88;have q90:findIn (L2.Zf KX) (.ref ?C7) "told" = some (some (.ref ?C22)):=?p90;?_);(case p72|p74|p76|p78|p80|p82|p84|p86|p88|p90=>dsimp only[L2.Zf];first|k_is|k_exc|rfl)
  refine' (have q92:findIn (L2.Zf KX) (.ref ?C8) "told" = some (some (.ref ?C27)):=?p92;have q94:findIn (L2.Zf KX) (.ref ?C9) "told" = some (some (.ref ?C38)):=?p94;have q96:findIn (L2.Zf KX) (.ref ?C15) "given" = some (some (.ref ?C60)):=?p96;have q98:findIn (L2.Zf KX) (.ref ?C15) "looked" = some (some (.ref ?C59)):=?p98;have q100:findIn (L2.Zf KX) (.ref ?C15) "account" = some (some (.ref ?C61)):=?p100;have q102:findIn (L2.Zf KX) (.ref ?C16) "strike" = some (some (.ref ?C99)):=?p102;have q104:findIn (L2.Zf KX) (.ref ?C9) "show" = some (some (.ref ?C34)):=?p104;have q106:findIn (L2.Zf KX) (.ref ?C16) "show" = some (some (.ref ?C97)):=?p106;have q108:findIn (L2.Zf KX) (.ref ?C9) "today" = some (some (.ref ?C32)):=?p108;have q110:findIn (L2.Zf KX) (.ref ?C9) "shown_for" = some (some (.ref ?C39)):=?p110;?_);(case p92|p94|p96|p98|p100|p102|p104|p106|p108|p110=>dsimp only[L2.Zf];first|k_is|k_exc|rfl)
  refine' (have q112:findIn (L2.Zf KX) (.ref ?C15) "strike_all" = some (some (.ref ?C75)):=?p112;have q114:findIn (L2.Zf KX) (.ref ?C15) "show_all" = some (some (.ref ?C77)):=?p114;have q116:findIn (L2.Zf KX) (.ref ?C15) "lay_all" = some (some (.ref ?C78)):=?p116;have q118:findIn (L2.Zf KX) (.ref ?C15) "look" = some (some (.ref ?C74)):=?p118;have q120:findIn (L2.Zf KX) (.ref ?C16) "look" = some (some (.ref ?C100)):=?p120;have q122:findIn (L2.Zf KX) (.ref ?C15) "wish" = some (some (.ref ?C68)):=?p122;have q124:findIn (L2.Zf KX) (.ref ?C16) "wish" = some (some (.ref ?C91)):=?p124;have q126:findIn (L2.Zf KX) (.ref ?C16) "keeping_hands" = some (some (.ref ?C95)):=?p126;have q128:findIn (L2.Zf KX) (.ref ?C16) "band" = some (some (.ref ?C96)):=?p128;?_);(case p112|p114|p116|p118|p120|p122|p124|p126|p128=>dsimp only[L2.Zf];first|k_is|k_exc|rfl);refine⟨λn=>([?C0,?C1,?C2,0,0,?C5,?C6,?C7,?C8,?C9,?C10,?C11,?C12,?C13,?C14,?C15,?C16,?C17,?C18,?C19,0,?C21,?C22,?C23,?C24,0,0,?C27,?C28,0,?C30,?C31,?C32,0,?C34,?C35,?C36,0,?C38,?C39,?C40,?C41,0,?C43,?C44,?C45,0,0,0,0,0,0,0,0,?C54,?C55,?C56,?C57,?C58,?C59,?C60,?C61,?C62,?C63,?C64,0,0,0,?C68,0,0,0,0,0,?C74,?C75,0,?C77,?C78,?C79,?C80,?C81,?C82,?C83,?C84,?C85,?C86,?C87,0,0,0,?C91,0,0,0,?C95,?C96,?C97,?C98,?C99,?C100]:List Addr).getD n 0,(K58.tx (L2.Zf KX)).Wt,K58.KY _,K58.U8 ?_⟩;constructor;all_goals (try dsimp only[L2.Zf,List.getD_cons_succ,List.getD_cons_zero]);all_goals (first
   |(refine' L4.pR KX G (λ_ _ _ _ _ _ us hl=>?z) ?a ?l ?c ?k;(case z=>first|exact(match us,hl with|[_],_=>rfl)|exact(match us,hl with|[_,_],_=>rfl)|exact(match us,hl with|[_,_,_],_=>rfl)|exact(match us,hl with|[_,_,_,_],_=>rfl)|exact(match us,hl with|[_,_,_,_,_],_=>rfl)|exact(match us,hl with|[_,_,_,_,_,_],_=>rfl)|exact(match us,hl with|[_,_,_,_,_,_,_],_=>rfl));(case a|l|c|k=>k_is))
   |(refine' L4.q8 (λ_ _ _ _ _ _ us hl=>?z) ?l ?c ?k;(case z=>first|exact(match us,hl with|[_],_=>rfl)|exact(match us,hl with|[_,_],_=>rfl)|exact(match us,hl with|[_,_,_],_=>rfl)|exact(match us,hl with|[_,_,_,_],_=>rfl)|exact(match us,hl with|[_,_,_,_,_],_=>rfl)|exact(match us,hl with|[_,_,_,_,_,_],_=>rfl)|exact(match us,hl with|[_,_,_,_,_,_,_],_=>rfl));(case l|c|k=>k_is))
   |(refine' L4.QY KX G K58.Î ?a ?l ?c ?k ?d;(case a|l|c|k|d=>k_is))
   |(refine' L4.CK K58.B8 ?l ?c ?d;(case l|c|d=>k_is))
   |(refine' L4.CK K58.S6 ?l ?c ?d;(case l|c|d=>k_is))
   |(refine' L4.CK K58.Q4 ?l ?c ?d;(case l|c|d=>k_is))
   |(refine' L4.XZ KX G ?a ?b;(case a=>k_is);(case b=>kernel_rfl))
   |(refine' L4.l7 KX G ?a;(case a=>k_is))
   |(refine' mg_of KX G ?a;(case a=>k_is))
   |(refine' mg_none_of KX G ?a;(case a=>k_is))
   |(refine' L4.Qw.mk ?a ?b ?c ?d ?e ?f ?g ?h;(case a|b|c|d|e|f|g|h=>k_is))
   |(refine' ⟨⟨?a,?b,?c,?d⟩,?e,?f,?g,?h⟩;(case a|b|c|d|e|f|g|h=>k_is))
   |(refine' ⟨?a,?b,?c,?d⟩;(case a|b|c|d=>k_is))
   |(refine' ⟨?a,?b,?c⟩;(case a|b|c=>k_is))
   |(refine' ⟨?a,?b⟩;(case a|b=>k_is))
   |exact λt h t' h' _=>(qc.mp h').trans (qc.mp h).symm
   |(refine' L4.e7 KX G (L4.pR KX G (λ_ _ _ _ _ _ us hl=>?z) ?a ?l ?c ?k) TT ?d;(case z=>first|exact(match us,hl with|[_],_=>rfl)|exact(match us,hl with|[_,_],_=>rfl)|exact(match us,hl with|[_,_,_],_=>rfl)|exact(match us,hl with|[_,_,_,_],_=>rfl)|exact(match us,hl with|[_,_,_,_,_],_=>rfl)|exact(match us,hl with|[_,_,_,_,_,_],_=>rfl)|exact(match us,hl with|[_,_,_,_,_,_,_],_=>rfl));(case a|l|c|k=>k_is);(case d=>decide))
   |(refine' (mg_of KX G ?a).trans (mg_of KX G ?b).symm;(case a|b=>k_is))
   |exact TT
   |exact mg_of KX G TT.bm
   |(refine' L4.tinj2 ?a;(case a=>kernel_rfl))
   |decide
   |k_is
   |k_exc
   |rfl)
